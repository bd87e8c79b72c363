import PyProof.Rows.All
import Wide.All
import OpenK.AllK
import Wide.FinOn
import Lean
import PyProof.EqAt
import PyProof.EqKinds
import PyProof.TupleCall
import PyProof.TupleKey
import PyProof.DictRoadsH
import PyProof.FactsAll.bool_1
import PyProof.AttrMissHeap
import KE.KDictOf
import PyProof.ListMulRoad
import PyProof.FactsAll.tuple_2
import KE.KSortTup
import PyProof.TupleOfSeq
import PyProof.ListRange
import PyProof.DictTable
import PyProof.Rows.TupTab
import PyProof.FactsAll.range_1
import PySem.Challenge.RW_soundrules_k45_orderings_that_tell_a_boo
noncomputable section
set_option Elab.async false
set_option linter.all false
set_option maxRecDepth 100000
set_option maxHeartbeats 4000000
abbrev j9(x:PySem.Str):Prop:=(x == ("__debug__" : PySem.Str))=false
abbrev rF(x:PySem.Str):Prop:=(x == ("__classdict__" : PySem.Str))=false
namespace L2
open PySem PySem.Spec PyProof.Rows
inductive NK where
 | num (i:Int)
 | txt (x:Str)
 | tup (xs:List NK)
noncomputable instance:DecidableEq NK:=λ_ _=>Classical.propDecidable _
mutual
def Hy(h:Heap):NK->Value->Prop
 | .num i,v=>(∃t,v = .int i t)\/∃b:Bool,v = .bool b/\i=if b then 1 else 0
 | .txt x,v=>∃t,v = .str x t
 | .tup ks,v=>∃a o items n,v = .ref a/\h.get? a=some o/\o.cls = .type "tuple"/\o.data = .seq items n/\ql h ks items.toList
def ql(h:Heap):List NK->List Value->Prop
 | [],vs=>vs=[]
 | k::ks,vs=>∃v r,vs=v::r/\Hy h k v/\ql h ks r
end
mutual
def NK.dep:NK->Nat
 | .num _=>0
 | .txt _=>0
 | .tup ks=>1+NK.zA ks
def NK.zA:List NK->Nat
 | []=>0
 | k::ks=>max (NK.dep k) (NK.zA ks)
end
mutual
def NK.draws:NK->Nat
 | .num _=>1
 | .txt _=>1
 | .tup ks=>NK.pM ks+1
def NK.pM:List NK->Nat
 | []=>0
 | k::ks=>NK.draws k+NK.pM ks
end
section
variable(P:Program)(w:World)
mutual
def NK.hash:NK->Int
 | .num i=>hashInt i
 | .txt x=>(strKind P w).hash x
 | .tup ks=>reduceHash (Builtin.Tuple.tupleHashOf (NK.hashes ks))
def NK.hashes:List NK->List Int
 | []=>[]
 | k::ks=>NK.hash k::NK.hashes ks
end
end
theorem ql.length{h:Heap}:∀{ks:List NK} {vs:List Value},ql h ks vs->vs.length=ks.length
 | [],_,e=>by cases e;rfl
 | k::ks,_,e=>by obtain⟨v,r,rfl,_,q⟩:=e;rw[List.length_cons,List.length_cons,q.length]
theorem ql.get{h:Heap}:∀{ks:List NK} {vs:List Value} {j:Nat} {v:Value},ql h ks vs->vs[j]? = some v->∃k,ks[j]? = some k/\Hy h k v
 | [],_,_,_,e,g=>by cases e;simp at g
 | k::ks,_,j,v,e,g=>by
  obtain⟨u,r,rfl,h1,h2⟩:=e;cases j with
  | zero=>simp at g;subst g;exact⟨k,rfl,h1⟩
  | succ j=>obtain⟨k',e1,e2⟩:=ql.get h2 (j:=j) (by simpa using g);exact⟨k',by simpa using e1,e2⟩
theorem NK.zz:∀{ks:List NK} {j:Nat} {k:NK},ks[j]? = some k->k.dep<=NK.zA ks
 | [],_,_,e=>by simp at e
 | c::ks,j,k,e=>by
  unfold NK.zA;cases j with
  | zero=>simp at e;subst e;exact Nat.le_max_left _ _
  | succ j=>exact Nat.le_trans (NK.zz (j:=j) (by simpa using e)) (Nat.le_max_right _ _)
mutual
theorem Hy.inj{h:Heap}:∀{x y:NK} {v:Value},Hy h x v->Hy h y v->x=y
 | .num i,.num j,v,a,b=>by
  rcases a with ⟨t,rfl⟩|⟨c,rfl,rfl⟩
  ·rcases b with ⟨t',e⟩|⟨c,e,_⟩
   ·cases e;rfl
   ·cases e
  ·rcases b with ⟨t',e⟩|⟨c,e,rfl⟩
   ·cases e
   ·cases e;rfl
 | .num i,.txt x,v,a,b=>by obtain⟨t,rfl⟩:=b;rcases a with ⟨t',e⟩|⟨c,e,_⟩<;>cases e
 | .num i,.tup ks,v,a,b=>by obtain⟨_,_,_,_,rfl,_⟩:=b;rcases a with ⟨t',e⟩|⟨c,e,_⟩<;>cases e
 | .txt x,.num i,v,a,b=>by obtain⟨t,rfl⟩:=a;rcases b with ⟨t',e⟩|⟨c,e,_⟩<;>cases e
 | .txt x,.txt y,v,a,b=>by obtain⟨t,rfl⟩:=a;obtain⟨t',e⟩:=b;cases e;rfl
 | .txt x,.tup ks,v,a,b=>by obtain⟨t,rfl⟩:=a;obtain⟨_,_,_,_,e,_⟩:=b;cases e
 | .tup ks,.num i,v,a,b=>by obtain⟨_,_,_,_,rfl,_⟩:=a;rcases b with ⟨t',e⟩|⟨c,e,_⟩<;>cases e
 | .tup ks,.txt y,v,a,b=>by obtain⟨_,_,_,_,rfl,_⟩:=a;obtain⟨t',e⟩:=b;cases e
 | .tup ks,.tup ls,v,a,b=>by
  obtain⟨p,o,items,n,rfl,h1,_,h3,h4⟩:=a;obtain⟨p',o',items',n',e,h1',_,h3',h4'⟩:=b;cases e;rw[h1] at h1';cases h1';rw[h3] at h3';cases h3';rw[ql.inj h4 h4']
theorem ql.inj{h:Heap}:∀{x y:List NK} {v:List Value},ql h x v->ql h y v->x=y
 | [],[],_,_,_=>rfl
 | [],k::ks,_,a,b=>by cases a;obtain⟨_,_,e,_⟩:=b;cases e
 | k::ks,[],_,a,b=>by cases b;obtain⟨_,_,e,_⟩:=a;cases e
 | k::ks,l::ls,_,a,b=>by
  obtain⟨v,r,rfl,h1,h2⟩:=a;obtain⟨v',r',e,h1',h2'⟩:=b;cases e;rw[Hy.inj h1 h1',ql.inj h2 h2']
end
mutual
theorem Hy.keeps{h h':Heap}{d:Addr}{o:Obj}{es ep}(ho:h.get? d=some o)(hd:o.data = .dict es ep)(hs:Heap.SameBut d h h'):∀{k:NK} {v:Value},Hy h k v->Hy h' k v
 | .num _,_,e=>e
 | .txt _,_,e=>e
 | .tup ks,_,e=>by
  obtain⟨a,o',items,n,rfl,h1,h2,h3,h4⟩:=e;have hne:a≠d:=by rintro rfl;rw[h1] at ho;cases ho;rw[h3] at hd;cases hd
  exact⟨a,o',items,n,rfl,(hs.2 a hne).trans h1,h2,h3,ql.keeps ho hd hs h4⟩
theorem ql.keeps{h h':Heap}{d:Addr}{o:Obj}{es ep}(ho:h.get? d=some o)(hd:o.data = .dict es ep)(hs:Heap.SameBut d h h'):∀{ks:List NK} {vs:List Value},ql h ks vs->ql h' ks vs
 | [],_,e=>e
 | k::ks,_,e=>by obtain⟨v,r,rfl,h1,h2⟩:=e;exact⟨v,r,rfl,Hy.keeps ho hd hs h1,ql.keeps ho hd hs h2⟩
end
section
variable{P:Program}{w:World}
theorem Oe{A:Around}{E:Value->Shared->Prop}{s:Shared}{b:Bool}{Q:Int->Shared->Prop}(h:Q (hashInt (if b then 1 else 0)) { s with toks:=s.toks+1 }):wpAny (model P w) A (pyHash (.bool b)) Q E s:=by
 have hT:s.TypeIs (.bool b) "bool":=rfl;have hr:=rawHash_range (if b then 1 else 0);unfold pyHash;have hv:[Value.bool b].any Value.onHeap=false:=rfl;refine wpAny_bind ?_;rw[cRoomFor,if_neg (by rw[hv];exact Bool.false_ne_true)];refine wpAny_pure ?_;refine wpAny_bind (wpAny_specialOf hT F.slot_bool_hash.lookup ?_);show wpAny _ _ (if (some (Value.builtin "int.__hash__") == some Value.none)=true then _ else _) Q E s;rw[if_neg (by rw[beq_builtin_none];exact Bool.false_ne_true)];refine wpAny_bind (wpAny_specialOf hT F.slot_bool_hash.lookup ?_);show wpAny _ _ (callSpecialIfBoundUnlessNone? (.bool b) "__hash__" _ >>= _) Q E s;refine wpAny_bind (wpAny_callSpecialIfBoundUnlessNone?_slot hT F.slot_bool_hash
  (wpAny_call_entry F.slot_bool_hash hT entry_int_hash
   (show wpAny _ _ (do ret (<-mkInt (rawHash (if b then 1 else 0)))) _ _ s from wpAny_ret_mkInt ?_) (args_int_hash _)))
 show wpAny _ _ (if (decide (-(2:Int)^63<=rawHash (if b then 1 else 0))&&decide (rawHash (if b then 1 else 0)<2^63))=true then _ else _) Q E _;rw[if_pos (by rw[decide_eq_true hr.1,decide_eq_true hr.2];rfl)];exact wpAny_pure h
mutual
theorem Rn:∀(k:NK) (v:Value) (A:Around) (E:Value->Shared->Prop) (s:Shared) (Q:Int->Shared->Prop),A.units+k.dep<cLine->Hy s.heap k v->Q (k.hash P w) { s with toks:=s.toks+k.draws }->wpAny (model P w) A (pyHash v) Q E s
 | .num i,v,A,E,s,Q,hu,e,h=>by
  rcases e with ⟨t,rfl⟩|⟨b,rfl,rfl⟩
  ·exact wpAny_pyHash_int h
  ·exact Oe h
 | .txt x,v,A,E,s,Q,hu,e,h=>by
  obtain⟨t,rfl⟩:=e;exact wpAny_pyHash_str h
 | .tup ks,v,A,E,s,Q,hu,e,h=>by
  obtain⟨a,o,items,n,rfl,ho,hc,hd,hi⟩:=e;have hT:s.TypeIs (.ref a) "tuple":=⟨o,ho,hc⟩;have abQ:(NK.tup ks).dep=1+NK.zA ks:=by rw[NK.dep]
  rw[abQ] at hu;have hu0:A.units<cLine:=by omega
  have hin:A.in1.units+NK.zA ks<cLine:=by show A.units+1+NK.zA ks<cLine;omega
  unfold pyHash
  first|unfold pyHashByItsType|skip
  first|refine wpAny_bind (wpAny_cRoomFor_or (.inr hu0) ?_)|skip
  refine wpAny_bind (wpAny_specialOf hT F.slot_tuple_hash.lookup ?_);show wpAny _ _ (if (some (Value.builtin "tuple.__hash__") == some Value.none)=true then _ else _) Q E s;rw[if_neg (by rw[beq_builtin_none];exact Bool.false_ne_true)];refine wpAny_bind (wpAny_specialOf hT F.slot_tuple_hash.lookup ?_);show wpAny _ _ (callSpecialIfBoundUnlessNone? (.ref a) "__hash__" _ >>= _) Q E s;refine wpAny_bind (wpAny_callSpecialIfBoundUnlessNone?_slot hT F.slot_tuple_hash (wpAny_call_entry F.slot_tuple_hash hT F.entry_tuple_hash ?_ (F.args_tuple_hash_1 _)));show wpAny _ _ (Builtin.Tuple.tupleItemsOf (.ref a) >>= _) _ _ s;refine wpAny_bind (wpAny_tupleItemsOf ho hd ?_);refine wpAny_bind ?_;rw[<-Array.forIn_toList];refine Gr ks items.toList A.in1 _ s _ _ #[] hin hi (λx b s' R q=>?_) ?_
  ·first
    | exact wpAny_bind (wpAny_mono q (λz s2 hz=>wpAny_pure hz) λ_ _ z=>z)
    | exact wpAny_bind (wpAny_mono q (λz s2 hz=>wpAny_bind (wpAny_pure (wpAny_pure hz))) λ_ _ z=>z)
  ·show wpAny _ _ (retInt (Builtin.Tuple.tupleHashOf ((#[]:Array Int).toList++NK.hashes P w ks))) _ _ _;have hh:(NK.tup ks).hash P w=reduceHash (Builtin.Tuple.tupleHashOf (NK.hashes P w ks)):=by rw[NK.hash]
   have hdr:(NK.tup ks).draws=NK.pM ks+1:=by rw[NK.draws]
   rw[hh,hdr] at h;rw[show(#[]:Array Int).toList++NK.hashes P w ks=NK.hashes P w ks from rfl];refine wpAny_ret_mkInt ?_;show wpAny _ _ (if (decide (-(2:Int)^63<=Builtin.Tuple.tupleHashOf (NK.hashes P w ks))&&decide (Builtin.Tuple.tupleHashOf (NK.hashes P w ks)<2^63))=true then _ else _) Q E _;unfold reduceHash at h;by_cases hr:(decide (-(2:Int)^63<=Builtin.Tuple.tupleHashOf (NK.hashes P w ks))&&decide (Builtin.Tuple.tupleHashOf (NK.hashes P w ks)<2^63))=true
   ·rw[if_pos hr];rw[if_pos hr] at h;exact wpAny_pure (by simpa[Nat.add_assoc] using h)
   ·rw[if_neg hr];rw[if_neg hr] at h;exact wpAny_bind (wpAny_rule (wpAny_pure (by simpa[Nat.add_assoc] using h)))
theorem Gr:∀(ks:List NK) (vs:List Value) (A:Around) (E:Value->Shared->Prop) (s:Shared) (body:Value->Array Int->Sem (ForInStep (Array Int))) (Q:Array Int->Shared->Prop) (acc:Array Int),A.units+NK.zA ks<cLine->ql s.heap ks vs->
  (∀x b s' (R:ForInStep (Array Int)->Shared->Prop),wpAny (model P w) A (pyHash x) (λz s2=>R (.yield (b.push z)) s2) E s'->wpAny (model P w) A (body x b) R E s')->
  Q (acc.toList++NK.hashes P w ks).toArray { s with toks:=s.toks+NK.pM ks }->wpAny (model P w) A (forIn vs acc body) Q E s
 | [],vs,A,E,s,body,Q,acc,hu,e,hb,q=>by
  cases e;rw[List.forIn_nil];refine wpAny_pure ?_;have:(acc.toList++NK.hashes P w []).toArray=acc:=by rw[NK.hashes];simp
  rw[this] at q;have e0:NK.pM []=0:=by rw[NK.pM]
  rw[e0] at q;exact q
 | k::ks,vs,A,E,s,body,Q,acc,hu,e,hb,q=>by
  obtain⟨v,r,rfl,h1,h2⟩:=e;have abQ:NK.zA (k::ks)=max k.dep (NK.zA ks):=by rw[NK.zA]
  rw[abQ] at hu;rw[List.forIn_cons];refine wpAny_bind (hb v acc s _ (Rn k v A E s _ (by omega) h1 ?_));refine Gr ks r A E { s with toks:=s.toks+k.draws } body Q (acc.push (k.hash P w)) (by omega) h2 hb ?_;have e1:NK.hashes P w (k::ks)=k.hash P w::NK.hashes P w ks:=by rw[NK.hashes]
  have e2:NK.pM (k::ks)=k.draws+NK.pM ks:=by rw[NK.pM]
  rw[e1,e2] at q
  simpa[Nat.add_assoc] using q
end
theorem ad2:∀(n:Nat) (x y:NK) (u v:Value) (A:Around) (s:Shared),x.dep<=n->A.units+n+1<cLine->Hy s.heap x u->Hy s.heap y v->SeqAt.EqAt A s u v (decide (x=y))
 | n,.num i,.num j,u,v,A,s,hn,hu,hx,hy=>by
  have e:decide (NK.num i=NK.num j)=(i == j):=by rw[Bool.eq_iff_iff];simp
  rw[e];rcases hx with ⟨t,rfl⟩|⟨b,rfl,rfl⟩
  ·rcases hy with ⟨t',rfl⟩|⟨c,rfl,rfl⟩
   ·exact SeqAt.EqAt.int_int i t j t'
   ·exact SeqAt.EqAt.int_bool i t c
  ·rcases hy with ⟨t',rfl⟩|⟨c,rfl,rfl⟩
   ·exact SeqAt.EqAt.bool_int b j t'
   ·have:((if b then (1:Int) else 0) == (if c then 1 else 0))=(b == c):=by cases b<;>cases c<;>rfl
    rw[this];exact SeqAt.EqAt.bool_bool b c
 | n,.num i,.txt z,u,v,A,s,hn,hu,hx,hy=>by
  rw[decide_eq_false (λe=>by cases e)];obtain⟨t,rfl⟩:=hy;rcases hx with ⟨t',rfl⟩|⟨b,rfl,rfl⟩
  ·exact SeqAt.EqAt.int_str i t' _ t
  ·exact SeqAt.EqAt.bool_str b _ t
 | n,.num i,.tup ks,u,v,A,s,hn,hu,hx,hy=>by
  rw[decide_eq_false (λe=>by cases e)];obtain⟨a,o,items,m,rfl,h1,h2,h3,_⟩:=hy;have p:s.heap.IsTuple a items:=⟨o,h1,h2,m,h3⟩;rcases hx with ⟨t',rfl⟩|⟨b,rfl,rfl⟩
  ·exact SeqAt.EqAt.int_tuple i t' p (by omega)
  ·exact SeqAt.EqAt.bool_tuple b p (by omega)
 | n,.txt z,.num i,u,v,A,s,hn,hu,hx,hy=>by
  rw[decide_eq_false (λe=>by cases e)];obtain⟨t,rfl⟩:=hx;rcases hy with ⟨t',rfl⟩|⟨b,rfl,rfl⟩
  ·exact SeqAt.EqAt.str_int _ t i t'
  ·exact SeqAt.EqAt.str_bool _ t b
 | n,.txt z,.txt z',u,v,A,s,hn,hu,hx,hy=>by
  have e:decide (NK.txt z=NK.txt z')=(z == z'):=by rw[Bool.eq_iff_iff];simp
  rw[e];obtain⟨t,rfl⟩:=hx;obtain⟨t',rfl⟩:=hy;exact SeqAt.EqAt.str_str _ t _ t'
 | n,.txt z,.tup ks,u,v,A,s,hn,hu,hx,hy=>by
  rw[decide_eq_false (λe=>by cases e)];obtain⟨t,rfl⟩:=hx;obtain⟨a,o,items,m,rfl,h1,h2,h3,_⟩:=hy;have p:s.heap.IsTuple a items:=⟨o,h1,h2,m,h3⟩;exact SeqAt.EqAt.str_tuple _ t p (by omega)
 | n,.tup ks,.num i,u,v,A,s,hn,hu,hx,hy=>by
  rw[decide_eq_false (λe=>by cases e)];obtain⟨a,o,items,m,rfl,h1,h2,h3,_⟩:=hx;have p:s.heap.IsTuple a items:=⟨o,h1,h2,m,h3⟩;rcases hy with ⟨t',rfl⟩|⟨b,rfl,rfl⟩
  ·exact SeqAt.EqAt.tuple_int i t' p (by omega)
  ·exact SeqAt.EqAt.tuple_bool b p (by omega)
 | n,.tup ks,.txt z,u,v,A,s,hn,hu,hx,hy=>by
  rw[decide_eq_false (λe=>by cases e)];obtain⟨a,o,items,m,rfl,h1,h2,h3,_⟩:=hx;have p:s.heap.IsTuple a items:=⟨o,h1,h2,m,h3⟩;obtain⟨t,rfl⟩:=hy;exact SeqAt.EqAt.tuple_str _ t p (by omega)
 | 0,.tup ks,.tup ls,u,v,A,s,hn,hu,hx,hy=>by
  rw[NK.dep] at hn;omega
 | n+1,.tup ks,.tup ls,u,v,A,s,hn,hu,hx,hy=>by
  have hx0:=hx;have hy0:=hy;obtain⟨a,o,items,m,rfl,h1,h2,h3,h4⟩:=hx;obtain⟨a',o',items',m',rfl,h1',h2',h3',h4'⟩:=hy;have p:s.heap.IsTuple a items:=⟨o,h1,h2,m,h3⟩;have p':s.heap.IsTuple a' items':=⟨o',h1',h2',m',h3'⟩;rw[NK.dep] at hn;by_cases haa:a=a'
  ·subst haa;rw[decide_eq_true (Hy.inj hx0 hy0)];exact SeqAt.EqAt.same _
  ·refine SeqAt.EqAt.of_refs haa ?_;have l1:=h4.length;have l2:=h4'.length;rw[Array.length_toList] at l1 l2;have hu0:A.units<cLine:=by omega
   have:=SeqAt.RcAt.tuples (e:=λj=>decide (ks[j]? = ls[j]?)) p p' hu0 λj q1 q2=>?_
   ·have e:((List.range (min items.size items'.size)).all (λj=>decide (ks[j]? = ls[j]?))&&items.size == items'.size)=decide (NK.tup ks=NK.tup ls):=by
     rw[Bool.eq_iff_iff];simp only[Bool.and_eq_true,List.all_eq_true,List.mem_range,decide_eq_true_eq,beq_iff_eq,NK.tup.injEq];constructor
     ·rintro⟨g1,g2⟩;apply List.ext_getElem?;intro j;by_cases hj:j<min items.size items'.size
      ·exact g1 j hj
      ·rw[List.getElem?_eq_none (by omega),List.getElem?_eq_none (by omega)]
     ·rintro rfl;exact⟨λ_ _=>rfl,by omega⟩
    rw[<-e];exact this
   ·have g1:items.toList[j]? = some items[j]:=by simp
    have g2:items'.toList[j]? = some items'[j]:=by simp
    obtain⟨k,r1,r2⟩:=h4.get g1;obtain⟨l,r3,r4⟩:=h4'.get g2;have e:decide (ks[j]? = ls[j]?)=decide (k=l):=by rw[r1,r3];simp
    rw[e];exact ad2 n k l _ _ A.in1 s (Nat.le_trans (NK.zz r1) (by omega)) (by show A.units+1+n+1<cLine;omega) r2 r4
theorem K6:∀(n:Nat) (k:NK) (v:Value) (A:Around) (E:Value->Shared->Prop) (s:Shared) (Q:Bool->Shared->Prop),k.dep<=n->Hy s.heap k v->Q true s->wpAny (model P w) A (eqIsQuiet n v) Q E s
 | n,.num i,v,A,E,s,Q,hn,e,h=>by
  rcases e with ⟨t,rfl⟩|⟨b,rfl,rfl⟩
  ·rw[eqIsQuiet_byValue n rfl];exact wpAny_pure h
  ·rw[eqIsQuiet_byValue n rfl];exact wpAny_pure h
 | n,.txt x,v,A,E,s,Q,hn,e,h=>by
  obtain⟨t,rfl⟩:=e;rw[eqIsQuiet_byValue n rfl];exact wpAny_pure h
 | 0,.tup ks,v,A,E,s,Q,hn,e,h=>by
  rw[NK.dep] at hn;omega
 | n+1,.tup ks,v,A,E,s,Q,hn,e,h=>by
  obtain⟨a,o,items,m,rfl,ho,hc,hd,hi⟩:=e;rw[NK.dep] at hn;have hT:s.TypeIs (.ref a) "tuple":=⟨o,ho,hc⟩;unfold eqIsQuiet;refine wpAny_bind (wpAny_specialOf hT F.slot_tuple_eq.lookup ?_);show wpAny _ _ (isInstance (.ref a) (.type "tuple") >>= _) _ _ s;refine wpAny_bind (wpAny_isInstance hT isSubtype_tuple_tuple ?_);simp only[Bool.not_true,Bool.false_eq_true,if_false];refine wpAny_bind (wpAny_seqItems ho hd ?_);refine wpAny_bind ?_;show wpAny _ _ (forIn items _ _) _ _ s;rw[<-Array.forIn_toList];refine wpAny_forIn_list _ (λrest r s'=>r.1=none/\s'=s/\∀v∈rest,∃k:NK,k.dep<=n/\Hy s.heap k v) _ ?_ ?_ _ _ ⟨rfl,rfl,λv hv=>?_⟩
  ·rintro v rest r s' ⟨hr,rfl,hall⟩;obtain⟨k,hk1,hk2⟩:=hall v List.mem_cons_self;refine wpAny_bind (K6 n k v A E _ _ hk1 hk2 ?_);simp only[Bool.not_true,Bool.false_eq_true,if_false];exact wpAny_pure ⟨rfl,rfl,λu hu'=>hall u (List.mem_cons_of_mem _ hu')⟩
  ·rintro⟨r1,r2⟩ s' ⟨hr,rfl,_⟩;simp only at hr;subst hr;exact wpAny_pure h
  ·obtain⟨j,hj,rfl⟩:=List.mem_iff_getElem.mp hv;obtain⟨k,r1,r2⟩:=hi.get (List.getElem?_eq_getElem hj);exact⟨k,Nat.le_trans (NK.zz r1) (by omega),r2⟩
noncomputable def Rk(P:Program)(w:World):HeapKind P w NK where
 is:=λh k a=>Hy h k (.ref a)/\k.dep<=8
 hash:=NK.hash P w
 draws:=NK.draws
 room:=λA=>A.units+10<cLine
 inj:=λhx hy=>hx.1.inj hy.1
 keeps:=λx ho hd hs=>⟨x.1.keeps ho hd hs,x.2⟩
 pyHash:=λhu hk h=>Rn _ _ _ _ _ _ (by have:=hk.2;omega) hk.1 h
 eqBool:=λhu hx hy h=>ad2 8 _ _ _ _ _ _ hx.2 (by omega) hx.1 hy.1 P w _ _ h
 quiet:=λhk h=>K6 8 _ _ _ _ _ _ hk.2 hk.1 h
end
abbrev Key:=Sum Int Str
def zb:Key->Value->Bool
 | .inl k,v=>Value.isInt k v
 | .inr x,v=>Value.isStrOf x v
def agh(w:World):Key->Int
 | .inl k=>hashInt k
 | .inr x=>hashStr w x
theorem eU:∀{k:Key} {v:Value},zb k v=true->(∃i t,k=Sum.inl i/\v=Value.int i t)\/(∃x t,k=Sum.inr x/\v=Value.str x t)
 | .inl i,v,h=>by
  obtain⟨t,e⟩:=Value.isInt_shape (k:=i) (v:=v) h;exact .inl ⟨i,t,rfl,e⟩
 | .inr x,v,h=>by
  obtain⟨t,e⟩:=Value.isStrOf_shape (x:=x) (v:=v) h;exact .inr ⟨x,t,rfl,e⟩
theorem N8(i:Int)(t:Tok):zb (.inl i) (.int i t)=true:=by simp[zb,Value.isInt]
theorem N7(x:Str)(t:Tok):zb (.inr x) (.str x t)=true:=by simp[zb,Value.isStrOf]
theorem aaR(a b:Int):decide ((Sum.inl a:Key)=Sum.inl b)=(a == b):=by
 by_cases e:a=b
 ·subst e;simp
 ·have h:¬(Sum.inl a:Key)=Sum.inl b:=λq=>e (Sum.inl.inj q);rw[decide_eq_false h];exact(beq_eq_false_iff_ne.mpr e).symm
theorem aaO(a b:Str):decide ((Sum.inr a:Key)=Sum.inr b)=decide (a=b):=by
 by_cases e:a=b
 ·subst e;simp
 ·have h:¬(Sum.inr a:Key)=Sum.inr b:=λq=>e (Sum.inr.inj q);rw[decide_eq_false h,decide_eq_false e]
theorem aaQ(a:Int)(b:Str):decide ((Sum.inl a:Key)=Sum.inr b)=false:=decide_eq_false (λq=>nomatch q)
theorem aaP(a:Str)(b:Int):decide ((Sum.inr a:Key)=Sum.inl b)=false:=decide_eq_false (λq=>nomatch q)
def eN(prog:Program)(w:World):PySem.KeyKind prog w Key where
 is:=zb
 hash:=agh w
 inj:=λv a b ha hb=>by
  rcases eU ha with ⟨i,t,rfl,rfl⟩|⟨x,t,rfl,rfl⟩
  ·rcases eU hb with ⟨j,u,rfl,e⟩|⟨y,u,rfl,e⟩
   ·injection e with e1 _;rw[e1]
   ·exact nomatch e
  ·rcases eU hb with ⟨j,u,rfl,e⟩|⟨y,u,rfl,e⟩
   ·exact nomatch e
   ·injection e with e1 _;rw[e1]
 byValue:=λk v h=>by
  rcases eU h with ⟨i,t,rfl,rfl⟩|⟨x,t,rfl,rfl⟩<;>rfl
 pyHash:=λhv h=>by
  rcases eU hv with ⟨i,t,rfl,rfl⟩|⟨x,t,rfl,rfl⟩
  ·exact wpAny_pyHash_int h
  ·exact wpAny_pyHash_str h
 eqBool:=λhu hv h=>by
  rcases eU hu with ⟨i,t,rfl,rfl⟩|⟨x,t,rfl,rfl⟩
  ·rcases eU hv with ⟨j,u,rfl,rfl⟩|⟨y,u,rfl,rfl⟩
   ·rw[aaR] at h;exact wpAny_eqBool_int h
   ·rw[aaQ] at h;exact SeqAt.EqAt.int_str i t y u _ _ _ _ h
  ·rcases eU hv with ⟨j,u,rfl,rfl⟩|⟨y,u,rfl,rfl⟩
   ·rw[aaP] at h;exact SeqAt.EqAt.str_int x t j u _ _ _ _ h
   ·rw[aaO] at h;exact wpAny_eqBool_str h
 «strs»:=λk x t v h=>by
  rcases eU h with ⟨i,u,rfl,e⟩|⟨y,u,rfl,e⟩
  ·exact nomatch e
  ·injection e with e1 _
   subst e1;cases v<;>rfl
theorem Gv(prog:Program)(w:World)(i:Int)(t:Tok):(eN prog w).is (.inl i) (.int i t)=true:=N8 i t
theorem Gu(prog:Program)(w:World)(x:Str)(t:Tok):(eN prog w).is (.inr x) (.str x t)=true:=N7 x t
inductive V where
 | non|bl (b:Bool)|int (i:Int)|str (x:Str)|byt (b:Array UInt8)|flt (b:UInt64)|ref (a:Addr)|ty (n:String)
 deriving DecidableEq
def RelV:V->Value->Prop
 | .non,u=>u=Value.none
 | .bl b,u=>u=Value.bool b
 | .int i,u=>∃t,u=Value.int i t
 | .str x,u=>∃t,u=Value.str x t
 | .byt b,u=>∃t,u=Value.bytes b t
 | .flt b,u=>∃t,u=Value.float b t
 | .ref a,u=>u=Value.ref a
 | .ty n,u=>u=Value.type n
abbrev Vals:List V->List Value->Prop:=Paired RelV
theorem Vals.length{xs:List V}{us:List Value}(r:Vals xs us):xs.length=us.length:=Paired.length r
theorem Vals.get:∀{xs:List V} {us:List Value} {i:Nat} {x:V},Vals xs us->xs[i]? = some x->∃u,us[i]? = some u/\RelV x u
 | _,_,_,_,.nil,e=>by simp at e
 | _,_,0,_,.cons r _,e=>by simp at e;subst e;exact⟨_,rfl,r⟩
 | _,_,i+1,x,.cons _ t,e=>by
  obtain⟨u,h1,h2⟩:=Vals.get (i:=i) (x:=x) t (by simpa using e);exact⟨u,by simpa using h1,h2⟩
theorem Vals.set{x:V}{u:Value}(r:RelV x u):∀{xs:List V} {us:List Value} (i:Nat),Vals xs us->Vals (xs.set i x) (us.set i u)
 | _,_,_,.nil=>.nil
 | _,_,0,.cons _ t=>.cons r t
 | _,_,i+1,.cons q t=>.cons q (Vals.set r i t)
theorem Vals.append:∀{xs ys:List V} {us ws:List Value},Vals xs us->Vals ys ws->Vals (xs++ys) (us++ws)
 | _,_,_,_,.nil,s=>s
 | _,_,_,_,.cons r t,s=>.cons r (Vals.append t s)
theorem Vals.take:∀{xs:List V} {us:List Value} (n:Nat),Vals xs us->Vals (xs.take n) (us.take n)
 | _,_,0,_=>.nil
 | _,_,_+1,.nil=>.nil
 | _,_,n+1,.cons r t=>.cons r (Vals.take n t)
theorem Vals.drop:∀{xs:List V} {us:List Value} (n:Nat),Vals xs us->Vals (xs.drop n) (us.drop n)
 | _,_,0,r=>r
 | _,_,_+1,.nil=>.nil
 | _,_,n+1,.cons _ t=>Vals.drop n t
def Ax:Option V->Option Value->Prop
 | some v,some u=>RelV v u
 | none,none=>True
 | _,_=>False
def KV{κ:Type}:List (κ×V)->List (κ×Value)->Prop:=Paired λ(p:κ×V) (q:κ×Value)=>p.1=q.1/\RelV p.2 q.2
def kV:Key->V
 | .inl i=>.int i
 | .inr x=>.str x
inductive HO where
 /-- a list -/
 | lst (xs:List V)
 /-- a tuple (never changes) -/
 | tup (xs:List V)
 /-- a dict whose keys are ints and texts;one whose keys are tuples of ints and texts (the empty one is both) -/
 | dK (kvs:List (Key×V))|dT (kvs:List (List Key×V))|dN (kvs:List (NK×V×V))
 /-- a set of ints: its members,its size -/
 | set (S:Int->Bool) (n:Nat)
 /-- an instance of the class at C,its dict at dx,its attributes -/
 | ins (C dx:Addr) (fs:List (Str×V))
 /-- the dict of the instance at x -/
 | own (x:Addr)
 /-- the dict of an exception -/
 | xd (fs:List (Str×V))
 /-- a bound method,f of x -/
 | met (f x:Addr)
 /-- a range object lo,lo+1,.. below hi -/
 | rng (lo hi:Int)
 /-- a thing that is known to the object (the script;a dict while a loop walks it): read,never written while it is so -/
 | Uo (o:Obj) (u:HO)
 /-- a code object's table -/
 | Zd (ps:Array Value)
 /-- any other thing,by what is true of its one object (a def of one's own: Ub a S n:=HO.ext λh=>..) -/
 | ext (φ:Heap->Prop)
abbrev Hp:=Addr->Option HO
def upd(H:Hp)(a:Addr)(o:HO):Hp:=λb=>if b=a then some o else H b
theorem aU{H:Hp}{a:Addr}{o:HO}:upd H a o a=some o:=by unfold upd;rw[if_pos rfl]
theorem bM{H:Hp}{a b:Addr}{o:HO}(h:b≠a):upd H a o b=H b:=by unfold upd;rw[if_neg h]
theorem Kp{H:Hp}{a:Addr}{o u:HO}:upd (upd H a o) a u=upd H a u:=by funext b;unfold upd;split<;>rfl
theorem ad0{H:Hp}{a b:Addr}{o u:HO}(h:H a=some o)(h':H b=some u)(d:o≠u):a≠b:=by intro e;subst e;rw[h] at h';exact d (Option.some.inj h')
theorem gm{H:Hp}{a b:Addr}{o:HO}(h:H a=some o)(h':H b=none):a≠b:=by intro e;subst e;rw[h] at h';cases h'
def zT(h:Heap)(a:Addr)(items:Array Value):Prop:=∃o,h.get? a=some o/\o.cls = .type "tuple"/\(∃n,o.data = .seq items n)/\o.dict=none
theorem zT.is{h:Heap}{a:Addr}{items:Array Value}(x:zT h a items):IsTup h a items:=let ⟨o,h1,h2,h3,_⟩:=x;⟨o,h1,h2,h3⟩
theorem zT.new(h:Heap)(items:Array Value):zT (h.push { cls:=.type "tuple",data:=.seq items }) h.objs.size items:=⟨_,Heap.get?_push_size _ rfl,rfl,⟨_,rfl⟩,rfl⟩
section
variable(P:Program)(w:World)
def gP(H:Hp)(h:Heap)(a:Addr):HO->Prop
 | .lst xs=>xs.length<=sizeLine/\∃(its:List Value) (n:Nat),Vals xs its/\h.get? a=some { cls:=.type "list",data:=.seq its.toArray n }
 | .tup xs=>xs.length<=sizeLine/\∃its:List Value,Vals xs its/\zT h a its.toArray
 | .dK kvs=>kvs.length<=sizeLine/\(a == sysModules)=false/\∃vs,KV kvs vs/\h.DictOf (eN P w) a vs
 | .dT kvs=>kvs.length<=sizeLine/\(a == sysModules)=false/\∃xs:List (List Key×Addr×Value),
   Paired (λ(p:List Key×V) (q:List Key×Addr×Value)=>p.1=q.1/\H q.2.1=some (.tup (p.1.map kV))/\RelV p.2 q.2.2) kvs xs/\
   ∃o es ep,h.get? a=some o/\o.ExactDict/\o.data = .dict es ep/\es.toList=xs.map (entryOfKey (tupleKind (eN P w)))/\(xs.map (·.1)).Nodup
 | .dN kvs=>kvs.length<=sizeLine/\(a == sysModules)=false/\∃xs:List (NK×Addr×Value),
   Paired (λ(p:NK×V×V) (q:NK×Addr×Value)=>p.1=q.1/\p.2.1 = .ref q.2.1/\RelV p.2.2 q.2.2) kvs xs/\
   ∃o es ep,h.get? a=some o/\o.ExactDict/\o.data = .dict es ep/\es.toList=xs.map (entryOfKey (Rk P w))/\(xs.map (·.1)).Nodup
 | .set S n=>h.SetOf (intKind P w) a S n
 | .ins C dx fs=>H dx=some (.own a)/\fs.length<=1000/\dx≠a/\h.get? a=some (PySem.W.instObj C dx)/\
   ∃mA,h.Ns1 dx mA/\(∀f,Ax (fs.lookup f) (mA f))/\PySem.Within mA (fs.map (·.1))
 | .own _=>∃o,h.get? a=some o
 | .xd fs=>∃mA,h.Ns1 a mA/\∀f,Ax (fs.lookup f) (mA f)
 | .rng lo hi=>∃t u v,h.get? a=some { cls:=.type "range",data:=.fields #[.int lo t,.int hi u,.int 1 v] }
 | .Uo o u=>h.get? a=some o/\gP H h a u
 | .Zd ps=>h.get? a=some { cls:=.none,data:=.fields ps }
 | .met f x=>h.get? a=some (PySem.W.methodObj (.ref f) (.ref x))
 | .ext φ=>φ h/\(∃o,h.get? a=some o)/\∀h1 h2:Heap,φ h1->(∀o,h1.get? a=some o->h2.get? a=some o)->φ h2
def vq(H:Hp)(h:Heap):Prop:=∀a o,H a=some o->gP P w H h a o
end
section
variable{P:Program}{w:World}{H H':Hp}{h h':Heap}{a:Addr}{o:HO}
theorem gP.lt(x:gP P w H h a o):a<h.objs.size:=by
 cases o with
 | lst xs=>obtain⟨_,_,_,_,e⟩:=x;exact Heap.lt_size e
 | tup xs=>obtain⟨_,_,_,p⟩:=x;exact p.is.lt
 | dK kvs=>obtain⟨_,_,_,_,o,_,_,e,_⟩:=x;exact Heap.lt_size e
 | dT kvs=>obtain⟨_,_,_,_,o,_,_,e,_⟩:=x;exact Heap.lt_size e
 | dN kvs=>obtain⟨_,_,_,_,o,_,_,e,_⟩:=x;exact Heap.lt_size e
 | set S n=>obtain⟨o,_,_,_,e,_⟩:=x;exact Heap.lt_size e
 | ins C dx fs=>obtain⟨_,_,_,e,_⟩:=x;exact Heap.lt_size e
 | own y=>obtain⟨_,e⟩:=x;exact Heap.lt_size e
 | xd fs=>obtain⟨_,⟨_,_,_,e,_⟩,_⟩:=x;exact Heap.lt_size e
 | rng lo hi=>obtain⟨_,_,_,e⟩:=x;exact Heap.lt_size e
 | Uo ob u=>obtain⟨e,_⟩:=x;exact Heap.lt_size e
 | Zd ps=>exact Heap.lt_size (show h.get? a=some _ from x)
 | met f y=>exact Heap.lt_size (show h.get? a=some _ from x)
 | ext φ=>obtain⟨_,⟨_,e⟩,_⟩:=x;exact Heap.lt_size e
theorem Paired.aaJ{α β:Type}{F G:α->β->Prop}:∀{l₁:List α} {l₂:List β},Paired F l₁ l₂->(∀a b,F a b->G a b)->Paired G l₁ l₂
 | _,_,.nil,_=>.nil
 | _,_,.cons r t,f=>.cons (f _ _ r) (Paired.aaJ t f)
theorem gP.stay(x:gP P w H h a o)(k:∀b u,(b=a\/H b=some (.own a))->h.get? b=some u->h'.get? b=some u)
  (ho:∀b,H b=some (.own a)->H' b=some (.own a)) (ht:∀b xs,H b=some (.tup xs)->H' b=some (.tup xs)):gP P w H' h' a o:=by
 induction o with
 | lst xs=>obtain⟨z,its,n,r,e⟩:=x;exact⟨z,its,n,r,k _ _ (.inl rfl) e⟩
 | tup xs=>obtain⟨z,its,r,ob,e,c⟩:=x;exact⟨z,its,r,ob,k _ _ (.inl rfl) e,c⟩
 | dK kvs=>obtain⟨z,y,vs,r,ob,es,ep,e,c⟩:=x;exact⟨z,y,vs,r,ob,es,ep,k _ _ (.inl rfl) e,c⟩
 | dT kvs=>
  obtain⟨z,y,xs,r,ob,es,ep,e,c⟩:=x;exact⟨z,y,xs,Paired.aaJ r λp q z=>⟨z.1,ht _ _ z.2.1,z.2.2⟩,ob,es,ep,k _ _ (.inl rfl) e,c⟩
 | dN kvs=>obtain⟨z,y,xs,r,ob,es,ep,e,c⟩:=x;exact⟨z,y,xs,r,ob,es,ep,k _ _ (.inl rfl) e,c⟩
 | set S n=>obtain⟨ob,es,ep,t,e,c⟩:=x;exact⟨ob,es,ep,t,k _ _ (.inl rfl) e,c⟩
 | ins C dx fs=>
  obtain⟨d,z,ne,e,mA,⟨od,es,ep,e2,c⟩,r⟩:=x;exact⟨ho _ d,z,ne,k _ _ (.inl rfl) e,mA,⟨od,es,ep,k _ _ (.inr d) e2,c⟩,r⟩
 | own y=>obtain⟨ob,e⟩:=x;exact⟨ob,k _ _ (.inl rfl) e⟩
 | xd fs=>obtain⟨mA,⟨od,es,ep,e,c⟩,r⟩:=x;exact⟨mA,⟨od,es,ep,k _ _ (.inl rfl) e,c⟩,r⟩
 | rng lo hi=>obtain⟨t,u,v,e⟩:=x;exact⟨t,u,v,k _ _ (.inl rfl) e⟩
 | Uo ob u ih=>obtain⟨e,q⟩:=x;exact⟨k _ _ (.inl rfl) e,ih q⟩
 | Zd ps=>
  have e:h.get? a=some { cls:=.none,data:=.fields ps }:=x;show h'.get? a=some { cls:=.none,data:=.fields ps };exact k a _ (.inl rfl) e
 | met f y=>
  have e:h.get? a=some (PySem.W.methodObj (.ref f) (.ref y)):=x;show h'.get? a=some (PySem.W.methodObj (.ref f) (.ref y));exact k a _ (.inl rfl) e
 | ext φ=>obtain⟨p,⟨o,e⟩,st⟩:=x;exact⟨st _ _ p λo q=>k _ _ (.inl rfl) q,⟨o,k _ _ (.inl rfl) e⟩,st⟩
theorem vq.lt(x:vq P w H h)(e:H a=some o):a<h.objs.size:=(x a o e).lt
theorem vq.fresh(x:vq P w H h)(e:h.objs.size<=a):H a=none:=by
 cases q:H a with
 | none=>rfl
 | some u=>exact absurd (Nat.lt_of_lt_of_le (x.lt q) e) (Nat.lt_irrefl _)
theorem vq.kept(x:vq P w H h)(k:∀b u,h.get? b=some u->h'.get? b=some u):vq P w H h':=λa o e=>
 (x a o e).stay (λb u _ q=>k b u q) (λ_ q=>q) λ_ _ q=>q
theorem vq.laid(x:vq P w H h)(k:∀b u,h.get? b=some u->h'.get? b=some u)(hp:h.objs.size<=a)(new:gP P w (upd H a o) h' a o):vq P w (upd H a o) h':=λb u e=>by
 have hn:=x.fresh hp;by_cases hb:b=a
 ·subst hb;rw[aU] at e;cases e;exact new
 ·rw[bM hb] at e;exact(x b u e).stay (λc v _ q=>k c v q) (λc q=>by rw[bM (gm q hn)];exact q) λc xs q=>by rw[bM (gm q hn)];exact q
end
def Rd(H:Hp)(a:Addr)(u:HO):Prop:=H a=some u\/∃o,H a=some (.Uo o u)
theorem Rd.ok{P:Program}{w:World}{H:Hp}{h:Heap}{a:Addr}{u:HO}(r:Rd H a u)(x:vq P w H h):gP P w H h a u:=by
 rcases r with r|⟨o,r⟩
 ·exact x a u r
 ·obtain⟨_,q⟩:=x a _ r;exact q
def Mut:Option HO->Prop
 | some (.lst _)=>True
 | some (.dK _)=>True
 | some (.dT _)=>True
 | some (.dN _)=>True
 | some (.set _ _)=>True
 | some (.ins _ _ _)=>True
 | some (.ext _)=>True
 | _=>False
section
variable{P:Program}{w:World}{H:Hp}{h h':Heap}{x e:Addr}{o':HO}
theorem vq.write(ok:vq P w H h)(mu:Mut (H x))(he:e=x\/H e=some (.own x))(k:∀b u,b≠e->h.get? b=some u->h'.get? b=some u)(heo:∃u,h'.get? e=some u)
  (new:gP P w (upd H x o') h' x o'):vq P w (upd H x o') h':=λb u q=>by
 have adX:∀c y,H c=some (.own y)->c≠x:=λc y r z=>by subst z;rw[r] at mu;exact mu
 have agc:∀c xs,H c=some (.tup xs)->c≠x:=λc xs r z=>by subst z;rw[r] at mu;exact mu
 by_cases hb:b=x
 ·subst hb;rw[aU] at q;cases q;exact new
 ·rw[bM hb] at q;by_cases hbe:b=e
  ·have q':H b=some (.own x):=by
    rcases he with z|z
    ·exact absurd (hbe.trans z) hb
    ·rw[hbe];exact z
   rw[q] at q';cases q';obtain⟨v,hv⟩:=heo;exact⟨v,by rw[hbe];exact hv⟩
  ·refine(ok b u q).stay (λc v hc r=>k c v ?_ r) (λc r=>by rw[bM (adX c b r)];exact r) λc xs r=>by rw[bM (agc c xs r)];exact r
   rcases hc with rfl|hc
   ·exact hbe
   ·rintro rfl;rcases he with z|z
    ·exact adX c b hc z
    ·rw[hc] at z;cases z;exact hb rfl
end
structure Un(fs ex:List Addr)(H H':Hp)(h h':Heap):Prop where
 keep:∀b o,h.get? b=some o->H b=none->b ∉ fs->b ∉ ex->h'.get? b=some o
 slot:∀b o,h.get? b=some o->H b=none->b∈fs->b ∉ ex->∃sl,h'.get? b=some { o with slots:=sl }
 free:∀b o,h.get? b=some o->H b=none->b ∉ ex->H' b=none
 there:∀b o,h.get? b=some o->b ∉ ex->∃o',h'.get? b=some o'
 tups:∀b xs,H b=some (.tup xs)->H' b=some (.tup xs)
 DK:∀b o u,H b=some (.Uo o u)->H' b=some (.Uo o u)
 Fb:∀b ps,H b=some (.Zd ps)->∃more,H' b=some (.Zd (ps++more))
section
variable{fs fs' ex ex':List Addr}{H H1 H2:Hp}{h h1 h2 h':Heap}{a x e:Addr}{o:HO}
theorem Un.any(u:Un fs ex H H1 h h1){b:Addr}{ob:Obj}(q:h.get? b=some ob)(n:H b=none)(hx:b ∉ ex):∃sl,h1.get? b=some { ob with slots:=sl }:=by
 by_cases hb:b∈fs
 ·exact u.slot b ob q n hb hx
 ·exact⟨ob.slots,u.keep b ob q n hb hx⟩
theorem Un.kept(k:∀b u,h.get? b=some u->h'.get? b=some u):Un fs ex H H h h':=
 ⟨λb ob q _ _ _=>k b ob q,λb ob q _ _ _=>⟨ob.slots,k b ob q⟩,λ_ _ _ n _=>n,λb ob q _=>⟨ob,k b ob q⟩,λ_ _ q=>q,λ_ _ _ q=>q,λ_ ps q=>⟨#[],by rw[q];simp⟩⟩
theorem Un.refl:Un fs ex H H h h:=Un.kept λ_ _ q=>q
theorem Un.laid(k:∀b u,h.get? b=some u->h'.get? b=some u)(hp:h.objs.size<=a)(hn:H a=none):Un fs ex H (upd H a o) h h' where
 keep:=λb u q _ _ _=>k b u q
 slot:=λb u q _ _ _=>⟨u.slots,k b u q⟩
 free:=λb u q n _=>by rw[bM (Nat.ne_of_lt (Nat.lt_of_lt_of_le (Heap.lt_size q) hp))];exact n
 there:=λb u q _=>⟨u,k b u q⟩
 tups:=λb xs q=>by rw[bM (gm q hn)];exact q
 DK:=λb u xs q=>by rw[bM (gm q hn)];exact q
 Fb:=λb ps q=>⟨#[],by rw[bM (gm q hn),q];simp⟩
theorem Un.write(mu:Mut (H x))(he:e=x\/H e=some (.own x))(k:∀b u,b≠e->h.get? b=some u->h'.get? b=some u)(heo:∃u,h'.get? e=some u):Un fs ex H (upd H x o) h h':=by
 have hx:∀b,H b=none->b≠x:=λb n z=>by subst z;rw[n] at mu;exact mu
 have hb:∀b,H b=none->b≠e:=λb n z=>by
  subst z;rcases he with r|r
  ·exact hx b n r
  ·rw[n] at r;cases r
 have hm:∀b u,H b=some u->¬Mut (some u)->b≠x:=λb u q nm z=>by subst z;rw[q] at mu;exact nm mu
 refine⟨λb u q n _ _=>k b u (hb b n) q,λb u q n _ _=>⟨u.slots,k b u (hb b n) q⟩,λb u q n _=>by rw[bM (hx b n)];exact n,λb u q _=>?_,
  λb xs q=>by rw[bM (hm b _ q λz=>z)];exact q,λb u xs q=>by rw[bM (hm b _ q λz=>z)];exact q,λb ps q=>⟨#[],by rw[bM (hm b _ q λz=>z),q];simp⟩⟩
 by_cases hbe:b=e
 ·subst hbe;exact heo
 ·exact⟨u,k b u hbe q⟩
end
def trk(h:Heap)(H:Hp):List Addr:=(List.range h.objs.size).filter λa=>(H a).isSome
def Dz(h:Heap)(H:Hp):Heap:=PySem.W.hideAll h (trk h H)
theorem Od(h:Heap)(H:Hp):(Dz h H).objs.size=h.objs.size:=PySem.W.hideAll_size _ _
theorem Ss{h:Heap}{H:Hp}{b:Addr}{o:Obj}(e:h.get? b=some o)(n:H b=none):(Dz h H).get? b=some o:=
 PySem.W.hideAll_get _ e λhm=>by
  have q:(H b).isSome=true:=(List.mem_filter.mp hm).2;rw[n] at q;simp at q
theorem Wa{h:Heap}{H:Hp}{b:Addr}{o:Obj}(e:(Dz h H).get? b=some o):h.get? b=some o/\H b=none:=by
 have e':h.get? b=some o:=PySem.W.of_hideAll (trk h H) e;refine⟨e',?_⟩;cases q:H b with
 | none=>rfl
 | some x=>
  have hm:b∈trk h H:=List.mem_filter.mpr ⟨List.mem_range.mpr (Heap.lt_size e'),by simp[q]⟩;have z:(Dz h H).get? b=none:=PySem.W.hideAll_none (trk h H) hm;rw[z] at e;cases e
def XQ(g h:Heap)(L:Addr):List (Addr×Obj):=(List.range h.objs.size).filterMap λa=>if a=L\/(g.get? a).isSome=true then none else (h.get? a).map λo=>(a,o)
def rest(g h:Heap)(L d:Addr):List (Addr×Obj):=(XQ g h L).filter λp=>decide (p.1≠d)
structure Mod(K:PySem.W.Frag)(mg:Str->Option Value)(base:Heap):Prop where
 N5:K.In base
 glob:base.Ns mainGlobals mg
 blt:∃mb,base.Ns builtinsNs mb/\∀x:Str,x ≠ "__name__"->mb x=bootBuiltins x
 nolimit:base.NoLimit
structure Cx where
 prog:Program
 w:World
 K:PySem.W.Frag
 mg:Str->Option Value
 base:Heap
 A:Around
 N:List Str
 s₀:Shared
 H₀:Hp
 env:Env
 outer:List Env
 stack:List Env
 ex:List Addr
 fn:Str->Bool
 calm:Bool
 pn:List (Addr×Obj)
 xe:Value->Shared->Prop
def frs(l:List Env):List Addr:=l.filterMap (·.frame)
abbrev Cx.fs(X:Cx):List Addr:=frs X.outer
def rn(sc:Scope)(x:Str):Prop:=sc.names.lookup x=some .local\/sc.names.lookup x=some .cell\/sc.names.lookup x=some .free
def Loc(sc:Scope)(x:Str):Prop:=sc.names.lookup x=some .local\/sc.names.lookup x=some .cell
def Look(env:Env)(h:Heap)(m:Str->Option Value)(x:Str)(u:Value):Prop:=
 (env.kindOf x=some .local/\m x=some u)\/((env.kindOf x=some .cell\/env.kindOf x=some .free)/\∃c,env.cells.lookup x=some c/\h.IsCell c (some u))
structure Cx.Ok(X:Cx):Prop where
 mod:Mod X.K X.mg X.base
 kind:X.env.scope.kind = .function
 glob:X.env.globals=mainGlobals
 blt:X.env.builtins=builtinsNs
 above:X.s₀.heap.objs.size<=X.env.locals
 inj:∀x y c,X.env.cells.lookup x=some c->X.env.cells.lookup y=some c->x=y
 has:∀x,(X.env.kindOf x=some .cell\/X.env.kindOf x=some .free)->∃c,X.env.cells.lookup x=some c
 cab:∀x c,X.fn x=true->X.env.cells.lookup x=some c->X.s₀.heap.objs.size<=c
 hd:X.calm=true->X.A.handled=none
 frames:X.A.frames=some X.stack
 Ul:X.stack=X.outer\/(X.stack=X.env::X.outer/\X.env.frame=some X.env.locals)
 exf:∀b∈X.ex,b≠X.env.locals/\∀x c,X.env.cells.lookup x=some c->c≠b
 bs:∀b o,X.base.get? b=some o->X.s₀.heap.get? b=some o/\X.H₀ b=none
 YM:X.base.objs.size<=X.s₀.heap.objs.size
 Rj:∀b o,X.base.get? b=some o->b ∉ X.ex
 Oj:∀b∈X.ex,b ∉ X.fs
 zg:X.s₀.heap.FunFrames X.base X.outer
 frf:∀b∈X.fs,X.H₀ b=none
structure Inv(X:Cx)(pins:List (Addr×Obj))(σ:List (Option V))(H:Hp)(s:Shared):Prop where
 ok:X.Ok
 os:s.os=X.s₀.os
 bare:AllBare s.gens
 base:Un X.fs X.ex X.H₀ H X.s₀.heap s.heap
 loc:∃m,s.heap.Ns X.env.locals m/\∀(i:Nat) (x:Str) (v:V),X.N[i]? = some x->σ[i]? = some (some v)->rn X.env.scope x->∃u,RelV v u/\Look X.env s.heap m x u
 cell:∀x c,X.env.cells.lookup x=some c->∃v,s.heap.IsCell c v
 free:H X.env.locals=none
 qQ:∀x c,X.env.cells.lookup x=some c->H c=none
 pin:∀p∈X.pn++pins,s.heap.get? p.1=some p.2/\H p.1=none/\p.1≠X.env.locals/\p.1 ∉ X.fs/\∀v,p.2.data ≠ .cell v
 hok:vq X.prog X.w H s.heap
 len:σ.length=X.N.length
section
variable{X:Cx}{pins:List (Addr×Obj)}{σ:List (Option V)}{H H':Hp}{s:Shared}{h':Heap}
theorem Cx.Ok.age(ok:X.Ok){b:Addr}{o:Obj}(e:X.base.get? b=some o):b ∉ X.fs:=λhb=>by
 have:=(ok.zg.mem hb).1;rw[e] at this;cases this
theorem Inv.bs(I:Inv X pins σ H s):∀b o,X.base.get? b=some o->s.heap.get? b=some o/\H b=none:=λb o e=>
 ⟨I.base.keep b o (I.ok.bs b o e).1 (I.ok.bs b o e).2 (I.ok.age e) (I.ok.Rj b o e),I.base.free b o (I.ok.bs b o e).1 (I.ok.bs b o e).2 (I.ok.Rj b o e)⟩
theorem Inv.bk(I:Inv X pins σ H s):∀b o,X.base.get? b=some o->s.heap.get? b=some o:=λb o e=>(I.bs b o e).1
theorem Inv.mod(I:Inv X pins σ H s):Mod X.K X.mg X.base:=I.ok.mod
theorem Inv.YB(I:Inv X pins σ H s):X.K.In s.heap:=I.ok.mod.N5.keeps I.bk
theorem Inv.lt(I:Inv X pins σ H s):X.env.locals<s.heap.objs.size:=let ⟨_,hn,_⟩:=I.loc;hn.lt
theorem Inv.sz(I:Inv X pins σ H s):X.s₀.heap.objs.size<=s.heap.objs.size:=Nat.le_trans I.ok.above (Nat.le_of_lt I.lt)
theorem Inv.agd(I:Inv X pins σ H s){a:Addr}(h:s.heap.objs.size<=a):a ∉ X.fs:=λhb=>by
 obtain⟨_,o,ho,_⟩:=I.ok.zg.mem hb;exact absurd (Nat.lt_of_lt_of_le (Heap.lt_size ho) (Nat.le_trans I.sz h)) (Nat.lt_irrefl _)
theorem Inv.cne(I:Inv X pins σ H s):∀x c,X.env.cells.lookup x=some c->c≠X.env.locals:=λx c e z=>by
 obtain⟨v,o,ho,hd⟩:=I.cell x c e;obtain⟨m,⟨o',es,ep,ho',hd',_⟩,_⟩:=I.loc;rw[z,ho'] at ho;cases ho;rw[hd'] at hd;cases hd
theorem Inv.zg(I:Inv X pins σ H s):s.heap.FunFrames X.base X.outer:=by
 have all:∀(l:List Env),(∀b∈frs l,b∈X.fs)->X.s₀.heap.FunFrames X.base l->s.heap.FunFrames X.base l:=by
  intro l
  induction l with
  | nil=>intro _ _;trivial
  | cons env r ih=>
   intro hs hl;obtain⟨hk,⟨L,o,hf,hn,ho,hd⟩,hr⟩:=hl;have hL:L∈X.fs:=hs L (by unfold frs;rw[List.filterMap_cons,hf];exact List.mem_cons_self);obtain⟨sl,e⟩:=I.base.slot L o ho (I.ok.frf L hL) hL λz=>I.ok.Oj L z hL;exact⟨hk,⟨L,_,hf,hn,e,hd⟩,ih (λb hb=>hs b (by unfold frs;rw[List.filterMap_cons,hf];exact List.mem_cons_of_mem _ hb)) hr⟩
 exact all X.outer (λ_ hb=>hb) I.ok.zg
theorem Inv.stack(I:Inv X pins σ H s):s.heap.FunFrames X.base X.stack:=by
 rcases I.ok.Ul with e|⟨e,hf⟩
 ·rw[e];exact I.zg
 ·rw[e];obtain⟨m,hn,_⟩:=I.loc;refine .cons (by rw[I.ok.kind];decide) hf hn ?_ I.zg;exact Heap.get?_none_of_le (Nat.le_trans I.ok.YM I.ok.above)
theorem Inv.Iw(I:Inv X pins σ H s):∀b∈frs X.stack,b∈X.env.locals::X.fs:=λb hb=>by
 rcases I.ok.Ul with e|⟨e,hf⟩
 ·rw[e] at hb;exact List.mem_cons_of_mem _ hb
 ·rw[e] at hb;unfold frs at hb;rw[List.filterMap_cons,hf] at hb;exact hb
theorem Inv.Kv(I:Inv X pins σ H s):∀b∈frs X.stack,H b=none:=λb hb=>by
 rcases List.mem_cons.mp (I.Iw b hb) with e|hb
 ·rw[e];exact I.free
 ·obtain⟨_,o,ho,_⟩:=I.ok.zg.mem hb;exact I.base.free b o ho (I.ok.frf b hb) λz=>I.ok.Oj b z hb
theorem Inv.step{g':Array GenState}{t':Nat}{d':Drawn}{ch:List Addr}(I:Inv X pins σ H s)
  (hch:∀b∈ch,(b∈X.ex\/X.s₀.heap.objs.size<=b)/\b≠X.env.locals/\(∀x c,X.env.cells.lookup x=some c->c≠b)/\∀p∈X.pn++pins,p.1≠b)
  (keep:∀b o,b≠X.env.locals->b ∉ X.fs->b ∉ ch->s.heap.get? b=some o->H b=none->h'.get? b=some o)
  (slot:∀b o,b≠X.env.locals->b∈X.fs->b ∉ ch->s.heap.get? b=some o->H b=none->∃sl,h'.get? b=some { o with slots:=sl }) (free:∀b o,b ∉ ch->s.heap.get? b=some o->H b=none->H' b=none)
  (there:∀b o,b ∉ ch->s.heap.get? b=some o->∃o',h'.get? b=some o')
  (tups:∀b xs,H b=some (.tup xs)->H' b=some (.tup xs)) (DK:∀b o u,H b=some (.Uo o u)->H' b=some (.Uo o u)) (Fb:∀b ps,H b=some (.Zd ps)->∃more,H' b=some (.Zd (ps++more)))
  (ns:∀m,s.heap.Ns X.env.locals m->h'.Ns X.env.locals m) (hok:vq X.prog X.w H' h') (hg:AllBare g') :
  Inv X pins σ H' { s with heap:=h',gens:=g',drawn:=d',toks:=t' }:=by
 have neL:∀b o,X.s₀.heap.get? b=some o->b≠X.env.locals:=λb o e=>Nat.ne_of_lt (Nat.lt_of_lt_of_le (Heap.lt_size e) I.ok.above);have neC:∀b o,X.s₀.heap.get? b=some o->b ∉ X.ex->b ∉ ch:=λb o e hx hb=>by
  rcases(hch b hb).1 with z|z
  ·exact hx z
  ·exact absurd (Nat.lt_of_lt_of_le (Heap.lt_size e) z) (Nat.lt_irrefl _)
 have cellK:∀x c,X.env.cells.lookup x=some c->∀v,s.heap.IsCell c v->h'.IsCell c v:=λx c e v ⟨o,ho,hd⟩=>by
  have nch:c ∉ ch:=λz=>(hch c z).2.2.1 x c e rfl;by_cases hc:c∈X.fs
  ·obtain⟨sl,q⟩:=slot c o (I.cne x c e) hc nch ho (I.qQ x c e);exact⟨_,q,hd⟩
  ·exact⟨o,keep c o (I.cne x c e) hc nch ho (I.qQ x c e),hd⟩
 refine⟨I.ok,I.os,hg,⟨λb o e n hb hx=>?_,λb o e n hb hx=>?_,λb o e n hx=>?_,λb o e hx=>?_,λb xs e=>tups b xs (I.base.tups b xs e),λb o xs e=>DK b o xs (I.base.DK b o xs e),λb ps e=>?_⟩,?_,λx c e=>?_,?_,λx c e=>?_,λp hp=>?_,hok,I.len⟩
 ·exact keep b o (neL b o e) hb (neC b o e hx) (I.base.keep b o e n hb hx) (I.base.free b o e n hx)
 ·obtain⟨sl,e1⟩:=I.base.slot b o e n hb hx;obtain⟨sl',e2⟩:=slot b _ (neL b o e) hb (neC b o e hx) e1 (I.base.free b o e n hx);exact⟨sl',e2⟩
 ·obtain⟨o',e1⟩:=I.base.there b o e hx;exact free b o' (neC b o e hx) e1 (I.base.free b o e n hx)
 ·obtain⟨o',e1⟩:=I.base.there b o e hx;exact there b o' (neC b o e hx) e1
 ·obtain⟨m1,e1⟩:=I.base.Fb b ps e;obtain⟨m2,e2⟩:=Fb b _ e1;exact⟨m1++m2,by rw[e2,Array.append_assoc]⟩
 ·obtain⟨m,hn,hl⟩:=I.loc;refine⟨m,ns m hn,λi x v e1 e2 e3=>?_⟩;obtain⟨u,r,l⟩:=hl i x v e1 e2 e3;refine⟨u,r,?_⟩;rcases l with l|⟨k,c,e,z⟩
  ·exact .inl l
  ·exact .inr ⟨k,c,e,cellK x c e _ z⟩
 ·obtain⟨v,z⟩:=I.cell x c e;exact⟨v,cellK x c e v z⟩
 ·obtain⟨m,⟨o,_,_,ho,_⟩,_⟩:=I.loc;exact free _ o (λz=>(hch _ z).2.1 rfl) ho I.free
 ·obtain⟨v,o,ho,hd⟩:=I.cell x c e;exact free c o (λz=>(hch c z).2.2.1 x c e rfl) ho (I.qQ x c e)
 ·obtain⟨e,n,ne,nf,d⟩:=I.pin p hp;have nch:p.1 ∉ ch:=λz=>(hch p.1 z).2.2.2 p hp rfl;exact⟨keep p.1 p.2 ne nf nch e n,free p.1 p.2 nch e n,ne,nf,d⟩
theorem Inv.un{t':Nat}(I:Inv X pins σ H s)(u:Un X.fs [] H H' s.heap h')(hok:vq X.prog X.w H' h'):Inv X pins σ H' { s with heap:=h',toks:=t' }:=by
 obtain⟨m,⟨o,es,ep,ho,r⟩,_⟩:=id I.loc;obtain⟨sl,hL⟩:=u.any ho I.free (by simp);exact I.step (g':=s.gens) (d':=s.drawn) (ch:=[]) (λ_ z=>nomatch z) (λb o _ hb _ e n=>u.keep b o e n hb (by simp)) (λb o _ hb _ e n=>u.slot b o e n hb (by simp)) (λb o _ e n=>u.free b o e n (by simp)) (λb o _ e=>u.there b o e (by simp)) u.tups u.DK u.Fb (λm' hm=>by
  obtain⟨o',es',ep',ho',r'⟩:=hm;rw[ho] at ho';cases ho';exact⟨_,es',ep',hL,r'⟩) hok I.bare
theorem Inv.call{g':Array GenState}{t':Nat}{d':Drawn}{ch:List Addr}(I:Inv X pins σ H s)(u:Un (frs X.stack) ch H H' s.heap h')(hok:vq X.prog X.w H' h')(hg:AllBare g')
  (hch:∀b∈ch,(b∈X.ex\/X.s₀.heap.objs.size<=b)/\b≠X.env.locals/\(∀x c,X.env.cells.lookup x=some c->c≠b)/\∀p∈X.pn++pins,p.1≠b) :
  Inv X pins σ H' { s with heap:=h',gens:=g',drawn:=d',toks:=t' }:=by
 obtain⟨m,⟨o,es,ep,ho,r⟩,_⟩:=id I.loc;obtain⟨sl,hL⟩:=u.any ho I.free λz=>(hch _ z).2.1 rfl;exact I.step (ch:=ch) hch (λb o hL hb hc e n=>u.keep b o e n (λz=>(List.mem_cons.mp (I.Iw b z)).elim hL hb) hc) (λb o _ _ hc e n=>u.any e n hc) (λb o hc e n=>u.free b o e n hc) (λb o hc e=>u.there b o e hc) u.tups u.DK u.Fb (λm' hm=>by
  obtain⟨o',es',ep',ho',r'⟩:=hm;rw[ho] at ho';cases ho';exact⟨_,es',ep',hL,r'⟩) hok hg
theorem Inv.turned{t':Nat}{it:Addr}(I:Inv X pins σ H s)(k:∀b o,b≠it->s.heap.get? b=some o->h'.get? b=some o)(hn:H it=none)(hL:it≠X.env.locals)
  (h1:it∈X.ex\/X.s₀.heap.objs.size<=it) (h2:∀x c,X.env.cells.lookup x=some c->c≠it) (h3:∀p∈X.pn++pins,p.1≠it):Inv X pins σ H { s with heap:=h',toks:=t' }:=by
 have Yv:∀b u,H b=some u->b≠it:=λb u e z=>by rw[z,hn] at e;cases e
 refine I.step (g':=s.gens) (d':=s.drawn) (ch:=[it]) (λb hb=>?_) (λb o _ _ hc e _=>k b o (λz=>hc (by simp[z])) e) (λb o _ _ hc e _=>⟨o.slots,k b o (λz=>hc (by simp[z])) e⟩) (λ_ _ _ _ n=>n)
  (λb o hc e=>⟨o,k b o (λz=>hc (by simp[z])) e⟩) (λ_ _ e=>e) (λ_ _ _ e=>e) (λb ps e=>⟨#[],by rw[e];simp⟩) (λm hm=>?_) (λb u e=>?_) I.bare
 ·have e:b=it:=by simpa using hb
  subst e;exact⟨h1,hL,h2,h3⟩
 ·obtain⟨o,es,ep,ho,r⟩:=hm;exact⟨o,es,ep,k _ o (Ne.symm hL) ho,r⟩
 ·refine(I.hok b u e).stay (λc v hc q=>k c v ?_ q) (λ_ q=>q) λ_ _ q=>q;rcases hc with z|z
  ·rw[z];exact Yv b u e
  ·exact Yv c _ z
theorem Inv.tok(I:Inv X pins σ H s)(t:Nat):Inv X pins σ H { s with toks:=t }:=I.un (h':=s.heap) (t':=t) Un.refl I.hok
theorem Inv.kept{t':Nat}(I:Inv X pins σ H s)(k:∀b u,s.heap.get? b=some u->h'.get? b=some u):Inv X pins σ H { s with heap:=h',toks:=t' }:=I.un (Un.kept k) (I.hok.kept k)
theorem Inv.laid{a:Addr}{o:HO}{t':Nat}(I:Inv X pins σ H s)(k:∀b u,s.heap.get? b=some u->h'.get? b=some u)(hp:s.heap.objs.size<=a)(new:gP X.prog X.w (upd H a o) h' a o) :
  Inv X pins σ (upd H a o) { s with heap:=h',toks:=t' }:=I.un (Un.laid k hp (I.hok.fresh hp)) (I.hok.laid k hp new)
theorem Inv.write{x e:Addr}{o:HO}{t':Nat}(I:Inv X pins σ H s)(mu:Mut (H x))(he:e=x\/H e=some (.own x))(k:∀b u,b≠e->s.heap.get? b=some u->h'.get? b=some u)(heo:∃u,h'.get? e=some u)
  (new:gP X.prog X.w (upd H x o) h' x o):Inv X pins σ (upd H x o) { s with heap:=h',toks:=t' }:=I.un (Un.write mu he k heo) (I.hok.write mu he k heo new)
theorem Inv.KY{Yp:List (Addr×Obj)}(I:Inv X pins σ H s)(h:∀p∈Yp,s.heap.get? p.1=some p.2/\H p.1=none/\p.1≠X.env.locals/\p.1 ∉ X.fs/\∀v,p.2.data ≠ .cell v):Inv X Yp σ H s:=
 ⟨I.ok,I.os,I.bare,I.base,I.loc,I.cell,I.free,I.qQ,λp hp=>(List.mem_append.mp hp).elim (λz=>I.pin p (List.mem_append_left _ z)) (h p),I.hok,I.len⟩
theorem Gn{N:List Str}(hN:N.Nodup){i j:Nat}{x:Str}(a:N[i]? = some x)(b:N[j]? = some x):i=j:=by obtain⟨h1,e1⟩:=List.getElem?_eq_some_iff.mp a;obtain⟨h2,e2⟩:=List.getElem?_eq_some_iff.mp b;exact(List.getElem_inj hN).mp (e1.trans e2.symm)
theorem vH{M:Model}{A:Around}{E:Value->Shared->Prop}{i:Nat}{x:Str}{v:V}{u:Value}{Q:Unit->Shared->Prop}(I:Inv X pins σ H s)(hN:X.N.Nodup)(hi:X.N[i]? = some x)(hx:Loc X.env.scope x)(r:RelV v u)
  (h:∀s',Inv X pins (σ.set i (some v)) H s'->(∃a,Heap.SameBut a s.heap s'.heap/\(a=X.env.locals\/X.env.cells.lookup x=some a))->Q () s') (hf:X.fn x=true\/X.env.scope.names.lookup x=some .local:=by first|exact .inl rfl|exact .inr rfl|assumption):wpAny M A (storeName X.env x u) Q E s:=by
 obtain⟨m,hn,hl⟩:=id I.loc;have hcls:(X.env.scope.kind == .class||(X.env.scope.kind == .module&&X.env.locals != X.env.globals))=false:=by rw[I.ok.kind];rfl
 have hiσ:i<σ.length:=by rw[I.len];exact(List.getElem?_eq_some_iff.mp hi).1
 have cne:=I.cne;have tracked:∀{a:Addr} {h':Heap},(∃o,s.heap.get? a=some o/\H a=none)->Heap.SameBut a s.heap h'->vq X.prog X.w H h':=λ{a h'} ha hs b ob e=>by
  obtain⟨_,_,hfree⟩:=ha;refine(I.hok b ob e).stay (λc w' hc q=>(hs.2 c ?_).trans q) (λ_ q=>q) λ_ _ q=>q;rintro rfl;rcases hc with rfl|hc
  ·rw[hfree] at e;cases e
  ·rw[hfree] at hc;cases hc
 rcases hx with hk|hk
 ·refine wpAny_storeName_local hk hn (λh' hn' hs=>?_) hcls;obtain⟨oL,_,_,hoL,_⟩:=id hn;refine h _ ⟨I.ok,I.os,I.bare,⟨λb o e n hb hx=>?_,λb o e n hb hx=>?_,I.base.free,λb o e hx=>?_,I.base.tups,I.base.DK,I.base.Fb⟩,⟨_,hn',λj y v' e1 e2 e3=>?_⟩,λy c e=>?_,I.free,I.qQ,λp hp=>?_,tracked ⟨oL,hoL,I.free⟩ hs,by simpa using I.len⟩ ⟨_,hs,.inl rfl⟩
  ·exact(hs.2 b (Nat.ne_of_lt (Nat.lt_of_lt_of_le (Heap.lt_size e) I.ok.above))).trans (I.base.keep b o e n hb hx)
  ·obtain⟨sl,e1⟩:=I.base.slot b o e n hb hx;exact⟨sl,(hs.2 b (Nat.ne_of_lt (Nat.lt_of_lt_of_le (Heap.lt_size e) I.ok.above))).trans e1⟩
  ·obtain⟨o',e1⟩:=I.base.there b o e hx;exact⟨o',(hs.2 b (Nat.ne_of_lt (Nat.lt_of_lt_of_le (Heap.lt_size e) I.ok.above))).trans e1⟩
  ·by_cases hj:j=i
   ·subst hj;rw[hi] at e1;cases e1;rw[List.getElem?_set_self hiσ] at e2;cases e2;exact⟨u,r,.inl ⟨hk,by simp⟩⟩
   ·rw[List.getElem?_set_ne (Ne.symm hj)] at e2;obtain⟨u',r',q⟩:=hl j y v' e1 e2 e3;refine⟨u',r',?_⟩;rcases q with ⟨k,e⟩|⟨k,c,e,z⟩
    ·refine .inl ⟨k,?_⟩;have:y≠x:=λe=>hj (Gn hN e1 (e ▸ hi));simp[this,e]
    ·exact .inr ⟨k,c,e,z.sameBut hs (cne y c e)⟩
  ·obtain⟨w',z⟩:=I.cell y c e;exact⟨w',z.sameBut hs (cne y c e)⟩
  ·obtain⟨e,n,ne,nf,d⟩:=I.pin p hp;exact⟨(hs.2 p.1 ne).trans e,n,ne,nf,d⟩
 ·have hfn:X.fn x=true:=by
   rcases hf with z|z
   ·exact z
   ·rw[z] at hk;cases hk
  obtain⟨c,hc⟩:=I.ok.has x (.inl hk);obtain⟨w',z⟩:=I.cell x c hc;refine wpAny_storeName_cell I.ok.kind hk hc z (λh' hc' hs=>?_);obtain⟨oc,hoc,agy⟩:=id z;refine h { s with heap:=h' } ⟨I.ok,I.os,I.bare,⟨λb o e n hb hx=>?_,λb o e n hb hx=>?_,I.base.free,λb o e hx=>?_,I.base.tups,I.base.DK,I.base.Fb⟩,⟨m,hn.sameBut hs (Ne.symm (cne x c hc)),λj y v' e1 e2 e3=>?_⟩,λy c' e=>?_,I.free,I.qQ,λp hp=>?_,tracked ⟨oc,hoc,I.qQ x c hc⟩ hs,by simpa using I.len⟩ ⟨c,hs,.inr hc⟩
  ·exact(hs.2 b (Nat.ne_of_lt (Nat.lt_of_lt_of_le (Heap.lt_size e) (I.ok.cab x c hfn hc)))).trans (I.base.keep b o e n hb hx)
  ·obtain⟨sl,e1⟩:=I.base.slot b o e n hb hx;exact⟨sl,(hs.2 b (Nat.ne_of_lt (Nat.lt_of_lt_of_le (Heap.lt_size e) (I.ok.cab x c hfn hc)))).trans e1⟩
  ·obtain⟨o',e1⟩:=I.base.there b o e hx;exact⟨o',(hs.2 b (Nat.ne_of_lt (Nat.lt_of_lt_of_le (Heap.lt_size e) (I.ok.cab x c hfn hc)))).trans e1⟩
  ·by_cases hj:j=i
   ·subst hj;rw[hi] at e1;cases e1;rw[List.getElem?_set_self hiσ] at e2;cases e2;exact⟨u,r,.inr ⟨.inl hk,c,hc,hc'⟩⟩
   ·rw[List.getElem?_set_ne (Ne.symm hj)] at e2;obtain⟨u',r',q⟩:=hl j y v' e1 e2 e3;refine⟨u',r',?_⟩;rcases q with q|⟨k,c',e,z'⟩
    ·exact .inl q
    ·refine .inr ⟨k,c',e,z'.sameBut hs ?_⟩;rintro rfl;exact hj (Gn hN e1 (I.ok.inj _ _ _ e hc ▸ hi))
  ·by_cases hcc:c'=c
   ·subst hcc;exact⟨_,hc'⟩
   ·obtain⟨w2,z2⟩:=I.cell y c' e;exact⟨w2,z2.sameBut hs hcc⟩
  ·obtain⟨e,n,ne,nf,d⟩:=I.pin p hp;refine⟨(hs.2 p.1 ?_).trans e,n,ne,nf,d⟩;intro q;rw[q,hoc] at e;have q':oc=p.2:=Option.some.inj e;exact d w' (by rw[<-q'];exact agy)
theorem Fo{M:Model}{A:Around}{E:Value->Shared->Prop}{i:Nat}{x:Str}{v:V}{u:Value}{Q:Unit->Shared->Prop}(I:Inv X pins σ H s)(hN:X.N.Nodup)(hi:X.N[i]? = some x)(hx:Loc X.env.scope x)(r:RelV v u)
  (h:∀s',Inv X pins (σ.set i (some v)) H s'->Q () s') (hf:X.fn x=true\/X.env.scope.names.lookup x=some .local:=by first|exact .inl rfl|exact .inr rfl|assumption):wpAny M A (storeName X.env x u) Q E s:=
 vH I hN hi hx r (λs' I' _=>h s' I') hf
theorem Inv.call'{s':Shared}{ch:List Addr}(I:Inv X pins σ H s)(ho:s'.os=s.os)(u:Un (frs X.stack) ch H H' s.heap s'.heap)(hok:vq X.prog X.w H' s'.heap)(hg:AllBare s'.gens)
  (hch:∀b∈ch,(b∈X.ex\/X.s₀.heap.objs.size<=b)/\b≠X.env.locals/\(∀x c,X.env.cells.lookup x=some c->c≠b)/\∀p∈X.pn++pins,p.1≠b):Inv X pins σ H' s':=by
 obtain⟨h',g',d',t',o'⟩:=s';have e:o'=s.os:=ho;subst e;exact I.call (g':=g') (t':=t') (d':=d') u hok hg hch
end
abbrev XK:=Value->Option Addr->Hp->Prop
abbrev St:=List (Option V)
abbrev VK:=V->Hp->Prop
abbrev TE:=St->Hp->VK->Prop
abbrev TT:=St->Hp->(Bool->Hp->Prop)->Prop
abbrev TA:=St->Hp->(List V->Hp->Prop)->Prop
structure Ends where
 nx:St->Hp->Prop
 rt:VK
 bk:St->Hp->Prop:=λ_ _=>False
 ct:St->Hp->Prop:=λ_ _=>False
abbrev TS:=Ends->St->Hp->Prop
def EP(X:Cx)(pins:List (Addr×Obj))(σ:St)(Q:VK)(u:Value)(s':Shared):Prop:=∃v H',Inv X pins σ H' s'/\RelV v u/\Q v H'
def TP(X:Cx)(pins:List (Addr×Obj))(σ:St)(Q:Bool->Hp->Prop)(b:Bool)(s':Shared):Prop:=∃H',Inv X pins σ H' s'/\Q b H'
def AP(X:Cx)(pins:List (Addr×Obj))(σ:St)(Q:List V->Hp->Prop)(us:List Value)(s':Shared):Prop:=∃vs H',Inv X pins σ H' s'/\Vals vs us/\Q vs H'
def SP(X:Cx)(pins:List (Addr×Obj))(D:Ends)(f:Flow)(s':Shared):Prop:=
 match f with
 | .next=>∃σ' H',Inv X pins σ' H' s'/\D.nx σ' H'
 | .brk=>∃σ' H',Inv X pins σ' H' s'/\D.bk σ' H'
 | .cont=>∃σ' H',Inv X pins σ' H' s'/\D.ct σ' H'
 | .ret u=>∃v σ' H',Inv X pins σ' H' s'/\RelV v u/\D.rt v H'
def PE(X:Cx)(e:Expr)(t:TE):Prop:=
 ∀(pins:List (Addr×Obj)) (s:Shared) (σ:St) (H:Hp) (Q:VK),Inv X pins σ H s->t σ H Q->wpAny (model X.prog X.w) X.A (eval e X.env) (EP X pins σ Q) X.xe s
def PT(X:Cx)(e:Expr)(t:TT):Prop:=
 ∀(pins:List (Addr×Obj)) (s:Shared) (σ:St) (H:Hp) (Q:Bool->Hp->Prop),Inv X pins σ H s->t σ H Q->wpAny (model X.prog X.w) X.A (isTrue e X.env (eval e X.env)) (TP X pins σ Q) X.xe s
def PW(X:Cx)(e:Expr)(t:TT):Prop:=
 ∀(whole:Sem Value) (pins:List (Addr×Obj)) (s:Shared) (σ:St) (H:Hp) (Q:Bool->Hp->Prop),Inv X pins σ H s->t σ H Q->wpAny (model X.prog X.w) X.A (isTrue e X.env whole) (TP X pins σ Q) X.xe s
theorem PW.pt{X:Cx}{e:Expr}{t:TT}(h:PW X e t):PT X e t:=h _
def PA(X:Cx)(es:List Expr)(t:TA):Prop:=
 ∀(pos:Pos) (pins:List (Addr×Obj)) (s:Shared) (σ:St) (H:Hp) (Q:List V->Hp->Prop),Inv X pins σ H s->t σ H Q->wpAny (model X.prog X.w) X.A (spliced (backTo pos (starEach es X.env))) (AP X pins σ Q) X.xe s
def PS(X:Cx)(st:Stmt)(t:TS):Prop:=
 ∀(pins:List (Addr×Obj)) (s:Shared) (σ:St) (H:Hp) (D:Ends),Inv X pins σ H s->t D σ H->wpAny (model X.prog X.w) X.A (exec st X.env) (SP X pins D) X.xe s
def HH(X:Cx)(st:List Stmt)(t:TS):Prop:=
 ∀(pins:List (Addr×Obj)) (s:Shared) (σ:St) (H:Hp) (D:Ends),Inv X pins σ H s->t D σ H->wpAny (model X.prog X.w) X.A (execs st X.env) (SP X pins D) X.xe s
theorem gG{α:Type}{t:Sem α}{Q Q':α->Shared->Prop}{M:Model}{A:Around}{E:Value->Shared->Prop}{s:Shared}(h:wpAny M A t Q E s)(hQ:∀a s,Q a s->Q' a s):wpAny M A t Q' E s:=wpAny_mono h hQ λ_ _ x=>x
section
variable{X:Cx}
def acZ(i:Nat):TE:=λσ H Q=>∃v,σ[i]? = some (some v)/\Q v H
def tC(v:V):TE:=λ_ H Q=>Q v H
theorem lN{i:Nat}{x:Str}{pos:Pos}(hN:X.N[i]? = some x)(hv:rn X.env.scope x)(hd:j9 x:=by decide)(hcd:rF x:=by decide):PE X (.Name x pos) (acZ i):=by
 intro pins s σ H Q I h;obtain⟨v,e,h⟩:=h;obtain⟨m,hn,hl⟩:=I.loc;obtain⟨u,r,l⟩:=hl i x v hN e hv;have fin:EP X pins σ Q u s:=⟨v,H,I,r,h⟩;rcases l with ⟨hk,hm⟩|⟨hk,c,hc,hcell⟩
 ·exact wpAny_Name (wpAny_loadName_local I.ok.kind hk hn hm fin) hd
 ·rcases hk with hk|hk
  ·exact wpAny_Name (wpAny_loadName_cell I.ok.kind hk hc hcell fin) hd
  ·exact wpAny_Name (wpAny_loadName_free I.ok.kind hk hc hcell fin hcd) hd
theorem Js{i j pos}:PE X (.Constant (.int i) j pos) (tC (.int i)):=λ_ _ _ H _ I h=>wpAny_Constant_int ⟨.int i,H,I.tok _,⟨_,rfl⟩,h⟩
theorem adN{b j pos}:PE X (.Constant (.bool b) j pos) (tC (.bl b)):=λ_ _ _ H _ I h=>Constant_bool ⟨.bl b,H,I,rfl,h⟩
theorem Z7{j pos}:PE X (.Constant .none j pos) (tC .non):=λ_ _ _ H _ I h=>Constant_none ⟨.non,H,I,rfl,h⟩
theorem Z3{x j pos}:PE X (.Constant (.str x) j pos) (tC (.str x)):=λ_ _ _ H _ I h=>Calls.Constant_str ⟨.str x,H,I.tok _,⟨_,rfl⟩,h⟩
def Gl(X:Cx)(x:Str):Prop:=X.env.kindOf x=some .globalImplicit
theorem K9{E:Value->Shared->Prop}{pins:List (Addr×Obj)}{s:Shared}{σ:St}{H:Hp}{x:Str}{u:Value}{pos:Pos}{Q:Value->Shared->Prop}(I:Inv X pins σ H s)(hg:Gl X x)(hm:X.mg x=some u)(h:Q u s)
  (hd:j9 x:=by decide):wpAny (model X.prog X.w) X.A (eval (.Name x pos) X.env) Q E s:=
 Calls.Name_function_global I.ok.kind hg (Calls.loadGlobal_global (by rw[I.ok.glob];exact I.mod.glob.keeps I.bk) hm h) hd
theorem tZ{E:Value->Shared->Prop}{pins:List (Addr×Obj)}{s:Shared}{σ:St}{H:Hp}{x:Str}{u:Value}{pos:Pos}{Q:Value->Shared->Prop}(I:Inv X pins σ H s)(hg:Gl X x)(hm:X.mg x=none)(hv:bootBuiltins x=some u)(h:Q u s)
  (hn:x ≠ "__name__":=by decide) (hd:j9 x:=by decide):wpAny (model X.prog X.w) X.A (eval (.Name x pos) X.env) Q E s:=by
 obtain⟨mb,h1,h2⟩:=I.mod.blt;exact Calls.Name_function_global I.ok.kind hg (Calls.loadGlobal_builtin (by rw[I.ok.glob];exact I.mod.glob.keeps I.bk) hm (by rw[I.ok.blt];exact h1.keeps I.bk) ((h2 x hn).trans hv) h) hd
theorem VR{x:Str}{v:V}{u:Value}{pos:Pos}(hg:Gl X x)(hm:X.mg x=some u)(r:RelV v u)(hd:j9 x:=by decide):PE X (.Name x pos) (tC v):=
 λ_ _ _ H _ I h=>K9 I hg hm ⟨v,H,I,r,h⟩ hd
theorem V0{x:Str}{v:V}{u:Value}{pos:Pos}(hg:Gl X x)(hm:X.mg x=none)(hv:bootBuiltins x=some u)(r:RelV v u)(hn:x ≠ "__name__":=by decide)(hd:j9 x:=by decide):PE X (.Name x pos) (tC v):=
 λ_ _ _ H _ I h=>tZ I hg hm hv ⟨v,H,I,r,h⟩ hn hd
variable{a b:Expr}{ta tb:TE}{pos:Pos}
def tB(t:TE):TT:=λσ H Q=>t σ H λx H1=>∃c,x = .bl c/\Q c H1
theorem ZS{e:Expr}{t:TE}(h:PE X e t)(he:∀whole,isTrue e X.env whole=(do let v <-whole;standAt e.pos;holding [v] (truthy v)):=by intro _;rfl):PT X e (tB t):=by intro pins s σ H Q I hw;refine isTrue_plain (gG (h pins s σ H _ I hw) λv s1 ⟨x,H1,I1,r1,q1⟩=>?_) (he _);obtain⟨d,rfl,q⟩:=q1;cases r1;exact wpAny_truthy_bool ⟨H1,I1,q⟩
variable{tA tB':TT}{rest:List Expr}
def af4(t u:TT):TT:=λσ H Q=>t σ H λc H1=>if c=true then u σ H1 Q else Q false H1
def tOr(t u:TT):TT:=λσ H Q=>t σ H λc H1=>if c=true then Q true H1 else u σ H1 Q
def afX(t:TT):TT:=λσ H Q=>t σ H λc H1=>Q (!c) H1
theorem pw_and1(ha:PT X a tA):PW X (.BoolOp .And [a] pos) tA:=by
 intro wh pins s σ H Q I h;refine isTrue_and (gG (ha pins s σ H Q I h) λc s1 e=>?_);cases c with
 | true=>exact isTrue_and_nil e
 | false=>exact e
theorem pw_or1(ha:PT X a tA):PW X (.BoolOp .Or [a] pos) tA:=by
 intro wh pins s σ H Q I h;refine isTrue_or (gG (ha pins s σ H Q I h) λc s1 e=>?_);cases c with
 | false=>exact isTrue_or_nil e
 | true=>exact e
theorem pw_and(ha:PT X a tA)(hb:PW X (.BoolOp .And (b::rest) pos) tB'):PW X (.BoolOp .And (a::b::rest) pos) (af4 tA tB'):=by
 intro wh pins s σ H Q I h;refine isTrue_and (gG (ha pins s σ H _ I h) λc s1 ⟨H1,I1,q1⟩=>?_);cases c with
 | true=>exact hb wh pins s1 σ H1 Q I1 q1
 | false=>exact⟨H1,I1,q1⟩
theorem pw_or(ha:PT X a tA)(hb:PW X (.BoolOp .Or (b::rest) pos) tB'):PW X (.BoolOp .Or (a::b::rest) pos) (tOr tA tB'):=by
 intro wh pins s σ H Q I h;refine isTrue_or (gG (ha pins s σ H _ I h) λc s1 ⟨H1,I1,q1⟩=>?_);cases c with
 | true=>exact⟨H1,I1,q1⟩
 | false=>exact hb wh pins s1 σ H1 Q I1 q1
theorem ZV(ha:PT X a tA):PT X (.UnaryOp .Not a pos) (afX tA):=by intro pins s σ H Q I h;exact isTrue_not (ha pins s σ H (λc H1=>Q (!c) H1) I h)
def afW(ta tb:TE):TE:=λσ H Q=>ta σ H λx H1=>∃c,x = .bl c/\if c=true then Q (.bl true) H1 else tb σ H1 Q
def ac3(ta:TE):TE:=λσ H Q=>ta σ H λx H1=>∃c,x = .bl c/\Q (.bl (!c)) H1
theorem Z5{op}{t:TE}(h:PE X a t):PE X (.BoolOp op [a] pos) t:=λpins s σ H Q I hw=>BoolOp_one (h pins s σ H Q I hw)
theorem adL(ha:PE X a ta)(hb:PE X (.BoolOp .Or (b::rest) pos) tb):PE X (.BoolOp .Or (a::b::rest) pos) (afW ta tb):=by
 intro pins s σ H Q I h;refine BoolOp_or (gG (ha pins s σ H _ I h) λv s1 ⟨x,H1,I1,r1,q1⟩=>?_);obtain⟨c,rfl,q1⟩:=q1;cases r1;refine wpAny_truthy_bool ?_;cases c with
 | false=>exact hb pins s1 σ H1 Q I1 q1
 | true=>exact⟨.bl true,H1,I1,rfl,q1⟩
theorem Z6(ha:PE X a ta):PE X (.UnaryOp .Not a pos) (ac3 ta):=by intro pins s σ H Q I h;refine UnaryOp_ (gG (ha pins s σ H _ I h) λv s1 ⟨x,H1,I1,r1,q1⟩=>?_);obtain⟨c,rfl,q1⟩:=q1;cases r1;exact not_of (wpAny_truthy_bool ⟨.bl (!c),H1,I1,rfl,q1⟩)
end
def jT(K:PySem.W.Frag)(H:Hp)(a:Addr)(xs:List V):Prop:=
 Rd H a (.lst xs)\/
  ∃(o:Obj) (its:Array Value) (n:Nat),K.lookup a=some o/\o.cls = .type "list"/\o.dict=none/\o.data = .seq its n/\its.size<=sizeLine/\Vals xs its.toList
def nG(K:PySem.W.Frag)(H:Hp)(a:Addr)(xs:List V):Prop:=
 Rd H a (.tup xs)\/
  ∃(o:Obj) (its:Array Value) (n:Nat),K.lookup a=some o/\o.cls = .type "tuple"/\o.dict=none/\o.data = .seq its n/\its.size<=sizeLine/\Vals xs its.toList
def ag2:Value->Option V
 | .none=>some .non
 | .bool b=>some (.bl b)
 | .int i _=>some (.int i)
 | .str x _=>some (.str x)
 | .bytes b _=>some (.byt b)
 | .float b _=>some (.flt b)
 | .ref a=>some (.ref a)
 | .type n=>some (.ty n)
 | _=>none
theorem RelV.abs{x:V}{u:Value}(r:RelV x u):ag2 u=some x:=by
 cases x with
 | non=>cases r;rfl
 | bl _=>cases r;rfl
 | int _=>obtain⟨t,rfl⟩:=r;rfl
 | str _=>obtain⟨t,rfl⟩:=r;rfl
 | byt _=>obtain⟨t,rfl⟩:=r;rfl
 | flt _=>obtain⟨t,rfl⟩:=r;rfl
 | ref _=>cases r;rfl
 | ty _=>cases r;rfl
theorem RelV.inj{x y:V}{u:Value}(r:RelV x u)(q:RelV y u):x=y:=Option.some.inj (r.abs.symm.trans q.abs)
theorem Vals.inj:∀{xs ys:List V} {us:List Value},Vals xs us->Vals ys us->xs=ys
 | _,_,_,.nil,.nil=>rfl
 | _,_,_,.cons r t,.cons r' t'=>by rw[r.inj r',Vals.inj t t']
section
variable{X:Cx}{pins:List (Addr×Obj)}{σ:St}{H:Hp}{s:Shared}{a:Addr}{xs ys:List V}
theorem jT.of{K:PySem.W.Frag}(h:H a=some (.lst xs)):jT K H a xs:=.inl (.inl h)
theorem nG.of{K:PySem.W.Frag}(h:H a=some (.tup xs)):nG K H a xs:=.inl (.inl h)
theorem Inv.list(I:Inv X pins σ H s)(h:jT X.K H a xs):∃its:List Value,Vals xs its/\PlainL s.heap a its.toArray/\xs.length<=sizeLine:=by
 rcases h with h|⟨o,its,n,hk,hc,hd,hs,hz,r⟩
 ·obtain⟨z,its,n,r,e⟩:=h.ok I.hok;exact⟨its,r,⟨_,n,e,rfl,rfl,rfl⟩,z⟩
 ·refine⟨its.toList,r,⟨o,n,I.YB a o hk,hc,hd,by simpa using hs⟩,?_⟩;have e:=r.length;simp only[Array.length_toList] at e;omega
theorem Inv.tuple(I:Inv X pins σ H s)(h:nG X.K H a xs):∃its:List Value,Vals xs its/\IsTup s.heap a its.toArray/\xs.length<=sizeLine:=by
 rcases h with h|⟨o,its,n,hk,hc,hdn,hs,hz,r⟩
 ·obtain⟨z,its,r,p⟩:=h.ok I.hok;exact⟨its,r,p.is,z⟩
 ·refine⟨its.toList,r,⟨o,I.YB a o hk,hc,n,by simpa using hs⟩,?_⟩;have e:=r.length;simp only[Array.length_toList] at e;omega
theorem Inv.yZ(I:Inv X pins σ H s)(h:jT X.K H a xs)(h':jT X.K H a ys):xs=ys:=by
 obtain⟨its,r,⟨o,n,e,_,_,d⟩,_⟩:=I.list h;obtain⟨its',r',⟨o',n',e',_,_,d'⟩,_⟩:=I.list h';rw[e] at e';cases e';rw[d] at d';injection d' with d1 _
 have:its=its':=by simpa using congrArg Array.toList d1
 subst this;exact r.inj r'
theorem Inv.Mt(I:Inv X pins σ H s)(h:nG X.K H a xs)(h':nG X.K H a ys):xs=ys:=by
 obtain⟨its,r,⟨o,e,_,n,d⟩,_⟩:=I.tuple h;obtain⟨its',r',⟨o',e',_,n',d'⟩,_⟩:=I.tuple h';rw[e] at e';cases e';rw[d] at d';injection d' with d1 _
 have:its=its':=by simpa using congrArg Array.toList d1
 subst this;exact r.inj r'
end
abbrev Cx.wish(X:Cx)(E:Value->Shared->Prop):Cx:={ X with xe:=E }
abbrev Cx.nox(X:Cx):Cx:=X.wish λ_ _=>False
theorem Cx.Ok.wish{X:Cx}(ok:X.Ok)(E:Value->Shared->Prop):(X.wish E).Ok:=
 ⟨ok.mod,ok.kind,ok.glob,ok.blt,ok.above,ok.inj,ok.has,ok.cab,ok.hd,ok.frames,ok.Ul,ok.exf,ok.bs,ok.YM,ok.Rj,ok.Oj,ok.zg,ok.frf⟩
theorem Cx.Ok.qm{X:Cx}{E:Value->Shared->Prop}(ok:(X.wish E).Ok):X.Ok:=
 ⟨ok.mod,ok.kind,ok.glob,ok.blt,ok.above,ok.inj,ok.has,ok.cab,ok.hd,ok.frames,ok.Ul,ok.exf,ok.bs,ok.YM,ok.Rj,ok.Oj,ok.zg,ok.frf⟩
section
variable{X:Cx}{pins:List (Addr×Obj)}{σ:St}{H:Hp}{s:Shared}{E:Value->Shared->Prop}
theorem Inv.wish(I:Inv X pins σ H s)(E:Value->Shared->Prop):Inv (X.wish E) pins σ H s:=⟨I.ok.wish E,I.os,I.bare,I.base,I.loc,I.cell,I.free,I.qQ,I.pin,I.hok,I.len⟩
theorem Inv.qm(I:Inv (X.wish E) pins σ H s):Inv X pins σ H s:=⟨I.ok.qm,I.os,I.bare,I.base,I.loc,I.cell,I.free,I.qQ,I.pin,I.hok,I.len⟩
theorem SP.qm{D:Ends}{f:Flow}{s':Shared}(h:SP (X.wish E) pins D f s'):SP X pins D f s':=by
 cases f with
 | next=>obtain⟨σ',H',I,q⟩:=h;exact⟨σ',H',I.qm,q⟩
 | brk=>obtain⟨σ',H',I,q⟩:=h;exact⟨σ',H',I.qm,q⟩
 | cont=>obtain⟨σ',H',I,q⟩:=h;exact⟨σ',H',I.qm,q⟩
 | ret u=>obtain⟨v,σ',H',I,r,q⟩:=h;exact⟨v,σ',H',I.qm,r,q⟩
theorem HH.nox{st:List Stmt}{t:TS}(h:HH X.nox st t):HH X st t:=λpins s σ H D I hw=>
 wpAny_mono (h pins s σ H D (I.wish _) hw) (λ_ _ q=>q.qm) λ_ _ z=>False.elim z
end
section
variable{X:Cx}{st:Stmt}{rest:List Stmt}{t u:TS}{e:Expr}{te:TE}{pos:Pos}
def ac4:TS:=λD σ H=>D.nx σ H
def afS(t u:TS):TS:=λD σ H=>t { D with nx:=u D } σ H
theorem Vy:HH X [] ac4:=λ_ _ σ H _ I h=>wpAny_execs_nil ⟨σ,H,I,h⟩
theorem QK(h1:PS X st t)(h2:HH X rest u):HH X (st::rest) (afS t u):=by
 intro pins s σ H D I h;refine wpAny_execs_cons (gG (h1 pins s σ H { D with nx:=u D } I h) λf s1 q=>?_);cases f with
 | next=>
  obtain⟨σ',H',I',q⟩:=q;exact h2 pins s1 σ' H' D I' q
 | ret v=>exact q
 | brk=>exact q
 | cont=>exact q
theorem Vx(h1:PS X st t):HH X [st] t:=by
 intro pins s σ H D I h;refine wpAny_execs_cons (gG (h1 pins s σ H D I h) λf s1 q=>?_);cases f with
 | next=>exact wpAny_execs_nil q
 | ret v=>exact q
 | brk=>exact q
 | cont=>exact q
theorem Inv.quiet{pins:List (Addr×Obj)}{σ:St}{H:Hp}{s:Shared}(I:Inv X pins σ H s):interactive X.env=false:=by simp[interactive,I.ok.kind]
def ac6(te:TE):TS:=λD σ H=>te σ H λ_ H1=>D.nx σ H1
theorem KR(he:PE X e te)(hs:swapsWith e none pos.line X.env=pure false:=by rfl):PS X (.Expr e pos) (ac6 te):=by intro pins s σ H D I h;exact wpAny_Expr_any (gG (he pins s σ H _ I h) λv s1 ⟨x,H1,I1,r1,q1⟩=>⟨σ,H1,I1,q1⟩) I.quiet hs
def afU(te:TE):TS:=λD σ H=>te σ H D.rt
theorem QR(he:PE X e te):PS X (.Return (some e) pos) (afU te):=by intro pins s σ H D I h;exact wpAny_Return_some (gG (he pins s σ H _ I h) λv s1 ⟨x,H1,I1,r1,q1⟩=>⟨x,σ,H1,I1,r1,q1⟩)
def af1(c:TT)(t u:TS):TS:=λD σ H=>c σ H λb H1=>if b=true then t D σ H1 else u D σ H1
theorem adK{c:Expr}{a b:List Stmt}{tc:TT}(hc:PT X c tc)(ha:HH X a t)(hb:HH X b u):PS X (.If c a b pos) (af1 tc t u):=by
 intro pins s σ H D I h;refine wpAny_If (gG (hc pins s σ H _ I h) λd s1 ⟨H1,I1,q1⟩=>?_);cases d with
 | true=>exact ha pins s1 σ H1 D I1 q1
 | false=>exact hb pins s1 σ H1 D I1 q1
end
abbrev TG:=V->St->Hp->(St->Hp->Prop)->Prop
abbrev XX:=List V->St->Hp->(St->Hp->Prop)->Prop
def PG(X:Cx)(target:Expr)(t:TG):Prop:=
 ∀(pins:List (Addr×Obj)) (s:Shared) (σ:St) (H:Hp) (v:V) (u:Value) (Q:St->Hp->Prop),Inv X pins σ H s->RelV v u->t v σ H Q->
  wpAny (model X.prog X.w) X.A (assign target X.env u) (λ_ s'=>∃σ' H',Inv X pins σ' H' s'/\Q σ' H') X.xe s
def Y4(X:Cx)(ts:List Expr)(t:XX):Prop:=
 ∀(pins:List (Addr×Obj)) (s:Shared) (σ:St) (H:Hp) (vs:List V) (us:List Value) (Q:St->Hp->Prop),Inv X pins σ H s->Vals vs us->t vs σ H Q->
  wpAny (model X.prog X.w) X.A (assignInOrder ((assignEach ts X.env).map (·.2)) us) (λ_ s'=>∃σ' H',Inv X pins σ' H' s'/\Q σ' H') X.xe s
abbrev pU:=V->V->V->Hp->(Hp->Prop)->Prop
def afo(X:Cx)(t:pU):Prop:=
 ∀(pins:List (Addr×Obj)) (s:Shared) (σ:St) (H:Hp) (o i v:V) (ov iv u:Value) (Q:Hp->Prop),Inv X pins σ H s->RelV o ov->RelV i iv->RelV v u->t o i v H Q->
  wpAny (model X.prog X.w) X.A (setItem ov iv u) (λ_ s'=>∃H',Inv X pins σ H' s'/\Q H') X.xe s
section
variable{X:Cx}{pos:Pos}
def wV(i:Nat):TG:=λv σ H Q=>Q (σ.set i (some v)) H
theorem VN{i:Nat}{x:Str}(hN:X.N.Nodup)(hi:X.N[i]? = some x)(hx:Loc X.env.scope x)(hf:X.fn x=true\/X.env.scope.names.lookup x=some .local:=by first|exact .inl rfl|exact .inr rfl|assumption):PG X (.Name x pos) (wV i):=by intro pins s σ H v u Q I r h;exact wpAny_assign_Name (Fo I hN hi hx r (λs' I'=>⟨_,H,I',h⟩) hf)
def agP:XX:=λvs σ H Q=>vs=[]/\Q σ H
def ae1(t:TG)(u:XX):XX:=λvs σ H Q=>∃v r,vs=v::r/\t v σ H λσ' H'=>u r σ' H' Q
theorem VM:Y4 X [] agP:=by intro pins s σ H vs us Q I r h;obtain⟨e,h⟩:=h;subst e;cases r;exact assignInOrder_nil ⟨σ,H,I,h⟩
theorem QZ{e:Expr}{es:List Expr}{t:TG}{u:XX}(h1:PG X e t)(h2:Y4 X es u)
  (hs:(assignEach (e::es) X.env).map (·.2)=assign e X.env::(assignEach es X.env).map (·.2):=by rfl):Y4 X (e::es) (ae1 t u):=by
 intro pins s σ H vs us Q I r h;obtain⟨v,vr,e1,h⟩:=h;subst e1;cases r with
 | cons r rr=>
  rw[hs];refine assignInOrder_cons (gG (h1 pins s σ H _ _ _ I r h) λ_ s1 ⟨σ1,H1,I1,q1⟩=>?_);exact h2 pins s1 σ1 H1 _ _ Q I1 rr q1
def agO(K:PySem.W.Frag)(n:Nat)(t:XX):TG:=λv σ H Q=>∃a xs,v = .ref a/\nG K H a xs/\xs.length=n/\t xs σ H Q
theorem Z0{es:List Expr}{k:Nat}{t:XX}{n:Nat}(hc:X.calm=true)(h:Y4 X es t)
  (hn:(assignEach es X.env).length=n:=by rfl) (hst:(assignEach es X.env).findIdx? (·.1)=none:=by rfl):PG X (.Tuple es k pos) (agO X.K n t):=by
 intro pins s σ H v u Q I r hw;obtain⟨a,xs,e1,hq,hl,hw⟩:=hw;subst e1;cases r;obtain⟨its,rv,ht,hz⟩:=I.tuple hq;refine assign_Tuple_tuple (I.ok.hd hc) ht (by simp[hn,<-hl,rv.length]) hst λh' hx=>?_;have I1:Inv X pins σ H { s with heap:=h' }:=I.kept (t':=s.toks) λb o e=>hx b o (Nat.ne_of_lt (Heap.lt_size e)) e;exact h pins _ σ H xs _ Q I1 (by simpa using rv) hw
def qM(to ti:TE)(t:pU):TG:=λv σ H Q=>to σ H λo H1=>ti σ H1 λi H2=>t o i v H2 λH3=>Q σ H3
theorem Z1{o i:Expr}{to ti:TE}{t:pU}(ho:PE X o to)(hi:PE X i ti)(hs:afo X t)
  (ha:∀v,assign (.Subscript o i pos) X.env v=(do
   let ov <-holding [v] (eval o X.env)
   let iv <-holding [v,ov] (eval i X.env)
   standAt pos
   holding [v,ov,iv] (setItem ov iv v)
   release [v,ov,iv] []):=by intro _;rfl):PG X (.Subscript o i pos) (qM to ti t):=by
 intro pins s σ H v u Q I r h;rw[ha];refine wpAny_bind (wpAny_holding (gG (ho pins s σ H _ I h) λov s1 ⟨x,H1,I1,r1,q1⟩=>?_));refine wpAny_bind (wpAny_holding (gG (hi pins s1 σ H1 _ I1 q1) λiv s2 ⟨y,H2,I2,r2,q2⟩=>?_));refine wpAny_bind (wpAny_standAt (wpAny_bind (wpAny_holding (gG (hs pins s2 σ H2 x y v ov iv u _ I2 r1 r2 r q2) λ_ s3 ⟨H3,I3,q3⟩=>?_))));exact wpAny_release ⟨σ,H3,I3,q3⟩
def Qc(te:TE)(g:TG):TS:=λD σ H=>te σ H λx H1=>g x σ H1 D.nx
theorem ZX{tg e:Expr}{te:TE}{g:TG}(he:PE X e te)(hg:PG X tg g)(hs:swapsWithSole [tg] e pos.line X.env=pure false:=by rfl)(hw:swappedStores [tg] e X.env=pure none:=by rfl)
  (h1:(assignEach [tg] X.env).map (·.2)=[assign tg X.env]:=by rfl):PS X (.Assign [tg] e pos) (Qc te g):=by
 intro pins s σ H D I h;refine wpAny_Assign_stores (gG (he pins s σ H _ I h) λv s1 ⟨x,H1,I1,r1,q1⟩=>?_) hs hw;rw[h1];exact gG (hg pins s1 σ H1 x v _ I1 r1 q1) λ_ s2 q=>q
theorem QM{i:Nat}{x:Str}{e:Expr}{te:TE}{pos':Pos}(hN:X.N.Nodup)(hi:X.N[i]? = some x)(hx:Loc X.env.scope x)(he:PE X e te)(hs:swapsWith e (some (.Name x pos')) pos.line X.env=pure false:=by rfl)(hf:X.fn x=true\/X.env.scope.names.lookup x=some .local:=by first|exact .inl rfl|exact .inr rfl|assumption) :
  PS X (.Assign [.Name x pos'] e pos) (Qc te (wV i)):=by
 intro pins s σ H D I h;refine wpAny_Assign_Name (gG (he pins s σ H _ I h) λv s1 ⟨y,H1,I1,r1,q1⟩=>?_) hs;exact Fo I1 hN hi hx r1 (λs2 I2=>⟨_,H1,I2,q1⟩) hf
end
structure It where
 go:Nat->Hp->Prop
 Uv:Nat->Hp->V->Hp->Prop
 stop:Nat->Hp->Prop
def pY(X:Cx)(pins:List (Addr×Obj))(H:Hp)(b:Addr):Prop:=
 H b=none/\b≠X.env.locals/\b ∉ X.fs/\(b∈X.ex\/X.s₀.heap.objs.size<=b)/\(∀x c,X.env.cells.lookup x=some c->c≠b)/\∀p∈X.pn++pins,p.1≠b
theorem Inv.SQ{X:Cx}{pins:List (Addr×Obj)}{σ:St}{H H':Hp}{s:Shared}{b:Addr}(I:Inv X pins σ H s)(hb:s.heap.objs.size<=b)(hn:H' b=none):pY X pins H' b:=by
 refine⟨hn,Nat.ne_of_gt (Nat.lt_of_lt_of_le I.lt hb),I.agd hb,.inr (Nat.le_trans I.sz hb),λx c e z=>?_,λp hp z=>?_⟩
 ·obtain⟨v,q⟩:=I.cell x c e;exact absurd (Nat.lt_of_lt_of_le q.lt (by rw[z];exact hb)) (Nat.lt_irrefl _)
 ·exact absurd (Nat.lt_of_lt_of_le (Heap.lt_size (I.pin p hp).1) (by rw[z];exact hb)) (Nat.lt_irrefl _)
structure Turn(P:Program)(w:World)(K:PySem.W.Frag)(tg:Expr)(J:It)(fp:List Addr)(it:Addr)(tn:Nat->Heap->Prop):Prop where
 mem:it∈fp
 obj:∀i h,tn i h->∀b∈fp,∃o,h.get? b=some o/\∀v,o.data ≠ .cell v
 keep:∀i h h',tn i h->(∀b∈fp,∀o,h.get? b=some o->h'.get? b=some o)->tn i h'
 item:∀(X:Cx),X.prog=P->X.w=w->X.K=K->X.calm=true->∀(i:Nat) (pins:List (Addr×Obj)) (s:Shared) (σ:St) (H:Hp) (E:Value->Shared->Prop),Inv X pins σ H s->(∀b∈fp,pY X pins H b)->tn i s.heap->J.go i H->
  wpAny (model P w) X.A (pyNext (.ref it)) (λr s1=>∃u,r=some u/\
   wpAny (model P w) X.A (letOwnedTupleGo tg (.ref it) u) (λ_ s2=>∃x H',Inv X pins σ H' s2/\RelV x u/\J.Uv i H x H'/\tn (i+1) s2.heap/\∀b∈fp,H' b=none) E s1) E s
 done:∀(X:Cx),X.prog=P->X.w=w->X.K=K->X.calm=true->∀(i:Nat) (pins:List (Addr×Obj)) (s:Shared) (σ:St) (H:Hp) (E:Value->Shared->Prop),Inv X pins σ H s->(∀b∈fp,pY X pins H b)->tn i s.heap->J.stop i H->
  wpAny (model P w) X.A (pyNext (.ref it)) (λr s1=>r=none/\Inv X pins σ H s1) E s
 self:∀(A:Around) (i:Nat) (s:Shared) (Q:Value->Shared->Prop) (E:Value->Shared->Prop),tn i s.heap->Q (.ref it) s->wpAny (model P w) A (pyIter (.ref it)) Q E s
abbrev TI:=St->Hp->(It->Hp->Prop)->Prop
def PIE(X:Cx)(pins:List (Addr×Obj))(σ:St)(tg:Expr)(R:It->Hp->Prop)(itv:Value)(s2:Shared):Prop:=
 ∃(it:Addr) (fp:List Addr) (tn:Nat->Heap->Prop) (J:It) (H':Hp),itv = .ref it/\Inv X pins σ H' s2/\Turn X.prog X.w X.K tg J fp it tn/\tn 0 s2.heap/\(∀b∈fp,pY X pins H' b)/\R J H'
def PI(X:Cx)(tg iter:Expr)(wi:TI):Prop:=
 ∀(pins:List (Addr×Obj)) (s:Shared) (σ:St) (H:Hp) (R:It->Hp->Prop),Inv X pins σ H s->wi σ H R->
  wpAny (model X.prog X.w) X.A (eval iter X.env) (λv s1=>wpAny (model X.prog X.w) X.A (pyIter v) (PIE X pins σ tg R) X.xe s1) X.xe s
theorem G4{M : Model}{A : Around}{E : Value → Shared → Prop}{s : Shared}{tg : Expr}{it : Addr}{u : Value}{o : Obj}{n : String}{vs : Array Value}{Q : Unit → Shared → Prop}(ho : s.heap.get? it = some o)(hc : o.cls = .type n)(hd : o.data = .fields vs)
    (hn : ["enumerate", "zip", "dict_itemiterator", "dict_reverseitemiterator", "odict_iterator", "itertools.zip_longest", "itertools.pairwise"].contains n = false) (hQ : Q () s) : wpAny M A (letOwnedTupleGo tg (.ref it) u) Q E s := by
  unfold letOwnedTupleGo;cases tg <;> first
    | exact wpAny_pure hQ
    | (cases u <;> first
        | exact wpAny_pure hQ
        | (refine wpAny_bind (wpAny_load ho ?_)
           rw [hc, hd];show wpAny M A (if (["enumerate", "zip", "dict_itemiterator", "dict_reverseitemiterator", "odict_iterator", "itertools.zip_longest", "itertools.pairwise"].contains n && vs[0]? == some (rawInt _)) = true then _ else _) Q E s;rw [if_neg (by intro h; rw [hn, Bool.false_and] at h; cases h)];exact wpAny_pure hQ))
def Itl(K:PySem.W.Frag)(a:Addr):It:=
 ⟨λi H=>∃xs x,jT K H a xs/\xs[i]? = some x,λi H x H'=>H'=H/\∀xs,jT K H a xs->xs[i]? = some x,λi H=>∃xs,jT K H a xs/\xs.length<=i⟩
def Itt(K:PySem.W.Frag)(a:Addr):It:=
 ⟨λi H=>∃xs x,nG K H a xs/\xs[i]? = some x,λi H x H'=>H'=H/\∀xs,nG K H a xs->xs[i]? = some x,λi H=>∃xs,nG K H a xs/\xs.length<=i⟩
def Itr(lo:Int)(n:Nat):It:=⟨λi _=>i<n,λi H x H'=>H'=H/\x = .int (lo+i),λi _=>n<=i⟩
theorem Ms{P:Program}{w:World}{K:PySem.W.Frag}{tg:Expr}(a it:Addr):Turn P w K tg (Itl K a) [it] it (λi h=>h.IsListIter it a i) where
 mem:=by simp
 obj:=λi h st b hb=>by
  have e:b=it:=by simpa using hb
  subst e;obtain⟨o,e,c,d⟩:=st;exact⟨o,e,λv z=>by rw[d] at z;cases z⟩
 keep:=λi h h' st k=>st.at λo e=>k it (by simp) o e
 item:=by intro X hP hw hK hc i pins s σ H E I hf st hg;subst hP hw hK;obtain⟨xs,x,hq,hx⟩:=hg;obtain⟨its,rv,p,hz⟩:=I.list hq;obtain⟨u,hu,ru⟩:=rv.get hx;obtain⟨f0,f1,f2,f3,f4,f5⟩:=hf it (by simp);refine wpAny_pyNext_list_item st p.isList (x:=u) (by simpa using hu) λh' st' sb=>?_;have I1:Inv X pins σ H { s with heap:=h' }:=I.turned (t':=s.toks) (λb o hb e=>(sb.2 b hb).trans e) f0 f1 f3 f4 f5;obtain⟨o,e,c,d⟩:=id st';exact⟨u,rfl,G4 (s:={ s with heap:=h' }) e c d (by decide) ⟨x,H,I1,ru,⟨rfl,λys hy=>by rw[I.yZ hy hq];exact hx⟩,st',λb hb=>(hf b hb).1⟩⟩
 done:=by intro X hP hw hK hc i pins s σ H E I hf st hg;subst hP hw hK;obtain⟨xs,hq,hx⟩:=hg;obtain⟨its,rv,p,hz⟩:=I.list hq;obtain⟨f0,f1,f2,f3,f4,f5⟩:=hf it (by simp);have hl:=rv.length;exact wpAny_pyNext_list_end (I.ok.hd hc) st p.isList (by simp;omega) λh' eb=>⟨rfl,I.turned (t':=s.toks) (λb o hb e=>eb b o hb e) f0 f1 f3 f4 f5⟩
 self:=λ_ _ _ _ _ st h=>wpAny_pyIter_listiter st h
theorem HY{P:Program}{w:World}{K:PySem.W.Frag}{tg:Expr}(a it:Addr):Turn P w K tg (Itt K a) [it] it (λi h=>h.IsTupleIter it a i) where
 mem:=by simp
 obj:=λi h st b hb=>by
  have e:b=it:=by simpa using hb
  subst e;obtain⟨o,e,c,d⟩:=st;exact⟨o,e,λv z=>by rw[d] at z;cases z⟩
 keep:=λi h h' st k=>st.at λo e=>k it (by simp) o e
 item:=by intro X hP hw hK hc i pins s σ H E I hf st hg;subst hP hw hK;obtain⟨xs,x,hq,hx⟩:=hg;obtain⟨its,rv,p,hz⟩:=I.tuple hq;obtain⟨u,hu,ru⟩:=rv.get hx;obtain⟨f0,f1,f2,f3,f4,f5⟩:=hf it (by simp);refine wpAny_pyNext_tuple_item st (show s.heap.IsTuple a its.toArray from p) (x:=u) (by simpa using hu) λh' st' sb=>?_;have I1:Inv X pins σ H { s with heap:=h' }:=I.turned (t':=s.toks) (λb o hb e=>(sb.2 b hb).trans e) f0 f1 f3 f4 f5;obtain⟨o,e,c,d⟩:=id st';exact⟨u,rfl,G4 (s:={ s with heap:=h' }) e c d (by decide) ⟨x,H,I1,ru,⟨rfl,λys hy=>by rw[I.Mt hy hq];exact hx⟩,st',λb hb=>(hf b hb).1⟩⟩
 done:=by intro X hP hw hK hc i pins s σ H E I hf st hg;subst hP hw hK;obtain⟨xs,hq,hx⟩:=hg;obtain⟨its,rv,p,hz⟩:=I.tuple hq;obtain⟨f0,f1,f2,f3,f4,f5⟩:=hf it (by simp);have hl:=rv.length;exact wpAny_pyNext_tuple_end (I.ok.hd hc) st (show s.heap.IsTuple a its.toArray from p) (by simp;omega) λh' eb=>⟨rfl,I.turned (t':=s.toks) (λb o hb e=>eb b o hb e) f0 f1 f3 f4 f5⟩
 self:=λ_ _ _ _ _ st h=>wpAny_pyIter_tupleiter st h
theorem Ie{P:Program}{w:World}{K:PySem.W.Frag}{tg:Expr}(it:Addr)(lo:Int)(n:Nat):Turn P w K tg (Itr lo n) [it] it (λi h=>IsRangeIter h it (lo+(i:Nat)*1) ((n:Int) - (i:Nat)) 1) where
 mem:=by simp
 obj:=λi h st b hb=>by
  have e:b=it:=by simpa using hb
  subst e;exact⟨_,st,λv z=>by
   have z':Data.fields _=Data.cell v:=z;cases z'⟩
 keep:=λi h h' st k=>k it (by simp) _ st
 item:=by intro X hP hw hK hc i pins s σ H E I hf st hg;subst hP hw hK;obtain⟨f0,f1,f2,f3,f4,f5⟩:=hf it (by simp);have W:=Walks.range (prog:=X.prog) (w:=X.w) (I.ok.hd hc) it lo 1 n;refine W.item i s _ _ hg st λv h' tk hv st' kk=>?_;obtain⟨t,rfl⟩:=hv;have I1:Inv X pins σ H { s with heap:=h',toks:=tk }:=I.turned (λb o hb e=>kk b o (by simpa using hb) e) f0 f1 f3 f4 f5;refine⟨_,rfl,G4 (s:={ s with heap:=h',toks:=tk }) (n:="range_iterator") st' rfl rfl (by decide) ⟨.int (lo+i),H,I1,⟨t,?_⟩,⟨rfl,rfl⟩,st',λb hb=>(hf b hb).1⟩⟩;rw[Int.mul_one]
 done:=by intro X hP hw hK hc i pins s σ H E I hf st hg;subst hP hw hK;obtain⟨f0,f1,f2,f3,f4,f5⟩:=hf it (by simp);exact wpAny_pyNext_range_end (I.ok.hd hc) st (by have:n<=i:=hg;omega) λh' eb=>⟨rfl,I.turned (t':=s.toks) (λb o hb e=>eb b o hb e) f0 f1 f3 f4 f5⟩
 self:=λ_ _ _ _ _ st h=>wpAny_pyIter_rangeiter st h
section
variable{X:Cx}{tg:Expr}
theorem Ga{pins:List (Addr×Obj)}{σ:St}{H:Hp}{s:Shared}{R:It->Hp->Prop}{E:Value->Shared->Prop}{lo hi:Int}{t u v:Tok}{tk:Nat}(I:Inv X pins σ H s)(h1 : -(2^62)<=lo)(h2:lo<2^62)(h3 : -(2^62)<=hi)(h4:hi<2^62)
  (q:R (Itr lo (hi - lo).toNat) H):wpAny (model X.prog X.w) X.A (pyIter (.ref s.heap.objs.size)) (PIE X pins σ tg R) E { s with heap:=s.heap.push { cls:=.type "range",data:=.fields #[.int lo t,.int hi u,.int 1 v] },toks:=tk }:=by
 refine wpAny_pyIter_range (IsRange.new ..) (small_one h1 h2 h3 h4) ?_;have I1:Inv X pins σ H { s with heap:=s.heap.push { cls:=.type "range",data:=.fields #[.int lo t,.int hi u,.int 1 v] },toks:=tk }:=I.kept λb o e=>Heap.get?_push_of_some _ e;refine⟨(s.heap.push { cls:=.type "range",data:=.fields #[.int lo t,.int hi u,.int 1 v] }).objs.size,[(s.heap.push { cls:=.type "range",data:=.fields #[.int lo t,.int hi u,.int 1 v] }).objs.size],_,_,H,rfl,
  I1.kept (t':=tk) λb o e=>Heap.get?_push_of_some _ e,Ie _ lo (hi - lo).toNat,?_,λb hb=>?_,q⟩
 ·have e1:lo+((0:Nat):Int)*1=lo:=by simp
  have e2:(((hi - lo).toNat:Nat):Int) - ((0:Nat):Int)=Builtin.Range.rangeSize lo hi 1:=by rw[rangeSize_one];split<;>omega
  show IsRangeIter _ _ (lo+((0:Nat):Int)*1) ((((hi - lo).toNat:Nat):Int) - ((0:Nat):Int)) 1;rw[e1,e2];exact Heap.get?_push_size _ rfl
 ·have e:b=(s.heap.push { cls:=.type "range",data:=.fields #[.int lo t,.int hi u,.int 1 v] }).objs.size:=by simpa using hb
  subst e;exact I1.SQ (Nat.le_refl _) (I1.hok.fresh (Nat.le_refl _))
def aeH(ta:TA):TI:=λσ H R=>ta σ H λvs H1=>∃j:Int,vs=[.int j]/\-(2^62)<=j/\j<2^62/\R (Itr 0 j.toNat) H1
def aeG(ta:TA):TI:=λσ H R=>ta σ H λvs H1=>∃i j:Int,vs=[.int i,.int j]/\(-(2^62)<=i/\i<2^62/\-(2^62)<=j/\j<2^62)/\R (Itr i (j - i).toNat) H1
theorem Nk{a:Expr}{ta:TA}{p pos:Pos}(hg:Gl X "range")(hm:X.mg "range" = none)(ha:PA X [a] ta)(hs:starEach [a] X.env=[(false,eval a X.env)]:=by rfl):PI X tg (.Call (.Name "range" p) [a] [] pos) (aeH ta):=by
 intro pins s σ H R I h;refine Call_ (tZ I hg hm boot_range (PyProof.Rows.callWith_type1 (gG (ha pos pins s σ H _ I h) λus s1 ⟨vs,H1,I1,r1,q1⟩=>?_) hs rfl));obtain⟨j,e,q1,q2,q⟩:=q1;subst e;cases r1 with
 | cons r rr=>
  cases rr;obtain⟨t,rfl⟩:=r;exact call_range_1 (Ga I1 (by omega) (by omega) q1 q2 (by simpa using q))
theorem Nj{a b:Expr}{ta:TA}{p pos:Pos}(hg:Gl X "range")(hm:X.mg "range" = none)(ha:PA X [a,b] ta)(hs:starEach [a,b] X.env=[(false,eval a X.env),(false,eval b X.env)]:=by rfl)(hs2:starEach [b] X.env=[(false,eval b X.env)]:=by rfl) :
  PI X tg (.Call (.Name "range" p) [a,b] [] pos) (aeG ta):=by
 intro pins s σ H R I h;refine Call_ (tZ I hg hm boot_range (PyProof.Rows.callWith_type1 (gG (ha pos pins s σ H _ I h) λus s1 ⟨vs,H1,I1,r1,q1⟩=>?_) (by rw[hs,hs2]) (by rw[hs2];rfl)));obtain⟨i,j,e,⟨q1,q2,q3,q4⟩,q⟩:=q1;subst e;cases r1 with
 | cons r rr=>
  cases rr with
  | cons r' rr=>
   cases rr;obtain⟨t,rfl⟩:=r;obtain⟨t',rfl⟩:=r';exact call_range_2 (Ga I1 q1 q2 q3 q4 q)
def af2(wi:TI)(g:TG)(tb:TS):TS:=λD σ H=>wi σ H λJ H1=>∃W:Nat->Nat->St->Hp->Prop,(∃m,W 0 m σ H1)/\∀i m σ H,W i m σ H->
 (J.stop i H/\D.nx σ H)\/(J.go i H/\∃N:St->Hp->Prop,(∀σ' H',N σ' H'->∃m',m'<m/\W (i+1) m' σ' H')/\∀x H',J.Uv i H x H'->g x σ H' λσ2 H2=>tb { D with nx:=N,ct:=N,bk:=D.nx } σ2 H2)
def mQ(fp:List Addr)(h:Heap):List (Addr×Obj):=fp.filterMap λb=>(h.get? b).map λo=>(b,o)
theorem iY{fp:List Addr}{h:Heap}{b:Addr}{o:Obj}(hb:b∈fp)(e:h.get? b=some o):(b,o)∈mQ fp h:=List.mem_filterMap.mpr ⟨b,hb,by rw[e];rfl⟩
theorem Nu{fp:List Addr}{h:Heap}{p:Addr×Obj}(hp:p∈mQ fp h):p.1∈fp/\h.get? p.1=some p.2:=by
 obtain⟨b,hb,e⟩:=List.mem_filterMap.mp hp;cases q:h.get? b with
 | none=>rw[q] at e;cases e
 | some o=>
  rw[q] at e;have e':(b,o)=p:=Option.some.inj e;subst e';exact⟨hb,q⟩
theorem Inv.pinned{pins:List (Addr×Obj)}{σ:St}{H:Hp}{s:Shared}{fp:List Addr}(I:Inv X pins σ H s)(hf:∀b∈fp,pY X pins H b)(ho:∀b∈fp,∃o,s.heap.get? b=some o/\∀v,o.data ≠ .cell v):Inv X (pins++mQ fp s.heap) σ H s:=
 I.KY λp hp=>(List.mem_append.mp hp).elim (λz=>I.pin p (List.mem_append_right _ z)) λz=>by
  obtain⟨hb,e⟩:=Nu z;obtain⟨f0,f1,f2,_⟩:=hf p.1 hb;obtain⟨o,e',d⟩:=ho p.1 hb;rw[e] at e';cases e';exact⟨e,f0,f1,f2,d⟩
theorem Inv.oK{pins pl:List (Addr×Obj)}{σ:St}{H:Hp}{s:Shared}(I:Inv X (pins++pl) σ H s):Inv X pins σ H s:=I.KY λp hp=>I.pin p (List.mem_append_right _ (List.mem_append_left _ hp))
theorem ZW{iter:Expr}{body:List Stmt}{wi:TI}{g:TG}{tb:TS}{pos:Pos}(hp:PassesOwn (model X.prog X.w) X.A X.env X.xe)(hc:X.calm=true)(hi:PI X tg iter wi)(hg:PG X tg g)(hb:HH X body tb)
  (hs:∀x,foldedSetIterable iter X.env x=pure x:=by intro _;rfl):PS X (.For tg iter body [] pos) (af2 wi g tb):=by
 intro pins s σ H D I h;refine wpAny_For (gG (hi pins s σ H _ I h) λv s1 h1=>gG h1 λitv s2 h2=>?_) hs;obtain⟨it,fp,tn,J,H2,e,I2,T,st2,f2,W,⟨m0,w0⟩,turn⟩:=h2;subst e
 -- what stays true of the iterator's objects through the loop
 have stat:∀{H':Hp},(∀b∈fp,H' b=none)->∀b∈fp,pY X pins H' b:=λhn b hb=>⟨hn b hb,(f2 b hb).2⟩;refine codeAny_forLoop_any (λn s'=>∃i σ' H',Inv X pins σ' H' s'/\tn i s'.heap/\(∀b∈fp,H' b=none)/\W i n σ' H') ?_ m0 ⟨0,σ,H2,I2,st2,λb hb=>(f2 b hb).1,w0⟩;rintro n s3 ⟨i,σ3,H3,I3,st3,fr3,w3⟩;rcases turn i n σ3 H3 w3 with ⟨stop,qn⟩|⟨go,N,hN,step⟩
 ·refine wpAny_passesOwn hp (gG (T.done X rfl rfl rfl hc i pins s3 σ3 H3 X.xe I3 (stat fr3) st3 stop) λr s4 ⟨hr,I4⟩=>?_);subst hr;exact wpAny_execs_nil ⟨σ3,H3,I4,qn⟩
 ·refine wpAny_passesOwn hp (gG (T.item X rfl rfl rfl hc i pins s3 σ3 H3 X.xe I3 (stat fr3) st3 go) λr s4 ⟨u,hr,h4⟩=>?_);subst hr;refine wpAny_passesOwn hp (gG h4 λ_ s5 ⟨x,H5,I5,r5,y5,U8,fr5⟩=>?_);have I5':=I5.pinned (stat fr5) (T.obj _ _ U8);refine wpAny_passesOwn hp (gG (hg _ s5 σ3 H5 x u _ I5' r5 (step x H5 y5)) λ_ s6 ⟨σ6,H6,I6,q6⟩=>?_);refine wpAny_passesOwn hp (gG (hb _ s6 σ6 H6 _ I6 q6) λf s7 q7=>?_);have again:∀{σ7:St} {H7:Hp},Inv X (pins++mQ fp s5.heap) σ7 H7 s7->N σ7 H7->∃m,m<n/\∃i σ' H',Inv X pins σ' H' s7/\tn i s7.heap/\(∀b∈fp,H' b=none)/\W i m σ' H':=λ{σ7 H7} I7 n7=>by
   obtain⟨m',hm,w7⟩:=hN σ7 H7 n7;refine⟨m',hm,i+1,σ7,H7,I7.oK,T.keep _ _ _ U8 λb hb o e=>(I7.pin (b,o) (List.mem_append_right _ (List.mem_append_right _ (iY hb e)))).1,λb hb=>?_,w7⟩;obtain⟨o,e,d⟩:=T.obj _ _ U8 b hb;exact(I7.pin (b,o) (List.mem_append_right _ (List.mem_append_right _ (iY hb e)))).2.1
  cases f with
  | next=>obtain⟨σ7,H7,I7,n7⟩:=q7;exact again I7 n7
  | cont=>obtain⟨σ7,H7,I7,n7⟩:=q7;exact again I7 n7
  | brk=>obtain⟨σ7,H7,I7,q7⟩:=q7;exact⟨σ7,H7,I7.oK,q7⟩
  | ret v=>obtain⟨x7,σ7,H7,I7,r7,q7⟩:=q7;exact⟨x7,σ7,H7,I7.oK,r7,q7⟩
end
abbrev R2:=V->V->Hp->VK->Prop
def pA(X:Cx)(f:Value->Value->Sem Value)(r:R2):Prop:=
 ∀(pins:List (Addr×Obj)) (s:Shared) (σ:St) (H:Hp) (x y:V) (v u:Value) (Q:VK),Inv X pins σ H s->RelV x v->RelV y u->r x y H Q->
  wpAny (model X.prog X.w) X.A (f v u) (EP X pins σ Q) X.xe s
def UnR(X:Cx)(f:Value->Sem Value)(r:V->Hp->VK->Prop):Prop:=
 ∀(pins:List (Addr×Obj)) (s:Shared) (σ:St) (H:Hp) (x:V) (v:Value) (Q:VK),Inv X pins σ H s->RelV x v->r x H Q->
  wpAny (model X.prog X.w) X.A (f v) (EP X pins σ Q) X.xe s
def ji(X:Cx)(f:Value)(r:List V->Hp->VK->Prop):Prop:=
 ∀(pins:List (Addr×Obj)) (s:Shared) (σ:St) (H:Hp) (xs:List V) (us:List Value) (Q:VK),Inv X pins σ H s->Vals xs us->r xs H Q->
  wpAny (model X.prog X.w) X.A (call f us) (EP X pins σ Q) X.xe s
def Zj(r:R2)(ta tb:TE):TE:=λσ H Q=>ta σ H λx H1=>tb σ H1 λy H2=>r x y H2 Q
def tUn(r:V->Hp->VK->Prop)(ta:TE):TE:=λσ H Q=>ta σ H λx H1=>r x H1 Q
def rI(C:Int->Int->Prop)(g:Int->Int->V):R2:=λx y H Q=>∃i j,x = .int i/\y = .int j/\C i j/\Q (g i j) H
def Ym(g:Int->Int->V):R2:=λx y H Q=>∃i j,x = .int i/\y = .int j/\Q (g i j) H
def rU(g:Int->V):V->Hp->VK->Prop:=λx H Q=>∃i,x = .int i/\Q (g i) H
section
variable{X:Cx}{a b c:Expr}{ta tb tc:TE}{pos:Pos}
theorem acG(ha:PE X a ta)(hb:PE X b tb){pins:List (Addr×Obj)}{s:Shared}{σ:St}{H:Hp}{R:V->V->Hp->Prop}(I:Inv X pins σ H s)
  (h:ta σ H λx H1=>tb σ H1 λy H2=>R x y H2) {Q:Value->Shared->Prop} {f:Value->Value->Sem Value}
  (hf:∀v u s2 x y H2,Inv X pins σ H2 s2->RelV x v->RelV y u->R x y H2->wpAny (model X.prog X.w) X.A (f v u) Q X.xe s2) :
  wpAny (model X.prog X.w) X.A (eval a X.env) (λv s₁=>wpAny (model X.prog X.w) X.A (eval b X.env) (λu s₂=>wpAny (model X.prog X.w) X.A (f v u) Q X.xe s₂) X.xe s₁) X.xe s:=by
 refine gG (ha pins s σ H _ I h) λv s1 ⟨x,H1,I1,r1,q1⟩=>?_;refine gG (hb pins s1 σ H1 _ I1 q1) λu s2 ⟨y,H2,I2,r2,q2⟩=>?_;exact hf v u s2 x y H2 I2 r1 r2 q2
theorem Yq{op:Operator}{r:R2}(ho:pA X (binaryOp op) r)(ha:PE X a ta)(hb:PE X b tb):PE X (.BinOp a op b pos) (Zj r ta tb):=by intro pins s σ H Q I h;exact wpAny_BinOp (acG ha hb I h λv u s2 x y H2 I2 rx ry q=>ho pins s2 σ H2 x y v u Q I2 rx ry q)
theorem Q0{op:UnaryOp}{r:V->Hp->VK->Prop}(ho:UnR X (unaryOp op) r)(ha:PE X a ta):PE X (.UnaryOp op a pos) (tUn r ta):=by intro pins s σ H Q I h;exact UnaryOp_ (gG (ha pins s σ H _ I h) λv s1 ⟨x,H1,I1,r1,q1⟩=>ho pins s1 σ H1 x v Q I1 r1 q1)
theorem opI{f:Value->Value->Sem Value}{C:Int->Int->Prop}{g:Int->Int->Int}
  (rule:∀(i j:Int) (t u:Tok) (s:Shared) (Q:Value->Shared->Prop) (E:Value->Shared->Prop),C i j->Q (.int (g i j) s.toks) { s with toks:=s.toks+1 }->wpAny (model X.prog X.w) X.A (f (.int i t) (.int j u)) Q E s) :
  pA X f (rI C λi j=>.int (g i j)):=by
 intro pins s σ H x y v u Q I rx ry h;obtain⟨i,j,rfl,rfl,hc,q⟩:=h;obtain⟨t,rfl⟩:=rx;obtain⟨t',rfl⟩:=ry;exact rule i j t t' s _ _ hc ⟨.int (g i j),H,I.tok _,⟨_,rfl⟩,q⟩
theorem aap{f:Value->Value->Sem Value}{g:Int->Int->Int}
  (rule:∀(i j:Int) (t u:Tok) (s:Shared) (Q:Value->Shared->Prop) (E:Value->Shared->Prop),Q (.int (g i j) s.toks) { s with toks:=s.toks+1 }->wpAny (model X.prog X.w) X.A (f (.int i t) (.int j u)) Q E s) :
  pA X f (Ym λi j=>.int (g i j)):=by
 intro pins s σ H x y v u Q I rx ry h;obtain⟨i,j,rfl,rfl,q⟩:=h;obtain⟨t,rfl⟩:=rx;obtain⟨t',rfl⟩:=ry;exact rule i j t t' s _ _ ⟨.int (g i j),H,I.tok _,⟨_,rfl⟩,q⟩
def afu(i j:Int):Prop:=0<j/\j<1073741824
def Yc(i j:Int):Prop:=0<=j/\j<=1000000/\i.natAbs<2^64
theorem HW(k:Nat):(0:Int)<=2^k:=by rw[two_pow_cast];exact Int.natCast_nonneg _
theorem aao:pA X (binaryOp .Add) (Ym λi j=>.int (i+j)):=aap λ_ _ _ _ _ _ _ q=>add_int q
theorem aab:pA X (binaryOp .Sub) (Ym λi j=>.int (i - j)):=aap λ_ _ _ _ _ _ _ q=>sub_int q
theorem aag:pA X (binaryOp .Mod) (rI (λ_ j=>0<j) λi j=>.int (i % j)):=opI λi j _ _ _ _ _ hc q=>by
 have h1:(0:Int)<j:=hc;exact mod_int' (by omega) (by rw[Int.fmod_eq_emod_of_nonneg i (by omega)];exact q)
theorem aae:pA X (binaryOp .Pow) (rI Yc λi j=>.int (i^j.toNat)):=opI λ_ _ _ _ _ _ _ hc q=>pow_int_small hc.1 hc.2.1 hc.2.2 q
theorem aad:pA X (binaryOp .LShift) (rI Yc λi j=>.int (i*2^j.toNat)):=opI λ_ _ _ _ _ _ _ hc q=>lshift_int_small hc.1 hc.2.1 hc.2.2 q
theorem aac:pA X (binaryOp .RShift) (rI (λ_ j=>0<=j) λi j=>.int (i / 2^j.toNat)):=opI λi j _ _ _ _ _ hc q=>
 rshift_int hc (by rw[Int.fdiv_eq_ediv_of_nonneg i (HW _)];exact q)
theorem aan:pA X (binaryOp .BitAnd) (Ym λi j=>.int (Builtin.bitAnd i j)):=aap λ_ _ _ _ _ _ _ q=>and_int q
theorem unI{f:Value->Sem Value}{g:Int->Int}
  (rule:∀(i:Int) (t:Tok) (s:Shared) (Q:Value->Shared->Prop) (E:Value->Shared->Prop),Q (.int (g i) s.toks) { s with toks:=s.toks+1 }->wpAny (model X.prog X.w) X.A (f (.int i t)) Q E s) :
  UnR X f (rU λi=>.int (g i)):=by
 intro pins s σ H x v Q I rx h;obtain⟨i,rfl,q⟩:=h;obtain⟨t,rfl⟩:=rx;exact rule i t s _ _ ⟨.int (g i),H,I.tok _,⟨_,rfl⟩,q⟩
theorem HS:UnR X (unaryOp .USub) (rU λi=>.int (-i)):=unI λ_ _ _ _ _ q=>neg_int q
end
theorem acv{i j:Bool}:decide (V.bl i=V.bl j)=(i == j):=by rw[Bool.eq_iff_iff];simp
section
variable{X:Cx}{a b c:Expr}{ta tb tc:TE}{pos:Pos}
theorem DQ{pins:List (Addr×Obj)}{σ:St}{H:Hp}{s:Shared}{Q:VK}{k k':Bool}(I:Inv X pins σ H s)(q:Q (.bl k) H)(e:k=k'):EP X pins σ Q (.bool k') s:=by subst e;exact⟨.bl k,H,I,rfl,q⟩
theorem Nt:pA X (compareOp .In) (λx y H Q=>∃i j,x = .str i/\y = .str j/\Q (.bl (!(Builtin.Str.occurrences j i 0 j.length 1).isEmpty)) H):=by intro pins s σ H x y v u Q I rx ry h;obtain⟨i,j,rfl,rfl,q⟩:=h;obtain⟨t,rfl⟩:=rx;obtain⟨t',rfl⟩:=ry;exact in_str (DQ I q rfl)
theorem aah:pA X (compareOp .Is) (λx y H Q=>y = .non/\Q (.bl (decide (x = .non))) H):=by
 intro pins s σ H x y v u Q I rx ry h;obtain⟨rfl,q⟩:=h;cases ry;refine is_none_gen (DQ I q ?_);cases x<;>first
  | (cases rx;rfl)
  | (obtain⟨t,rfl⟩:=rx;rfl)
theorem Dg:pA X (compareOp .NotIn) (λx y H Q=>∃i j,x = .str i/\y = .str j/\Q (.bl (!(!(Builtin.Str.occurrences j i 0 j.length 1).isEmpty))) H):=by intro pins s σ H x y v u Q I rx ry h;obtain⟨i,j,rfl,rfl,q⟩:=h;obtain⟨t,rfl⟩:=rx;obtain⟨t',rfl⟩:=ry;exact notIn_str (DQ I q rfl)
theorem pA.or{f:Value->Value->Sem Value}{r r':R2}(h:pA X f r)(h':pA X f r'):pA X f (λx y H Q=>r x y H Q\/r' x y H Q):=by
 intro pins s σ H x y v u Q I rx ry q;rcases q with q|q
 ·exact h pins s σ H x y v u Q I rx ry q
 ·exact h' pins s σ H x y v u Q I rx ry q
theorem De{op:CmpOp}{r:R2}(ho:pA X (compareOp op) r)(ha:PE X a ta)(hb:PE X b tb)(hm:behindInMarks op b=false):PE X (.Compare a [op] [b] pos) (Zj r ta tb):=by intro pins s σ H Q I h;exact wpAny_Compare1 (acG ha hb I h λv u s2 x y H2 I2 rx ry q=>ho pins s2 σ H2 x y v u Q I2 rx ry q) hm
def ac0(t:TE):TT:=λσ H Q=>t σ H λx H'=>∃k,x = .bl k/\Q k H'
theorem KQ{op:CmpOp}{r:R2}(ho:pA X (compareOp op) r)(ha:PE X a ta)(hb:PE X b tb)(hm:behindInMarks op b=false):PT X (.Compare a [op] [b] pos) (ac0 (Zj r ta tb)):=by
 intro pins s σ H Q I h;refine wpAny_isTrue_Compare1 (gG (ha pins s σ H _ I h) λv s1 ⟨x,H1,I1,r1,q1⟩=>gG (hb pins s1 σ H1 _ I1 q1) λu s2 ⟨y,H2,I2,r2,q2⟩=>
  gG (ho pins s2 σ H2 x y v u _ I2 r1 r2 q2) λc s3 ⟨z,H3,I3,r3,k,e,q3⟩=>?_) hm
 subst e;cases r3;exact wpAny_truthy_bool ⟨H3,I3,q3⟩
theorem abL{κ:Type}{kvs:List (κ×V)}{vs:List (κ×Value)}(r:KV kvs vs):(!vs.isEmpty) = !kvs.isEmpty:=by cases r<;>rfl
theorem abK{xs:List V}{its:List Value}(r:Vals xs its):(!its.toArray.isEmpty) = !xs.isEmpty:=by cases r<;>simp
theorem za:(sizeLine:Nat)<2^63:=by rw[sizeLine_eq];decide
theorem Jt:pA X (binaryOp .Add) (λx y H Q=>∃i j,x = .str i/\y = .str j/\i.length+j.length<=sizeLine/\Q (.str (i++j)) H):=by intro pins s σ H x y v u Q I rx ry h;obtain⟨i,j,rfl,rfl,hz,q⟩:=h;obtain⟨t,rfl⟩:=rx;obtain⟨t',rfl⟩:=ry;exact add_str (λt' tk=>⟨.str (i++j),H,I.tok _,⟨_,rfl⟩,q⟩) hz
theorem vals1{x:V}{us:List Value}(r:Vals [x] us):∃u,us=[u]/\RelV x u:=by
 cases r with
 | cons r1 r2=>cases r2;exact⟨_,rfl,r1⟩
theorem vals2{x y:V}{us:List Value}(r:Vals [x,y] us):∃u w',us=[u,w']/\RelV x u/\RelV y w':=by
 cases r with
 | cons r1 r2=>
  cases r2 with
  | cons r3 r4=>cases r4;exact⟨_,_,rfl,r1,r3⟩
def afq(K:PySem.W.Frag)(x:V)(H:Hp)(n:Nat):Prop:=
 match x with
 | .str y=>y.length<=sizeLine/\n=y.length
 | .byt y=>y.size<=sizeLine/\n=y.size
 | .ref p=>(∃xs,jT K H p xs/\n=xs.length)\/∃xs,nG K H p xs/\n=xs.length
 | _=>False
theorem TF:ji X (.builtin "len") (λxs H Q=>∃x n,xs=[x]/\afq X.K x H n/\Q (.int n) H):=by
 intro pins s σ H xs us Q I r h;obtain⟨x,n,rfl,e,q⟩:=h;obtain⟨u,rfl,rx⟩:=vals1 r;have hl:=za;have hs:sizeLine=16777216:=sizeLine_eq;cases x with
 | str y=>
  obtain⟨t,rfl⟩:=rx;obtain⟨hy,e'⟩:y.length<=sizeLine/\n=y.length:=e;subst e';exact len_str (by omega) ⟨.int _,H,I.tok _,⟨_,rfl⟩,q⟩
 | byt y=>
  obtain⟨t,rfl⟩:=rx;obtain⟨hy,e'⟩:y.size<=sizeLine/\n=y.size:=e;subst e';exact PySem.W.len_bytes (by omega) ⟨.int _,H,I.tok _,⟨_,rfl⟩,q⟩
 | ref p=>
  cases rx;have e':(∃xs,jT X.K H p xs/\n=xs.length)\/∃xs,nG X.K H p xs/\n=xs.length:=e;rcases e' with ⟨xs,hx,e'⟩|⟨xs,hx,e'⟩
  ·subst e';obtain⟨its,r',pl,hz⟩:=I.list hx;have hlen:=r'.length;exact Calls.call_len_list pl.isList (by simp only[List.size_toArray];omega) ⟨.int xs.length,H,I.tok _,⟨_,by simp only[List.size_toArray];rw[hlen]⟩,q⟩
  ·subst e';obtain⟨its,r',pl,hz⟩:=I.tuple hx;have hlen:=r'.length;exact len_tuple pl (by simp only[List.size_toArray];omega) ⟨.int xs.length,H,I.tok _,⟨_,by simp only[List.size_toArray];rw[hlen]⟩,q⟩
 | _=>exact(show False from e).elim
theorem Hs:ji X (.builtin "divmod") (λxs H Q=>∃i j,xs=[.int i,.int j]/\afu i j/\∀p,H p=none->Q (.ref p) (upd H p (.tup [.int (i / j),.int (i % j)]))):=by intro pins s σ H xs us Q I r h;obtain⟨i,j,rfl,⟨h1,h2⟩,q⟩:=h;obtain⟨u,w',rfl,⟨t,rfl⟩,⟨t',rfl⟩⟩:=vals2 r;refine divmod_int (by omega) ?_ (.inl (PyProof.noPylong_small (by omega)));rw[Int.fdiv_eq_ediv_of_nonneg i (by omega),Int.fmod_eq_emod_of_nonneg i (by omega)];have hn:H s.heap.objs.size=none:=I.hok.fresh (Nat.le_refl _);refine⟨.ref s.heap.objs.size,_,?_,rfl,q _ hn⟩;refine I.laid (λb o e=>Heap.get?_push_of_some _ e) (Nat.le_refl _) ⟨by simp only[List.length_cons,List.length_nil];rw[sizeLine_eq];decide,[.int (i / j) s.toks,.int (i % j) (s.toks+1)],.cons ⟨_,rfl⟩ (.cons ⟨_,rfl⟩ .nil),?_⟩;exact⟨_,Heap.get?_push_size s.heap rfl,rfl,⟨0,rfl⟩,rfl⟩
end
theorem Ax.some_of{v:V}{o:Option Value}(r:Ax (some v) o):∃u,o=some u/\RelV v u:=by
 cases o with
 | none=>exact(show False from r).elim
 | some u=>exact⟨u,rfl,r⟩
structure ju(k:Nat)(A:Around):Prop where
 hd:A.handled=none
 dp:A.depth+3*k+5<recursionLimit
 un:A.units+16*k+200<cLine
theorem ju.mono{j k:Nat}{A:Around}(r:ju k A)(h:j<=k):ju j A:=⟨r.hd,by have:=r.dp;omega,by have:=r.un;omega⟩
theorem ju.deeper{k:Nat}{A:Around}(r:ju (k+1) A)(env:Env):ju k (A.deeper env):=
 ⟨r.hd,by have:=r.dp;show A.depth+1+3*k+5<_;omega,by have:=r.un;show A.units+3+16*k+200<_;omega⟩
theorem ju.depth{k:Nat}{A:Around}(r:ju k A):A.depth<recursionLimit:=by have:=r.dp;omega
theorem ju.units{k:Nat}{A:Around}(r:ju k A):A.units+64<cLine:=by have:=r.un;omega
def afY:TA:=λ_ H Q=>Q [] H
def ac8(ta:TE)(tr:TA):TA:=λσ H Q=>ta σ H λx H1=>tr σ H1 λxs H2=>Q (x::xs) H2
section
variable{X:Cx}{e:Expr}{es:List Expr}{te:TE}{t:TA}{pos:Pos}
theorem mV:PA X [] afY:=λ_ _ _ _ H Q I h=>Calls.spliced_nil ⟨[],H,I,.nil,h⟩
theorem iM(ha:PE X e te)(hr:PA X es t)(hs:starEach (e::es) X.env=(false,eval e X.env)::starEach es X.env:=by rfl):PA X (e::es) (ac8 te t):=by intro pos pins s σ H Q I h;rw[hs];show wpAny _ _ (spliced ((false,eval e X.env)::backTo pos (starEach es X.env))) _ _ s;refine Calls.spliced_cons (gG (ha pins s σ H _ I h) λu s1 ⟨x,H1,I1,r1,q1⟩=>?_);exact gG (hr pos pins s1 σ H1 _ I1 q1) λus s2 ⟨xs,H2,I2,r2,q2⟩=>⟨x::xs,H2,I2,.cons r1 r2,q2⟩
def afR(t:TA):TE:=λσ H Q=>t σ H λxs H1=>xs.length<=sizeLine/\∀p,H1 p=none->Q (.ref p) (upd H1 p (.tup xs))
def afZ(t:TA):TE:=λσ H Q=>t σ H λxs H1=>xs.length<=sizeLine/\∀p,H1 p=none->Q (.ref p) (upd H1 p (.lst xs))
theorem Z2{x1}(h:PA X es t):PE X (.Tuple es x1 pos) (afR t):=by intro pins s σ H Q I hq;refine wpAny_Tuple_spliced (gG (h pos pins s σ H _ I hq) λus s1 ⟨xs,H1,I1,r,z,q⟩=>⟨by rw[<-r.length];exact z,?_⟩);have hf:H1 s1.heap.objs.size=none:=I1.hok.fresh (Nat.le_refl _);refine⟨.ref s1.heap.objs.size,upd H1 s1.heap.objs.size (.tup xs),I1.laid (t':=s1.toks) (λb u e=>Heap.get?_push_of_some _ e) (Nat.le_refl _) ?_,rfl,q _ hf⟩;exact⟨z,us,r,zT.new _ _⟩
theorem Z8(h:PA X es t):PE X (.List es pos) (afZ t):=by intro pins s σ H Q I hq;refine wpAny_List_spliced (gG (h pos pins s σ H _ I hq) λus s1 ⟨xs,H1,I1,r,z,q⟩=>⟨by rw[<-r.length];exact z,?_⟩);have hf:H1 s1.heap.objs.size=none:=I1.hok.fresh (Nat.le_refl _);refine⟨.ref s1.heap.objs.size,upd H1 s1.heap.objs.size (.lst xs),I1.laid (t':=s1.toks) (λb u e=>Heap.get?_push_of_some _ e) (Nat.le_refl _) ?_,rfl,q _ hf⟩;exact⟨z,us,0,r,Heap.get?_push_size _ rfl⟩
end
abbrev Sp:=List V->Hp->VK->XK->Prop
abbrev Yb:=List Env->Hp->Shared->XK->Value->Shared->Prop
structure X8(P:Program)(w:World)(K:PySem.W.Frag)(mg:Str->Option Value)(base:Heap)(A:Around)(outer:List Env)(s:Shared)(H:Hp):Prop where
 frames:A.frames=some outer
 mod:Mod K mg base
 bs:∀b o,base.get? b=some o->s.heap.get? b=some o/\H b=none
 YM:base.objs.size<=s.heap.objs.size
 zg:s.heap.FunFrames base outer
 frf:∀b∈frs outer,H b=none
 hok:vq P w H s.heap
 bare:AllBare s.gens
def CE(outer:List Env)(P:Program)(w:World)(H:Hp)(s:Shared)(Q:VK)(u:Value)(s':Shared):Prop:=
 ∃v H',s'.os=s.os/\AllBare s'.gens/\Un (frs outer) [] H H' s.heap s'.heap/\vq P w H' s'.heap/\RelV v u/\Q v H'
def CR(CX:Yb)(outer:List Env)(P:Program)(w:World)(H:Hp)(s:Shared)(Q:VK)(E:XK)(r:Result)(s':Shared):Prop:=
 match r with
 | .ok (.ret u)=>CE outer P w H s Q u s'
 | .ok _=>False
 | .error e=>CX outer H s E e s'
structure ph(P:Program)(w:World)(K:PySem.W.Frag)(mg:Str->Option Value)(base:Heap)(CX:Yb)(k:Nat)(f:Addr)(fd:FuncData)(ps:List Str)(sp:Sp):Prop where
 len:∀vs H Q E,sp vs H Q E->vs.length=ps.length
 run:∀(A:Around) (outer:List Env) (s:Shared) (H:Hp) (args:Args) (us:List Value) (vs:List V) (Q:VK) (E:XK),ju k A->X8 P w K mg base A outer s H->BindsTo s fd args (ps.zip us)->Vals vs us->sp vs H Q E->
  codeAny (model P w) A (.call (.ref f) args) (CR CX outer P w H s Q E) s
section
variable{X:Cx}{pins:List (Addr×Obj)}{σ:St}{H:Hp}{s s':Shared}
theorem Inv.env0(I:Inv X pins σ H s):X8 X.prog X.w X.K X.mg X.base X.A X.stack s H:=
 ⟨I.ok.frames,I.ok.mod,I.bs,Nat.le_trans I.ok.YM I.sz,I.stack,I.Kv,I.hok,I.bare⟩
theorem Inv.after{Q:VK}{u:Value}(I:Inv X pins σ H s)(h:CE X.stack X.prog X.w H s Q u s'):EP X pins σ Q u s':=by obtain⟨v,H',os,bare,un,hok,r,q⟩:=h;obtain⟨hh,g,d,t,os'⟩:=s';obtain rfl:os'=s.os:=os;exact⟨v,H',I.call (h':=hh) (g':=g) (d':=d) (t':=t) (ch:=[]) un hok bare (λb z=>absurd z (by simp)),r,q⟩
end
def ac9(sp:Sp)(YL:List V)(E:XK)(t:TA):TE:=λσ H Q=>t σ H λvs H1=>sp (vs++YL) H1 Q E
def Binds(K:PySem.W.Frag)(fd:FuncData)(ps:List Str)(ds:List Value):Prop:=
 ∀(s:Shared) (us:List Value),K.In s.heap->(us++ds).length=ps.length->BindsTo s fd ⟨us,[]⟩ (ps.zip (us++ds))
theorem Binds.all{K:PySem.W.Frag}{fd:FuncData}{ps:List Str}(h:∀us:List Value,us.length=ps.length->bindArgs fd ⟨us,[]⟩=pure (ps.zip us)):Binds K fd ps []:=λs us _ hl=>by
 rw[List.append_nil] at hl ⊢;exact .of_eq (h us hl)
def Passes(CX:Yb)(X:Cx)(E:XK):Prop:=∀(pins:List (Addr×Obj)) (σ:St) (H:Hp) (s:Shared) (e:Value) (s':Shared),Inv X pins σ H s->CX X.stack H s E e s'->X.xe e s'
section
variable{X:Cx}{CX:Yb}{k:Nat}{f C:Addr}{fd:FuncData}{ps:List Str}{sp:Sp}{YL:List V}{ds:List Value}{E:XK}{x m:Str}{p pos apos:Pos}{e o:Expr}{es:List Expr}{ta:TE}{t:TA}
theorem Zz{pins:List (Addr×Obj)}{σ:St}{H:Hp}{s:Shared}{Q:VK}{us:List Value}{vs:List V}(F:ph X.prog X.w X.K X.mg X.base CX k f fd ps sp)(hr:ju k X.A)(hb:Binds X.K fd ps ds)(hd:Vals YL ds)(hx:Passes CX X E)
  (I:Inv X pins σ H s) (r:Vals vs us) (h:sp (vs++YL) H Q E):wpAny (model X.prog X.w) X.A (call (.ref f) us) (EP X pins σ Q) X.xe s:=by
 have r2:Vals (vs++YL) (us++ds):=r.append hd;have hl:(us++ds).length=ps.length:=by rw[<-r2.length];exact F.len _ _ _ _ h
 refine wpAny_call (codeAny_mono (F.run X.A X.stack s H ⟨us,[]⟩ (us++ds) (vs++YL) Q E hr I.env0 (hb s us I.YB hl) r2 h) λr s' hq=>?_);cases r with
 | error e=>exact hx pins σ H s e s' I hq
 | ok fl=>
  cases fl with
  | ret u=>exact I.after hq
  | next=>exact False.elim hq
  | brk=>exact False.elim hq
  | cont=>exact False.elim hq
theorem Df(F:ph X.prog X.w X.K X.mg X.base CX k f fd ps sp)(hr:ju k X.A)(hg:Gl X x)(hm:X.mg x=some (.ref f))(hk:PySem.W.keepIn X.K (.ref f)=true)(hb:Binds X.K fd ps ds)(hd:Vals YL ds)(hx:Passes CX X E)
  (ha:PA X (e::es) t) (hdb:j9 x:=by decide) (he:starEach (e::es) X.env=(false,eval e X.env)::starEach es X.env:=by rfl) (hpl:(backTo pos (starEach es X.env)).any (·.1)=false:=by rfl) :
  PE X (.Call (.Name x p) (e::es) [] pos) (ac9 sp YL E t):=by
 intro pins s σ H Q I h;refine wpAny_Call_Name_kw (K9 I hg hm ?_ hdb);refine PySem.W.callWith_K (h₀:=X.base) I.ok.mod.N5 hk (gG (ha pos pins s σ H _ I h) λus s1 ⟨vs,H1,I1,r,q⟩=>⟨I1.YB,?_⟩) he hpl;exact Zz F hr hb hd hx I1 r q
end
structure bA(N P:List Str)(sc:Scope):Prop where
 kind:sc.kind = .function
 co:sc.isCoroutine=false
 gen:sc.isGenerator=false
 nd:N.Nodup
 pre:N.take P.length=P
 par:∀x∈P,sc.names.lookup x=some .local\/sc.names.lookup x=some .cell
 aaD:∀y∈sc.names,y.2 ≠ .free
theorem Bx{kindOf:Str->Option NameKind}{x:Str}:∀{binds:List (Str×Value)} {m:Str->Option Value},(∀v,(x,v) ∉ binds)->bindL kindOf binds m x=m x
 | [],_,_=>rfl
 | (n,v)::r,m,h=>by
  unfold bindL;rw[Bx λw hw=>h w (List.mem_cons_of_mem _ hw)];split
  ·have:x≠n:=by rintro rfl;exact h v List.mem_cons_self
   simp[this]
  ·rfl
theorem BJ{kindOf:Str->Option NameKind}{x:Str}:∀{binds:List (Str×Value)} {m:Str->Option Value},(∀v,(x,v) ∉ binds)->bindC kindOf binds m x=m x
 | [],_,_=>rfl
 | (n,v)::r,m,h=>by
  unfold bindC;rw[BJ λw hw=>h w (List.mem_cons_of_mem _ hw)];split
  ·rfl
  ·have:x≠n:=by rintro rfl;exact h v List.mem_cons_self
   simp[this]
theorem By{kindOf:Str->Option NameKind}{x:Str}{v:Value}:∀{P:List Str} {vs:List Value} {i:Nat} {m:Str->Option Value},P.Nodup->P[i]? = some x->vs[i]? = some v->kindOf x=some .local->
  bindL kindOf (P.zip vs) m x=some v
 | [],_,_,_,_,h,_,_=>by simp at h
 | _::_,[],_,_,_,_,h,_=>by simp at h
 | p::P,w::vs,0,m,nd,h1,h2,hk=>by
  simp at h1 h2;subst h1;subst h2;show bindL kindOf ((p,w)::P.zip vs) m p=_;unfold bindL;rw[Bx λv hv=>(List.nodup_cons.mp nd).1 (List.of_mem_zip hv).1,if_pos hk];simp
 | p::P,w::vs,i+1,m,nd,h1,h2,hk=>by
  show bindL kindOf ((p,w)::P.zip vs) m x=_;unfold bindL;exact By (i:=i) (List.nodup_cons.mp nd).2 (by simpa using h1) (by simpa using h2) hk
theorem BK{kindOf:Str->Option NameKind}{x:Str}{v:Value}:∀{P:List Str} {vs:List Value} {i:Nat} {m:Str->Option Value},P.Nodup->P[i]? = some x->vs[i]? = some v->kindOf x≠some .local->
  bindC kindOf (P.zip vs) m x=some v
 | [],_,_,_,_,h,_,_=>by simp at h
 | _::_,[],_,_,_,_,h,_=>by simp at h
 | p::P,w::vs,0,m,nd,h1,h2,hk=>by
  simp at h1 h2;subst h1;subst h2;show bindC kindOf ((p,w)::P.zip vs) m p=_;unfold bindC;rw[BJ λv hv=>(List.nodup_cons.mp nd).1 (List.of_mem_zip hv).1,if_neg hk];simp
 | p::P,w::vs,i+1,m,nd,h1,h2,hk=>by
  show bindC kindOf ((p,w)::P.zip vs) m x=_;unfold bindC;exact BK (i:=i) (List.nodup_cons.mp nd).2 (by simpa using h1) (by simpa using h2) hk
def start(N:List Str)(vs:List V):St:=vs.map some++List.replicate (N.length - vs.length) none
def J6(CX:Yb)(P:Program)(w:World)(K:PySem.W.Frag)(mg:Str->Option Value)(base:Heap)(N:List Str)(qual:Str)(scope:Scope)(f:Addr)(cd:Value)(A:Around)(outer:List Env)(s:Shared)(H:Hp)(E:XK):Cx where
 prog:=P
 w:=w
 K:=K
 mg:=mg
 base:=base
 A:=A.deeper (envOfC qual scope s.heap.objs.size f cd)
 N:=N
 s₀:=s
 H₀:=H
 env:=envOfC qual scope s.heap.objs.size f cd
 outer:=outer
 stack:=envOfC qual scope s.heap.objs.size f cd::outer
 ex:=[]
 calm:=true
 fn:=λ_=>true
 pn:=[]
 xe:=λe s'=>wpAny (model P w) (A.deeper (envOfC qual scope s.heap.objs.size f cd)) (leaving (envOfC qual scope s.heap.objs.size f cd) e) (λ_ s''=>CX outer H s E e s'') (λe' s''=>CX outer H s E e' s'') s'
theorem Hq{sc:Scope}{n:Nat}{x:Str}(h:sc.names.lookup x=some .cell):∃c,(cellsFrom n sc.names []).lookup x=some c:=by have q:=PySem.W.cellsFrom_some sc.names n [] (.inl h);exact Option.isSome_iff_exists.mp q
theorem Oa{CX:Yb}{P:Program}{w:World}{K:PySem.W.Frag}{mg:Str->Option Value}{base:Heap}{N ps:List Str}{qual:Str}{scope:Scope}{f:Addr}{cd:Value}{A:Around}{outer:List Env}{s s1:Shared}{H:Hp}{E:XK}{us:List Value}{vs:List V}
  (S:bA N ps scope) (hd:A.handled=none) (e0:X8 P w K mg base A outer s H) (hl:vs.length=ps.length) (r:Vals vs us)
  (x:InCallC s s.heap.objs.size (bindL (envOfC qual scope s.heap.objs.size f cd).kindOf (ps.zip us) λ_=>none) (cellsFrom (s.heap.objs.size+1) scope.names []) (bindC (envOfC qual scope s.heap.objs.size f cd).kindOf (ps.zip us) λ_=>none) s1) :
  Inv (J6 CX P w K mg base N qual scope f cd A outer s H E) [] (start N vs) H s1:=by
 have hpl:ps.length<=N.length:=by have:=congrArg List.length S.pre;rw[List.length_take] at this;omega
 obtain⟨h1,tk,rfl,hk⟩:=x.done;have noA:∀b:Addr,b ∉ (J6 CX P w K mg base N qual scope f cd A outer s H E).ex:=λb z=>absurd (show b∈([]:List Addr) from z) (by simp);refine⟨⟨e0.mod,S.kind,rfl,rfl,Nat.le_refl _,λy z c h1 h2=>?_,λy hy=>?_,λy c _ h=>?_,λ_=>hd,Around.frames_deeper e0.frames,.inr ⟨rfl,rfl⟩,λb z=>absurd z (noA b),e0.bs,e0.YM,λb _ _=>noA b,λb z=>absurd z (noA b),e0.zg,e0.frf⟩,
  rfl,e0.bare,Un.kept hk,⟨_,x.toInCall.ns,λi y v h1 h2 h3=>?_⟩,λy c h=>⟨_,x.cell y c h⟩,e0.hok.fresh (Nat.le_refl _),λy c h=>?_,λp hp=>absurd (show p∈([]:List (Addr×Obj)) from hp) (by simp),e0.hok.kept hk,?_⟩
 ·exact name_of_addr x.apart (PySem.mem_of_lookup h1) (PySem.mem_of_lookup h2)
 ·have hy:scope.names.lookup y=some .cell\/scope.names.lookup y=some .free:=hy;rcases hy with hy|hy
  ·exact Hq hy
  ·exact absurd rfl (S.aaD _ (PySem.mem_of_lookup hy))
 ·exact Nat.le_of_lt (x.above y c (PySem.mem_of_lookup h))
 ·have hi:i<vs.length:=by
   unfold start at h2;by_cases hi:i<vs.length
   ·exact hi
   ·rw[List.getElem?_append_right (by simpa using hi)] at h2;rw[List.getElem?_replicate] at h2;split at h2<;>cases h2
  have ha:vs[i]? = some v:=by
   unfold start at h2;rw[List.getElem?_append_left (by simpa using hi),List.getElem?_map] at h2;cases e:vs[i]? with
   | none=>rw[e] at h2;cases h2
   | some a=>rw[e] at h2;cases h2;rfl
  obtain⟨u,hu,rv⟩:=r.get ha;have hp:ps[i]? = some y:=by rw[<-S.pre,List.getElem?_take_of_lt (by omega)];exact h1
  have ndP:ps.Nodup:=by rw[<-S.pre];exact S.nd.sublist (List.take_sublist _ _)
  refine⟨u,rv,?_⟩;rcases S.par y (List.mem_of_getElem? hp) with k|k
  ·exact .inl ⟨k,By ndP hp hu k⟩
  ·obtain⟨c,e⟩:=Hq (n:=s.heap.objs.size+1) k;refine .inr ⟨.inl k,c,e,?_⟩;have q:=x.cell y c e;rw[BK ndP hp hu (by show scope.names.lookup y≠_;rw[k];decide)] at q;exact q
 ·exact e0.hok.fresh (Nat.le_of_lt (x.above y c (PySem.mem_of_lookup h)))
 ·unfold start;show _=N.length;rw[List.length_append,List.length_map,List.length_replicate];omega
theorem ae4{CX:Yb}{P:Program}{w:World}{K:PySem.W.Frag}{mg:Str->Option Value}{base:Heap}{k:Nat}{f:Addr}{name qual:Str}{params:Arguments}{body:List Stmt}{scope:Scope}{dV kV doc pm cdv ct oc:Value}{an od:Option Addr}
  {osl:Array (Option Value)} {N ps:List Str} {sp:Sp} (lk:K.lookup f=some ⟨oc,od,.func (PySem.W.fnOf name qual params body scope dV kV doc pm an cdv ct),osl⟩) (hcd:PySem.W.codeIn K cdv qual=true) (S:bA N ps scope)
  (len:∀vs H Q E,sp vs H Q E->vs.length=ps.length)
  (hbody:∀(A:Around) (outer:List Env) (s:Shared) (H:Hp) (vs:List V) (Q:VK) (E:XK),ju k (A.deeper (envOfC qual scope s.heap.objs.size f cdv))->sp vs H Q E->
   ∃t,HH (J6 CX P w K mg base N qual scope f cdv A outer s H E) body t/\t { nx:=λ_ H'=>Q .non H',rt:=Q } (start N vs) H) :
  ph P w K mg base CX (k+1) f (PySem.W.fnOf name qual params body scope dV kV doc pm an cdv ct) ps sp:=by
 refine⟨len,λA outer s H args us vs Q E hr e0 hb r hsp=>?_⟩;have hl:=len _ _ _ _ hsp;have KX:K.In s.heap:=e0.mod.N5.keeps λb o e=>(e0.bs b o e).1;have lim:s.heap.NoLimit:=e0.mod.nolimit.keeps λb o e=>(e0.bs b o e).1;have hkind:∀y∈ps.zip us,scope.names.lookup y.1=some .local\/(scope.names.lookup y.1=some .cell/\((cellsFrom (s.heap.objs.size+1) scope.names []).lookup y.1).isSome=true):=λ⟨n,v⟩ hy=>by
  rcases S.par n (List.of_mem_zip hy).1 with q|q
  ·exact .inl q
  ·exact .inr ⟨q,PySem.W.cellsFrom_some _ _ _ (.inl q)⟩
 refine codeAny_call_function hr.depth (KX _ _ lk) rfl S.co S.gen rfl (PySem.W.codeRec_of KX hcd) (hb _ _ _ _ ?_);refine wpAny_newFunctionEnv_cells S.kind hkind λenv he s1 x=>?_;subst he;refine⟨lim.keeps x.toInCall.keep,codeAny_func ?_⟩;obtain⟨t,ht,hq⟩:=hbody A outer s H vs Q E (hr.deeper _) hsp;have I:Inv (J6 CX P w K mg base N qual scope f cdv A outer s H E) [] (start N vs) H s1:=Oa S hr.hd e0 hl r x;refine wpAny_mono (ht [] s1 (start N vs) H _ I hq) (λfl s' hs=>?_) λe s' hs=>hs;have fin:∀{σ':St} {H':Hp} {v:V} {u:Value},Inv (J6 CX P w K mg base N qual scope f cdv A outer s H E) [] σ' H' s'->RelV v u->Q v H'->CE outer P w H s Q u s':=
  λ{σ' H' v u} J rv q=>⟨v,H',J.os,J.bare,J.base,J.hok,rv,q⟩
 cases fl with
 | ret u=>
  obtain⟨v,σ',H',J,rv,q⟩:=hs;exact fin J rv q
 | next=>
  obtain⟨σ',H',J,q⟩:=hs;exact fin (v:=V.non) (u:=Value.none) J rfl q
 | brk=>
  obtain⟨_,_,_,q⟩:=hs;exact False.elim q
 | cont=>
  obtain⟨_,_,_,q⟩:=hs;exact False.elim q
section
variable{X:Cx}{x:Str}{p pos:Pos}{e:Expr}{es:List Expr}{t:TA}{id T:String}{r:List V->Hp->VK->Prop}
def tCB(r:List V->Hp->VK->Prop)(t:TA):TE:=λσ H Q=>t σ H λvs H1=>r vs H1 Q
theorem yP(hc:ji X (.builtin id) r)(hg:Gl X x)(hm:X.mg x=none)(hv:bootBuiltins x=some (.builtin id))(ha:PA X (e::es) t)(hn:x ≠ "__name__":=by decide)(hdb:j9 x:=by decide)
  (he:starEach (e::es) X.env=(false,eval e X.env)::starEach es X.env:=by rfl) (hpl:(backTo pos (starEach es X.env)).any (·.1)=false:=by rfl):PE X (.Call (.Name x p) (e::es) [] pos) (tCB r t):=by
 intro pins s σ H Q I h;refine wpAny_Call_Name_kw (tZ I hg hm hv ?_ hn hdb);exact PyProof.Rows.callWith_builtin1 (gG (ha pos pins s σ H _ I h) λus s1 ⟨vs,H1,I1,r1,q1⟩=>hc pins s1 σ H1 vs us Q I1 r1 q1) he hpl
theorem oX(hc:ji X (.type T) r)(hg:Gl X x)(hm:X.mg x=none)(hv:bootBuiltins x=some (.type T))(ha:PA X (e::es) t)(hn:x ≠ "__name__":=by decide)(hdb:j9 x:=by decide)
  (he:starEach (e::es) X.env=(false,eval e X.env)::starEach es X.env:=by rfl) (hpl:(backTo pos (starEach es X.env)).any (·.1)=false:=by rfl):PE X (.Call (.Name x p) (e::es) [] pos) (tCB r t):=by
 intro pins s σ H Q I h;refine wpAny_Call_Name_kw (tZ I hg hm hv ?_ hn hdb);exact PyProof.Rows.callWith_type1 (gG (ha pos pins s σ H _ I h) λus s1 ⟨vs,H1,I1,r1,q1⟩=>hc pins s1 σ H1 vs us Q I1 r1 q1) he hpl
end
end L2
namespace HT
open PySem PyProof.Rows
section
variable{prog:Program}{w:World}{A:Around}{E:Value->Shared->Prop}{s:Shared}
theorem XF{t b:Addr}{vs ws:List Value}{Q:Value->Shared->Prop}(ht:IsTup s.heap t vs.toArray)(hb:IsTup s.heap b ws.toArray)(hv:vs≠[])
  (h1:ws=[]->Q (.ref t) s) (h2:ws≠[]->Q (.ref s.heap.objs.size) { s with heap:=s.heap.push { cls:=.type "tuple",data:=.seq (vs++ws).toArray } })
  (hsz:vs.length+ws.length<=sizeLine):wpAny (model prog w) A (binaryOp .Add (.ref t) (.ref b)) Q E s:=by
 obtain⟨⟨cls,dd,data,sl⟩,ho,hc,n,hd⟩:=id ht;obtain⟨⟨cls2,dd2,data2,sl2⟩,ho2,hc2,n2,hd2⟩:=id hb;simp only at hc hd hc2 hd2;subst hc hd hc2 hd2;have e:vs.toArray++ws.toArray=(vs++ws).toArray:=by simp
 by_cases hw:ws=[]
 ·exact concat_meets ⟨_,ho,rfl⟩ ⟨_,ho2,rfl⟩ noFill_tuple_add seq_tuple_add PySem.F.slot_tuple_add PySem.F.entry_tuple_add (PySem.F.args_tuple_add_2 _ _)
   (tuple_addW1 t b vs.toArray ws.toArray n n2 dd dd2 sl sl2 (by simpa using hv) (by simp[hw])) ⟨ho,ho2,h1 hw⟩
 ·refine concat_meets ⟨_,ho,rfl⟩ ⟨_,ho2,rfl⟩ noFill_tuple_add seq_tuple_add PySem.F.slot_tuple_add PySem.F.entry_tuple_add (PySem.F.args_tuple_add_2 _ _)
   (tuple_addW2 t b vs.toArray ws.toArray n n2 dd dd2 sl sl2 (by simpa using hv) (by simpa using hw) (by rw[List.size_toArray,List.size_toArray];exact hsz)) ⟨ho,ho2,?_⟩
  rw[e];exact h2 hw
def fL(n d:Nat):Option Int->Nat
 | none=>d
 | some v=>if v<0 then (v+(n:Int)).toNat else min v.toNat n
theorem Vf(n d k:Nat):fL n d (some (k:Int))=min k n:=by show(if (k:Int)<0 then ((k:Int)+(n:Int)).toNat else min (k:Int).toNat n)=min k n;rw[if_neg (by omega),Int.toNat_natCast]
theorem CP(n d:Nat)(hd:d<=n)(o:Option Int):fL n d o<=n:=by
 cases o with
 | none=>exact hd
 | some v=>
  show(if v<0 then (v+(n:Int)).toNat else min v.toNat n)<=n;by_cases hv:v<0
  ·rw[if_pos hv];omega
  ·rw[if_neg hv];exact Nat.min_le_right _ _
theorem Lz(v:Int)(n d:Nat):(if v<0 then max (v+(n:Int)) 0 else min v (n:Int))=((fL n d (some v):Nat):Int):=by
 show(if v<0 then max (v+(n:Int)) 0 else min v (n:Int))=(((if v<0 then (v+(n:Int)).toNat else min v.toNat n):Nat):Int);by_cases hv:v<0
 ·simp only[if_pos hv];omega
 ·simp only[if_neg hv];omega
theorem Ke(lo hi:Option Int)(n:Nat):Builtin.Slice.sliceAdjust lo hi 1 (n:Int)=(((fL n 0 lo:Nat):Int),((fL n n hi:Nat):Int)):=by
 have h1:¬((1:Int)<0):=by omega
 unfold Builtin.Slice.sliceAdjust;simp only[h1,if_false];refine Prod.ext ?_ ?_
 ·cases lo with
  | none=>rfl
  | some v=>exact Lz v n 0
 ·cases hi with
  | none=>rfl
  | some v=>exact Lz v n n
theorem Jq(i j:Nat):Builtin.Slice.slicePlaces (i:Int) (j:Int) 1=j - i:=by
 unfold Builtin.Slice.slicePlaces;have h1:(1:Int) > 0:=by omega
 simp only[h1,if_true,Int.ediv_one];split<;>omega
theorem sV{v:Value}{o:Option Int}{Q:Option Int->Shared->Prop}(p:IsPart v o)(h:Q o s):wpAny (model prog w) A (Builtin.Slice.slicePartIndex v) Q E s:=by
 cases p with
 | none=>exact slicePart_none h
 | int i t=>exact slicePart_int h
theorem oV{sl:Addr}{vl vu:Value}{lo hi:Option Int}{n:Nat}{Q:Int×Int×Nat->Shared->Prop}(hs:s.heap.IsSliceOf sl vl vu .none)(pl:IsPart vl lo)(pu:IsPart vu hi)
  (h:Q (((fL n 0 lo:Nat):Int),1,fL n n hi - fL n 0 lo) s):wpAny (model prog w) A (Builtin.Slice.sliceApplied (.ref sl) (pure (n:Int))) Q E s:=by
 obtain⟨os,hos,hcs,hds⟩:=id hs;unfold Builtin.Slice.sliceApplied Builtin.Slice.sliceFields;refine wpAny_bind (wpAny_bind (wpAny_field hos hds (x:=vl) rfl (wpAny_bind (wpAny_field hos hds (x:=vu) rfl (wpAny_bind (wpAny_field hos hds (x:=.none) rfl (wpAny_pure ?_)))))));refine wpAny_bind (slicePart_none ?_);show wpAny _ _ (if ((1:Int) == 0)=true then _ else _) _ _ s;rw[if_neg (by decide)];refine wpAny_bind (sV pl (wpAny_bind (sV pu (wpAny_bind (wpAny_pure ?_)))));show wpAny _ _ (match Builtin.Slice.sliceAdjust lo hi 1 (n:Int) with|(lo,hi)=>pure (lo,(1:Int),Builtin.Slice.slicePlaces lo hi 1)) _ _ s;rw[Ke lo hi n];show wpAny _ _ (pure (((fL n 0 lo:Nat):Int),(1:Int),Builtin.Slice.slicePlaces ((fL n 0 lo:Nat):Int) ((fL n n hi:Nat):Int) 1)) _ _ s;rw[Jq];exact wpAny_pure h
theorem QX(xs:Array Value)(i k:Nat):((List.range k).filterMap λ(m:Nat)=>xs[((i:Int)+(m:Int)*1).toNat]?).toArray=((xs.toList.drop i).take k).toArray:=by
 have e:(λ(m:Nat)=>xs[((i:Int)+(m:Int)*1).toNat]?)=λm=>xs[i+m]?:=by
  funext m
  have:((i:Int)+(m:Int)*1).toNat=i+m:=by omega
  rw[this]
 rw[e];have:=pick_run xs i k;rw[List.filterMap_map] at this;have e2:((λx=>xs[x]?) ∘ λx=>i+x)=λm=>xs[i+m]?:=rfl;rw[e2] at this;rw[this]
theorem uQ{t sl:Addr}{items:Array Value}{vl vu:Value}{lo hi:Option Int}{Q:Value->Shared->Prop}(ht:IsTup s.heap t items)(hs:s.heap.IsSliceOf sl vl vu .none)(pl:IsPart vl lo)(pu:IsPart vu hi)
  (hw:¬(fL items.size 0 lo=0/\fL items.size items.size hi=items.size))
  (h:Q (.ref s.heap.objs.size) { s with heap:=s.heap.push { cls:=.type "tuple",data:=.seq ((items.toList.drop (fL items.size 0 lo)).take (fL items.size items.size hi - fL items.size 0 lo)).toArray } })
  (hsz:items.size<=sizeLine):wpAny (model prog w) A (getItem (.ref t) (.ref sl)) Q E s:=by
 have Li:sizeOk (.seq ((items.toList.drop (fL items.size 0 lo)).take (fL items.size items.size hi - fL items.size 0 lo)).toArray):=by show((items.toList.drop (fL items.size 0 lo)).take (fL items.size items.size hi - fL items.size 0 lo)).toArray.size<=sizeLine;rw[List.size_toArray,List.length_take,List.length_drop,Array.length_toList];omega
 have hj:fL items.size items.size hi<=items.size:=CP _ _ (Nat.le_refl _) hi;obtain⟨os,hos,hcs,hds⟩:=id hs;have hTs:s.TypeIs (.ref sl) "slice":=⟨os,hos,hcs⟩;unfold getItem
 try with_reducible refine wpAny_holding ?_
 first|refine wpAny_bind (wpAny_pure ?_)|skip
 refine wpAny_bind (wpAny_sequenceKey ht.typeIs (by decide) ?_);refine wpAny_bind (wpAny_callSpecial?_slot (name:=Str.ofString "__getitem__") ht.typeIs PyProof.Rows.slot_tuple_getitem
  (wpAny_call_entry PyProof.Rows.slot_tuple_getitem ht.typeIs entry_tuple_getitem ?_ (args_tuple_getitem _ _)))
 show wpAny _ _ (Builtin.Tuple.tupleItemsOf (.ref t) >>= _) _ _ s;refine wpAny_bind (tupleItemsOf_ ht ?_);refine wpAny_bind (wpAny_typeOf hTs ?_);rw[if_pos (by decide)];refine wpAny_bind (oV hs pl pu ?_);have hno:¬((((fL items.size 0 lo:Nat):Int) == 0&&(1:Int) == 1&&(fL items.size items.size hi - fL items.size 0 lo) == items.size)=true):=by intro q;rw[Bool.and_eq_true,Bool.and_eq_true] at q;have q1:((fL items.size 0 lo:Nat):Int)=0:=eq_of_beq q.1.1;have q2:fL items.size items.size hi - fL items.size 0 lo=items.size:=eq_of_beq q.2;exact hw ⟨by omega,by omega⟩
 show wpAny _ _ (if (((fL items.size 0 lo:Nat):Int) == 0&&(1:Int) == 1&&(fL items.size items.size hi - fL items.size 0 lo) == items.size)=true then _ else _) _ _ s;rw[if_neg hno,QX]
 first
  | exact wpAny_bind (m:=Builtin.Tuple.tupleExact _) (wpAny_newObj_type (wpAny_pure ⟨_,rfl,wpAny_pure h⟩) Li)
  | exact wpAny_bind (m:=Builtin.Tuple.tupleExact _) (wpAny_newObj_type (wpAny_bind (wpAny_pure (wpAny_pure ⟨_,rfl,wpAny_pure h⟩))) Li)
  | exact wpAny_bind (wpAny_bind (m:=Builtin.Tuple.tupleExact _) (wpAny_newObj_type (wpAny_pure (wpAny_pure ⟨_,rfl,wpAny_pure h⟩)) Li))
  | exact wpAny_bind (wpAny_bind (m:=Builtin.Tuple.tupleExact _) (wpAny_newObj_type (wpAny_pure ⟨_,rfl,wpAny_pure h⟩) Li))
end
end HT
namespace L2
open PySem PySem.Spec PyProof.Rows
abbrev TO:=St->Hp->(Option Int->Hp->Prop)->Prop
def PO(X:Cx)(e:Option Expr)(t:TO):Prop:=
 ∀(pins:List (Addr×Obj)) (s:Shared) (σ:St) (H:Hp) (Q:Option Int->Hp->Prop),Inv X pins σ H s->t σ H Q->
  wpAny (model X.prog X.w) X.A (evalPart e X.env) (λu s'=>∃o H',Inv X pins σ H' s'/\IsPart u o/\Q o H') X.xe s
def UT:TO:=λ_ H Q=>Q none H
def ac2(t:TE):TO:=λσ H Q=>t σ H λx H1=>∃i,x = .int i/\Q (some i) H1
theorem intsAre_of{ns:List Int}:∀{us:List Value},Vals (ns.map V.int) us->IntsAre us ns:=by
 induction ns with
 | nil=>intro us r;rw[List.map_nil] at r;cases r;exact .nil
 | cons n ns ih=>
  intro us r;rw[List.map_cons] at r;cases r with
  | cons r1 r2=>
   obtain⟨t,e⟩:=r1;subst e;exact .cons n t (ih r2)
section
variable{X:Cx}{e:Expr}{te:TE}{lo hi:Option Expr}{tl th:TO}{pos p2:Pos}
theorem VD:PO X none UT:=by intro pins s σ H Q I h;rw[evalPart_none];exact wpAny_pure ⟨none,H,I,.none,h⟩
theorem VB(h:PE X e te):PO X (some e) (ac2 te):=by intro pins s σ H Q I hw;rw[evalPart_some];refine gG (h pins s σ H _ I hw) λu s1 ⟨x,H1,I1,r1,q1⟩=>?_;obtain⟨i,rfl,q⟩:=q1;obtain⟨t,rfl⟩:=r1;exact⟨some i,H1,I1,.int i t,q⟩
def Mi(X:Cx)(r:V->Option Int->Option Int->Hp->VK->Prop):Prop:=
 ∀(pins:List (Addr×Obj)) (s:Shared) (σ:St) (H:Hp) (x:V) (v vl vu:Value) (lo hi:Option Int) (sl:Addr) (Q:VK),Inv X pins σ H s->RelV x v->s.heap.IsSliceOf sl vl vu .none->IsPart vl lo->IsPart vu hi->r x lo hi H Q->
  ∃T id,typeLookup (.type T) "__getitem__" = pure (some (.builtin id))/\s.TypeIs v T/\wpAny (model X.prog X.w) X.A (getItem v (.ref sl)) (EP X pins σ Q) X.xe s
theorem Mi.or{r r':V->Option Int->Option Int->Hp->VK->Prop}(h:Mi X r)(h':Mi X r'):Mi X (λx lo hi H Q=>r x lo hi H Q\/r' x lo hi H Q):=by
 intro pins s σ H x v vl vu lo hi sl Q I rx hs pl pu q;rcases q with q|q
 ·exact h pins s σ H x v vl vu lo hi sl Q I rx hs pl pu q
 ·exact h' pins s σ H x v vl vu lo hi sl Q I rx hs pl pu q
def tSl(r:V->Option Int->Option Int->Hp->VK->Prop)(te:TE)(tl th:TO):TE:=λσ H Q=>te σ H λx H1=>tl σ H1 λl H2=>th σ H2 λu H3=>r x l u H3 Q
theorem yO{r:V->Option Int->Option Int->Hp->VK->Prop}(hr:Mi X r)(he:PE X e te)(hl:PO X lo tl)(hu:PO X hi th):PE X (.Subscript e (.Slice lo hi none p2) pos) (tSl r te tl th):=by intro pins s σ H Q I h;refine Subscript_ (gG (he pins s σ H _ I h) λv s1 ⟨x,H1,I1,r1,q1⟩=>?_);refine wpAny_Slice (gG (hl pins s1 σ H1 _ I1 q1) λvl s2 ⟨l,H2,I2,pl,q2⟩=>gG (hu pins s2 σ H2 _ I2 q2) λvu s3 ⟨u,H3,I3,pu,q3⟩=>?_);rw[evalPart_none];refine wpAny_pure ?_;have I4:Inv X pins σ H3 { s3 with heap:=s3.heap.push { cls:=.type "slice",data:=.fields #[vl,vu,.none] } }:=I3.kept (t':=s3.toks) λb ob q=>Heap.get?_push_of_some _ q;obtain⟨T,id,hT,ht,hg⟩:=hr pins { s3 with heap:=s3.heap.push { cls:=.type "slice",data:=.fields #[vl,vu,.none] } } σ H3 x v vl vu l u s3.heap.objs.size Q I4 r1 (Heap.IsSliceOf.new ..) pl pu q3;show wpAny (model X.prog X.w) X.A (subscriptTail e (.Slice lo hi none p2) v (.ref s3.heap.objs.size)) (EP X pins σ Q) X.xe { s3 with heap:=s3.heap.push { cls:=.type "slice",data:=.fields #[vl,vu,.none] } };exact tail_any (ops:=[.ref s3.heap.objs.size,v]) ht hT hg (by with_unfolding_all rfl)
def xF(xs:List V)(lo hi:Option Int):List V:=(xs.drop (HT.fL xs.length 0 lo)).take (HT.fL xs.length xs.length hi - HT.fL xs.length 0 lo)
theorem wY(xs:List V)(lo hi:Option Int):(xF xs lo hi).length<=xs.length:=by unfold xF;rw[List.length_take,List.length_drop];omega
def ZG(K:PySem.W.Frag):V->Option Int->Option Int->Hp->VK->Prop:=λx lo hi H Q=>∃a xs,x = .ref a/\nG K H a xs/\
 ¬(HT.fL xs.length 0 lo=0/\HT.fL xs.length xs.length hi=xs.length)/\∀p,H p=none->Q (.ref p) (upd H p (.tup (xF xs lo hi)))
theorem IW:Mi X (ZG X.K):=by
 intro pins s σ H x v vl vu lo hi sl Q I rx hs pl pu h;obtain⟨a,xs,rfl,hx,hw,q⟩:=h;cases rx;obtain⟨its,r,ht,hz⟩:=I.tuple hx;have hlen:its.toArray.size=xs.length:=by rw[List.size_toArray];exact r.length.symm
 refine⟨"tuple",_,PyProof.Rows.slot_tuple_getitem.lookup,ht.typeIs,?_⟩;refine HT.uQ ht hs pl pu (by rw[hlen];exact hw) ?_ (by rw[hlen];exact hz);rw[hlen];refine⟨.ref s.heap.objs.size,_,I.laid (t':=s.toks) (o:=.tup (xF xs lo hi)) (λb ob q=>Heap.get?_push_of_some _ q) (Nat.le_refl _) ?_,rfl,q _ (I.hok.fresh (Nat.le_refl _))⟩;exact⟨Nat.le_trans (wY xs lo hi) hz,_,(r.drop (HT.fL xs.length 0 lo)).take (HT.fL xs.length xs.length hi - HT.fL xs.length 0 lo),zT.new _ _⟩
def Yo(K:PySem.W.Frag):R2:=λx y H Q=>∃a b xs ys,x = .ref a/\y = .ref b/\nG K H a xs/\nG K H b ys/\xs≠[]/\xs.length+ys.length<=sizeLine/\
 (ys=[]->Q (.ref a) H)/\(ys≠[]->∀p,H p=none->Q (.ref p) (upd H p (.tup (xs++ys))))
theorem Vals.Dn{xs:List V}{us:List Value}(r:Vals xs us):us=[]↔xs=[]:=by
 cases r with
 | nil=>simp
 | cons _ _=>simp
theorem V6:pA X (binaryOp .Add) (Yo X.K):=by intro pins s σ H x y v u Q I rx ry h;obtain⟨a,b,xs,ys,rfl,rfl,ha,hb,hx,hz,q1,q2⟩:=h;cases rx;cases ry;obtain⟨its,r1,p1,_⟩:=I.tuple ha;obtain⟨its2,r2,p2,_⟩:=I.tuple hb;refine HT.XF p1 p2 (λz=>hx (r1.Dn.mp z)) (λz=>⟨.ref a,H,I,rfl,q1 (r2.Dn.mp z)⟩) (λz=>?_) (by rw[<-r1.length,<-r2.length];exact hz);refine⟨.ref s.heap.objs.size,_,I.laid (t':=s.toks) (o:=.tup (xs++ys)) (λb ob q=>Heap.get?_push_of_some _ q) (Nat.le_refl _) ?_,rfl,q2 (λw=>z (r2.Dn.mpr w)) _ (I.hok.fresh (Nat.le_refl _))⟩;exact⟨by rw[List.length_append];exact hz,_,r1.append r2,zT.new _ _⟩
end
def R8(n:Nat)(i:Int):Option Nat:=if 0<=i then (if i<n then some i.toNat else none) else if -(n:Int)<=i then some (i+n).toNat else none
def oA{α:Type}(xs:List α)(i:Int):Option α:=(R8 xs.length i).bind λj=>xs[j]?
theorem Ld{n:Nat}{i:Int}{j:Nat}(h:R8 n i=some j):seqIndex? i n=some j/\j<n/\-(n:Int)<=i/\i<n:=by
 unfold R8 at h;by_cases h0:0<=i
 ·rw[if_pos h0] at h;by_cases h1:i<n
  ·rw[if_pos h1] at h;have e:i.toNat=j:=Option.some.inj h;exact⟨by rw[seqIndex_of h0 h1,e],by omega,by omega,h1⟩
  ·rw[if_neg h1] at h;cases h
 ·rw[if_neg h0] at h;by_cases h1 : -(n:Int)<=i
  ·rw[if_pos h1] at h;have e:(i+n).toNat=j:=Option.some.inj h;exact⟨by rw[seqIndex_neg (by omega) h1,e],by omega,h1,by omega⟩
  ·rw[if_neg h1] at h;cases h
theorem Ek{α:Type}{xs:List α}{i:Int}{v:α}(h:oA xs i=some v):∃j,seqIndex? i xs.length=some j/\xs[j]? = some v/\j<xs.length/\-(xs.length:Int)<=i/\i<xs.length:=by
 unfold oA at h;cases e:R8 xs.length i with
 | none=>rw[e] at h;cases h
 | some j=>
  rw[e] at h;obtain⟨h1,h2,h3,h4⟩:=Ld e;exact⟨j,h1,h,h2,h3,h4⟩
theorem lD{α:Type}{xs:List α}{j:Nat}{v:α}(h:xs[j]? = some v):oA xs (j:Int)=some v:=by
 have hj:j<xs.length:=(List.getElem?_eq_some_iff.mp h).1;have e:R8 xs.length (j:Int)=some j:=by unfold R8;rw[if_pos (by omega),if_pos (by omega)];simp
 unfold oA;rw[e];exact h
def pW(b:Expr):Prop:=∀o i,subscripted b false o i=operate [o,i] (getItem o i)
def X7(X:Cx)(r:R2):Prop:=
 ∀(value slice:Expr) (pins:List (Addr×Obj)) (s:Shared) (σ:St) (H:Hp) (x y:V) (v u:Value) (Q:VK),Inv X pins σ H s->RelV x v->RelV y u->r x y H Q->
  subscripted slice false v u=operate [v,u] (getItem v u)->wpAny (model X.prog X.w) X.A (subscriptTail value slice v u) (EP X pins σ Q) X.xe s
def MtR(X:Cx)(id:String)(r:V->List V->Hp->VK->Prop):Prop:=
 ∀(pins:List (Addr×Obj)) (s:Shared) (σ:St) (H:Hp) (x:V) (xs:List V) (v:Value) (us:List Value) (Q:VK),Inv X pins σ H s->RelV x v->Vals xs us->r x xs H Q->
  wpAny (model X.prog X.w) X.A (call (.builtin id) (v::us)) (EP X pins σ Q) X.xe s
section
variable{X:Cx}{a b:Expr}{ta tb:TE}{pos:Pos}
theorem X7.or{r r':R2}(h:X7 X r)(h':X7 X r'):X7 X (λx y H Q=>r x y H Q\/r' x y H Q):=by
 intro value slice pins s σ H x y v u Q I rx ry q hs;rcases q with q|q
 ·exact h value slice pins s σ H x y v u Q I rx ry q hs
 ·exact h' value slice pins s σ H x y v u Q I rx ry q hs
theorem Yr{r:R2}(hr:X7 X r)(ha:PE X a ta)(hb:PE X b tb)(hs:pW b):PE X (.Subscript a b pos) (Zj r ta tb):=by intro pins s σ H Q I h;exact Subscript_ (acG ha hb I h λv u s2 x y H2 I2 rx ry q=>hr a b pins s2 σ H2 x y v u Q I2 rx ry q (hs _ _))
def ady(K:PySem.W.Frag):R2:=λx y H Q=>∃p xs i v,x = .ref p/\y = .int i/\jT K H p xs/\oA xs i=some v/\Q v H
def adw(K:PySem.W.Frag):R2:=λx y H Q=>∃p xs i v,x = .ref p/\y = .int i/\nG K H p xs/\oA xs i=some v/\Q v H
def adx:R2:=λx y H Q=>∃z i c,x = .str z/\y = .int i/\z.length<=sizeLine/\oA z.cps.toList i=some c/\Q (.str ⟨#[c]⟩) H
theorem Wz:X7 X (ady X.K):=by
 intro value slice pins s σ H x y v u Q I rx ry h hs;obtain⟨p,xs,i,z,rfl,rfl,hq,he,q⟩:=h;cases rx;obtain⟨t,rfl⟩:=ry;obtain⟨its,r,pl,hz⟩:=I.list hq;obtain⟨j,h1,h2,h3,h4,h5⟩:=Ek he;obtain⟨w,ew,Vg⟩:=r.get h2;have hl:=r.length;have hn:=za;have fin:EP X pins σ Q w s:=⟨z,H,I,Vg,q⟩;by_cases h0:0<=i
 ·have hj:i.toNat=j:=by
   rw[seqIndex_of h0 h5] at h1;exact Option.some.inj h1
  exact item_listR pl.isList h0 (by omega) (by rw[hj];simpa using ew) fin hs
 ·have hj:(i+(its.toArray.size:Int)).toNat=j:=by
   rw[seqIndex_neg (by omega) h4] at h1;rw[List.size_toArray,<-hl];exact Option.some.inj h1
  exact subscriptTail_builtinR (x:=w) pl.isList.typeIs slot_list_getitem.lookup
   (wpAny_getItem_list_neg (Q:=λr s'=>r=w/\EP X pins σ Q r s') pl.isList (by omega) (by rw[List.size_toArray]<;>omega) (by omega) (by rw[hj];simpa using ew) ⟨rfl,fin⟩) hs
theorem abG:X7 X (adw X.K):=by
 intro value slice pins s σ H x y v u Q I rx ry h hs;obtain⟨p,xs,i,z,rfl,rfl,hq,he,q⟩:=h;cases rx;obtain⟨t,rfl⟩:=ry;obtain⟨its,r,pl,hz⟩:=I.tuple hq;obtain⟨j,h1,h2,h3,h4,h5⟩:=Ek he;obtain⟨w,ew,Vg⟩:=r.get h2;have hl:=r.length;have hn:=za;have fin:EP X pins σ Q w s:=⟨z,H,I,Vg,q⟩;exact subscriptTail_builtinR (x:=w) pl.typeIs slot_tuple_getitem.lookup
  (getItem_tuple (j:=j) (Q:=λr s'=>r=w/\EP X pins σ Q r s') pl (by omega) (by omega) (by rw[List.size_toArray,<-hl];exact h1) (by simpa using ew) ⟨rfl,fin⟩) hs
theorem abH:X7 X adx:=by
 intro value slice pins s σ H x y v u Q I rx ry h hs;obtain⟨z,i,c,rfl,rfl,hz,he,q⟩:=h;obtain⟨t,rfl⟩:=rx;obtain⟨t',rfl⟩:=ry;obtain⟨j,h1,h2,h3,h4,h5⟩:=Ek he;have hl:z.cps.toList.length=z.length:=by simp[Str.length]
 rw[hl] at h1 h4 h5;have hn:=za;exact tail_any (typeIs_str s z t) slot_str_getitem.lookup (getItem_str (c:=c) (by
  have e1:decide (i < -(2^63:Int))=false:=decide_eq_false (by omega);have e2:decide (i ≥ 2^63)=false:=decide_eq_false (by omega);rw[e1,e2,Bool.or_false]) (by rw[h1];simpa using h2) ⟨.str ⟨#[c]⟩,H,I.tok _,⟨_,rfl⟩,q⟩) hs
def rIx(K:PySem.W.Frag):R2:=λx y H Q=>ady K x y H Q\/adw K x y H Q\/adx x y H Q
theorem R7:X7 X (rIx X.K):=Wz.or (abG.or abH)
theorem JH(its:List Value)(n j:Nat)(u:Value):Obj.mapSeq (·.setIfInBounds j u) { cls:=.type "list",data:=.seq its.toArray n } = { cls:=.type "list",data:=.seq (its.set j u).toArray n }:=by simp[Obj.mapSeq]
theorem Inv.lst{pins:List (Addr×Obj)}{σ:St}{H:Hp}{s:Shared}{p:Addr}{xs:List V}(I:Inv X pins σ H s)(h:H p=some (.lst xs)) :
  ∃(its:List Value) (n:Nat),Vals xs its/\s.heap.get? p=some { cls:=.type "list",data:=.seq its.toArray n }/\xs.length<=sizeLine:=by
 obtain⟨z,its,n,r,e⟩:=I.hok p _ h;exact⟨its,n,r,e,z⟩
theorem Inv.aaL{pins:List (Addr×Obj)}{σ:St}{H:Hp}{s:Shared}{p:Addr}{xs ys:List V}{its its':List Value}{n n':Nat}{f:Obj->Obj}(I:Inv X pins σ H s)(h:H p=some (.lst xs))
  (ho:s.heap.get? p=some { cls:=.type "list",data:=.seq its.toArray n }) (hf:f { cls:=.type "list",data:=.seq its.toArray n } = { cls:=.type "list",data:=.seq its'.toArray n' }) (r:Vals ys its') (hz:ys.length<=sizeLine) (t:Nat) :
  Inv X pins σ (upd H p (.lst ys)) { s with heap:=s.heap.update p f,toks:=t }:=by
 have e:(s.heap.update p f).get? p=some { cls:=.type "list",data:=.seq its'.toArray n' }:=by rw[Heap.get?_update_self f ho (by rw[hf]<;>rfl),hf]
 refine I.write (x:=p) (e:=p) (by rw[h];trivial) (.inl rfl) (λb u hb q=>(Heap.get?_update_other _ _ (Ne.symm hb)).trans q) ⟨_,e⟩ ?_;exact⟨hz,its',n',r,e⟩
def adt:V->V->V->Hp->(Hp->Prop)->Prop:=λo i v H Q=>∃p xs k j,o = .ref p/\i = .int k/\H p=some (.lst xs)/\R8 xs.length k=some j/\Q (upd H p (.lst (xs.set j v)))
theorem set_list:afo X adt:=by
 intro pins s σ H o i v ov iv u Q I ro ri rv h;obtain⟨p,xs,k,j,rfl,rfl,hp,hj,q⟩:=h;cases ro;obtain⟨t,rfl⟩:=ri;obtain⟨its,n,r,ho,hz⟩:=I.lst hp;obtain⟨h1,h2,h3,h4⟩:=Ld hj;have hl:=r.length;have hn:=za;have I':Inv X pins σ (upd H p (.lst (xs.set j v))) { s with heap:=s.heap.update p (Obj.mapSeq (·.setIfInBounds j u)) }:=
  I.aaL hp ho (JH its n j u) (r.set rv j) (by rw[List.length_set];exact hz) s.toks
 by_cases h0:0<=k
 ·have hk:k.toNat=j:=by
   rw[seqIndex_of h0 h4] at h1;exact Option.some.inj h1
  exact PySem.W.ki_setAt ho h0 (by omega) (by rw[List.size_toArray,<-hl];exact h4) (by rw[hk];exact⟨_,I',q⟩)
 ·have hk:(k+(its.toArray.size:Int)).toNat=j:=by
   rw[seqIndex_neg (by omega) h3] at h1;rw[List.size_toArray,<-hl];exact Option.some.inj h1
  exact PySem.W.ki_setBack ho (by omega) (by rw[List.size_toArray,<-hl];exact h3) (by omega) (by rw[hk];exact⟨_,I',q⟩)
theorem Cy(lo hi:Option Int)(n:Nat):(sliceBounds lo hi none n).1=((HT.fL n 0 lo:Nat):Int)/\(sliceBounds lo hi none n).2.1=((HT.fL n n hi:Nat):Int)/\(sliceBounds lo hi none n).2.2=1:=by
 refine⟨?_,?_,rfl⟩
 ·cases lo with
  | none=>simp[sliceBounds,HT.fL]
  | some i=>
   simp only[sliceBounds,HT.fL,Option.getD_none,show(1:Int) > 0 by decide,if_true];by_cases h:i<0
   ·simp only[h,if_true]<;>omega
   ·simp only[h,if_false]<;>omega
 ·cases hi with
  | none=>simp[sliceBounds,HT.fL]
  | some i=>
   simp only[sliceBounds,HT.fL,Option.getD_none,show(1:Int) > 0 by decide,if_true];by_cases h:i<0
   ·simp only[h,if_true]<;>omega
   ·simp only[h,if_false]<;>omega
theorem z7(its:List Value)(lo hi:Option Int):slicePick its.toArray lo hi none=((its.drop (HT.fL its.length 0 lo)).take (HT.fL its.length its.length hi - HT.fL its.length 0 lo)).toArray:=by obtain⟨h1,h2,h3⟩:=Cy lo hi its.toArray.size;unfold slicePick;rw[h1,h2,h3];simp only[sliceRange_one,pick_run,List.size_toArray]<;>rfl
def adq(K:PySem.W.Frag):V->Option Int->Option Int->Hp->VK->Prop:=λx lo hi H Q=>∃a xs,x = .ref a/\jT K H a xs/\∀p,H p=none->Q (.ref p) (upd H p (.lst (xF xs lo hi)))
theorem Kz:Mi X (adq X.K):=by intro pins s σ H x v vl vu lo hi sl Q I rx hs pl pu h;obtain⟨a,xs,rfl,hx,q⟩:=h;cases rx;obtain⟨its,r,ht,hz⟩:=I.list hx;have hlen:=r.length;refine⟨"list",_,slot_list_getitem.lookup,ht.isList.typeIs,?_⟩;refine wpAny_getItem_list_slice ht.isList hs pl pu .none (by simp) ?_ (by rw[List.size_toArray]<;>omega);rw[z7,<-hlen];refine⟨.ref s.heap.objs.size,_,I.laid (t':=s.toks) (o:=.lst (xF xs lo hi)) (λb ob q=>Heap.get?_push_of_some _ q) (Nat.le_refl _) ?_,rfl,q _ (I.hok.fresh (Nat.le_refl _))⟩;exact⟨Nat.le_trans (wY xs lo hi) hz,_,0,(r.drop (HT.fL xs.length 0 lo)).take (HT.fL xs.length xs.length hi - HT.fL xs.length 0 lo),Heap.get?_push_size _ rfl⟩
theorem ji.or{f:Value}{r r':List V->Hp->VK->Prop}(h:ji X f r)(h':ji X f r'):ji X f (λxs H Q=>r xs H Q\/r' xs H Q):=by
 intro pins s σ H xs us Q I rs q;rcases q with q|q
 ·exact h pins s σ H xs us Q I rs q
 ·exact h' pins s σ H xs us Q I rs q
theorem Ed:ji X (.type "list") (λxs H Q=>∃p ys,xs=[.ref p]/\(jT X.K H p ys\/nG X.K H p ys)/\∀l,H l=none->Q (.ref l) (upd H l (.lst ys))):=by
 intro pins s σ H xs us Q I r h;obtain⟨p,ys,rfl,hq,q⟩:=h;obtain⟨u,rfl,rx⟩:=vals1 r;cases rx;have fin:∀(its:List Value),Vals ys its->ys.length<=sizeLine->∀(h':Heap) (c':Nat),(∀b o',s.heap.get? b=some o'->h'.get? b=some o')->
   h'.get? s.heap.objs.size=some { cls:=.type "list",dict:=none,data:=.seq its.toArray c',slots:=#[] }->EP X pins σ Q (.ref s.heap.objs.size) { s with heap:=h' }:=λits r' hz h' c' kp e=>
  ⟨.ref s.heap.objs.size,_,I.laid (t':=s.toks) kp (Nat.le_refl _) (show gP X.prog X.w _ h' _ (.lst ys) from⟨hz,its,c',r',e⟩),rfl,q _ (I.hok.fresh (Nat.le_refl _))⟩
 rcases hq with hq|hq
 ·obtain⟨its,r',pl,hz⟩:=I.list hq;have hlen:=r'.length;obtain⟨o,ho,hc,n,hd⟩:=pl.isList;exact call_list_seq p (.inl rfl) ho hc hd (λh' c' kp e=>fin its r' hz h' c' kp e) (by simp only[List.size_toArray]<;>omega)
 ·obtain⟨its,r',pl,hz⟩:=I.tuple hq;have hlen:=r'.length;obtain⟨o,ho,hc,n,hd⟩:=pl;exact call_list_seq p (.inr rfl) ho hc hd (λh' c' kp e=>fin its r' hz h' c' kp e) (by simp only[List.size_toArray]<;>omega)
theorem Ao:ji X (.type "tuple") (λxs H Q=>∃p ys,xs=[.ref p]/\((jT X.K H p ys/\∀l,H l=none->Q (.ref l) (upd H l (.tup ys)))\/(nG X.K H p ys/\Q (.ref p) H))):=by
 intro pins s σ H xs us Q I r h;obtain⟨p,ys,rfl,h⟩:=h;obtain⟨u,rfl,rx⟩:=vals1 r;cases rx;rcases h with ⟨hq,q⟩|⟨hq,q⟩
 ·obtain⟨its,r',pl,hz⟩:=I.list hq;have hlen:=r'.length;refine call_tuple_list pl.isList (λh' kp=>?_) (by simp only[List.size_toArray]<;>omega);have I1:Inv X pins σ H { s with heap:=h' }:=I.kept (t':=s.toks) kp;have I2:Inv X pins σ (upd H h'.objs.size (.tup ys)) { s with heap:=h'.push { cls:=.type "tuple",data:=.seq its.toArray } }:=
   I1.laid (t':=s.toks) (λb o e=>Heap.get?_push_of_some _ e) (Nat.le_refl _) (show gP X.prog X.w _ _ _ (.tup ys) from⟨hz,its,r',zT.new _ _⟩)
  exact⟨.ref h'.objs.size,_,I2,rfl,q _ (I1.hok.fresh (Nat.le_refl _))⟩
 ·obtain⟨its,r',pl,hz⟩:=I.tuple hq;exact call_tuple_same pl ⟨.ref p,H,I,rfl,q⟩
def tyV(K:PySem.W.Frag)(T:String)(x:V)(H:Hp):Prop:=match x with
 | .str _=>T = "str"
 | .int _=>T = "int"
 | .ref p=>(T = "list"/\∃xs,jT K H p xs)\/(T = "tuple"/\∃o,K.lookup p=some o/\o.cls = .type "tuple"/\o.dict=none)\/
   (T = "dict"/\((∃kvs,H p=some (.dK kvs))\/∃kvs,H p=some (.dT kvs)))\/(T = "set"/\∃S n,H p=some (.set S n))
 | _=>False
theorem Zc{pins:List (Addr×Obj)}{σ:St}{H:Hp}{s:Shared}{T:String}{x:V}{v:Value}(I:Inv X pins σ H s)(r:RelV x v)(ty:tyV X.K T x H) :
  s.TypeIs v T/\∀a,v = .ref a->∃ob,s.heap.get? a=some ob/\ob.dict=none:=by
 cases x with
 | str z=>
  obtain⟨t,rfl⟩:=r;cases(show T = "str" from ty);exact⟨typeIs_str s z t,λ_ e=>nomatch e⟩
 | int i=>
  obtain⟨t,rfl⟩:=r;cases(show T = "int" from ty);exact⟨typeIs_int s i t,λ_ e=>nomatch e⟩
 | ref p=>
  cases r;rcases ty with ⟨rfl,xs,hq⟩|⟨rfl,o,hk,hc,hd⟩|⟨rfl,hk⟩|⟨rfl,S,n,hk⟩
  ·obtain⟨its,_,pl,_⟩:=I.list hq;refine⟨pl.isList.typeIs,λa e=>?_⟩;cases e;obtain⟨o,n,e,c,hd,_⟩:=pl;exact⟨o,e,hd⟩
  ·refine⟨⟨o,I.YB p o hk,hc⟩,λa e=>?_⟩;cases e;exact⟨o,I.YB _ o hk,hd⟩
  ·have z:∃o,s.heap.get? p=some o/\o.ExactDict:=by
    rcases hk with ⟨kvs,hk⟩|⟨kvs,hk⟩
    ·obtain⟨_,_,_,_,o,_,_,e,ex,_⟩:=I.hok p _ hk;exact⟨o,e,ex⟩
    ·obtain⟨_,_,_,_,o,_,_,e,ex,_⟩:=I.hok p _ hk;exact⟨o,e,ex⟩
   obtain⟨o,e,ex⟩:=z;refine⟨⟨o,e,ex.1⟩,λa e2=>?_⟩;cases e2;exact⟨o,e,ex.2.1⟩
  ·obtain⟨o,_,_,_,e,ex,_⟩:=I.hok p _ hk;refine⟨⟨o,e,ex.1⟩,λa e2=>?_⟩;cases e2;exact⟨o,e,ex.2.1⟩
 | _=>exact False.elim ty
def tBM(K:PySem.W.Frag)(T:String)(r:V->List V->Hp->VK->Prop)(to:TE)(t:TA):TE:=λσ H Q=>to σ H λx H1=>tyV K T x H1/\t σ H1 λxs H2=>r x xs H2 Q
variable{o e:Expr}{es:List Expr}{to:TE}{t:TA}{name:Str}{apos cpos:Pos}{T id:String}{r:V->List V->Hp->VK->Prop}
theorem Q4(pa:PlainAttrs T)(slot:Slot T name id)(hty:typeOf (.builtin id)=pure (.type "method_descriptor"))(hm:MtR X id r)(ho:PE X o to)(ha:PA X (e::es) t)
  (hbase:attributeBase o name X.env (eval o X.env)=eval o X.env:=by rfl)
  (hfew:((backTo cpos (starEach (e::es) X.env)).all (λx=>!x.1)&&(backToKw cpos (keywordEach [] X.env)).all (λx=>x.1.isSome)
   && decide ((e::es).length+([]:List Keyword).length+(if ([]:List Keyword).isEmpty then 0 else 1)<30))=true:=by rfl)
  (hline:(apos.endLine == cpos.line)=true:=by rfl) (hs:starEach (e::es) X.env=(false,eval e X.env)::starEach es X.env:=by rfl) (hplain:(backTo cpos (starEach es X.env)).any (·.1)=false:=by rfl) :
  PE X (.Call (.Attribute o name apos) (e::es) [] cpos) (tBM X.K T r to t):=by
 intro pins s σ H Q I h;refine wpAny_Call_method_late hbase hfew hline rfl (gG (ho pins s σ H _ I h) λv s1 ⟨x,H1,I1,r1,ty,q1⟩=>?_);obtain⟨h1,h2⟩:=Zc I1 r1 ty;refine⟨T,id,pa,slot,hty,h1,h2,?_⟩;have hA:=ha cpos pins s1 σ H1 _ I1 q1;rw[hs] at hA ⊢;refine Calls.callWith_builtin (by show(false||(backTo cpos (starEach es X.env)).any (·.1))=false;rw[hplain]<;>rfl) (Calls.evalArgs_plain ?_);exact gG hA λus s2 ⟨vs,H2,I2,r2,q2⟩=>hm pins s2 σ H2 x vs v us Q I2 r1 r2 q2
end
def MtM(X:Cx)(id:String)(r:V->List V->Hp->VK->Prop):Prop:=
 ∀(pins:List (Addr×Obj)) (s:Shared) (σ:St) (H:Hp) (x:V) (xs:List V) (v:Value) (us:List Value) (Q:VK),Inv X pins σ H s->RelV x v->Vals xs us->r x xs H Q->
  wpAny (model X.prog X.w) X.A (call (.builtin id) (v::us)) (EP X pins σ Q) X.xe s
theorem Vals.one:∀{x:V} {us:List Value},Vals [x] us->∃u,us=[u]/\RelV x u
 | _,_,.cons r .nil=>⟨_,rfl,r⟩
theorem Vals.two:∀{x y:V} {us:List Value},Vals [x,y] us->∃u v,us=[u,v]/\RelV x u/\RelV y v
 | _,_,_,.cons r (.cons q .nil)=>⟨_,_,rfl,r,q⟩
section
variable{X:Cx}{pins:List (Addr×Obj)}{σ:St}{H:Hp}{s:Shared}{l b:Addr}{xs ys zs:List V}
theorem Inv.ad5{its its':List Value}{n:Nat}{f:Array Value->Array Value}{t':Nat}(I:Inv X pins σ H s)(hH:H l=some (.lst xs))
  (e:s.heap.get? l=some { cls:=.type "list",data:=.seq its.toArray n }) (hf:f its.toArray=its'.toArray) (hv:Vals ys its') (hz:ys.length<=sizeLine) :
  Inv X pins σ (upd H l (.lst ys)) { s with heap:=s.heap.update l (Obj.mapSeq f),toks:=t' }:=by
 have q:=PySem.IsL.update e f;rw[hf] at q;refine I.write (x:=l) (e:=l) (by rw[hH];exact trivial) (.inl rfl) (λb' u hb hu=>(Heap.get?_update_other s.heap (Obj.mapSeq f) (Ne.symm hb)).trans hu) ⟨_,q⟩ ?_;exact⟨hz,its',_,hv,q⟩
theorem Inv.aaM{its:List Value}{t':Nat}(I:Inv X pins σ H s)(hv:Vals ys its)(hz:ys.length<=sizeLine) :
  Inv X pins σ (upd H s.heap.objs.size (.lst ys)) { s with heap:=s.heap.push { cls:=.type "list",data:=.seq its.toArray },toks:=t' }:=
 I.laid (λ_ _ q=>Heap.get?_push_of_some _ q) (Nat.le_refl _) ⟨hz,its,0,hv,Heap.get?_push_size _ rfl⟩
theorem Inv.fresh(I:Inv X pins σ H s):H s.heap.objs.size=none:=I.hok.fresh (Nat.le_refl _)
theorem Inv.Rq(I:Inv X pins σ H s)(hH:H l=some (.lst xs)):xs.length<=sizeLine/\∃(its:List Value) (n:Nat),Vals xs its/\xs.length=its.length/\s.heap.get? l=some { cls:=.type "list",data:=.seq its.toArray n }:=by obtain⟨z,its,n,r,e⟩:=I.hok l _ hH;exact⟨z,its,n,r,r.length,e⟩
theorem Ri{n:Nat}(h:n<=sizeLine):Builtin.List.listTooLong n=false:=by unfold Builtin.List.listTooLong;exact decide_eq_false (by omega)
end
section
variable{X:Cx}{prog:Program}{w:World}{A:Around}{E:Value->Shared->Prop}{s:Shared}
def Vm:V->List V->Hp->VK->Prop:=λx vs H Q=>∃l xs y,x = .ref l/\vs=[y]/\H l=some (.lst xs)/\xs.length<sizeLine/\Q .non (upd H l (.lst (xs++[y])))
theorem v7:MtM X "list.append" Vm:=by intro pins s σ H x vs v us Q I rx rv h;obtain⟨l,xs,y,rfl,rfl,hH,hz,q⟩:=h;cases rx;obtain⟨u,rfl,ru⟩:=rv.one;obtain⟨z,its,n,r,hl,e⟩:=I.Rq hH;refine call_meets F.slot_list_append ⟨_,e,rfl⟩ F.entry_list_append (F.args_list_append_2 _ _) (PySem.list_append l its.toArray n u (by rw[List.size_toArray];omega)) ⟨e,?_⟩;refine⟨.non,_,I.ad5 (its':=its++[u]) hH e (by simp) (r.append (.cons ru .nil)) ?_,rfl,q⟩;rw[List.length_append,List.length_singleton];omega
def Vl:V->List V->Hp->VK->Prop:=λx vs H Q=>∃l b xs zs,x = .ref l/\vs=[.ref b]/\H l=some (.lst xs)/\H b=some (.lst zs)/\xs.length+zs.length<=sizeLine/\Q .non (upd H l (.lst (xs++zs)))
theorem NZ:MtM X "list.extend" Vl:=by
 intro pins s σ H x vs v us Q I rx rv h;obtain⟨l,b,xs,zs,rfl,rfl,hH,hB,hz,q⟩:=h;cases rx;obtain⟨u,rfl,ru⟩:=rv.one;cases ru;obtain⟨z,its,n,r,hl,e⟩:=I.Rq hH;obtain⟨z2,its2,n2,r2,hl2,e2⟩:=I.Rq hB;have hsz:its.toArray.size+its2.toArray.size<=sizeLine:=by rw[List.size_toArray,List.size_toArray];omega
 have aeM:¬(!its.toArray.isEmpty&&Builtin.List.listTooLong (its.toArray.size+its2.toArray.size))=true:=by rw[Ri hsz,Bool.and_false];exact Bool.false_ne_true
 refine call_meets F.slot_list_extend ⟨_,e,rfl⟩ F.entry_list_extend (F.args_list_extend_2 _ _)
  (AutoSeq1.list_extend_list_list_0 l its.toArray n b its2.toArray n2 aeM (by rw[List.size_toArray];omega) (by omega)) ⟨e,e2,?_⟩
 refine⟨.non,_,I.ad5 (its':=its++its2) hH e (by simp) (r.append r2) ?_,rfl,q⟩;rw[List.length_append];omega
def adC:R2:=λx y H Q=>∃l b xs zs,x = .ref l/\y = .ref b/\H l=some (.lst xs)/\H b=some (.lst zs)/\xs.length+zs.length<=sizeLine/\∀p,H p=none->Q (.ref p) (upd H p (.lst (xs++zs)))
theorem aam:pA X (binaryOp .Add) adC:=by
 intro pins s σ H x y v u Q I rx ry h;obtain⟨l,b,xs,zs,rfl,rfl,hH,hB,hz,q⟩:=h;cases rx;cases ry;obtain⟨z,its,n,r,hl,e⟩:=I.Rq hH;obtain⟨z2,its2,n2,r2,hl2,e2⟩:=I.Rq hB;refine PySem.P.add_list e e2 ?_ (by rw[List.size_toArray,List.size_toArray];omega);have ea:its.toArray++its2.toArray=(its++its2).toArray:=by simp
 rw[ea];exact⟨.ref _,_,I.aaM (t':=s.toks) (r.append r2) (by rw[List.length_append];omega),rfl,q _ I.fresh⟩
set_option maxRecDepth 100000 in
end
end L2
namespace Att
open PySem PySem.W PySem.Calls PyProof.Rows
theorem xD{P:Params}{h:Heap}:∀(ns:List Int) (vs:List Value),WellAll P h vs (ns.map WData.int)->IntsAre vs ns:=by
 intro ns
 induction ns with
 | nil=>
  intro vs w;rw[List.map_nil] at w;cases w;exact .nil
 | cons n ns ih=>
  intro vs w;rw[List.map_cons] at w;cases w with
  | cons a b=>
   cases a;exact .cons _ _ (ih _ b)
theorem MT{l:OpenLaw}{n:Nat}(hn:l.most=some n){P:Params}{h:Heap}{args:List WData}{vals:List Value}
  (hpre:l.row.toRowW.claim.pre args=true) (hwl:WellAll P h vals args) :
  ∃a vs ns,vals=[Value.ref a]/\args=[WData.list (ns.map WData.int)]/\h.get? a=some { cls:=.type "list",data:=.seq vs.toArray }/\IntsAre vs ns/\ns.length<=n:=by
 have hsh:WShape.hasAll [] args [.list .int]=true:=(pre_splitW hpre).1;have hc:l.pre.holds [] { args:=args }=true:=(pre_splitW hpre).2;obtain⟨d,r,rfl,h1,h2⟩:=hasAllW_cons hsh;obtain rfl:=hasAllW_nil h2;obtain⟨xs,rfl,h3⟩:=hasW_list h1;obtain⟨ns,rfl⟩:=items_int h3;have hlen:ns.length<=n:=by
  unfold OpenLaw.pre at hc;have h4:(WTm.not (.lt (.lit (.int (n:Int))) (.len (.arg 0)))).holds [] { args:=[.list (ns.map .int)] }=true:=by have h4:=(holds_andW hc).1;rw[hn] at h4;exact h4
  have h5:=condW_of h4 (w_not (w_lt w_lit (w_len_list (w_arg rfl))));rw[List.length_map] at h5;refine Nat.le_of_not_lt λq=>?_;have q':(n:Int)<((ns.length:Nat):Int):=by omega
  first
   | (rw[decide_eq_true q'] at h5;exact absurd h5 (by decide))
   | (simp at h5;omega)
 cases hwl with
 | cons w1 w2=>
  cases w2;cases w1 with
  | list ho hall=>exact⟨_,_,ns,rfl,rfl,ho,xD ns _ hall,hlen⟩
theorem Nh(l:OpenLaw)(args:List WData):l.row.toRowW.claim.post args (.bool true) args=true:=
 postW_of (r:=l.row.toRowW) (X:=(true == true))
  (show WShape.has [] (.bool true) .bool=true by first|rfl|decide|simp[WShape.has,WShape.arms,WShape.armsAll])
  (show(WTm.eq .res (.lit (.bool true))).value [] { args:=args,res:=some (.bool true),after:=args }=some (.bool (true == true)) from w_eq_bool (w_res rfl) w_lit) rfl
end Att
namespace L2
open PySem PySem.Spec PyProof.Rows
theorem vC:∀{vs:List Value} {ns:List Int},IntsAre vs ns->Vals (ns.map V.int) vs
 | _,_,.nil=>.nil
 | _,_,.cons n t h=>.cons ⟨t,rfl⟩ (vC h)
def Only(H:Hp):Prop:=∀b,H b=none\/∃o xs,H b=some (.Uo o (.lst xs))
theorem Rx{P:Program}{w:World}{K:PySem.W.Frag}{mg mb:Str->Option Value}{CX:Yb}{k:Nat}{fa a:Addr}{fd:FuncData}{x:Str}{sp:Sp}{s₁:Shared}{vs:List Value}{ns:List Int}
  (KX:K.In s₁.heap) (hns:s₁.heap.Ns mainGlobals mg) (hb:s₁.heap.Ns builtinsNs mb) (hbb:∀x:Str,x ≠ "__name__"->mb x=bootBuiltins x) (hlim:s₁.heap.NoLimit) (hg:s₁.gens = #[])
  (ha:s₁.heap.get? a=some { cls:=.type "list",data:=.seq vs.toArray }) (hi:IntsAre vs ns) (hl:ns.length<=sizeLine) (hr:ju k callerA)
  (F:∀base:Heap,K.In base->base.Ns mainGlobals mg->ph P w K mg base CX k fa fd [x] sp) (hbind:∀(s:Shared) (u:Value),BindsTo s fd ⟨[u],[]⟩ [(x,u)])
  (hsp:∀H:Hp,Only H->jT K H a (ns.map V.int)->sp [.ref a] H (λv _=>v = .bl true) λ_ _ _=>False)
  (hCX:∀H e s',CX [] H s₁ (λ_ _ _=>False) e s'->False) :
  codeAny (model P w) callerA (.call (.ref fa) ⟨[.ref a],[]⟩) (λr s'=>r = .ok (.ret (.bool true))/\OldK s₁.heap s'.heap/\s'.os=s₁.os/\AllBare s'.gens) s₁:=by
 have rv:=vC hi;have lenV:=hi.length
 -- from an abstract heap in which nothing but the script may be tracked
 have core:∀H:Hp,Only H->jT K H a (ns.map V.int)->vq P w H s₁.heap->(∀b,H b≠none->b=a)->(H a≠none->K.lookup a=none)->
   codeAny (model P w) callerA (.call (.ref fa) ⟨[.ref a],[]⟩) (λr s'=>r = .ok (.ret (.bool true))/\OldK s₁.heap s'.heap/\s'.os=s₁.os/\AllBare s'.gens) s₁:=by
  intro H hO hS hok hA hK;have Mf:∀{b:Addr} {o:Obj},s₁.heap.get? b=some o->H b=none->(Dz s₁.heap H).get? b=some o:=λe n=>Ss e n;have noA:∀{b:Addr} {o:Obj} {es:Array DictEntry} {ep:Nat},s₁.heap.get? b=some o->o.data = .dict es ep->H b=none:=λ{b o es ep} e d=>by
   cases q:H b with
   | none=>rfl
   | some u=>
    have e':b=a:=hA b (by rw[q];simp);subst e';rw[ha] at e;cases e;have d':Data.seq vs.toArray _=Data.dict es ep:=d;cases d'
  have nsK:∀{b:Addr} {m:Str->Option Value},s₁.heap.Ns b m->(Dz s₁.heap H).Ns b m:=λ{b m} ⟨o,es,ep,e,d,r⟩=>⟨o,es,ep,Mf e (noA e d),d,r⟩;have hKb:K.In (Dz s₁.heap H):=λb o e=>Mf (KX b o e) (by
   cases q:H b with
   | none=>rfl
   | some u=>
    have e':b=a:=hA b (by rw[q];simp);subst e';rw[hK (by rw[q];simp)] at e;cases e)
  have hM:Mod K mg (Dz s₁.heap H):=⟨hKb,nsK hns,⟨mb,nsK hb,hbb⟩,let ⟨mc,h1,h2⟩:=hlim;⟨mc,nsK h1,h2⟩⟩;have e0:X8 P w K mg (Dz s₁.heap H) callerA [] s₁ H:=⟨rfl,hM,λb o e=>Wa e,Nat.le_of_eq (Od _ _),trivial,λb hb=>absurd (show b∈([]:List Addr) from hb) (by simp),hok,.of_eq hg⟩;refine codeAny_mono ((F _ hKb (nsK hns)).run callerA [] s₁ H ⟨[.ref a],[]⟩ [.ref a] [.ref a] _ _ hr e0 (hbind s₁ (.ref a)) (.cons rfl .nil) (hsp H hO hS)) λr s' h=>?_;cases r with
  | error e=>exact(hCX H e s' h).elim
  | ok fl=>
   cases fl with
   | next=>exact False.elim h
   | brk=>exact False.elim h
   | cont=>exact False.elim h
   | ret u=>
    obtain⟨v,H',os,bare,un,hok',r',q⟩:=h;have q':v = .bl true:=q;subst q';obtain rfl:u=Value.bool true:=r';refine⟨rfl,OldK.of_keep λb o e=>?_,os,bare⟩;cases q:H b with
    | none=>exact un.keep b o e q (by intro z;exact absurd (show b∈([]:List Addr) from z) (by simp)) (by simp)
    | some u=>
     rcases hO b with z|⟨ob,xs,z⟩
     ·rw[q] at z;cases z
     ·have z2:=un.DK b ob _ z;obtain⟨e1,_⟩:=hok b _ z;obtain⟨e2,_⟩:=hok' b _ z2;rw[e] at e1;cases e1;exact e2
 cases hk:K.lookup a with
 | some o=>
  -- the script is one of the module's own objects
  have e:=KX a o hk;rw[ha] at e;cases e;refine core (λ_=>none) (λ_=>.inl rfl) (.inr ⟨_,vs.toArray,_,hk,rfl,rfl,rfl,by rw[List.size_toArray,lenV];exact hl,by simpa using rv⟩) (λb u z=>by have z':(none:Option HO)=some u:=z;cases z') (λb z=>absurd rfl z) λz=>absurd rfl z
 | none=>
  refine core (λb=>if b=a then some (.Uo { cls:=.type "list",data:=.seq vs.toArray } (.lst (ns.map V.int))) else none) (λb=>?_) (.inl (.inr ⟨{ cls:=.type "list",data:=.seq vs.toArray },if_pos rfl⟩)) (λb u z=>?_) (λb z=>?_) λ_=>hk
  ·by_cases hb:b=a
   ·exact .inr ⟨_,_,if_pos hb⟩
   ·exact .inl (if_neg hb)
  ·by_cases hb:b=a
   ·have z':=(if_pos hb).symm.trans z;cases z';subst hb;exact⟨ha,by rw[List.length_map];exact hl,vs,_,rv,ha⟩
   ·have z':=(if_neg hb).symm.trans z;cases z'
  ·by_cases hb:b=a
   ·exact hb
   ·exact absurd (if_neg hb) z
def lC(s:Stmt):Arguments:=match s with
 | .FunctionDef _ a _ _ _ _ _ _ _ _=>a
 | _=>{ posonlyargs:=[],args:=[],vararg:=none,kwonlyargs:=[],kw_defaults:=[],kwarg:=none,defaults:=[] }
def gj(s:Stmt):List Stmt:=match s with
 | .FunctionDef _ _ b _ _ _ _ _ _ _=>b
 | _=>[]
def aN(s:Stmt):Scope:=match s with
 | .FunctionDef _ _ _ _ _ _ sc _ _ _=>sc
 | _=>{ kind:=.function,names:=[],isGenerator:=false,isCoroutine:=false }
abbrev Ep:Yb:=λ_ _ _ _ _ _=>False
abbrev E0:XK:=λ_ _ _=>False
theorem Q6{X:Cx}:Passes Ep X E0:=λ_ _ _ _ _ _ _ h=>h.elim
structure Ui(K:PySem.W.Frag)(x qual:Str)(st:Stmt)(f:Addr)(fd:FuncData):Prop where
 ex:∃(oc:Value) (od:Option Addr) (kV doc pm:Value) (an:Option Addr) (cdv ct:Value) (osl:Array (Option Value)),
  fd=PySem.W.fnOf x qual (lC st) (gj st) (aN st) .none kV doc pm an cdv ct/\K.lookup f=some ⟨oc,od,.func fd,osl⟩/\PySem.W.codeIn K cdv qual=true
 kp:PySem.W.keepIn K (.ref f)=true
section
variable{P:Program}{w:World}{K:PySem.W.Frag}{mg:Str->Option Value}{base:Heap}
theorem Ui.ok{x qual:Str}{st:Stmt}{f:Addr}{fd:FuncData}{N ps:List Str}{k:Nat}{sp:Sp}(F:Ui K x qual st f fd)(S:bA N ps (aN st))(len:∀vs H Q E,sp vs H Q E->vs.length=ps.length)
  (hbody:∀(cdv:Value) (A:Around) (outer:List Env) (s:Shared) (H:Hp) (vs:List V) (Q:VK) (E:XK),ju k (A.deeper (envOfC qual (aN st) s.heap.objs.size f cdv))->sp vs H Q E->
   ∃t,HH (J6 Ep P w K mg base N qual (aN st) f cdv A outer s H E).nox (gj st) t/\t { nx:=λ_ H'=>Q .non H',rt:=Q } (start N vs) H):ph P w K mg base Ep (k+1) f fd ps sp:=by
 obtain⟨oc,od,kV,doc,pm,an,cdv,ct,osl,rfl,lk,hcd⟩:=F.ex;refine ae4 lk hcd S len λA outer s H vs Q E hr hsp=>?_;obtain⟨t,h,q⟩:=hbody cdv A outer s H vs Q E hr hsp;exact⟨t,h.nox,q⟩
theorem Ui.binds{x qual:Str}{st:Stmt}{f:Addr}{fd:FuncData}{ps:List Str}(F:Ui K x qual st f fd)
  (h:∀(kV doc pm:Value) (an:Option Addr) (cdv ct:Value) (us:List Value),us.length=ps.length->bindArgs (PySem.W.fnOf x qual (lC st) (gj st) (aN st) .none kV doc pm an cdv ct) ⟨us,[]⟩=pure (ps.zip us)):Binds K fd ps []:=by
 obtain⟨oc,od,kV,doc,pm,an,cdv,ct,osl,rfl,lk,hcd⟩:=F.ex;exact .all (h kV doc pm an cdv ct)
theorem J4{x qual:Str}{st:Stmt}{f:Addr}{oc:Value}{od an:Option Addr}{osl:Array (Option Value)}{kV doc pm cdv ct:Value}(l:K.lookup f=some ⟨oc,od,.func (PySem.W.fnOf x qual (lC st) (gj st) (aN st) .none kV doc pm an cdv ct),osl⟩)
  (c:PySem.W.codeIn K cdv qual=true) (k:PySem.W.keepIn K (.ref f)=true):Ui K x qual st f (PySem.W.fnOf x qual (lC st) (gj st) (aN st) .none kV doc pm an cdv ct):=⟨⟨oc,od,kV,doc,pm,an,cdv,ct,osl,rfl,l,c⟩,k⟩
end
theorem ago{A B:Prop}(h:B):if false=true then A else B:=by rw[if_neg Bool.false_ne_true];exact h
theorem agn{A B:Prop}(h:A):if true=true then A else B:=by rw[if_pos rfl];exact h
def aP(H H':Hp):Prop:=∀b o,H b=some o->H' b=some o
theorem aP.refl(H:Hp):aP H H:=λ_ _ h=>h
theorem aP.trans{H H1 H2:Hp}(a:aP H H1)(b:aP H1 H2):aP H H2:=λc o h=>b c o (a c o h)
theorem aP.free{H H':Hp}(e:aP H H'){l:Addr}(h:H' l=Option.none):H l=Option.none:=by
 cases q:H l with
 | none=>rfl
 | some o=>
  rw[e l o q] at h;cases h
theorem aP.seq{K:PySem.W.Frag}{H H':Hp}{a:Addr}{xs:List V}(e:aP H H')(h:jT K H a xs):jT K H' a xs:=by
 rcases h with (h|⟨o,h⟩)|h
 ·exact .inl (.inl (e _ _ h))
 ·exact .inl (.inr ⟨o,e _ _ h⟩)
 ·exact .inr h
section
variable{κ:Type}[DecidableEq κ]
def uF(kvs:List (κ×V))(k:κ):Option V:=(kvs.find? λkv=>decide (kv.1=k)).map (·.2)
def putK(kvs:List (κ×V))(k:κ)(v:V):List (κ×V):=
 if (kvs.any λkv=>decide (kv.1=k))=true then kvs.map (λkv=>if kv.1=k then (kv.1,v) else kv) else kvs++[(k,v)]
theorem uD{p:κ×V}{r:List (κ×V)}{k:κ}(e:p.1=k):uF (p::r) k=some p.2:=by simp[uF,List.find?_cons,e]
theorem uE{p:κ×V}{r:List (κ×V)}{k:κ}(e:¬p.1=k):uF (p::r) k=uF r k:=by simp[uF,List.find?_cons,e]
theorem yc(k:κ):∀kvs:List (κ×V),(kvs.any λkv=>decide (kv.1=k))=(uF kvs k).isSome
 | []=>rfl
 | p::r=>by
  rw[List.any_cons];by_cases e:p.1=k
  ·simp only[uD e,decide_eq_true e,Bool.true_or,Option.isSome_some]
  ·rw[uE e,decide_eq_false e,Bool.false_or];exact yc k r
theorem qK(kvs:List (κ×V))(k:κ)(v:V):(putK kvs k v).length<=kvs.length+1:=by
 unfold putK;split
 ·rw[List.length_map];omega
 ·rw[List.length_append,List.length_cons,List.length_nil];omega
theorem Ax.v9{o:Option V}{u:Option Value}(r:Ax o u):o.isSome=u.isSome:=by
 cases o with
 | none=>cases u with
  | none=>rfl
  | some _=>exact(show False from r).elim
 | some _=>cases u with
  | none=>exact(show False from r).elim
  | some _=>rfl
theorem KV.val{kvs:List (κ×V)}{vs:List (κ×Value)}(r:KV kvs vs)(k:κ):Ax (uF kvs k) (valueAt vs k):=by
 unfold KV at r
 induction r with
 | nil=>exact True.intro
 | @cons p q ps qs h t ih=>
  obtain⟨h1,h2⟩:=h;by_cases e:p.1=k
  ·have e':q.1=k:=h1.symm.trans e;have b:valueAt (q::qs) k=some q.2:=by simp[valueAt,List.find?_cons,e']
   rw[uD e,b];exact h2
  ·have e':¬q.1=k:=λz=>e (h1.trans z);have b:valueAt (q::qs) k=valueAt qs k:=by simp[valueAt,List.find?_cons,e']
   rw[uE e,b];exact ih
theorem KV.any{kvs:List (κ×V)}{vs:List (κ×Value)}(r:KV kvs vs)(k:κ):(kvs.any λkv=>decide (kv.1=k))=vs.any λkv=>decide (kv.1=k):=by
 unfold KV at r
 induction r with
 | nil=>rfl
 | cons h t ih=>rw[List.any_cons,List.any_cons,ih,h.1]
theorem KV.repl{kvs:List (κ×V)}{vs:List (κ×Value)}(r:KV kvs vs)(k:κ){y:V}{u:Value}(ry:RelV y u) :
  KV (kvs.map λkv=>if kv.1=k then (kv.1,y) else kv) (vs.map λkv=>if kv.1=k then (kv.1,u) else kv):=by
 unfold KV at r ⊢
 induction r with
 | nil=>exact .nil
 | @cons p q ps qs h t ih=>
  rw[List.map_cons,List.map_cons];refine .cons ?_ ih;obtain⟨h1,h2⟩:=h;by_cases e:p.1=k
  ·rw[if_pos e,if_pos (h1.symm.trans e)];exact⟨h1,ry⟩
  ·rw[if_neg e,if_neg (λz=>e (h1.trans z))];exact⟨h1,h2⟩
theorem KV.put{kvs:List (κ×V)}{vs:List (κ×Value)}(r:KV kvs vs)(k:κ){y:V}{u:Value}(ry:RelV y u):KV (putK kvs k y) (stored vs k u):=by
 unfold putK stored;rw[r.any k];by_cases e:(vs.any λkv=>decide (kv.1=k))=true
 ·rw[if_pos e,if_pos e];exact r.repl k ry
 ·rw[if_neg e,if_neg e];exact Paired.snoc r ⟨rfl,ry⟩
theorem KV.keys{kvs:List (κ×V)}{vs:List (κ×Value)}(r:KV kvs vs):kvs.map (·.1)=vs.map (·.1):=by
 unfold KV at r
 induction r with
 | nil=>rfl
 | cons h t ih=>rw[List.map_cons,List.map_cons,ih,h.1]
theorem KV.length{kvs:List (κ×V)}{vs:List (κ×Value)}(r:KV kvs vs):kvs.length=vs.length:=Paired.length r
end
theorem GF{P:Program}{w:World}{k:Key}{u:Value}(r:RelV (kV k) u):(eN P w).is k u=true:=by
 cases k with
 | inl i=>obtain⟨t,e⟩:=(show ∃t,u=Value.int i t from r);subst e;exact Gv P w i t
 | inr x=>obtain⟨t,e⟩:=(show ∃t,u=Value.str x t from r);subst e;exact Gu P w x t
theorem Bq{P:Program}{w:World}:∀{ks:List Key} {us:List Value},Vals (ks.map kV) us->ItemsAre (eN P w) ks us
 | [],_,r=>by rw[List.map_nil] at r;cases r;exact .nil
 | k::ks,_,r=>by
  rw[List.map_cons] at r;cases r with
  | cons h t=>exact .cons (GF h) (Bq t)
abbrev KT(H:Hp):List (List Key×V)->List (List Key×Addr×Value)->Prop:=Paired λp q=>p.1=q.1/\H q.2.1=some (.tup (p.1.map kV))/\RelV p.2 q.2.2
theorem KT.val{H:Hp}{kvs:List (List Key×V)}{xs:List (List Key×Addr×Value)}(r:KT H kvs xs)(k:List Key):Ax (uF kvs k) ((atKey xs k).map (·.2)):=by
 induction r with
 | nil=>exact True.intro
 | @cons p q ps qs h t ih=>
  obtain⟨h1,_,h2⟩:=h;by_cases e:p.1=k
  ·have e':q.1=k:=h1.symm.trans e;have b:atKey (q::qs) k=some q.2:=by simp[atKey,List.find?_cons,e']
   rw[uD e,b];exact h2
  ·have e':¬q.1=k:=λz=>e (h1.trans z);have b:atKey (q::qs) k=atKey qs k:=by simp[atKey,List.find?_cons,e']
   rw[uE e,b];exact ih
theorem KT.repl{H:Hp}{kvs:List (List Key×V)}{xs:List (List Key×Addr×Value)}(r:KT H kvs xs)(k:List Key){y:V}{u:Value}(ry:RelV y u) :
  KT H (kvs.map λkv=>if kv.1=k then (kv.1,y) else kv) (xs.map (putAt k u)):=by
 induction r with
 | nil=>exact .nil
 | @cons p q ps qs h t ih=>
  rw[List.map_cons,List.map_cons];refine .cons ?_ ih;obtain⟨h1,h2,h3⟩:=h;unfold putAt;by_cases e:p.1=k
  ·rw[if_pos e,if_pos (h1.symm.trans e)];exact⟨h1,h2,ry⟩
  ·rw[if_neg e,if_neg (λz=>e (h1.trans z))];exact⟨h1,h2,h3⟩
theorem KT.put{H:Hp}{kvs:List (List Key×V)}{xs:List (List Key×Addr×Value)}(r:KT H kvs xs)(k:List Key){b:Addr}{y:V}{u:Value}(hb:H b=some (.tup (k.map kV)))(ry:RelV y u) :
  KT H (putK kvs k y) (storedH xs k b u):=by
 have e:(kvs.any λkv=>decide (kv.1=k))=(atKey xs k).isSome:=by rw[yc,(r.val k).v9,Option.isSome_map]
 unfold putK storedH;rw[e];by_cases q:(atKey xs k).isSome=true
 ·rw[if_pos q,if_pos q];exact r.repl k ry
 ·rw[if_neg q,if_neg q];exact Paired.snoc r ⟨rfl,hb,ry⟩
theorem KT.keeps{H H':Hp}{kvs:List (List Key×V)}{xs:List (List Key×Addr×Value)}(r:KT H kvs xs)(ht:∀b ys,H b=some (.tup ys)->H' b=some (.tup ys)):KT H' kvs xs:=
 Paired.aaJ r λ_ _ z=>⟨z.1,ht _ _ z.2.1,z.2.2⟩
section
variable{P:Program}{w:World}{H:Hp}{h:Heap}{a:Addr}
theorem Yl{u:HO}(ok:vq P w H h)(e:Rd H a u):gP P w H h a u:=e.ok ok
theorem Hh{kvs:List (Key×V)}(ok:vq P w H h)(e:Rd H a (.dK kvs)):kvs.length<=sizeLine/\(a == sysModules)=false/\∃vs,KV kvs vs/\h.DictOf (eN P w) a vs:=
 show gP P w H h a (.dK kvs) from Yl ok e
theorem afd{kvs:List (Key×V)}(ok:vq P w H h)(e:H a=some (.dK kvs)):kvs.length<=sizeLine/\(a == sysModules)=false/\∃vs,KV kvs vs/\h.DictOf (eN P w) a vs:=Hh ok (.inl e)
theorem Du{ks:List Key}(ok:vq P w H h)(e:H a=some (.tup (ks.map kV))):(tupleKind (eN P w)).is h ks a:=by obtain⟨_,its,r,o,h1,h2,⟨n,h3⟩,_⟩:=(show gP P w H h a (.tup (ks.map kV)) from ok a _ e);exact⟨o,its.toArray,n,h1,h2,h3,by simpa using Bq r⟩
theorem Lx{kvs:List (List Key×V)}(ok:vq P w H h)(e:Rd H a (.dT kvs)):kvs.length<=sizeLine/\(a == sysModules)=false/\
  ∃xs,KT H kvs xs/\h.DictOfH (tupleKind (eN P w)) a xs:=by
 obtain⟨z,y,xs,r,o,es,ep,h1,h2,h3,h4,h5⟩:=(show gP P w H h a (.dT kvs) from Yl ok e);refine⟨z,y,xs,r,o,es,ep,h1,h2,h3,h4,λx hx=>?_,h5⟩;have all:∀{l:List (List Key×V)} {m:List (List Key×Addr×Value)},KT H l m->∀x∈m,(tupleKind (eN P w)).is h x.1 x.2.1:=by
  intro l m q
  induction q with
  | nil=>intro x hx;exact nomatch hx
  | @cons p q ps qs hq t ih=>
   intro x hx;rcases List.mem_cons.mp hx with e|hx
   ·subst e;exact Du ok (by rw[<-hq.1];exact hq.2.1)
   ·exact ih x hx
 exact all r x hx
theorem afc{kvs:List (List Key×V)}(ok:vq P w H h)(e:H a=some (.dT kvs)):kvs.length<=sizeLine/\(a == sysModules)=false/\
  ∃xs,KT H kvs xs/\h.DictOfH (tupleKind (eN P w)) a xs:=Lx ok (.inl e)
end
def Pa(H:Hp)(a:Addr)(y:V)(r:Option V):Prop:=
 (∃kvs k,Rd H a (.dK kvs)/\y=kV k/\r=uF kvs k)\/∃kvs k b,Rd H a (.dT kvs)/\y = .ref b/\H b=some (.tup (k.map kV))/\r=uF kvs k
def Uj(H:Hp)(a:Addr)(y v:V)(H':Hp):Prop:=
 (∃kvs k,H a=some (.dK kvs)/\y=kV k/\kvs.length<sizeLine/\H'=upd H a (.dK (putK kvs k v)))\/
 ∃kvs k b,H a=some (.dT kvs)/\y = .ref b/\H b=some (.tup (k.map kV))/\kvs.length<sizeLine/\H'=upd H a (.dT (putK kvs k v))
theorem Uj.k{H:Hp}{a:Addr}{kvs:List (Key×V)}{k:Key}{v:V}(e:H a=some (.dK kvs))(hl:kvs.length<sizeLine):Uj H a (kV k) v (upd H a (.dK (putK kvs k v))):=.inl ⟨kvs,k,e,rfl,hl,rfl⟩
section
variable{X:Cx}{pins:List (Addr×Obj)}{σ:St}{H:Hp}{s:Shared}{a:Addr}{y v:V}{u r:Value}{o:Option V}{A:Around}{E:Value->Shared->Prop}
theorem Inv.big(I:Inv X pins σ H s):sysModules<s.heap.objs.size:=by have h:mainGlobals<s.heap.objs.size:=(I.mod.glob.keeps I.bk).lt;exact Nat.lt_trans (by decide) h
theorem Ov{Q:Value->Shared->Prop}(hu:A.units+1<cLine)(I:Inv X pins σ H s)(g:Pa H a y (some v))(ry:RelV y u)(h:∀w' s',Inv X pins σ H s'->RelV v w'->Q w' s') :
  wpAny (model X.prog X.w) A (getItem (.ref a) u) Q E s:=by
 rcases g with ⟨kvs,k,e,ey,l⟩|⟨kvs,k,b,e,ey,eb,l⟩
 ·subst ey;obtain⟨z,hd,vs,rel,dd⟩:=Hh I.hok e;obtain⟨w',hw,Vg⟩:=Ax.some_of (v:=v) (o:=valueAt vs k) (by rw[l];exact rel.val k);exact wpAny_getItem_of (GF ry) dd.mapOf hw (h w' _ (I.tok _) Vg)
 ·subst ey;cases(show u=Value.ref b from ry);obtain⟨z,hd,xs,rel,dd⟩:=Lx I.hok e;obtain⟨w',hw,Vg⟩:=Ax.some_of (v:=v) (o:=(atKey xs k).map (·.2)) (by rw[l];exact rel.val k);obtain⟨p,hp,hp2⟩:=Option.map_eq_some_iff.mp hw;refine wpAny_getItem_heap (tupleKind_room_in1 hu) (Du I.hok eb) dd hp ?_;rw[hp2];exact h w' _ (I.tok _) Vg
theorem ag1{Q:Value->Shared->Prop}(hu:A.units+1<cLine)(I:Inv X pins σ H s)(g:Pa H a y o)(ry:RelV y u)(h:∀s',Inv X pins σ H s'->Q (.bool o.isSome) s') :
  wpAny (model X.prog X.w) A (compareOp .In u (.ref a)) Q E s:=by
 rcases g with ⟨kvs,k,e,ey,l⟩|⟨kvs,k,b,e,ey,eb,l⟩
 ·subst ey;obtain⟨z,hd,vs,rel,dd⟩:=Hh I.hok e;refine wpAny_in_of (GF ry) hd dd.mapOf ?_;rw[<-(rel.val k).v9,<-l];exact h _ (I.tok _)
 ·subst ey;cases(show u=Value.ref b from ry);obtain⟨z,hd,xs,rel,dd⟩:=Lx I.hok e;refine wpAny_in_heap (tupleKind_room_in1 hu) (Du I.hok eb) hd dd ?_;have q:=(rel.val k).v9;rw[Option.isSome_map] at q;rw[<-q,<-l];exact h _ (I.tok _)
theorem Ly{h':Heap}{t':Nat}{ob:HO}(I:Inv X pins σ H s)(mu:Mut (H a))(hs:Heap.SameBut a s.heap h')(he:∃q,h'.get? a=some q)(new:gP X.prog X.w (upd H a ob) h' a ob) :
  Inv X pins σ (upd H a ob) { s with heap:=h',toks:=t' }:=
 I.write (x:=a) (e:=a) mu (.inl rfl) (λb q hb z=>(hs.2 b hb).trans z) he new
theorem acq{P:Program}{w:World}{H':Hp}{h':Heap}{kvs:List (Key×V)}{vs:List (Key×Value)}(z:kvs.length<=sizeLine)(hd:(a == sysModules)=false)(rel:KV kvs vs)(dd:h'.DictOf (eN P w) a vs) :
  gP P w H' h' a (.dK kvs):=⟨z,hd,vs,rel,dd⟩
theorem Ou{H':Hp}{Q:Unit->Shared->Prop}(hu:A.units+1<cLine)(I:Inv X pins σ H s)(g:Uj H a y v H')(ry:RelV y u)(rv:RelV v r)(h:∀s',Inv X pins σ H' s'->Q () s') :
  wpAny (model X.prog X.w) A (setItem (.ref a) u r) Q E s:=by
 rcases g with ⟨kvs,k,e,ey,l,eH⟩|⟨kvs,k,b,e,ey,eb,l,eH⟩
 ·subst ey eH;obtain⟨z,hd,vs,rel,dd⟩:=afd I.hok e;have hz:vs.length<=sizeLine:=by rw[<-rel.length];exact z
  have hl:(putK kvs k v).length<=sizeLine:=by have:=qK kvs k v;omega
  refine wpAny_setItem_pairs (hsz:=hz) (GF ry) dd λh' dd' hs=>h _ ?_;have he:∃q,h'.get? a=some q:=let ⟨q,_,_,hq,_⟩:=dd';⟨q,hq⟩
  exact Ly I (by rw[e];exact True.intro) hs he (acq hl hd (rel.put k rv) dd')
 ·subst ey eH;cases(show u=Value.ref b from ry);obtain⟨z,hd,xs,rel,dd⟩:=afc I.hok e;have hz:xs.length<=sizeLine:=by rw[<-Paired.length rel];exact z
  have hl:(putK kvs k v).length<=sizeLine:=by have:=qK kvs k v;omega
  refine wpAny_setItem_heap (hsz:=hz) (tupleKind_room_in1 hu) (Du I.hok eb) dd λh' dd' hs=>h _ ?_;obtain⟨q,es,ep,hq,h2,h3,h4,_,h5⟩:=dd';refine Ly I (by rw[e];exact True.intro) hs ⟨q,hq⟩ ⟨hl,hd,_,(rel.put k eb rv).keeps λc ys ec=>?_,q,es,ep,hq,h2,h3,h4,h5⟩;rw[bM (ad0 ec e (λz=>nomatch z))];exact ec
end
def Ug(i:Expr):Prop:=∀ov iv,subscripted i false ov iv=operate [ov,iv] (getItem ov iv)
theorem UW{prog:Program}{w:World}{A:Around}{E:Value->Shared->Prop}{s:Shared}{env:Env}{value slice:Expr}{pos:Pos}{T id:String}{Q:Value->Shared->Prop}
  (hl:typeLookup (.type T) "__getitem__" = pure (some (.builtin id))) (hs:Ug slice)
  (h:wpAny (model prog w) A (eval value env) (λo s₁=>wpAny (model prog w) A (eval slice env) (λi s₂=>s₂.TypeIs o T/\wpAny (model prog w) A (getItem o i) Q E s₂) E s₁) E s) :
  wpAny (model prog w) A (eval (.Subscript value slice pos) env) Q E s:=by
 refine Subscript_ (wpAny_mono h (λo s₁ h₁=>wpAny_mono h₁ (λi s₂ h₂=>?_) λ_ _ x=>x) λ_ _ x=>x);obtain⟨hT,h₂⟩:=h₂;unfold subscriptTail;refine wpAny_bind ?_;rw[getitemInPython_of_ne hT.not_modules];refine wpAny_bind (wpAny_specialOf hT hl ?_);have fin:wpAny (model prog w) A (subscripted slice false o i) (λr s₃=>wpAny (model prog w) A (letTemporaryGo value o r >>= λ_=>pure r) Q E s₃) E s₂:=by rw[hs o i];exact wpAny_operating (wpAny_mono h₂ (λr s₃ h₃=>wpAny_bind (wpAny_letTemporaryGo (wpAny_pure h₃))) λ_ _ x=>x)
 first
  | exact wpAny_pure (wpAny_bind fin)
  | exact wpAny_bind (wpAny_pure (wpAny_bind fin))
  | exact wpAny_bind fin
theorem Hi{X:Cx}{pins:List (Addr×Obj)}{σ:St}{H:Hp}{s:Shared}{a:Addr}{y:V}{o:Option V}(I:Inv X pins σ H s)(g:Pa H a y o):s.TypeIs (.ref a) "dict":=by
 rcases g with ⟨kvs,k,e,_,_⟩|⟨kvs,k,b,e,_,_,_⟩
 ·obtain⟨_,_,vs,_,dd⟩:=Hh I.hok e;exact dd.typeIs
 ·obtain⟨_,_,xs,_,dd⟩:=Lx I.hok e;exact dd.typeIs
def ac7(td ty:TE):TE:=λσ H Q=>td σ H λx H1=>ty σ H1 λy H2=>∃a v,x = .ref a/\Pa H2 a y (some v)/\Q v H2
def adi(td ty tv:TE):TS:=λD σ H=>tv σ H λv H1=>td σ H1 λx H2=>ty σ H2 λy H3=>∃a H4,x = .ref a/\Uj H3 a y v H4/\D.nx σ H4
section
variable{X:Cx}{o i e value:Expr}{pos pos' tpos:Pos}{td ty tv:TE}
theorem VV(hu:X.A.units+1<cLine)(ho:PE X o td)(hi:PE X i ty)(hs:Ug i):PE X (.Subscript o i pos) (ac7 td ty):=by intro pins s σ H Q I h;refine UW PySem.F.slot_dict_getitem.lookup hs (gG (ho pins s σ H _ I h) λu s1 ⟨x,H1,I1,rx,q1⟩=>gG (hi pins s1 σ H1 _ I1 q1) λiv s2 ⟨y,H2,I2,ry,a,v,ex,g,q2⟩=>?_);subst ex;obtain rfl:u=Value.ref a:=rx;exact⟨Hi I2 g,Ov hu I2 g ry λw' s3 I3 Vg=>⟨v,H2,I3,Vg,q2⟩⟩
theorem Vz(hu:X.A.units+1<cLine)(ho:PE X o td)(hi:PE X i ty)(hv:PE X value tv)(hs:swapsWith value (some (.Subscript o i pos')) pos.line X.env=pure false) :
  PS X (.Assign [.Subscript o i pos'] value pos) (adi td ty tv):=by
 intro pins s σ H D I h;refine wpAny_Assign_Subscript (gG (hv pins s σ H _ I h) λr s1 ⟨v,H1,I1,rv,q1⟩=>gG (ho pins s1 σ H1 _ I1 q1) λu s2 ⟨x,H2,I2,rx,q2⟩=>gG (hi pins s2 σ H2 _ I2 q2) λiv s3 ⟨y,H3,I3,ry,a,H4,ex,g,q3⟩=>?_) hs;subst ex;obtain rfl:u=Value.ref a:=rx;exact Ou hu I3 g ry rv λs4 I4=>⟨σ,H4,I4,q3⟩
end
theorem Tq{P:Program}{w:World}{H:Hp}(h:Heap)(hb:sysModules<h.objs.size):gP P w H (h.push { cls:=.type "dict",data:=.dict #[] }) h.objs.size (.dK []):=
 ⟨Nat.zero_le _,beq_eq_false_iff_ne.mpr (Ne.symm (Nat.ne_of_lt hb)),[],.nil,Heap.DictOf.new h⟩
def Zk:TE:=λ_ H Q=>∀p,H p=none->Q (.ref p) (upd H p (.dK []))
section
variable{X:Cx}{pos:Pos}
theorem Q3:PE X (.Dict [] [] pos) Zk:=λpins s σ H Q I h=>
 wpAny_Dict_empty ⟨.ref s.heap.objs.size,_,I.laid (a:=s.heap.objs.size) (o:=.dK []) (t':=s.toks) (λ_ _ q=>Heap.get?_push_of_some _ q) (Nat.le_refl _) (Tq s.heap I.big),rfl,h _ (I.hok.fresh (Nat.le_refl _))⟩
end
def lJ(env:Env):List (Str×NameKind)->List (Str×Addr)->List (Str×Addr)
 | [],acc=>acc
 | (n,k)::r,acc=>if k == .free then lJ env r ((n,(env.cells.lookup n).getD 0)::acc) else lJ env r acc
theorem zB{env:Env}(f:Str×NameKind->List (Str×Addr)->Sem (ForInStep (List (Str×Addr))))
  (hf:∀n k cs,f (n,k) cs=if k == .free then (do let a <-cellOf env n;pure (.yield ((n,a)::cs))) else pure (.yield cs)) :
  ∀(names:List (Str×NameKind)) (acc:List (Str×Addr)),(∀n,(n,NameKind.free)∈names->∃c,env.cells.lookup n=some c)->forIn names acc f=pure (lJ env names acc)
 | [],acc,_=>by rw[List.forIn_nil];rfl
 | (n,k)::r,acc,h=>by
  have ih:=zB f hf r;have hr:∀n,(n,NameKind.free)∈r->∃c,env.cells.lookup n=some c:=λm hm=>h m (List.mem_cons_of_mem _ hm);rw[List.forIn_cons,hf];cases hk:k == NameKind.free with
  | true=>
   have hk':k = .free:=by simpa using hk
   obtain⟨c,hc⟩:=h n (by rw[hk'];exact List.mem_cons_self);rw[if_pos rfl];unfold cellOf;rw[hc];simp only[pure_bind];rw[ih _ hr]
   conv=>rhs;unfold lJ
   rw[if_pos hk,hc]
   rfl
  | false=>
   rw[if_neg (by simp)];simp only[pure_bind];rw[ih _ hr]
   conv=>rhs;unfold lJ
   rw[if_neg (by simp[hk])]
theorem uh{scope:Scope}{env:Env}(h:∀n,(n,NameKind.free)∈scope.names->∃c,env.cells.lookup n=some c):closureFor scope env=pure (lJ env scope.names []):=by
 simp only[closureFor];rw[zB (env:=env) _ (λn k cs=>by cases hk:k == NameKind.free<;>simp[hk]) _ _ h]
 rfl
theorem vd{env:Env}:∀(names:List (Str×NameKind)) (acc:List (Str×Addr)) (x:Str) (c:Addr),(∀n,(n,NameKind.free)∈names->∃c,env.cells.lookup n=some c)->
  (∀y d,acc.lookup y=some d->env.cells.lookup y=some d)->(lJ env names acc).lookup x=some c->env.cells.lookup x=some c
 | [],acc,x,c,_,ha,h=>ha x c h
 | (n,k)::r,acc,x,c,hn,ha,h=>by
  have hr:∀n,(n,NameKind.free)∈r->∃c,env.cells.lookup n=some c:=λm hm=>hn m (List.mem_cons_of_mem _ hm);unfold lJ at h;split at h
  ·rename_i hk;have hk':k = .free:=by simpa using hk
   obtain⟨d,hd⟩:=hn n (by rw[hk'];exact List.mem_cons_self);refine vd r _ x c hr (λy e he=>?_) h;rw[List.lookup_cons] at he;cases hy:y == n with
   | true=>
    rw[hy] at he;have e1:y=n:=by simpa using hy
    rw[e1,hd];rw[hd] at he;exact he
   | false=>
    rw[hy] at he;exact ha y e he
  ·exact vd r acc x c hr ha h
theorem wB{env:Env}:∀(names:List (Str×NameKind)) (acc:List (Str×Addr)) (x:Str),(acc.lookup x).isSome=true->((lJ env names acc).lookup x).isSome=true
 | [],acc,x,h=>h
 | (n,k)::r,acc,x,h=>by
  unfold lJ;split
  ·refine wB r _ x ?_;rw[List.lookup_cons];split
   ·rfl
   ·exact h
  ·exact wB r acc x h
theorem u0{env:Env}:∀(names:List (Str×NameKind)) (acc:List (Str×Addr)) (x:Str),(x,NameKind.free)∈names->((lJ env names acc).lookup x).isSome=true
 | [],acc,x,h=>nomatch h
 | (n,k)::r,acc,x,h=>by
  unfold lJ;rcases List.mem_cons.mp h with e|h
  ·obtain⟨e1,e2⟩:=Prod.mk.inj e;subst e1 e2;rw[if_pos (by rfl)];refine wB r _ x ?_;rw[List.lookup_cons];simp
  ·split
   ·exact u0 r _ x h
   ·exact u0 r acc x h
theorem gD:∀(names:List (Str×NameKind)) (n:Nat) (acc:List (Str×Addr)),cellsFrom n names acc=cellsFrom n names []++acc
 | [],n,acc=>rfl
 | (x,k)::r,n,acc=>by
  unfold cellsFrom;split
  ·rw[gD r (n+1) ((x,n)::acc),gD r (n+1) [(x,n)],List.append_assoc]
   rfl
  ·exact gD r n acc
theorem nY:∀(names:List (Str×NameKind)) (n:Nat) (x:Str) (c:Addr),(x,c)∈cellsFrom n names []->(x,NameKind.cell)∈names
 | [],n,x,c,h=>nomatch h
 | (y,k)::r,n,x,c,h=>by
  unfold cellsFrom at h;split at h
  ·rename_i hk;have hk':k = .cell:=by simpa using hk
   rw[gD] at h;rcases List.mem_append.mp h with h|h
   ·exact List.mem_cons_of_mem _ (nY r _ x c h)
   ·have e:=List.mem_singleton.mp h;cases e;rw[hk'];exact List.mem_cons_self
  ·exact List.mem_cons_of_mem _ (nY r _ x c h)
theorem pL{α:Type}:∀(l m:List (Str×α)) (x:Str),(l++m).lookup x=match l.lookup x with|some v=>some v|none=>m.lookup x
 | [],m,x=>rfl
 | (k,v)::r,m,x=>by
  rw[List.cons_append,List.lookup_cons,List.lookup_cons];cases h:x == k with
  | true=>rfl
  | false=>exact pL r m x
theorem qI{α:Type}:∀(l:List (Str×α)) (x:Str),(∀v,(x,v) ∉ l)->l.lookup x=none
 | [],x,_=>rfl
 | (k,v)::r,x,h=>by
  rw[List.lookup_cons];cases e:x == k with
  | true=>
   have e':x=k:=by simpa using e
   exact absurd (by rw[e'];exact List.mem_cons_self) (h v)
  | false=>exact qI r x λw hw=>h w (List.mem_cons_of_mem _ hw)
theorem lookup_mem{α:Type}:∀(l:List (Str×α)) (x:Str) (v:α),l.lookup x=some v->(x,v)∈l
 | [],x,v,h=>nomatch h
 | (k,w)::r,x,v,h=>by
  rw[List.lookup_cons] at h;cases e:x == k with
  | true=>
   rw[e] at h;cases h;have e':x=k:=by simpa using e
   rw[e'];exact List.mem_cons_self
  | false=>
   rw[e] at h;exact List.mem_cons_of_mem _ (lookup_mem r x v h)
theorem iB{α:Type}:∀(l:List (Str×α)) (x:Str) (v:α),(l.map (·.1)).Nodup->(x,v)∈l->l.lookup x=some v
 | [],x,v,_,h=>nomatch h
 | (k,w)::r,x,v,nd,h=>by
  rw[List.lookup_cons];have nd':=List.nodup_cons.mp nd;rcases List.mem_cons.mp h with e|h
  ·cases e;simp
  ·have hne:¬x=k:=λe=>nd'.1 (by rw[<-e];exact List.mem_map.mpr ⟨(x,v),h,rfl⟩);have hb:(x == k)=false:=by simpa using hne
   rw[hb];exact iB r x v nd'.2 h
theorem wN{M:Model}{A:Around}{E:Value->Shared->Prop}{s:Shared}{scope:Scope}{globals:Addr}{cl:List (Str×Addr)}{qual:Str}{outer:Env}{Q:Env->Shared->Prop}
  (hQ:∀h',h'.Ns s.heap.objs.size (λ_=>none)->(∀b o,s.heap.get? b=some o->h'.get? b=some o)->CellsOk h' (s.heap.objs.size+1) (cellsFrom (s.heap.objs.size+1) scope.names [])->
   Q { scope,locals:=s.heap.objs.size,globals,cells:=cellsFrom (s.heap.objs.size+1) scope.names cl,qual,func:=none,code:=outer.code,frame:=outer.frame,builtins:=outer.builtins } { s with heap:=h' }) :
  wpAny M A (newFunctionEnv scope globals cl [] qual none .none (some outer)) Q E s:=by
 simp only[newFunctionEnv,Option.isSome_some,if_true];refine wpAny_bind (wpAny_alloc ?_);refine wpAny_bind (wpAny_layCells _ (λname kind cells=>by cases hkc:kind == NameKind.cell<;>simp[hkc]) _ _ _ _ ?_);have ok:=cellsFrom_ok scope.names (s.heap.push { cls:=.type "dict",data:=.dict #[] }) (s.heap.objs.size+1) [] ⟨λ_ _ hm=>(nomatch hm),List.Pairwise.nil⟩ (by rw[Heap.size_push];exact Nat.le_refl _);rw[Heap.size_push] at ok;rw[show({ s with heap:=s.heap.push { cls:=.type "dict",data:=.dict #[] } }:Shared).heap.objs.size=s.heap.objs.size+1 from Heap.size_push ..];refine wpAny_bind ?_;rw[List.forIn_nil];refine wpAny_pure (wpAny_pure (hQ _ ?_ ?_ ?_))
 ·exact(Heap.Ns.new s.heap (.type "dict")).keeps (pushCells_keeps _ _)
 ·exact λb o e=>pushCells_keeps _ _ b o (Heap.get?_push_of_some _ e)
 ·exact ok
def cxC(X:Cx)(scope:Scope)(N':List Str)(cells:List (Str×Addr))(C:Addr)(s0:Shared)(H0:Hp)(fp:List Addr):Cx:=
 { X with N:=N',s₀:=s0,H₀:=H0,env:=compEnvC scope cells C X.env,outer:=X.stack,stack:=X.stack,ex:=fp,fn:=λx=>decide (scope.names.lookup x=some .cell),pn:=[],xe:=λ_ _=>False }
theorem qH{env:Env}:∀(names:List (Str×NameKind)) (x:Str),
  (names.map λ(n,k)=>if (k == NameKind.free&&env.scope.kind == .function&&env.kindOf n == some .cell) then (n,NameKind.cell) else (n,k)).lookup x =
   (names.lookup x).map λk=>if (k == NameKind.free&&env.scope.kind == .function&&env.kindOf x == some .cell) then NameKind.cell else k
 | [],x=>rfl
 | (n,k)::r,x=>by
  show List.lookup x ((if (k == NameKind.free&&env.scope.kind == .function&&env.kindOf n == some .cell)=true then (n,NameKind.cell) else (n,k))::_)=_;cases hx:x == n with
  | true=>
   have e:x=n:=by simpa using hx
   subst e;simp only[List.lookup_cons,hx,Option.map_some];split<;>simp[List.lookup_cons]
  | false=>
   simp only[List.lookup_cons,hx];rw[<-qH r x];split<;>simp only[List.lookup_cons,hx]
def Tu(names:List (Str×NameKind)):List Str->List Str->Bool
 | _,[]=>true
 | [],_::_=>false
 | x'::N',x::N=>((names.lookup x').isNone||(x' == x&&names.lookup x' == some .free))&&Tu names N' N
theorem Ho{names:List (Str×NameKind)}:∀{N' N:List Str},Tu names N' N=true->∀(i:Nat) (x:Str),i<N.length->N'[i]? = some x->(names.lookup x).isSome=true->N[i]? = some x/\names.lookup x=some .free
 | _,[],_,i,x,h,_,_=>absurd h (Nat.not_lt_zero _)
 | [],_::_,h,_,_,_,_,_=>by cases h
 | x'::N',y::N,h,i,x,hi,e,hs=>by
  unfold Tu at h;have h1:=(Bool.and_eq_true_iff.mp h).1;have h2:=(Bool.and_eq_true_iff.mp h).2;cases i with
  | zero=>
   have e':x'=x:=by simpa using e
   subst e';rcases Bool.or_eq_true_iff.mp h1 with q|q
   ·cases z:names.lookup x' with
    | none=>rw[z] at hs;cases hs
    | some k=>rw[z] at q;cases q
   ·have q1:=(Bool.and_eq_true_iff.mp q).1;have q2:=(Bool.and_eq_true_iff.mp q).2;have e1:x'=y:=by simpa using q1
    have e2:names.lookup x'=some .free:=by simpa using q2
    exact⟨by rw[e1];rfl,e2⟩
  | succ i=>exact Ho h2 i x (by simpa using hi) (by simpa using e) hs
structure jN(X:Cx)(scope:Scope)(N':List Str):Prop where
 kind:scope.kind = .function
 nd:(scope.names.map (·.1)).Nodup
 free:∀x∈scope.names,x.2 = .free->X.env.kindOf x.1=some .cell\/X.env.kindOf x.1=some .free
 chk:Tu scope.names N' X.N=true
 len:X.N.length<=N'.length
def Y0(X:Cx)(ifs:List Expr)(t:TT):Prop:=
 ∀(pins:List (Addr×Obj)) (s:Shared) (σ:St) (H:Hp) (Q:Bool->Hp->Prop),Inv X pins σ H s->t σ H Q->
  wpAny (model X.prog X.w) X.A (forIn ifs true λc r=>if r=true then do let ok <-isTrue c X.env (eval c X.env);pure (ForInStep.yield ok) else pure (ForInStep.yield r)) (TP X pins σ Q) X.xe s
theorem VJ{X:Cx}:Y0 X [] (λ_ H Q=>Q true H):=λpins s σ H Q I h=>by
 rw[List.forIn_nil];exact wpAny_pure ⟨H,I,h⟩
theorem VH{X:Cx}{c:Expr}{t:TT}(h:PT X c t):Y0 X [c] t:=λpins s σ H Q I hw=>by
 rw[List.forIn_cons,if_pos rfl];refine wpAny_bind (wpAny_bind (gG (h pins s σ H Q I hw) λb s' q=>?_));refine wpAny_pure ?_;show wpAny _ _ (forIn [] b _) _ _ _;rw[List.forIn_nil];exact wpAny_pure q
def qG(n:Nat)(σ:St):St:=σ++List.replicate n none
def tLC(n:Nat)(wi:TI)(g:TG)(tc:TT)(te:TE):TE:=λσ H Q=>wi σ H λJ H1=>∀d,H1 d=none->∃W:Nat->Nat->St->Hp->Prop,(∃m,W 0 m (qG (n - σ.length) σ) (upd H1 d (.lst [])))/\∀i m σ' H',W i m σ' H'->
 (J.stop i H'/\Q (.ref d) H')\/(J.go i H'/\∃N:St->Hp->Prop,(∀σ2 H2,N σ2 H2->∃m',m'<m/\W (i+1) m' σ2 H2)/\∀x H2,J.Uv i H' x H2->g x σ' H2 λσ3 H3=>tc σ3 H3 λb H4=>
  if b=true then te σ3 H4 λy H5=>∃ys,H5 d=some (.lst ys)/\ys.length<sizeLine/\N σ3 (upd H5 d (.lst (ys++[y]))) else N σ3 H4)
section
variable{prog:Program}{w:World}{A:Around}{R:Result->Shared->Prop}{s:Shared}
theorem Ea{elt target iter:Expr}{ifs:List Expr}{scope:Scope}{pos:Pos}{it acc:Value}{env:Env}(I:Nat->Shared->Prop)
  (turn:∀n s,I n s->wpAny (model prog w) A (pyNext it) (λr s₁=>match r with
   | none=>R (.ok .next) s₁
   | some v=>wpAny (model prog w) A (letOwnedTupleGo target it v) (λ_ s₁'=>wpAny (model prog w) A (assign target env v) (λ_ s₂=>
     wpAny (model prog w) A (forIn ifs true λc r=>if r=true then do let ok <-isTrue c env (eval c env);pure (ForInStep.yield ok) else pure (ForInStep.yield r)) (λok s₃=>
      if ok=true then wpAny (model prog w) A (eval elt env) (λx s₄=>
       wpAny (model prog w) A (call (.builtin "list.append") [acc,x]) (λ_ s₅=>∃m,m<n/\I m s₅) (λ_ _=>False) s₄) (λ_ _=>False) s₃
      else ∃m,m<n/\I m s₃) (λ_ _=>False) s₂) (λ_ _=>False) s₁') (λ_ _=>False) s₁) (λ_ _=>False) s)
  (n:Nat) (h:I n s) :
  codeAny (model prog w) A (.compLoop (.ListComp elt [⟨target,iter,ifs,0⟩] scope pos) 0 it acc env) R s:=by
 refine codeAny_loop rfl I (λn s hI=>?_) n h;show wpAny _ A ((compTurn (.ListComp elt [⟨target,iter,ifs,0⟩] scope pos) 0 it acc env).onRaise (λx=>do noteFrame x env;theTreesLotGoes x)) _ _ s;refine wpAny_noted ?_;rw[compTurn_list];refine wpAny_bind (wpAny_standAt (wpAny_bind (wpAny_mono (turn n s hI) (λr s₁ h₁=>?_) λ_ _ h'=>h'.elim)));cases r with
 | none=>exact wpAny_pure h₁
 | some v=>
  refine wpAny_bind (wpAny_mono h₁ (λ_ s₁' h₁'=>?_) λ_ _ h'=>h'.elim);refine wpAny_bind (wpAny_mono h₁' (λ_ s₂ h₂=>wpAny_bind (wpAny_mono h₂ (λok s₃ h₃=>?_) λ_ _ h'=>h'.elim)) λ_ _ h'=>h'.elim);cases ok with
  | false=>exact wpAny_pure ⟨rfl,h₃⟩
  | true=>
   exact wpAny_bind (wpAny_bind (wpAny_mono h₃ (λx s₄ h₄=>wpAny_bind (wpAny_mono h₄ (λ_ s₅ h₅=>wpAny_pure (wpAny_pure ⟨rfl,h₅⟩)) λ_ _ h'=>h'.elim)) λ_ _ h'=>h'.elim))
end
theorem GP{X:Cx}{scope:Scope}{N':List Str}{pins:List (Addr×Obj)}{σ:St}{H:Hp}{s:Shared}{h':Heap}{fp:List Addr}(ok:jN X scope N')(I:Inv X pins σ H s)(hf:∀b∈fp,pY X pins H b)(hlt:∀b∈fp,b<s.heap.objs.size)
  (hn:h'.Ns s.heap.objs.size (λ_=>none)) (hk:∀b o,s.heap.get? b=some o->h'.get? b=some o) (co:CellsOk h' (s.heap.objs.size+1) (cellsFrom (s.heap.objs.size+1) scope.names [])) :
  Inv (cxC X scope N' (cellsFrom (s.heap.objs.size+1) scope.names (lJ X.env scope.names [])) s.heap.objs.size s H fp) [] (qG (N'.length - σ.length) σ) H { s with heap:=h' }:=by
 have hfree:∀n,(n,NameKind.free)∈scope.names->∃c,X.env.cells.lookup n=some c:=λn hm=>I.ok.has n (ok.free _ hm rfl)
 -- the cells by name
 have pN:∀x c,(cellsFrom (s.heap.objs.size+1) scope.names (lJ X.env scope.names [])).lookup x=some c->
   ((x,c)∈cellsFrom (s.heap.objs.size+1) scope.names []/\(cellsFrom (s.heap.objs.size+1) scope.names []).lookup x=some c)\/((cellsFrom (s.heap.objs.size+1) scope.names []).lookup x=none/\X.env.cells.lookup x=some c):=λx c e=>by
  rw[gD,pL] at e;cases q:(cellsFrom (s.heap.objs.size+1) scope.names []).lookup x with
  | some d=>rw[q] at e;cases e;exact .inl ⟨lookup_mem _ _ _ q,rfl⟩
  | none=>rw[q] at e;exact .inr ⟨rfl,vd _ _ x c hfree (λy d h=>by simp at h) e⟩
 have yR:∀x c,(x,c)∈cellsFrom (s.heap.objs.size+1) scope.names []->s.heap.objs.size+1<=c:=λx c h=>(co.empty x c h).2;have Q7:∀x c,X.env.cells.lookup x=some c->c<s.heap.objs.size:=λx c h=>let ⟨v,q⟩:=I.cell x c h;q.lt
 have Dt:∀x,(relabel scope X.env).names.lookup x=(scope.names.lookup x).map λk=>if (k == NameKind.free&&X.env.scope.kind == .function&&X.env.kindOf x == some .cell) then NameKind.cell else k:=λx=>qH _ _
 have GZ:∀x,(x,NameKind.cell)∈scope.names->∃c,(cellsFrom (s.heap.objs.size+1) scope.names []).lookup x=some c:=λx hx=>by
  have q:=PySem.W.cellsFrom_some scope.names (s.heap.objs.size+1) [] (.inl (iB _ _ _ ok.nd hx));exact Option.isSome_iff_exists.mp q
 have fpC:∀b∈fp,∀x c,(cellsFrom (s.heap.objs.size+1) scope.names (lJ X.env scope.names [])).lookup x=some c->c≠b:=λb hb x c e=>by
  rcases pN x c e with ⟨h1,_⟩|⟨_,h2⟩
  ·have h3:=yR x c h1;have h4:=hlt b hb;rintro rfl;exact absurd (Nat.lt_of_lt_of_le h4 (Nat.le_of_succ_le h3)) (Nat.lt_irrefl _)
  ·exact(hf b hb).2.2.2.2.1 x c h2
 refine⟨⟨I.ok.mod,ok.kind,I.ok.glob,I.ok.blt,Nat.le_refl _,λx y c h1 h2=>?_,λx hx=>?_,λx c hx e=>?_,I.ok.hd,I.ok.frames,.inl rfl,λb hb=>⟨Nat.ne_of_lt (hlt b hb),λx c e=>fpC b hb x c e⟩,I.bs,Nat.le_trans I.ok.YM I.sz,λb o e hb=>?_,λb hb=>?_,I.stack,I.Kv⟩,
  rfl,I.bare,Un.kept hk,⟨_,hn,λi x v e1 e2 e3=>?_⟩,λx c e=>?_,I.hok.fresh (Nat.le_refl _),λx c e=>?_,λp hp=>absurd (show p∈([]:List (Addr×Obj)) from hp) (by simp),I.hok.kept hk,?_⟩
 ·-- one name a cell
  rcases pN x c h1 with ⟨p1,_⟩|⟨_,p2⟩
  ·rcases pN y c h2 with ⟨q1,_⟩|⟨_,q2⟩
   ·exact name_of_addr co.apart p1 q1
   ·exact absurd (Nat.lt_of_lt_of_le (Q7 y c q2) (Nat.le_of_succ_le (yR x c p1))) (Nat.lt_irrefl _)
  ·rcases pN y c h2 with ⟨q1,_⟩|⟨_,q2⟩
   ·exact absurd (Nat.lt_of_lt_of_le (Q7 x c p2) (Nat.le_of_succ_le (yR y c q1))) (Nat.lt_irrefl _)
   ·exact I.ok.inj x y c p2 q2
 ·-- each cell name has one
  show ∃c,(cellsFrom (s.heap.objs.size+1) scope.names (lJ X.env scope.names [])).lookup x=some c;have hx:(relabel scope X.env).names.lookup x=some .cell\/(relabel scope X.env).names.lookup x=some .free:=hx;rw[Dt] at hx;cases q:scope.names.lookup x with
  | none=>rw[q] at hx;rcases hx with hx|hx<;>cases hx
  | some k=>
   rw[q] at hx;rw[gD,pL];cases z:(cellsFrom (s.heap.objs.size+1) scope.names []).lookup x with
   | some d=>exact⟨d,rfl⟩
   | none=>
    have hkf:k = .free:=by
     cases k with
     | free=>rfl
     | cell=>obtain⟨c,hc⟩:=GZ x (lookup_mem _ _ _ q);rw[hc] at z;cases z
     | _=>rcases hx with hx|hx<;>simp at hx
    subst hkf;exact Option.isSome_iff_exists.mp (u0 _ _ x (lookup_mem _ _ _ q))
 ·-- its own cells are new
  have hx':scope.names.lookup x=some .cell:=of_decide_eq_true hx;rcases pN x c e with ⟨p1,_⟩|⟨p1,_⟩
  ·exact Nat.le_of_succ_le (yR x c p1)
  ·obtain⟨d,hd⟩:=GZ x (lookup_mem _ _ _ hx');rw[hd] at p1;cases p1
 ·rcases(hf b hb).2.2.2.1 with z|z
  ·exact I.ok.Rj b o e z
  ·have h1:=Heap.lt_size e;have h2:=I.ok.YM;exact absurd (Nat.lt_of_lt_of_le h1 (Nat.le_trans h2 z)) (Nat.lt_irrefl _)
 ·intro hm;rcases List.mem_cons.mp (I.Iw b hm) with z|z
  ·exact(hf b hb).2.1 z
  ·exact(hf b hb).2.2.1 z
 ·-- the names
  have hiσ:i<σ.length:=by
   by_cases hi:i<σ.length
   ·exact hi
   ·unfold qG at e2;rw[List.getElem?_append_right (by omega),List.getElem?_replicate] at e2;split at e2<;>cases e2
  have e2':σ[i]? = some (some v):=by
   unfold qG at e2
   rwa [List.getElem?_append_left hiσ] at e2
  have vis:(scope.names.lookup x).isSome=true:=by
   have e3:(relabel scope X.env).names.lookup x=some .local\/(relabel scope X.env).names.lookup x=some .cell\/(relabel scope X.env).names.lookup x=some .free:=e3;rw[Dt] at e3;cases q:scope.names.lookup x with
   | none=>rw[q] at e3;rcases e3 with z|z|z<;>cases z
   | some k=>rfl
  obtain⟨hN,hfr⟩:=Ho ok.chk i x (by rw[<-I.len];exact hiσ) e1 vis;have hm:=lookup_mem _ _ _ hfr;have hkk:=ok.free _ hm rfl;obtain⟨m,hns,hl⟩:=I.loc;obtain⟨u,ru,lk⟩:=hl i x v hN e2' (hkk.elim (λz=>.inr (.inl z)) λz=>.inr (.inr z));refine⟨u,ru,.inr ⟨?_,?_⟩⟩
  ·show(relabel scope X.env).names.lookup x=some .cell\/(relabel scope X.env).names.lookup x=some .free;rw[Dt,hfr];by_cases hc:(NameKind.free == NameKind.free&&X.env.scope.kind == .function&&X.env.kindOf x == some .cell)=true
   ·left;rw[Option.map_some,if_pos hc]
   ·right;rw[Option.map_some,if_neg hc]
  ·rcases lk with ⟨hl1,_⟩|⟨_,c,hc,hcell⟩
   ·rcases hkk with z|z<;>(rw[z] at hl1;cases hl1)
   ·refine⟨c,?_,hcell.keeps hk⟩;show(cellsFrom (s.heap.objs.size+1) scope.names (lJ X.env scope.names [])).lookup x=some c;rw[gD,pL];have hno:(cellsFrom (s.heap.objs.size+1) scope.names []).lookup x=none:=qI _ _ λd hd=>by
     have h1:=iB _ _ _ ok.nd (nY _ _ _ _ hd);rw[hfr] at h1;cases h1
    rw[hno];obtain⟨d,hd⟩:=Option.isSome_iff_exists.mp (u0 (env:=X.env) scope.names [] x hm);have h2:=vd _ _ x d hfree (λy d h=>by simp at h) hd;rw[hc] at h2;show(lJ X.env scope.names []).lookup x=some c;rw[hd,h2]
 ·rcases pN x c e with ⟨p1,_⟩|⟨_,p2⟩
  ·exact⟨_,(co.empty x c p1).1⟩
  ·obtain⟨v,q⟩:=I.cell x c p2;exact⟨v,q.keeps hk⟩
 ·rcases pN x c e with ⟨p1,_⟩|⟨_,p2⟩
  ·exact I.hok.fresh (Nat.le_of_succ_le (yR x c p1))
  ·exact I.qQ x c p2
 ·show(qG (N'.length - σ.length) σ).length=N'.length;unfold qG;rw[List.length_append,List.length_replicate];have h1:=ok.len;have h2:=I.len;omega
abbrev dX(X:Cx)(scope:Scope)(N':List Str)(X':Cx):Prop:=
 ∃(cells:List (Str×Addr)) (C:Addr) (s0:Shared) (H0:Hp) (fp:List Addr),X'=cxC X scope N' cells C s0 H0 fp
theorem Bv{X:Cx}{elt tg iter:Expr}{ifs:List Expr}{scope:Scope}{N':List Str}{pos:Pos}{g:TG}{tc:TT}{te:TE}{use:Option (Value->Sem Unit)}{QQ:Value->Shared->Prop}
  (ok:jN X scope N') (hc:X.calm=true)
  (bg:∀X',dX X scope N' X'->PG X' tg g) (bc:∀X',dX X scope N' X'->Y0 X' ifs tc) (be:∀X',dX X scope N' X'->PE X' elt te)
  {pins:List (Addr×Obj)} {s2:Shared} {σ:St} {H2:Hp} {Q:VK} {it:Addr} {fp:List Addr} {tn:Nat->Heap->Prop} {J:It} (I2:Inv X pins σ H2 s2) (T:Turn X.prog X.w X.K tg J fp it tn) (st2:tn 0 s2.heap) (f2:∀b∈fp,pY X pins H2 b)
  (q:∀d,H2 d=none->∃W:Nat->Nat->St->Hp->Prop,(∃m,W 0 m (qG (N'.length - σ.length) σ) (upd H2 d (.lst [])))/\∀i m σ' H',W i m σ' H'->
   (J.stop i H'/\Q (.ref d) H')\/(J.go i H'/\∃N:St->Hp->Prop,(∀σ2 H2,N σ2 H2->∃m',m'<m/\W (i+1) m' σ2 H2)/\∀x H2,J.Uv i H' x H2->g x σ' H2 λσ3 H3=>tc σ3 H3 λb H4=>
    if b=true then te σ3 H4 λy H5=>∃ys,H5 d=some (.lst ys)/\ys.length<sizeLine/\N σ3 (upd H5 d (.lst (ys++[y]))) else N σ3 H4))
  (fin:∀d C m s' H',Inv X pins σ H' s'->Q (.ref d) H'->s'.heap.Ns C m->H' C=none->C≠X.env.locals->X.s₀.heap.objs.size<=C->(∀x c,X.env.cells.lookup x=some c->c≠C)->(∀p∈X.pn++pins,p.1≠C)->
   compPost (model X.prog X.w) X.A X.xe use QQ (.ref d) C (.ok .next) s') :
  wpAny (model X.prog X.w) X.A (newList []) (λacc s₃=>wpAny (model X.prog X.w) X.A (newFunctionEnv scope X.env.globals (lJ X.env scope.names []) [] X.env.qual none .none (some X.env)) (λcenv s₄=>
   codeAny (model X.prog X.w) X.A (.compStart (.ListComp elt [⟨tg,iter,ifs,0⟩] scope pos) 0 (.ref it) acc { cenv with scope:=relabel scope X.env }) (compPost (model X.prog X.w) X.A X.xe use QQ acc cenv.locals) s₄) X.xe s₃) X.xe s2:=by
 have hd2:H2 s2.heap.objs.size=none:=I2.fresh;refine wpAny_newObj_type (wN λh' hns hkeep hco=>?_)
 -- the state behind the list
 obtain⟨W,⟨m0,w0⟩,turn⟩:=q s2.heap.objs.size hd2;have I3:Inv X pins σ (upd H2 s2.heap.objs.size (.lst [])) { s2 with heap:=s2.heap.push { cls:=.type "list",data:=.seq ([]:List Value).toArray } }:=I2.aaM (t':=s2.toks) .nil (Nat.zero_le _);have Rp:∀b∈fp,b<s2.heap.objs.size:=λb hb=>by
  obtain⟨o,e,_⟩:=T.obj _ _ st2 b hb;exact Heap.lt_size e
 have f3:∀b∈fp,pY X pins (upd H2 s2.heap.objs.size (.lst [])) b:=λb hb=>by
  refine⟨?_,(f2 b hb).2⟩;rw[bM (Nat.ne_of_lt (Rp b hb))];exact(f2 b hb).1
 have lt3:∀b∈fp,b<({ s2 with heap:=s2.heap.push { cls:=.type "list",data:=.seq ([]:List Value).toArray } }:Shared).heap.objs.size:=λb hb=>by
  show b<(s2.heap.push _).objs.size;rw[Heap.size_push];exact Nat.lt_succ_of_lt (Rp b hb)
 have st3:tn 0 h':=T.keep _ _ _ st2 λb hb o e=>hkeep b o (Heap.get?_push_of_some _ e);have I4:=GP (fp:=fp) ok I3 f3 lt3 hns hkeep hco;generalize hs3:({ s2 with heap:=s2.heap.push { cls:=.type "list",data:=.seq ([]:List Value).toArray } }:Shared)=s3 at *;have sz3:s3.heap.objs.size=s2.heap.objs.size+1:=by rw[<-hs3];exact Heap.size_push ..
 generalize hX':cxC X scope N' (cellsFrom (s3.heap.objs.size+1) scope.names (lJ X.env scope.names [])) s3.heap.objs.size s3 (upd H2 s2.heap.objs.size (.lst [])) fp=X' at I4;have at':dX X scope N' X':=⟨_,_,_,_,_,hX'.symm⟩;have hg:=bg X' at';have hif:=bc X' at';have he:=be X' at';have eP:X'.prog=X.prog:=by rw[<-hX'];rfl
 have eW:X'.w=X.w:=by rw[<-hX'];rfl
 have eK:X'.K=X.K:=by rw[<-hX'];rfl
 have eA:X'.A=X.A:=by rw[<-hX'];rfl
 have eC:X'.calm=true:=by rw[<-hX'];exact hc
 have eX:X'.xe=λ_ _=>False:=by rw[<-hX'];rfl
 have ePn:X'.pn=[]:=by rw[<-hX'];rfl
 have Xv:X'.ex=fp:=by rw[<-hX'];rfl
 have eL:X'.env.locals=s3.heap.objs.size:=by rw[<-hX'];rfl
 have eFs:X'.fs=frs X.stack:=by rw[<-hX'];rfl
 have aco:compEnvC scope (cellsFrom (s3.heap.objs.size+1) scope.names (lJ X.env scope.names [])) s3.heap.objs.size X.env=X'.env:=by rw[<-hX'];rfl
 have eS0:X'.s₀=s3:=by rw[<-hX'];rfl
 have eH0:X'.H₀=upd H2 s2.heap.objs.size (.lst []):=by rw[<-hX'];rfl
 -- what is true of the iterator's objects in the block
 have stat:∀{H':Hp},(∀b∈fp,H' b=none)->∀b∈fp,pY X' [] H' b:=λ{H'} hn b hb=>by
  refine⟨hn b hb,?_,?_,.inl (by rw[Xv];exact hb),λx c e=>?_,λp hp=>?_⟩
  ·rw[eL];exact Nat.ne_of_lt (lt3 b hb)
  ·have:=I4.ok.Oj b (by rw[Xv];exact hb);exact this
  ·exact(I4.ok.exf b (by rw[Xv];exact hb)).2 x c e
  ·rw[ePn] at hp;exact absurd hp (by simp)
 -- the outer context again
 have back:∀σ' H' s',Inv X' [] σ' H' s'->Inv X pins σ H' s':=λσ' H' s' J'=>by
  have hb:=J'.base;rw[eFs,Xv,eS0,eH0] at hb;have hos:=J'.os;rw[eS0] at hos;have hok:=J'.hok;rw[eP,eW] at hok;exact I3.call' (ch:=fp) hos hb hok J'.bare λb hbm=>⟨(f3 b hbm).2.2.2.1,(f3 b hbm).2.1,(f3 b hbm).2.2.2.2.1,(f3 b hbm).2.2.2.2.2⟩
 have loop:∀s4:Shared,s4 = { s3 with heap:=h' }->codeAny (model X.prog X.w) X.A (.compLoop (.ListComp elt [⟨tg,iter,ifs,0⟩] scope pos) 0 (.ref it) (.ref s2.heap.objs.size) X'.env) (compPost (model X.prog X.w) X.A X.xe use QQ (.ref s2.heap.objs.size) s3.heap.objs.size) s4:=by
  rintro s4 rfl;refine Ea (λn s'=>∃i σ' H',Inv X' [] σ' H' s'/\tn i s'.heap/\(∀b∈fp,H' b=none)/\W i n σ' H') ?_ m0 ⟨0,_,_,I4,st3,λb hb=>(f3 b hb).1,w0⟩;rintro n s5 ⟨i,σ5,H5,I5,U8,fr5,w5⟩;rcases turn i n σ5 H5 w5 with ⟨stop,qn⟩|⟨go,N,hN,step⟩
  ·have td:=T.done X' eP eW eK eC i [] s5 σ5 H5 (λ_ _=>False) I5 (stat fr5) U8 stop;rw[eA] at td;refine gG td λr s6 ⟨hr,I6⟩=>?_;subst hr;obtain⟨mC,hnC,_⟩:=id I6.loc;rw[eL] at hnC;have lc:X.env.locals<s3.heap.objs.size:=by
    have:=I3.lt;exact this
   refine fin _ _ mC s6 H5 (back _ _ _ I6) qn hnC ?_ (Nat.ne_of_gt lc) I3.sz (λx c e=>?_) (λp hp=>?_)
   ·have:=I6.free;rw[eL] at this;exact this
   ·obtain⟨v,z⟩:=I3.cell x c e;exact Nat.ne_of_lt z.lt
   ·exact Nat.ne_of_lt (Heap.lt_size (I3.pin p hp).1)
  ·have ti:=T.item X' eP eW eK eC i [] s5 σ5 H5 (λ_ _=>False) I5 (stat fr5) U8 go;rw[eA] at ti;refine gG ti λr s6 ⟨u,hr,h6⟩=>?_;subst hr;refine gG h6 λ_ s7 ⟨x,H7,I7,r7,y7,Zt,fr7⟩=>?_;have I7':=I7.pinned (stat fr7) (T.obj _ _ Zt);have hg':=hg _ s7 σ5 H7 x u _ I7' r7 (step x H7 y7);rw[eP,eW,eA,eX] at hg';refine gG hg' λ_ s8 ⟨σ8,H8,I8,q8⟩=>?_;have Sq:=hif _ s8 σ8 H8 _ I8 q8;rw[eP,eW,eA,eX] at Sq;refine gG Sq λb s9 ⟨H9,I9,q9⟩=>?_;have again:∀{σz:St} {Hz:Hp} {sz:Shared},Inv X' ([]++mQ fp s7.heap) σz Hz sz->N σz Hz->∃m,m<n/\∃i σ' H',Inv X' [] σ' H' sz/\tn i sz.heap/\(∀b∈fp,H' b=none)/\W i m σ' H':=λ{σz Hz sz} Iz nz=>by
    obtain⟨m',hm,wz⟩:=hN σz Hz nz;refine⟨m',hm,i+1,σz,Hz,Iz.oK,T.keep _ _ _ Zt λb hb o e=>(Iz.pin (b,o) (List.mem_append_right _ (List.mem_append_right _ (iY hb e)))).1,λb hb=>?_,wz⟩;obtain⟨o,e,d⟩:=T.obj _ _ Zt b hb;exact(Iz.pin (b,o) (List.mem_append_right _ (List.mem_append_right _ (iY hb e)))).2.1
   cases b with
   | false=>
    rw[if_neg Bool.false_ne_true] at q9 ⊢;exact again I9 q9
   | true=>
    rw[if_pos rfl] at q9 ⊢;have he':=he _ s9 σ8 H9 _ I9 q9;rw[eP,eW,eA,eX] at he';refine gG he' λy sa ⟨yv,Ha,Ia,ra,ys,hys,hlen,qa⟩=>?_;have ap:=v7 (X:=X') _ sa σ8 Ha (.ref s2.heap.objs.size) [yv] (.ref s2.heap.objs.size) [y] (λv H'=>v = .non/\N σ8 H') Ia rfl (.cons ra .nil) ⟨_,ys,yv,rfl,rfl,hys,hlen,rfl,qa⟩;rw[eP,eW,eA,eX] at ap;refine gG ap λ_ sb ⟨vb,Hb,Ib,rb,_,nb⟩=>?_;exact again Ib nb
 show codeAny _ _ (.compStart _ 0 (.ref it) (.ref s2.heap.objs.size) (compEnvC scope (cellsFrom (s3.heap.objs.size+1) scope.names (lJ X.env scope.names [])) s3.heap.objs.size X.env)) (compPost (model X.prog X.w) X.A X.xe use QQ (.ref s2.heap.objs.size) s3.heap.objs.size) _;rw[aco];exact codeAny_compStart_list (loop _ rfl) (T.self X.A 0 _ _ _ st3 (loop _ rfl))
theorem adM{X:Cx}{elt tg iter:Expr}{ifs:List Expr}{scope:Scope}{N':List Str}{pos:Pos}{wi:TI}{g:TG}{tc:TT}{te:TE}
  (ok:jN X scope N') (hc:X.calm=true) (hi:PI X tg iter wi)
  (bg:∀X',dX X scope N' X'->PG X' tg g) (bc:∀X',dX X scope N' X'->Y0 X' ifs tc) (be:∀X',dX X scope N' X'->PE X' elt te)
  (hs:∀x,foldedSetIterable iter X.env x=pure x:=by intro _;rfl) :
  PE X (.ListComp elt [⟨tg,iter,ifs,0⟩] scope pos) (tLC N'.length wi g tc te):=by
 intro pins s σ H Q I h;rw[eval_ListComp];have hfree:∀n,(n,NameKind.free)∈scope.names->∃c,X.env.cells.lookup n=some c:=λn hm=>I.ok.has n (ok.free _ hm rfl);refine wpAny_comprehension_free (use:=none) rfl hs (uh hfree) ok.kind (λx hx hl=>iB _ _ _ ok.nd (by rw[<-hl];exact hx)) ?_;refine gG (hi pins s σ H _ I h) λv s1 h1=>gG h1 λitv s2 h2=>?_;obtain⟨it,fp,tn,J,H2,e,I2,T,st2,f2,q⟩:=h2;subst e;refine Bv ok hc bg bc be I2 T st2 f2 q λd C m s' H' I' hq hn hC hL h0 hcell hpin=>?_;refine⟨m,hn,λh' hs'=>?_⟩;have I'':Inv X pins σ H' { s' with heap:=h',toks:=s'.toks }:=I'.turned (it:=C) (λb o hb e=>(hs'.2 b hb).trans e) hC hL (.inr h0) hcell hpin;exact⟨.ref d,H',I'',rfl,hq⟩
theorem QL{X:Cx}{elt tg iter:Expr}{ifs:List Expr}{scope:Scope}{N':List Str}{pos spos py:Pos}{wi:TI}{g:TG}{tc:TT}{te:TE}{i:Nat}{y:Str}
  (ok:jN X scope N') (hc:X.calm=true) (hi:PI X tg iter wi)
  (bg:∀X',dX X scope N' X'->PG X' tg g) (bc:∀X',dX X scope N' X'->Y0 X' ifs tc) (be:∀X',dX X scope N' X'->PE X' elt te)
  (hN:X.N.Nodup) (hy:X.N[i]? = some y) (hx:Loc X.env.scope y)
  (hsw:swapsWith (.ListComp elt [⟨tg,iter,ifs,0⟩] scope pos) (some (.Name y py)) spos.line X.env=pure true)
  (hf:X.fn y=true\/X.env.scope.names.lookup y=some .local:=by first|exact .inl rfl|exact .inr rfl|assumption)
  (hs:∀x,foldedSetIterable iter X.env x=pure x:=by intro _;rfl) :
  PS X (.Assign [.Name y py] (.ListComp elt [⟨tg,iter,ifs,0⟩] scope pos) spos) (Qc (tLC N'.length wi g tc te) (wV i)):=by
 intro pins s σ H D I h;rw[exec_Assign_Name_used _ _ _ _ hsw];refine wpAny_bind (wpAny_standAt (wpAny_bind ?_));have hfree:∀n,(n,NameKind.free)∈scope.names->∃c,X.env.cells.lookup n=some c:=λn hm=>I.ok.has n (ok.free _ hm rfl);show wpAny _ X.A (do let _ <-comprehension (.ListComp elt [⟨tg,iter,ifs,0⟩] scope pos) scope X.env _ (newList []) false (eval iter X.env) (some (assign (.Name y py) X.env))) _ _ s;refine wpAny_bind (wpAny_mono (wpAny_comprehension_free (use:=some (assign (.Name y py) X.env)) (Q:=λ_ s'=>SP X pins D .next s') rfl hs (uh hfree) ok.kind (λx hx hl=>iB _ _ _ ok.nd (by rw[<-hl];exact hx)) ?_) (λ_ s' hq=>wpAny_pure (wpAny_pure hq)) λ_ _ e=>e);refine gG (hi pins s σ H _ I h) λv s1 h1=>gG h1 λitv s2 h2=>?_;obtain⟨it,fp,tn,J,H2,e,I2,T,st2,f2,q⟩:=h2;subst e;refine Bv (Q:=λx H1=>wV i x σ H1 D.nx) ok hc bg bc be I2 T st2 f2 q λd C m s' H' I' hq hn hC hL h0 hcell hpin=>?_;refine wpAny_assign_Name (vH (v:=.ref d) I' hN hy hx rfl (λs'' I'' sb=>?_) hf);obtain⟨a,hsb,ha⟩:=sb;have haC:C≠a:=by
  rcases ha with z|z
  ·rw[z];exact hL
  ·exact(hcell y a z).symm
 refine⟨m,hn.sameBut hsb haC,λh' hs'=>?_⟩;have I3:Inv X pins (σ.set i (some (.ref d))) H' { s'' with heap:=h',toks:=s''.toks }:=I''.turned (it:=C) (λb o hb e=>(hs'.2 b hb).trans e) hC hL (.inr h0) hcell hpin;exact⟨_,H',I3,hq⟩
def afs(J2:It)(g2:TG)(tc:TT)(te:TE)(d:Addr)(N:St->Hp->Prop)(σ3:St)(H4:Hp):Prop:=
 ∃W2:Nat->Nat->St->Hp->Prop,(∃m,W2 0 m σ3 H4)/\∀i2 m2 σ5 H5,W2 i2 m2 σ5 H5->(J2.stop i2 H5/\N σ5 H5)\/(J2.go i2 H5/\∃N2:St->Hp->Prop,(∀σ6 H6,N2 σ6 H6->∃m',m'<m2/\W2 (i2+1) m' σ6 H6)/\∀y H6,J2.Uv i2 H5 y H6->g2 y σ5 H6 λσ7 H7=>tc σ7 H7 λb H8=>
  if b=true then te σ7 H8 λv H9=>∃ys,H9 d=some (.lst ys)/\ys.length<sizeLine/\N2 σ7 (upd H9 d (.lst (ys++[v]))) else N2 σ7 H8)
def ac5(n:Nat)(wi:TI)(g:TG)(Y8:TI)(g2:TG)(tc:TT)(te:TE):TE:=λσ H Q=>wi σ H λJ H1=>∀d,H1 d=none->∃W:Nat->Nat->St->Hp->Prop,(∃m,W 0 m (qG (n - σ.length) σ) (upd H1 d (.lst [])))/\∀i m σ' H',W i m σ' H'->
 (J.stop i H'/\Q (.ref d) H')\/(J.go i H'/\∃N:St->Hp->Prop,(∀σ2 H2,N σ2 H2->∃m',m'<m/\W (i+1) m' σ2 H2)/\∀x H2,J.Uv i H' x H2->g x σ' H2 λσ3 H3=>Y8 σ3 H3 λJ2 H4=>afs J2 g2 tc te d N σ3 H4)
section
variable{prog:Program}{w:World}{A:Around}{R:Result->Shared->Prop}{s:Shared}{elt tg iter pq cH:Expr}{ifs:List Expr}{scope:Scope}{pos:Pos}{it acc:Value}{env:Env}
theorem UG:compTurn (.ListComp elt [⟨tg,iter,[],0⟩,⟨pq,cH,ifs,0⟩] scope pos) 0 it acc env=(do
   standAt iter.pos
   match <-pyNext it with
   | none=>pure (.done .next)
   | some v=>
    letOwnedTupleGo tg it v
    assign tg env v
    let x <-eval cH env
    standAt cH.pos
    let x <-foldedSetIterable cH env x
    let _ <-runOwn (.compStart (.ListComp elt [⟨tg,iter,[],0⟩,⟨pq,cH,ifs,0⟩] scope pos) 1 (<-holding [x] (pyIter x)) acc env) env
    again (.compLoop (.ListComp elt [⟨tg,iter,[],0⟩,⟨pq,cH,ifs,0⟩] scope pos) 0 it acc env)):=by rfl
theorem Uz:compTurn (.ListComp elt [⟨tg,iter,[],0⟩,⟨pq,cH,ifs,0⟩] scope pos) 1 it acc env=(do
   standAt cH.pos
   match <-pyNext it with
   | none=>pure (.done .next)
   | some v=>
    letOwnedTupleGo pq it v
    assign pq env v
    let mut ok:=true
    for c in ifs do
     if ok then ok <-isTrue c env (eval c env)
    if ok then
     (do let _ <-call (.builtin "list.append") [acc,<-eval elt env])
    again (.compLoop (.ListComp elt [⟨tg,iter,[],0⟩,⟨pq,cH,ifs,0⟩] scope pos) 1 it acc env)):=by rfl
theorem Eb(I:Nat->Shared->Prop)
  (turn:∀n s,I n s->wpAny (model prog w) A (pyNext it) (λr s₁=>match r with
   | none=>R (.ok .next) s₁
   | some v=>wpAny (model prog w) A (letOwnedTupleGo pq it v) (λ_ s₁'=>wpAny (model prog w) A (assign pq env v) (λ_ s₂=>
     wpAny (model prog w) A (forIn ifs true λc r=>if r=true then do let ok <-isTrue c env (eval c env);pure (ForInStep.yield ok) else pure (ForInStep.yield r)) (λok s₃=>
      if ok=true then wpAny (model prog w) A (eval elt env) (λx s₄=>
       wpAny (model prog w) A (call (.builtin "list.append") [acc,x]) (λ_ s₅=>∃m,m<n/\I m s₅) (λ_ _=>False) s₄) (λ_ _=>False) s₃
      else ∃m,m<n/\I m s₃) (λ_ _=>False) s₂) (λ_ _=>False) s₁') (λ_ _=>False) s₁) (λ_ _=>False) s)
  (n:Nat) (h:I n s) :
  codeAny (model prog w) A (.compLoop (.ListComp elt [⟨tg,iter,[],0⟩,⟨pq,cH,ifs,0⟩] scope pos) 1 it acc env) R s:=by
 refine codeAny_loop rfl I (λn s hI=>?_) n h;show wpAny _ A ((compTurn (.ListComp elt [⟨tg,iter,[],0⟩,⟨pq,cH,ifs,0⟩] scope pos) 1 it acc env).onRaise (λx=>do noteFrame x env;theTreesLotGoes x)) _ _ s;refine wpAny_noted ?_;rw[Uz];refine wpAny_bind (wpAny_standAt (wpAny_bind (wpAny_mono (turn n s hI) (λr s₁ h₁=>?_) λ_ _ h'=>h'.elim)));cases r with
 | none=>exact wpAny_pure h₁
 | some v=>
  refine wpAny_bind (wpAny_mono h₁ (λ_ s₁' h₁'=>?_) λ_ _ h'=>h'.elim);refine wpAny_bind (wpAny_mono h₁' (λ_ s₂ h₂=>wpAny_bind (wpAny_mono h₂ (λok s₃ h₃=>?_) λ_ _ h'=>h'.elim)) λ_ _ h'=>h'.elim);cases ok with
  | false=>exact wpAny_pure ⟨rfl,h₃⟩
  | true=>
   exact wpAny_bind (wpAny_bind (wpAny_mono h₃ (λx s₄ h₄=>wpAny_bind (wpAny_mono h₄ (λ_ s₅ h₅=>wpAny_pure (wpAny_pure ⟨rfl,h₅⟩)) λ_ _ h'=>h'.elim)) λ_ _ h'=>h'.elim))
theorem An(hfs:∀x,foldedSetIterable cH env x=pure x)(I:Nat->Shared->Prop)
  (turn:∀n s,I n s->wpAny (model prog w) A (pyNext it) (λr s₁=>match r with
   | none=>R (.ok .next) s₁
   | some v=>wpAny (model prog w) A (letOwnedTupleGo tg it v) (λ_ s₁'=>wpAny (model prog w) A (assign tg env v) (λ_ s₂=>
     wpAny (model prog w) A (eval cH env) (λx s₃=>wpAny (model prog w) A (pyIter x) (λux s₄=>
      codeAny (model prog w) A (.compStart (.ListComp elt [⟨tg,iter,[],0⟩,⟨pq,cH,ifs,0⟩] scope pos) 1 ux acc env) (λr s'=>match r with|.ok _=>∃m,m<n/\I m s'|.error _=>False) s₄) (λ_ _=>False) s₃) (λ_ _=>False) s₂) (λ_ _=>False) s₁') (λ_ _=>False) s₁) (λ_ _=>False) s)
  (n:Nat) (h:I n s) :
  codeAny (model prog w) A (.compLoop (.ListComp elt [⟨tg,iter,[],0⟩,⟨pq,cH,ifs,0⟩] scope pos) 0 it acc env) R s:=by
 refine codeAny_loop rfl I (λn s hI=>?_) n h;show wpAny _ A ((compTurn (.ListComp elt [⟨tg,iter,[],0⟩,⟨pq,cH,ifs,0⟩] scope pos) 0 it acc env).onRaise (λx=>do noteFrame x env;theTreesLotGoes x)) _ _ s;refine wpAny_noted ?_;rw[UG];refine wpAny_bind (wpAny_standAt (wpAny_bind (wpAny_mono (turn n s hI) (λr s₁ h₁=>?_) λ_ _ h'=>h'.elim)));cases r with
 | none=>exact wpAny_pure h₁
 | some v=>
  refine wpAny_bind (wpAny_mono h₁ (λ_ s₁' h₁'=>?_) λ_ _ h'=>h'.elim);refine wpAny_bind (wpAny_mono h₁' (λ_ s₂ h₂=>wpAny_bind (wpAny_mono h₂ (λx s₃ h₃=>?_) λ_ _ h'=>h'.elim)) λ_ _ h'=>h'.elim);refine wpAny_bind (wpAny_standAt (wpAny_bind ?_));rw[hfs];refine wpAny_pure (wpAny_bind (wpAny_holding (wpAny_mono h₃ (λux s₄ h₄=>?_) λ_ _ h'=>h'.elim)));refine wpAny_bind (wpAny_runOwn (codeAny_mono h₄ λr s₅ h₅=>?_));cases r with
  | ok f=>exact wpAny_pure ⟨rfl,h₅⟩
  | error e=>exact h₅.elim
theorem J8(h0:codeAny (model prog w) A (.compLoop (.ListComp elt [⟨tg,iter,[],0⟩,⟨pq,cH,ifs,0⟩] scope pos) 1 it acc env) R s)
  (h:wpAny (model prog w) A (pyIter it) (λit' s'=>codeAny (model prog w) A (.compLoop (.ListComp elt [⟨tg,iter,[],0⟩,⟨pq,cH,ifs,0⟩] scope pos) 1 it' acc env) R s')
   (notedBy (model prog w) A env λx s'=>R (.error x) s') s) :
  codeAny (model prog w) A (.compStart (.ListComp elt [⟨tg,iter,[],0⟩,⟨pq,cH,ifs,0⟩] scope pos) 1 it acc env) R s:=by
 refine codeAny_of_tree ?_;show wpAny _ _ ((compStart (.ListComp elt [⟨tg,iter,[],0⟩,⟨pq,cH,ifs,0⟩] scope pos) 1 it acc env).onRaise (λx=>do noteFrame x env;standAt theWindowsPlace)) _ _ s;refine wpAny_notedAt ?_;unfold compStart;show wpAny _ _ (ask >>= _) _ _ s;refine wpAny_bind (wpAny_askSetting (wpAny_ite ?_));split
 ·first|exact wpAny_bind (wpAny_pure (wpAny_pure (And.intro rfl h0)))|exact wpAny_pure (And.intro rfl h0)
 ·refine wpAny_bind (wpAny_rule ?_);show wpAny _ _ (standAt cH.pos >>= _) _ _ s;exact wpAny_bind (wpAny_standAt (wpAny_bind (wpAny_mono h (λit' s' h'=>wpAny_pure (And.intro rfl h')) λ_ _ x=>x)))
end
theorem J7{X:Cx}{elt tg iter pq cH:Expr}{ifs:List Expr}{scope:Scope}{N':List Str}{pos:Pos}{g g2:TG}{Y8:TI}{tc:TT}{te:TE}{use:Option (Value->Sem Unit)}{QQ:Value->Shared->Prop}
  (ok:jN X scope N') (hc:X.calm=true)
  (bg:∀X',dX X scope N' X'->PG X' tg g) (bi:∀X',dX X scope N' X'->PI X' pq cH Y8) (bg2:∀X',dX X scope N' X'->PG X' pq g2) (hs2:∀(X':Cx) (x:Value),dX X scope N' X'->foldedSetIterable cH X'.env x=pure x) (bc:∀X',dX X scope N' X'->Y0 X' ifs tc) (be:∀X',dX X scope N' X'->PE X' elt te)
  {pins:List (Addr×Obj)} {s2:Shared} {σ:St} {H2:Hp} {Q:VK} {it:Addr} {fp:List Addr} {tn:Nat->Heap->Prop} {J:It} (I2:Inv X pins σ H2 s2) (T:Turn X.prog X.w X.K tg J fp it tn) (st2:tn 0 s2.heap) (f2:∀b∈fp,pY X pins H2 b)
  (q:∀d,H2 d=none->∃W:Nat->Nat->St->Hp->Prop,(∃m,W 0 m (qG (N'.length - σ.length) σ) (upd H2 d (.lst [])))/\∀i m σ' H',W i m σ' H'->
   (J.stop i H'/\Q (.ref d) H')\/(J.go i H'/\∃N:St->Hp->Prop,(∀σ2 H2,N σ2 H2->∃m',m'<m/\W (i+1) m' σ2 H2)/\∀x H2,J.Uv i H' x H2->g x σ' H2 λσ3 H3=>Y8 σ3 H3 λJ2 H4=>afs J2 g2 tc te d N σ3 H4))
  (fin:∀d C m s' H',Inv X pins σ H' s'->Q (.ref d) H'->s'.heap.Ns C m->H' C=none->C≠X.env.locals->X.s₀.heap.objs.size<=C->(∀x c,X.env.cells.lookup x=some c->c≠C)->(∀p∈X.pn++pins,p.1≠C)->
   compPost (model X.prog X.w) X.A X.xe use QQ (.ref d) C (.ok .next) s') :
  wpAny (model X.prog X.w) X.A (newList []) (λacc s₃=>wpAny (model X.prog X.w) X.A (newFunctionEnv scope X.env.globals (lJ X.env scope.names []) [] X.env.qual none .none (some X.env)) (λcenv s₄=>
   codeAny (model X.prog X.w) X.A (.compStart (.ListComp elt [⟨tg,iter,[],0⟩,⟨pq,cH,ifs,0⟩] scope pos) 0 (.ref it) acc { cenv with scope:=relabel scope X.env }) (compPost (model X.prog X.w) X.A X.xe use QQ acc cenv.locals) s₄) X.xe s₃) X.xe s2:=by
 have hd2:H2 s2.heap.objs.size=none:=I2.fresh;refine wpAny_newObj_type (wN λh' hns hkeep hco=>?_)
 -- the state behind the list
 obtain⟨W,⟨m0,w0⟩,turn⟩:=q s2.heap.objs.size hd2;have I3:Inv X pins σ (upd H2 s2.heap.objs.size (.lst [])) { s2 with heap:=s2.heap.push { cls:=.type "list",data:=.seq ([]:List Value).toArray } }:=I2.aaM (t':=s2.toks) .nil (Nat.zero_le _);have Rp:∀b∈fp,b<s2.heap.objs.size:=λb hb=>by
  obtain⟨o,e,_⟩:=T.obj _ _ st2 b hb;exact Heap.lt_size e
 have f3:∀b∈fp,pY X pins (upd H2 s2.heap.objs.size (.lst [])) b:=λb hb=>by
  refine⟨?_,(f2 b hb).2⟩;rw[bM (Nat.ne_of_lt (Rp b hb))];exact(f2 b hb).1
 have lt3:∀b∈fp,b<({ s2 with heap:=s2.heap.push { cls:=.type "list",data:=.seq ([]:List Value).toArray } }:Shared).heap.objs.size:=λb hb=>by
  show b<(s2.heap.push _).objs.size;rw[Heap.size_push];exact Nat.lt_succ_of_lt (Rp b hb)
 have st3:tn 0 h':=T.keep _ _ _ st2 λb hb o e=>hkeep b o (Heap.get?_push_of_some _ e);have I4:=GP (fp:=fp) ok I3 f3 lt3 hns hkeep hco;generalize hs3:({ s2 with heap:=s2.heap.push { cls:=.type "list",data:=.seq ([]:List Value).toArray } }:Shared)=s3 at *;have sz3:s3.heap.objs.size=s2.heap.objs.size+1:=by rw[<-hs3];exact Heap.size_push ..
 generalize hX':cxC X scope N' (cellsFrom (s3.heap.objs.size+1) scope.names (lJ X.env scope.names [])) s3.heap.objs.size s3 (upd H2 s2.heap.objs.size (.lst [])) fp=X' at I4;have at':dX X scope N' X':=⟨_,_,_,_,_,hX'.symm⟩;have hg:=bg X' at';have hi2:=bi X' at';have hg2:=bg2 X' at';have hfs:∀x,foldedSetIterable cH X'.env x=pure x:=λx=>hs2 X' x at';have hif:=bc X' at';have he:=be X' at';have eP:X'.prog=X.prog:=by rw[<-hX'];rfl
 have eW:X'.w=X.w:=by rw[<-hX'];rfl
 have eK:X'.K=X.K:=by rw[<-hX'];rfl
 have eA:X'.A=X.A:=by rw[<-hX'];rfl
 have eC:X'.calm=true:=by rw[<-hX'];exact hc
 have eX:X'.xe=λ_ _=>False:=by rw[<-hX'];rfl
 have ePn:X'.pn=[]:=by rw[<-hX'];rfl
 have Xv:X'.ex=fp:=by rw[<-hX'];rfl
 have eL:X'.env.locals=s3.heap.objs.size:=by rw[<-hX'];rfl
 have eFs:X'.fs=frs X.stack:=by rw[<-hX'];rfl
 have aco:compEnvC scope (cellsFrom (s3.heap.objs.size+1) scope.names (lJ X.env scope.names [])) s3.heap.objs.size X.env=X'.env:=by rw[<-hX'];rfl
 have eS0:X'.s₀=s3:=by rw[<-hX'];rfl
 have eH0:X'.H₀=upd H2 s2.heap.objs.size (.lst []):=by rw[<-hX'];rfl
 -- what is true of the iterator's objects in the block
 have stat:∀{H':Hp},(∀b∈fp,H' b=none)->∀b∈fp,pY X' [] H' b:=λ{H'} hn b hb=>by
  refine⟨hn b hb,?_,?_,.inl (by rw[Xv];exact hb),λx c e=>?_,λp hp=>?_⟩
  ·rw[eL];exact Nat.ne_of_lt (lt3 b hb)
  ·have:=I4.ok.Oj b (by rw[Xv];exact hb);exact this
  ·exact(I4.ok.exf b (by rw[Xv];exact hb)).2 x c e
  ·rw[ePn] at hp;exact absurd hp (by simp)
 -- the outer context again
 have back:∀σ' H' s',Inv X' [] σ' H' s'->Inv X pins σ H' s':=λσ' H' s' J'=>by
  have hb:=J'.base;rw[eFs,Xv,eS0,eH0] at hb;have hos:=J'.os;rw[eS0] at hos;have hok:=J'.hok;rw[eP,eW] at hok;exact I3.call' (ch:=fp) hos hb hok J'.bare λb hbm=>⟨(f3 b hbm).2.2.2.1,(f3 b hbm).2.1,(f3 b hbm).2.2.2.2.1,(f3 b hbm).2.2.2.2.2⟩
 have loop:∀s4:Shared,s4 = { s3 with heap:=h' }->codeAny (model X.prog X.w) X.A (.compLoop (.ListComp elt [⟨tg,iter,[],0⟩,⟨pq,cH,ifs,0⟩] scope pos) 0 (.ref it) (.ref s2.heap.objs.size) X'.env) (compPost (model X.prog X.w) X.A X.xe use QQ (.ref s2.heap.objs.size) s3.heap.objs.size) s4:=by
  rintro s4 rfl;refine An hfs (λn s'=>∃i σ' H',Inv X' [] σ' H' s'/\tn i s'.heap/\(∀b∈fp,H' b=none)/\W i n σ' H') ?_ m0 ⟨0,_,_,I4,st3,λb hb=>(f3 b hb).1,w0⟩;rintro n s5 ⟨i,σ5,H5,I5,U8,fr5,w5⟩;rcases turn i n σ5 H5 w5 with ⟨stop,qn⟩|⟨go,N,hN,step⟩
  ·have td:=T.done X' eP eW eK eC i [] s5 σ5 H5 (λ_ _=>False) I5 (stat fr5) U8 stop;rw[eA] at td;refine gG td λr s6 ⟨hr,I6⟩=>?_;subst hr;obtain⟨mC,hnC,_⟩:=id I6.loc;rw[eL] at hnC;have lc:X.env.locals<s3.heap.objs.size:=by
    have:=I3.lt;exact this
   refine fin _ _ mC s6 H5 (back _ _ _ I6) qn hnC ?_ (Nat.ne_of_gt lc) I3.sz (λx c e=>?_) (λp hp=>?_)
   ·have:=I6.free;rw[eL] at this;exact this
   ·obtain⟨v,z⟩:=I3.cell x c e;exact Nat.ne_of_lt z.lt
   ·exact Nat.ne_of_lt (Heap.lt_size (I3.pin p hp).1)
  ·have ti:=T.item X' eP eW eK eC i [] s5 σ5 H5 (λ_ _=>False) I5 (stat fr5) U8 go;rw[eA] at ti;refine gG ti λr s6 ⟨u,hr,h6⟩=>?_;subst hr;refine gG h6 λ_ s7 ⟨x,H7,I7,r7,y7,Zt,fr7⟩=>?_;have I7':=I7.pinned (stat fr7) (T.obj _ _ Zt);have hg':=hg _ s7 σ5 H7 x u _ I7' r7 (step x H7 y7);rw[eP,eW,eA,eX] at hg';refine gG hg' λ_ s8 ⟨σ8,H8,I8,q8⟩=>?_;have again:∀{σz:St} {Hz:Hp} {sz:Shared},Inv X' ([]++mQ fp s7.heap) σz Hz sz->N σz Hz->∃m,m<n/\∃i σ' H',Inv X' [] σ' H' sz/\tn i sz.heap/\(∀b∈fp,H' b=none)/\W i m σ' H':=λ{σz Hz sz} Iz nz=>by
    obtain⟨m',hm,wz⟩:=hN σz Hz nz;refine⟨m',hm,i+1,σz,Hz,Iz.oK,T.keep _ _ _ Zt λb hb o e=>(Iz.pin (b,o) (List.mem_append_right _ (List.mem_append_right _ (iY hb e)))).1,λb hb=>?_,wz⟩;obtain⟨o,e,d⟩:=T.obj _ _ Zt b hb;exact(Iz.pin (b,o) (List.mem_append_right _ (List.mem_append_right _ (iY hb e)))).2.1
   have hi2':=hi2 _ s8 σ8 H8 _ I8 q8;rw[eP,eW,eA,eX] at hi2';refine gG hi2' λv s9 h9=>gG h9 λitv s10 h10=>?_;obtain⟨ux,fp2,tn2,J2,H10,e10,I10,T2,adg,f10,q10⟩:=h10;subst e10;rw[eP,eW,eK] at T2;obtain⟨W2,⟨m2,w2⟩,acY⟩:=q10;have f2n:∀{H':Hp},(∀b∈fp2,H' b=none)->∀b∈fp2,pY X' ([]++mQ fp s7.heap) H' b:=λ{H'} hn b hb=>⟨hn b hb,(f10 b hb).2⟩;have Yw:codeAny (model X.prog X.w) X.A (.compLoop (.ListComp elt [⟨tg,iter,[],0⟩,⟨pq,cH,ifs,0⟩] scope pos) 1 (.ref ux) (.ref s2.heap.objs.size) X'.env) (λr s'=>match r with|.ok _=>∃m,m<n/\∃i σ' H',Inv X' [] σ' H' s'/\tn i s'.heap/\(∀b∈fp,H' b=none)/\W i m σ' H'|.error _=>False) s10:=by
    refine Eb (λn2 s'=>∃i σ' H',Inv X' ([]++mQ fp s7.heap) σ' H' s'/\tn2 i s'.heap/\(∀b∈fp2,H' b=none)/\W2 i n2 σ' H') ?_ m2 ⟨0,_,_,I10,adg,λb hb=>(f10 b hb).1,w2⟩;rintro n2 s11 ⟨i2,σ11,H11,I11,adf,ae2,w11⟩;rcases acY i2 n2 σ11 H11 w11 with ⟨adb,qn2⟩|⟨go2,N2,hN2,ade⟩
    ·have td:=T2.done X' eP eW eK eC i2 _ s11 σ11 H11 (λ_ _=>False) I11 (f2n ae2) adf adb;rw[eA] at td;refine gG td λr s12 ⟨hr,I12⟩=>?_;subst hr;exact again I12 qn2
    ·have ti:=T2.item X' eP eW eK eC i2 _ s11 σ11 H11 (λ_ _=>False) I11 (f2n ae2) adf go2;rw[eA] at ti;refine gG ti λr s12 ⟨u2,hr,h12⟩=>?_;subst hr;refine gG h12 λ_ s13 ⟨x2,H13,I13,r13,y13,Zu,agU⟩=>?_;have ag5:=I13.pinned (f2n agU) (T2.obj _ _ Zu);have hg2':=hg2 _ s13 σ11 H13 x2 u2 _ ag5 r13 (ade x2 H13 y13);rw[eP,eW,eA,eX] at hg2';refine gG hg2' λ_ s14 ⟨σ14,H14,I14,q14⟩=>?_;have Sq:=hif _ s14 σ14 H14 _ I14 q14;rw[eP,eW,eA,eX] at Sq;refine gG Sq λb s15 ⟨H15,I15,q15⟩=>?_;have T5:∀{σz:St} {Hz:Hp} {sz:Shared},Inv X' (([]++mQ fp s7.heap)++mQ fp2 s13.heap) σz Hz sz->N2 σz Hz->∃m,m<n2/\∃i σ' H',Inv X' ([]++mQ fp s7.heap) σ' H' sz/\tn2 i sz.heap/\(∀b∈fp2,H' b=none)/\W2 i m σ' H':=λ{σz Hz sz} Iz nz=>by
      obtain⟨m',hm,wz⟩:=hN2 σz Hz nz;refine⟨m',hm,i2+1,σz,Hz,Iz.oK,T2.keep _ _ _ Zu λb hb o e=>(Iz.pin (b,o) (List.mem_append_right _ (List.mem_append_right _ (iY hb e)))).1,λb hb=>?_,wz⟩;obtain⟨o,e,d⟩:=T2.obj _ _ Zu b hb;exact(Iz.pin (b,o) (List.mem_append_right _ (List.mem_append_right _ (iY hb e)))).2.1
     cases b with
     | false=>
      rw[if_neg Bool.false_ne_true] at q15 ⊢;exact T5 I15 q15
     | true=>
      rw[if_pos rfl] at q15 ⊢;have he':=he _ s15 σ14 H15 _ I15 q15;rw[eP,eW,eA,eX] at he';refine gG he' λy sa ⟨yv,Ha,Ia,ra,ys,hys,hlen,qa⟩=>?_;have ap:=v7 (X:=X') _ sa σ14 Ha (.ref s2.heap.objs.size) [yv] (.ref s2.heap.objs.size) [y] (λv H'=>v = .non/\N2 σ14 H') Ia rfl (.cons ra .nil) ⟨_,ys,yv,rfl,rfl,hys,hlen,rfl,qa⟩;rw[eP,eW,eA,eX] at ap;refine gG ap λ_ sb ⟨vb,Hb,Ib,rb,_,nb⟩=>?_;exact T5 Ib nb
   exact J8 Yw (T2.self X.A 0 _ _ _ adg Yw)
 show codeAny _ _ (.compStart _ 0 (.ref it) (.ref s2.heap.objs.size) (compEnvC scope (cellsFrom (s3.heap.objs.size+1) scope.names (lJ X.env scope.names [])) s3.heap.objs.size X.env)) (compPost (model X.prog X.w) X.A X.xe use QQ (.ref s2.heap.objs.size) s3.heap.objs.size) _;rw[aco];exact codeAny_compStart_list (loop _ rfl) (T.self X.A 0 _ _ _ st3 (loop _ rfl))
theorem Ng{X:Cx}{elt tg iter pq cH:Expr}{ifs:List Expr}{scope:Scope}{N':List Str}{pos spos py:Pos}{wi Y8:TI}{g g2:TG}{tc:TT}{te:TE}{i:Nat}{y:Str}
  (ok:jN X scope N') (hc:X.calm=true) (hi:PI X tg iter wi)
  (bg:∀X',dX X scope N' X'->PG X' tg g) (bi:∀X',dX X scope N' X'->PI X' pq cH Y8) (bg2:∀X',dX X scope N' X'->PG X' pq g2) (hs2:∀(X':Cx) (x:Value),dX X scope N' X'->foldedSetIterable cH X'.env x=pure x) (bc:∀X',dX X scope N' X'->Y0 X' ifs tc) (be:∀X',dX X scope N' X'->PE X' elt te)
  (hN:X.N.Nodup) (hy:X.N[i]? = some y) (hx:Loc X.env.scope y)
  (hsw:swapsWith (.ListComp elt [⟨tg,iter,[],0⟩,⟨pq,cH,ifs,0⟩] scope pos) (some (.Name y py)) spos.line X.env=pure true)
  (hf:X.fn y=true\/X.env.scope.names.lookup y=some .local:=by first|exact .inl rfl|exact .inr rfl|assumption)
  (hs:∀x,foldedSetIterable iter X.env x=pure x:=by intro _;rfl) :
  PS X (.Assign [.Name y py] (.ListComp elt [⟨tg,iter,[],0⟩,⟨pq,cH,ifs,0⟩] scope pos) spos) (Qc (ac5 N'.length wi g Y8 g2 tc te) (wV i)):=by
 intro pins s σ H D I h;rw[exec_Assign_Name_used _ _ _ _ hsw];refine wpAny_bind (wpAny_standAt (wpAny_bind ?_));have hfree:∀n,(n,NameKind.free)∈scope.names->∃c,X.env.cells.lookup n=some c:=λn hm=>I.ok.has n (ok.free _ hm rfl);show wpAny _ X.A (do let _ <-comprehension (.ListComp elt [⟨tg,iter,[],0⟩,⟨pq,cH,ifs,0⟩] scope pos) scope X.env _ (newList []) false (eval iter X.env) (some (assign (.Name y py) X.env))) _ _ s;refine wpAny_bind (wpAny_mono (wpAny_comprehension_free (use:=some (assign (.Name y py) X.env)) (Q:=λ_ s'=>SP X pins D .next s') rfl hs (uh hfree) ok.kind (λx hx hl=>iB _ _ _ ok.nd (by rw[<-hl];exact hx)) ?_) (λ_ s' hq=>wpAny_pure (wpAny_pure hq)) λ_ _ e=>e);refine gG (hi pins s σ H _ I h) λv s1 h1=>gG h1 λitv s2 h2=>?_;obtain⟨it,fp,tn,J,H2,e,I2,T,st2,f2,q⟩:=h2;subst e;refine J7 (Q:=λx H1=>wV i x σ H1 D.nx) ok hc bg bi bg2 hs2 bc be I2 T st2 f2 q λd C m s' H' I' hq hn hC hL h0 hcell hpin=>?_;refine wpAny_assign_Name (vH (v:=.ref d) I' hN hy hx rfl (λs'' I'' sb=>?_) hf);obtain⟨a,hsb,ha⟩:=sb;have haC:C≠a:=by
  rcases ha with z|z
  ·rw[z];exact hL
  ·exact(hcell y a z).symm
 refine⟨m,hn.sameBut hsb haC,λh' hs'=>?_⟩;have I3:Inv X pins (σ.set i (some (.ref d))) H' { s'' with heap:=h',toks:=s''.toks }:=I''.turned (it:=C) (λb o hb e=>(hs'.2 b hb).trans e) hC hL (.inr h0) hcell hpin;exact⟨_,H',I3,hq⟩
end L2
namespace Ev
open PySem PySem.Spec PyProof.Rows L2
inductive D where
 | non
 | bl (b:Bool)
 | int (i:Int)
 | str (x:List Nat)
 | tup (xs:List D)
 | lst (xs:List D)
 | arr (xs:List D)
 | dct (kvs:List (D×D))
 | m9 (kvs:List (D×D))
 deriving Inhabited
abbrev Fg:=PySem.W.Frag
def strOf(x:List Nat):Str:=⟨x.toArray⟩
def qj:D->Option Key
 | .int i=>some (.inl i)
 | .str x=>some (.inr (strOf x))
 | _=>none
mutual
def nkD:D->Option NK
 | .int i=>some (.num i)
 | .bl b=>some (.num (if b then 1 else 0))
 | .str x=>some (.txt (strOf x))
 | .tup xs=>(adZ xs).map .tup
 | _=>none
def adZ:List D->Option (List NK)
 | []=>some []
 | d::ds=>match nkD d,adZ ds with
  | some k,some ks=>some (k::ks)
  | _,_=>none
end
mutual
def Rep(K:Fg)(F:Hp):D->V->Prop
 | .non,v=>v = .non
 | .bl b,v=>v = .bl b
 | .int i,v=>v = .int i
 | .str x,v=>v = .str (strOf x)/\x.length<=sizeLine
 | .tup xs,v=>xs.length<=sizeLine/\∃a vs,v = .ref a/\nG K F a vs/\bI K F xs vs
 | .lst xs,v=>xs.length<=sizeLine/\∃a vs,v = .ref a/\F a=some (.lst vs)/\bI K F xs vs
 | .arr xs,v=>xs.length<=sizeLine/\∃a vs,v = .ref a/\jT K F a vs/\bI K F xs vs
 | .dct kvs,v=>kvs.length<=sizeLine/\∃a ks,v = .ref a/\Rd F a (.dK ks)/\dD K F kvs ks
 | .m9 kvs,v=>kvs.length<=sizeLine/\∃a ks,v = .ref a/\Rd F a (.dN ks)/\qg K F kvs ks
def bI(K:Fg)(F:Hp):List D->List V->Prop
 | [],vs=>vs=[]
 | d::ds,vs=>∃v r,vs=v::r/\Rep K F d v/\bI K F ds r
def dD(K:Fg)(F:Hp):List (D×D)->List (Key×V)->Prop
 | [],vs=>vs=[]
 | (k,d)::ds,vs=>∃q v r,vs=(q,v)::r/\qj k=some q/\Rep K F d v/\dD K F ds r
def qg(K:Fg)(F:Hp):List (D×D)->List (NK×V×V)->Prop
 | [],vs=>vs=[]
 | (k,d)::ds,vs=>∃q u v r,vs=(q,u,v)::r/\nkD k=some q/\q.dep<=8/\Rep K F k u/\Rep K F d v/\qg K F ds r
end
theorem aP.rd{F F':Hp}{a:Addr}{u:HO}(e:aP F F')(h:Rd F a u):Rd F' a u:=by
 rcases h with h|⟨o,h⟩
 ·exact .inl (e _ _ h)
 ·exact .inr ⟨o,e _ _ h⟩
theorem aP.tupK{K:Fg}{F F':Hp}{a:Addr}{xs:List V}(e:aP F F')(h:nG K F a xs):nG K F' a xs:=by
 rcases h with h|h
 ·exact .inl (aP.rd e h)
 ·exact .inr h
mutual
theorem Rep.mono{K:Fg}{F F':Hp}(e:aP F F'):∀(d:D) (v:V),Rep K F d v->Rep K F' d v
 | .non,_,h=>h
 | .bl _,_,h=>h
 | .int _,_,h=>h
 | .str _,_,h=>h
 | .tup xs,v,h=>by
  obtain⟨z,a,vs,rfl,h1,h2⟩:=h;exact⟨z,a,vs,rfl,aP.tupK e h1,bI.mono e xs vs h2⟩
 | .lst xs,v,h=>by
  obtain⟨z,a,vs,rfl,h1,h2⟩:=h;exact⟨z,a,vs,rfl,e _ _ h1,bI.mono e xs vs h2⟩
 | .arr xs,v,h=>by
  obtain⟨z,a,vs,rfl,h1,h2⟩:=h;exact⟨z,a,vs,rfl,e.seq h1,bI.mono e xs vs h2⟩
 | .dct kvs,v,h=>by
  obtain⟨z,a,ks,rfl,h1,h2⟩:=h;exact⟨z,a,ks,rfl,aP.rd e h1,dD.mono e kvs ks h2⟩
 | .m9 kvs,v,h=>by
  obtain⟨z,a,ks,rfl,h1,h2⟩:=h;exact⟨z,a,ks,rfl,aP.rd e h1,qg.mono e kvs ks h2⟩
theorem bI.mono{K:Fg}{F F':Hp}(e:aP F F'):∀(ds:List D) (vs:List V),bI K F ds vs->bI K F' ds vs
 | [],_,h=>h
 | d::ds,vs,h=>by
  obtain⟨v,r,rfl,h1,h2⟩:=h;exact⟨v,r,rfl,Rep.mono e d v h1,bI.mono e ds r h2⟩
theorem dD.mono{K:Fg}{F F':Hp}(e:aP F F'):∀(ds:List (D×D)) (vs:List (Key×V)),dD K F ds vs->dD K F' ds vs
 | [],_,h=>h
 | (k,d)::ds,vs,h=>by
  obtain⟨q,v,r,rfl,h0,h1,h2⟩:=h;exact⟨q,v,r,rfl,h0,Rep.mono e d v h1,dD.mono e ds r h2⟩
theorem qg.mono{K:Fg}{F F':Hp}(e:aP F F'):∀(ds:List (D×D)) (vs:List (NK×V×V)),qg K F ds vs->qg K F' ds vs
 | [],_,h=>h
 | (k,d)::ds,vs,h=>by
  obtain⟨q,u,v,r,rfl,h0,h3,h4,h1,h2⟩:=h;exact⟨q,u,v,r,rfl,h0,h3,Rep.mono e k u h4,Rep.mono e d v h1,qg.mono e ds r h2⟩
end
theorem bI.length{K:Fg}{F:Hp}:∀{ds:List D} {vs:List V},bI K F ds vs->vs.length=ds.length
 | [],_,h=>by cases h;rfl
 | d::ds,vs,h=>by
  obtain⟨v,r,rfl,_,h2⟩:=h;rw[List.length_cons,List.length_cons,h2.length]
theorem bI.get{K:Fg}{F:Hp}:∀{ds:List D} {vs:List V} {i:Nat} {d:D},bI K F ds vs->ds[i]? = some d->∃v,vs[i]? = some v/\Rep K F d v
 | [],_,_,_,_,e=>by simp at e
 | c::ds,vs,i,d,h,e=>by
  obtain⟨v,r,rfl,h1,h2⟩:=h;cases i with
  | zero=>simp at e;subst e;exact⟨v,rfl,h1⟩
  | succ i=>obtain⟨u,e1,e2⟩:=bI.get h2 (i:=i) (by simpa using e);exact⟨u,by simpa using e1,e2⟩
theorem bI.append{K:Fg}{F:Hp}:∀{ds es:List D} {vs ws:List V},bI K F ds vs->bI K F es ws->bI K F (ds++es) (vs++ws)
 | [],es,vs,ws,h,g=>by cases h;exact g
 | d::ds,es,vs,ws,h,g=>by
  obtain⟨v,r,rfl,h1,h2⟩:=h;exact⟨v,r++ws,rfl,h1,bI.append h2 g⟩
theorem bI.drop{K:Fg}{F:Hp}:∀(n:Nat) {ds:List D} {vs:List V},bI K F ds vs->bI K F (ds.drop n) (vs.drop n)
 | 0,_,_,h=>h
 | _+1,[],_,h=>by cases h;exact rfl
 | n+1,d::ds,vs,h=>by
  obtain⟨v,r,rfl,_,h2⟩:=h;exact bI.drop n h2
theorem bI.take{K:Fg}{F:Hp}:∀(n:Nat) {ds:List D} {vs:List V},bI K F ds vs->bI K F (ds.take n) (vs.take n)
 | 0,_,_,_=>rfl
 | _+1,[],_,h=>by cases h;exact rfl
 | n+1,d::ds,vs,h=>by
  obtain⟨v,r,rfl,h1,h2⟩:=h;exact⟨v,r.take n,rfl,h1,bI.take n h2⟩
theorem bI.reverse{K:Fg}{F:Hp}:∀{ds:List D} {vs:List V},bI K F ds vs->bI K F ds.reverse vs.reverse
 | [],_,h=>by cases h;exact rfl
 | d::ds,vs,h=>by
  obtain⟨v,r,rfl,h1,h2⟩:=h;rw[List.reverse_cons,List.reverse_cons];exact bI.append (bI.reverse h2) ⟨v,[],rfl,h1,rfl⟩
theorem bI.set{K:Fg}{F:Hp}{d:D}{v:V}(hd:Rep K F d v):∀(i:Nat) {ds:List D} {vs:List V},bI K F ds vs->bI K F (ds.set i d) (vs.set i v)
 | _,[],_,h=>by cases h;exact rfl
 | 0,c::ds,vs,h=>by
  obtain⟨u,r,rfl,_,h2⟩:=h;exact⟨v,r,rfl,hd,h2⟩
 | i+1,c::ds,vs,h=>by
  obtain⟨u,r,rfl,h1,h2⟩:=h;exact⟨u,r.set i v,rfl,h1,bI.set hd i h2⟩
theorem bI.one{K:Fg}{F:Hp}{d:D}{v:V}(h:Rep K F d v):bI K F [d] [v]:=⟨v,[],rfl,h,rfl⟩
abbrev Env:=List (Option (Bool×D))
inductive R (α:Type) where
 | ok (a:α) (env:Env)
 | stuck
abbrev Ev:=Env->R D
abbrev dJ:=Env->R Bool
abbrev cJ:=Env->R (List D)
structure Cfg where
 K:Fg
 fx:Nat->Option Addr
def lK(K:Fg)(F H:Hp):D->Addr->Prop
 | .lst xs,a=>xs.length<=sizeLine/\∃vs,H a=some (.lst vs)/\bI K F xs vs
 | .dct kvs,a=>kvs.length<=sizeLine/\∃ks,H a=some (.dK ks)/\dD K F kvs ks
 | .m9 kvs,a=>kvs.length<=sizeLine/\∃ks,H a=some (.dN ks)/\qg K F kvs ks
 | _,_=>False
theorem lK.mono{K:Fg}{F F' H H':Hp}(e:aP F F'){d:D}{a:Addr}(k:H' a=H a)(h:lK K F H d a):lK K F' H' d a:=by
 cases d with
 | lst xs=>obtain⟨z,vs,h1,h2⟩:=h;exact⟨z,vs,k.trans h1,bI.mono e _ _ h2⟩
 | dct kvs=>obtain⟨z,ks,h1,h2⟩:=h;exact⟨z,ks,k.trans h1,dD.mono e _ _ h2⟩
 | m9 kvs=>obtain⟨z,ks,h1,h2⟩:=h;exact⟨z,ks,k.trans h1,qg.mono e _ _ h2⟩
 | _=>exact h
theorem lK.some{K:Fg}{F H:Hp}{d:D}{a:Addr}(h:lK K F H d a):∃o,H a=some o:=by
 cases d with
 | lst xs=>obtain⟨z,vs,h1,h2⟩:=h;exact⟨_,h1⟩
 | dct kvs=>obtain⟨z,ks,h1,h2⟩:=h;exact⟨_,h1⟩
 | m9 kvs=>obtain⟨z,ks,h1,h2⟩:=h;exact⟨_,h1⟩
 | _=>exact h.elim
def jj(K:Fg)(F H:Hp)(d:D)(v:V):Prop:=Rep K F d v\/∃a,v = .ref a/\lK K F H d a
theorem jj.rep{K:Fg}{F H:Hp}{d:D}{v:V}(s:aP F H)(h:jj K F H d v):Rep K H d v:=by
 rcases h with h|⟨a,rfl,h⟩
 ·exact Rep.mono s d v h
 ·cases d with
  | lst xs=>obtain⟨z,vs,h1,h2⟩:=h;exact⟨z,a,vs,rfl,h1,bI.mono s _ _ h2⟩
  | dct kvs=>obtain⟨z,ks,h1,h2⟩:=h;exact⟨z,a,ks,rfl,.inl h1,dD.mono s _ _ h2⟩
  | m9 kvs=>obtain⟨z,ks,h1,h2⟩:=h;exact⟨z,a,ks,rfl,.inl h1,qg.mono s _ _ h2⟩
  | _=>exact h.elim
theorem jj.lst{K:Fg}{F H:Hp}{xs:List D}{v:V}(s:aP F H)(h:jj K F H (.lst xs) v):xs.length<=sizeLine/\∃a vs,v = .ref a/\H a=some (.lst vs)/\bI K F xs vs:=by
 rcases h with ⟨z,a,vs,rfl,h1,h2⟩|⟨a,rfl,z,vs,h1,h2⟩
 ·exact⟨z,a,vs,rfl,s _ _ h1,h2⟩
 ·exact⟨z,a,vs,rfl,h1,h2⟩
theorem jj.arr{K:Fg}{F H:Hp}{xs:List D}{v:V}(s:aP F H)(h:jj K F H (.arr xs) v):xs.length<=sizeLine/\∃a vs,v = .ref a/\jT K H a vs/\bI K F xs vs:=by
 rcases h with ⟨z,a,vs,rfl,h1,h2⟩|⟨a,rfl,h⟩
 ·exact⟨z,a,vs,rfl,s.seq h1,h2⟩
 ·exact h.elim
theorem jj.tup{K:Fg}{F H:Hp}{xs:List D}{v:V}(s:aP F H)(h:jj K F H (.tup xs) v):xs.length<=sizeLine/\∃a vs,v = .ref a/\nG K H a vs/\nG K F a vs/\bI K F xs vs:=by
 rcases h with ⟨z,a,vs,rfl,h1,h2⟩|⟨a,rfl,h⟩
 ·exact⟨z,a,vs,rfl,aP.tupK s h1,h1,h2⟩
 ·exact h.elim
theorem jj.int{K:Fg}{F H:Hp}{i:Int}{v:V}(h:jj K F H (.int i) v):v = .int i:=by
 rcases h with h|⟨a,rfl,h⟩
 ·exact h
 ·exact h.elim
theorem jj.bl{K:Fg}{F H:Hp}{i:Bool}{v:V}(h:jj K F H (.bl i) v):v = .bl i:=by
 rcases h with h|⟨a,rfl,h⟩
 ·exact h
 ·exact h.elim
theorem jj.non{K:Fg}{F H:Hp}{v:V}(h:jj K F H .non v):v = .non:=by
 rcases h with h|⟨a,rfl,h⟩
 ·exact h
 ·exact h.elim
theorem jj.str{K:Fg}{F H:Hp}{x:List Nat}{v:V}(h:jj K F H (.str x) v):v = .str (strOf x)/\x.length<=sizeLine:=by
 rcases h with h|⟨a,rfl,h⟩
 ·exact h
 ·exact h.elim
structure Rel(C:Cfg)(Pr F:Hp)(env:Env)(σ:L2.St)(H:Hp):Prop where
 pr:aP Pr H
 fr:aP F H
 len:env.length=σ.length
 val:∀(i:Nat) (d:D),env[i]? = some (some (false,d))->∃v,σ[i]? = some (some v)/\Rep C.K F d v
 own:∀(i:Nat) (d:D),env[i]? = some (some (true,d))->∃a,σ[i]? = some (some (V.ref a))/\lK C.K F H d a/\F a=none/\Pr a=none
 apart:∀(i j:Nat) (d e:D) (a:Addr),env[i]? = some (some (true,d))->env[j]? = some (some (true,e))->σ[i]? = some (some (V.ref a))->σ[j]? = some (some (V.ref a))->i=j
 dj:∀b o,F b=some o->Pr b=none
 fix:∀i a,C.fx i=some a->σ[i]? = some (some (V.ref a))
theorem lE{H:Hp}{a:Addr}{o:HO}(h:H a=none):aP H (upd H a o):=λb u e=>by
 rw[bM (gm e h)];exact e
theorem Rel.new{C:Cfg}{Pr F:Hp}{env:Env}{σ:L2.St}{H:Hp}{a:Addr}{o:HO}(r:Rel C Pr F env σ H)(h:H a=none):Rel C Pr (upd F a o) env σ (upd H a o)/\aP F (upd F a o):=by
 have hF:F a=none:=r.fr.free h;have s1:aP F (upd F a o):=lE hF;refine⟨⟨r.pr.trans (lE h),λb u e=>?_,r.len,λi d e1=>?_,λi d e1=>?_,r.apart,λb u e=>?_,r.fix⟩,s1⟩
 ·by_cases hb:b=a
  ·subst hb;rw[aU] at e ⊢;exact e
  ·rw[bM hb] at e ⊢;exact r.fr b u e
 ·obtain⟨v,h1,h2⟩:=r.val i d e1;exact⟨v,h1,Rep.mono s1 d v h2⟩
 ·obtain⟨b,h1,h2,h3,h4⟩:=r.own i d e1;obtain⟨u,hu⟩:=h2.some;have hb:b≠a:=gm hu h;exact⟨b,h1,h2.mono s1 (bM hb),by rw[bM hb];exact h3,h4⟩
 ·by_cases hb:b=a
  ·subst hb;exact r.pr.free h
  ·rw[bM hb] at e;exact r.dj b u e
theorem Rel.fresh{C:Cfg}{Pr F:Hp}{env:Env}{σ:L2.St}{H:Hp}{a:Addr}{o:HO}(r:Rel C Pr F env σ H)(h:H a=none):Rel C Pr F env σ (upd H a o):=by refine⟨r.pr.trans (lE h),r.fr.trans (lE h),r.len,r.val,λi d e1=>?_,r.apart,r.dj,r.fix⟩;obtain⟨b,h1,h2,h3,h4⟩:=r.own i d e1;obtain⟨u,hu⟩:=h2.some;have hb:b≠a:=gm hu h;exact⟨b,h1,h2.mono (aP.refl F) (bM hb),h3,h4⟩
theorem Rel.aside{C:Cfg}{Pr F:Hp}{env:Env}{σ:L2.St}{H:Hp}{a:Addr}{o:HO}(r:Rel C Pr F env σ H)(h:H a=none):Rel C (upd Pr a o) F env σ (upd H a o):=by
 have r':=r.fresh (o:=o) h;have hF:F a=none:=r.fr.free h;refine⟨λb u e=>?_,r'.fr,r.len,r.val,λi d e1=>?_,r.apart,λb u e=>?_,r.fix⟩
 ·by_cases hb:b=a
  ·subst hb;rw[aU] at e ⊢;exact e
  ·rw[bM hb] at e ⊢;exact r.pr b u e
 ·obtain⟨b,h1,h2,h3,h4⟩:=r'.own i d e1;obtain⟨b',h1',h2',_⟩:=r.own i d e1;rw[h1] at h1';cases h1';obtain⟨u,hu⟩:=h2'.some;have hb:b≠a:=gm hu h;exact⟨b,h1,h2,h3,by rw[bM hb];exact h4⟩
 ·have hb:b≠a:=λz=>by rw[z,hF] at e;cases e
  rw[bM hb];exact r.dj b u e
theorem Rel.turn{C:Cfg}{Pr F:Hp}{env:Env}{σ:L2.St}{H:Hp}{a:Addr}{o u:HO}(r:Rel C Pr F env σ H)(h:Pr a=some o):Rel C (upd Pr a u) F env σ (upd H a u):=by
 have hF:F a=none:=by
  cases e:F a with
  | none=>rfl
  | some w=>have:=r.dj a w e;rw[h] at this;cases this
 refine⟨λb w e=>?_,λb w e=>?_,r.len,r.val,λi d e1=>?_,r.apart,λb w e=>?_,r.fix⟩
 ·by_cases hb:b=a
  ·subst hb;rw[aU] at e ⊢;exact e
  ·rw[bM hb] at e ⊢;exact r.pr b w e
 ·have hb:b≠a:=λz=>by rw[z,hF] at e;cases e
  rw[bM hb];exact r.fr b w e
 ·obtain⟨b,h1,h2,h3,h4⟩:=r.own i d e1;have hb:b≠a:=λz=>by rw[z,h] at h4;cases h4
  exact⟨b,h1,h2.mono (aP.refl F) (bM hb),h3,by rw[bM hb];exact h4⟩
 ·have hb:b≠a:=λz=>by rw[z,hF] at e;cases e
  rw[bM hb];exact r.dj b w e
theorem Rel.less{C:Cfg}{Pr Pr' F:Hp}{env:Env}{σ:L2.St}{H:Hp}(r:Rel C Pr F env σ H)(s:aP Pr' Pr):Rel C Pr' F env σ H:=
 ⟨s.trans r.pr,r.fr,r.len,r.val,λi d e=>let ⟨b,h1,h2,h3,h4⟩:=r.own i d e;⟨b,h1,h2,h3,s.free h4⟩,r.apart,λb o e=>s.free (r.dj b o e),r.fix⟩
theorem Rel.freeze{C:Cfg}{Pr F:Hp}{env:Env}{σ:L2.St}{H:Hp}(r:Rel C Pr F env σ H){i:Nat}{d:D}(h:env[i]? = some (some (true,d))) :
  ∃(F':Hp) (v:V),Rel C Pr F' (env.set i (some (false,d))) σ H/\aP F F'/\σ[i]? = some (some v)/\Rep C.K F' d v:=by
 obtain⟨a,h1,h2,h3,h4⟩:=r.own i d h;obtain⟨o,ho⟩:=h2.some;have s1:aP F (upd F a o):=lE h3;have hi:i<env.length:=(List.getElem?_eq_some_iff.mp h).1;have rep:Rep C.K (upd F a o) d (.ref a):=by
  cases d with
  | lst xs=>obtain⟨z,vs,g1,g2⟩:=h2;rw[ho] at g1;cases g1;exact⟨z,a,vs,rfl,aU,bI.mono s1 _ _ g2⟩
  | dct kvs=>obtain⟨z,ks,g1,g2⟩:=h2;rw[ho] at g1;cases g1;exact⟨z,a,ks,rfl,.inl aU,dD.mono s1 _ _ g2⟩
  | m9 kvs=>obtain⟨z,ks,g1,g2⟩:=h2;rw[ho] at g1;cases g1;exact⟨z,a,ks,rfl,.inl aU,qg.mono s1 _ _ g2⟩
  | _=>exact h2.elim
 refine⟨upd F a o,.ref a,⟨r.pr,λb u e=>?_,by rw[List.length_set];exact r.len,λj e he=>?_,λj e he=>?_,λj k e f b hj hk g1 g2=>?_,λb u e=>?_,r.fix⟩,s1,h1,rep⟩
 ·by_cases hb:b=a
  ·subst hb;rw[aU] at e;cases e;exact ho
  ·rw[bM hb] at e;exact r.fr b u e
 ·by_cases hj:j=i
  ·subst hj;rw[List.getElem?_set_self hi] at he;cases he;exact⟨_,h1,rep⟩
  ·rw[List.getElem?_set_ne (Ne.symm hj)] at he;obtain⟨v,g1,g2⟩:=r.val j e he;exact⟨v,g1,Rep.mono s1 e v g2⟩
 ·by_cases hj:j=i
  ·subst hj;rw[List.getElem?_set_self hi] at he;cases he
  ·rw[List.getElem?_set_ne (Ne.symm hj)] at he;obtain⟨b,g1,g2,g3,g4⟩:=r.own j e he;have hb:b≠a:=λz=>hj (r.apart j i e d a he h (by rw[<-z];exact g1) h1);exact⟨b,g1,g2.mono s1 rfl,by rw[bM hb];exact g3,g4⟩
 ·have nj:j≠i:=λz=>by subst z;rw[List.getElem?_set_self hi] at hj;cases hj
  have nk:k≠i:=λz=>by subst z;rw[List.getElem?_set_self hi] at hk;cases hk
  rw[List.getElem?_set_ne (Ne.symm nj)] at hj;rw[List.getElem?_set_ne (Ne.symm nk)] at hk;exact r.apart j k e f b hj hk g1 g2
 ·by_cases hb:b=a
  ·subst hb;exact h4
  ·rw[bM hb] at e;exact r.dj b u e
def tE(C:Cfg)(ev:Ev):TE:=λσ H Q=>∃(Pr F:Hp) (env env':Env) (d:D),Rel C Pr F env σ H/\ev env = .ok d env'/\
 ∀v H' F',Rel C Pr F' env' σ H'->aP F F'->Rep C.K F' d v->Q v H'
def tRd(C:Cfg)(ev:Ev):TE:=λσ H Q=>∃(Pr F:Hp) (env env':Env) (d:D),Rel C Pr F env σ H/\ev env = .ok d env'/\
 ∀v H' F',Rel C Pr F' env' σ H'->aP F F'->jj C.K F' H' d v->Q v H'
def tT(C:Cfg)(ev:dJ):TT:=λσ H Q=>∃(Pr F:Hp) (env env':Env) (b:Bool),Rel C Pr F env σ H/\ev env = .ok b env'/\
 ∀H' F',Rel C Pr F' env' σ H'->aP F F'->Q b H'
def tA(C:Cfg)(ev:cJ):TA:=λσ H Q=>∃(Pr F:Hp) (env env':Env) (ds:List D),Rel C Pr F env σ H/\ev env = .ok ds env'/\
 ∀vs H' F',Rel C Pr F' env' σ H'->aP F F'->bI C.K F' ds vs->Q vs H'
def PX(X:Cx)(C:Cfg)(e:Expr)(ev:Ev):Prop:=PE X e (tE C ev)
def zV(X:Cx)(C:Cfg)(e:Expr)(ev:Ev):Prop:=PE X e (tRd C ev)
def Ml(X:Cx)(C:Cfg)(e:Expr)(ev:dJ):Prop:=PT X e (tT C ev)
def Em(X:Cx)(C:Cfg)(es:List Expr)(ev:cJ):Prop:=PA X es (tA C ev)
theorem _root_.L2.PE.imp{X:Cx}{e:Expr}{t t':TE}(h:PE X e t)(i:∀σ H Q,t' σ H Q->t σ H Q):PE X e t':=λpins s σ H Q I q=>h pins s σ H Q I (i σ H Q q)
theorem _root_.L2.PT.imp{X:Cx}{e:Expr}{t t':TT}(h:PT X e t)(i:∀σ H Q,t' σ H Q->t σ H Q):PT X e t':=λpins s σ H Q I q=>h pins s σ H Q I (i σ H Q q)
theorem _root_.L2.PW.imp{X:Cx}{e:Expr}{t t':TT}(h:PW X e t)(i:∀σ H Q,t' σ H Q->t σ H Q):PW X e t':=λwhole pins s σ H Q I q=>h whole pins s σ H Q I (i σ H Q q)
theorem _root_.L2.PA.imp{X:Cx}{e:List Expr}{t t':TA}(h:PA X e t)(i:∀σ H Q,t' σ H Q->t σ H Q):PA X e t':=λpos pins s σ H Q I q=>h pos pins s σ H Q I (i σ H Q q)
theorem _root_.L2.PS.imp{X:Cx}{e:Stmt}{t t':TS}(h:PS X e t)(i:∀D σ H,t' D σ H->t D σ H):PS X e t':=λpins s σ H D I q=>h pins s σ H D I (i D σ H q)
theorem _root_.L2.HH.imp{X:Cx}{e:List Stmt}{t t':TS}(h:HH X e t)(i:∀D σ H,t' D σ H->t D σ H):HH X e t':=λpins s σ H D I q=>h pins s σ H D I (i D σ H q)
def bindR{α β:Type}(x:R α)(f:α->Env->R β):R β:=match x with
 | .ok a env=>f a env
 | .stuck=>.stuck
def d9{α:Type}(o:Option α)(env:Env):R α:=match o with
 | some a=>.ok a env
 | none=>.stuck
theorem aO{α β:Type}{x:R α}{f:α->Env->R β}{b:β}{env':Env}(h:bindR x f = .ok b env'):∃a aD,x = .ok a aD/\f a aD = .ok b env':=by
 cases x with
 | ok a aD=>exact⟨a,aD,rfl,h⟩
 | stuck=>cases h
theorem dC{α:Type}{o:Option α}{env env':Env}{a:α}(h:d9 o env = .ok a env'):o=some a/\env'=env:=by
 cases o with
 | some b=>cases h;exact⟨rfl,rfl⟩
 | none=>cases h
section
variable{X:Cx}{C:Cfg}{pos:Pos}
def aq(i:Nat):Ev:=λenv=>match env[i]? with
 | some (some (false,d))=>.ok d env
 | some (some (true,d))=>.ok d (env.set i (some (false,d)))
 | _=>.stuck
theorem ZL(i:Nat){x:Str}(hN:X.N[i]? = some x)(hv:rn X.env.scope x)(hd:j9 x:=by decide)(hcd:rF x:=by decide):PX X C (.Name x pos) (aq i):=by
 refine(lN hN hv hd hcd).imp λσ H Q h=>?_;obtain⟨Pr,F,env,env',d,r,e,q⟩:=h;unfold aq at e;split at e
 ·rename_i d' hd';cases e;obtain⟨v,h1,h2⟩:=r.val i d hd';exact⟨v,h1,q v H F r (aP.refl F) h2⟩
 ·rename_i d' hd';cases e;obtain⟨F',v,r',s',h1,h2⟩:=r.freeze hd';exact⟨v,h1,q v H F' r' s' h2⟩
 ·cases e
theorem PX.b{e:Expr}{ev:Ev}(h:PX X C e ev):zV X C e ev:=PE.imp h λσ H Q hq=>by
 obtain⟨Pr,F,env,env',d,r,e,q⟩:=hq;exact⟨Pr,F,env,env',d,r,e,λv H' F' r' s' p'=>q v H' F' r' s' (.inl p')⟩
def aV(i:Nat):Ev:=λenv=>match env[i]? with
 | some (some (_,d))=>.ok d env
 | _=>.stuck
theorem Rel.rd{Pr F:Hp}{env:Env}{σ:L2.St}{H:Hp}(r:Rel C Pr F env σ H){i:Nat}{o:Bool}{d:D}(h:env[i]? = some (some (o,d))):∃v,σ[i]? = some (some v)/\jj C.K F H d v:=by
 cases o with
 | true=>obtain⟨a,h1,h2,_⟩:=r.own i d h;exact⟨_,h1,.inr ⟨a,rfl,h2⟩⟩
 | false=>obtain⟨v,h1,h2⟩:=r.val i d h;exact⟨v,h1,.inl h2⟩
theorem Vv(i:Nat){x:Str}(hN:X.N[i]? = some x)(hv:rn X.env.scope x)(hd:j9 x:=by decide)(hcd:rF x:=by decide):zV X C (.Name x pos) (aV i):=by
 refine(lN hN hv hd hcd).imp λσ H Q h=>?_;obtain⟨Pr,F,env,env',d,r,e,q⟩:=h;unfold aV at e;split at e
 ·rename_i o' d' hd';cases e;obtain⟨v,h1,h2⟩:=r.rd hd';exact⟨v,h1,q v H F r (aP.refl F) h2⟩
 ·cases e
def aQ(d:D):Ev:=λenv=>.ok d env
theorem aM{i:Int}{j:Nat}:PX X C (.Constant (.int i) j pos) (aQ (.int i)):=Js.imp λσ H Q h=>by
 obtain⟨Pr,F,env,env',d,r,e,q⟩:=h;cases e;exact q _ _ F r (aP.refl F) rfl
theorem uJ{b:Bool}{j:Nat}:PX X C (.Constant (.bool b) j pos) (aQ (.bl b)):=adN.imp λσ H Q h=>by
 obtain⟨Pr,F,env,env',d,r,e,q⟩:=h;cases e;exact q _ _ F r (aP.refl F) rfl
theorem yH{j:Nat}:PX X C (.Constant .none j pos) (aQ .non):=Z7.imp λσ H Q h=>by
 obtain⟨Pr,F,env,env',d,r,e,q⟩:=h;cases e;exact q _ _ F r (aP.refl F) rfl
theorem bV(z:List Nat){x:Str}{j:Nat}(hz:x=strOf z)(hl:z.length<=sizeLine:=by decide):PX X C (.Constant (.str x) j pos) (aQ (.str z)):=by subst hz;refine Z3.imp λσ H Q h=>?_;obtain⟨Pr,F,env,env',d,r,e,q⟩:=h;cases e;exact q _ _ F r (aP.refl F) ⟨rfl,hl⟩
theorem rA{x:Str}{v:V}{u:Value}(d:D)(hg:Gl X x)(hm:X.mg x=some u)(rv:RelV v u)(hr:∀F,Rep C.K F d v)(hd:j9 x:=by decide):PX X C (.Name x pos) (aQ d):=
 (VR hg hm rv hd).imp λσ H Q h=>by
  obtain⟨Pr,F,env,env',d,r,e,q⟩:=h;cases e;exact q _ _ F r (aP.refl F) (hr F)
def ao:cJ:=λenv=>.ok [] env
def aa(a:Ev)(r:cJ):cJ:=λenv=>bindR (a env) λd aD=>bindR (r aD) λds dh=>.ok (d::ds) dh
theorem aB:Em X C [] ao:=mV.imp λσ H Q h=>by
 obtain⟨Pr,F,env,env',d,r,e,q⟩:=h;cases e;exact q _ _ F r (aP.refl F) rfl
theorem aj{e:Expr}{es:List Expr}{a:Ev}{r:cJ}(ha:PX X C e a)(hr:Em X C es r)(hs:starEach (e::es) X.env=(false,eval e X.env)::starEach es X.env:=by rfl):Em X C (e::es) (aa a r):=
 (iM ha hr hs).imp λσ H Q h=>by
  obtain⟨Pr,F,env,env',ds,rl,e,q⟩:=h;obtain⟨d1,aD,e1,e2⟩:=aO e;obtain⟨zy,dh,e3,e4⟩:=aO e2;cases e4;refine⟨Pr,F,env,aD,d1,rl,e1,λv H1 F1 r1 s1 p1=>?_⟩;refine⟨Pr,F1,aD,env',zy,r1,e3,λvs H2 F2 r2 s2 p2=>?_⟩;exact q _ H2 F2 r2 (s1.trans s2) ⟨v,vs,rfl,Rep.mono s2 d1 v p1,p2⟩
def cI(r:cJ):Ev:=λenv=>bindR (r env) λds aD=>if ds.length<=sizeLine then .ok (.tup ds) aD else .stuck
def bZ(r:cJ):Ev:=λenv=>bindR (r env) λds aD=>if ds.length<=sizeLine then .ok (.lst ds) aD else .stuck
theorem fj{es:List Expr}{r:cJ}{k:Nat}(h:Em X C es r):PX X C (.Tuple es k pos) (cI r):=(Z2 h).imp λσ H Q hq=>by
 obtain⟨Pr,F,env,env',d,rl,e,q⟩:=hq;obtain⟨ds,aD,e1,e2⟩:=aO e;split at e2
 ·rename_i hz;cases e2;refine⟨Pr,F,env,env',ds,rl,e1,λvs H1 F1 r1 s1 p1=>⟨by rw[p1.length];exact hz,λp hp=>?_⟩⟩;obtain⟨r2,s2⟩:=r1.new (o:=.tup vs) hp;exact q _ _ _ r2 (s1.trans s2) ⟨hz,p,vs,rfl,nG.of aU,bI.mono s2 _ _ p1⟩
 ·cases e2
def aH(g:D->D->Option D)(a b:Ev):Ev:=λenv=>bindR (a env) λx aD=>bindR (b aD) λy dh=>d9 (g x y) dh
def iI(g:D->Option D)(a:Ev):Ev:=λenv=>bindR (a env) λx aD=>d9 (g x) aD
def rO(C:Cfg)(r:R2)(g:D->D->Option D):Prop:=∀(Pr F:Hp) (env:Env) (σ:L2.St) (H:Hp) (x y d:D) (vx vy:V) (Q:VK),Rel C Pr F env σ H->jj C.K F H x vx->jj C.K F H y vy->g x y=some d->
 (∀v H' F',Rel C Pr F' env σ H'->aP F F'->Rep C.K F' d v->Q v H')->r vx vy H Q
def UnD(C:Cfg)(r:V->Hp->VK->Prop)(g:D->Option D):Prop:=∀(Pr F:Hp) (env:Env) (σ:L2.St) (H:Hp) (x d:D) (vx:V) (Q:VK),Rel C Pr F env σ H->jj C.K F H x vx->g x=some d->
 (∀v H' F',Rel C Pr F' env σ H'->aP F F'->Rep C.K F' d v->Q v H')->r vx H Q
theorem Ef{r:R2}{g:D->D->Option D}{a b:Ev}(o:rO C r g)(σ:L2.St)(H:Hp)(Q:VK)(h:tE C (aH g a b) σ H Q):Zj r (tE C a) (tRd C b) σ H Q:=by obtain⟨Pr,F,env,env',d,rl,e,q⟩:=h;obtain⟨x,aD,e1,e2⟩:=aO e;obtain⟨y,dh,e3,e4⟩:=aO e2;obtain⟨e5,rfl⟩:=dC e4;refine⟨Pr,F,env,aD,x,rl,e1,λvx H1 F1 r1 s1 p1=>⟨Pr,F1,aD,env',y,r1,e3,λvy H2 F2 r2 s2 p2=>?_⟩⟩;exact o Pr F2 env' σ H2 x y d vx vy Q r2 (.inl (Rep.mono s2 x vx p1)) p2 e5 λv H3 F3 r3 s3 p3=>q v H3 F3 r3 ((s1.trans s2).trans s3) p3
def au(g:D->D->Option D)(i:Nat)(b:Ev):Ev:=λenv=>match env[i]? with
 | some (some (_,_))=>bindR (b env) λy dh=>(match dh[i]? with
  | some (some (_,x))=>d9 (g x y) dh
  | _=>.stuck)
 | _=>.stuck
theorem vf{r:R2}{g:D->D->Option D}{i:Nat}{b:Ev}(o:rO C r g)(σ:L2.St)(H:Hp)(Q:VK)(h:tE C (au g i b) σ H Q):Zj r (acZ i) (tRd C b) σ H Q:=by
 obtain⟨Pr,F,env,env',d,rl,e,q⟩:=h;unfold au at e;split at e
 ·rename_i o0 d0 h0;obtain⟨v,hv,_⟩:=rl.rd h0;obtain⟨y,dh,e1,e2⟩:=aO e;split at e2
  ·rename_i o2 x h2;obtain⟨e5,rfl⟩:=dC e2;refine⟨v,hv,Pr,F,env,env',y,rl,e1,λvy H2 F2 r2 s2 p2=>?_⟩;obtain⟨v',hv',p⟩:=r2.rd h2;rw[hv] at hv';cases hv';exact o Pr F2 env' σ H2 x y d v vy Q r2 p p2 e5 λv H3 F3 r3 s3 p3=>q v H3 F3 r3 (s2.trans s3) p3
  ·cases e2
 ·cases e
theorem adH{op:Operator}{r:R2}{g:D->D->Option D}{x y:Expr}{a b:Ev}(ho:pA X (binaryOp op) r)(o:rO C r g)(ha:PX X C x a)(hb:zV X C y b):PX X C (.BinOp x op y pos) (aH g a b):=
 (Yq ho ha hb).imp (Ef o)
theorem ZP{op:Operator}{r:R2}{g:D->D->Option D}{y:Expr}{b:Ev}{px:Pos}(i:Nat){x:Str}(hN:X.N[i]? = some x)(hv:rn X.env.scope x)(ho:pA X (binaryOp op) r)(o:rO C r g)(hb:zV X C y b)
  (hd:j9 x:=by decide) (hcd:rF x:=by decide):PX X C (.BinOp (.Name x px) op y pos) (au g i b):=
 (Yq ho (lN hN hv hd hcd) hb).imp (vf o)
theorem ZR{op:CmpOp}{r:R2}{g:D->D->Option D}{x y:Expr}{a b:Ev}(ho:pA X (compareOp op) r)(o:rO C r g)(ha:PX X C x a)(hb:zV X C y b)(hm:behindInMarks op y=false):PX X C (.Compare x [op] [y] pos) (aH g a b):=
 (De ho ha hb hm).imp (Ef o)
theorem adF{op:UnaryOp}{r:V->Hp->VK->Prop}{g:D->Option D}{x:Expr}{a:Ev}(ho:UnR X (unaryOp op) r)(o:UnD C r g)(ha:PX X C x a):PX X C (.UnaryOp op x pos) (iI g a):=
 (Q0 ho ha).imp λσ H Q h=>by
  obtain⟨Pr,F,env,env',d,rl,e,q⟩:=h;obtain⟨x,aD,e1,e2⟩:=aO e;obtain⟨e3,rfl⟩:=dC e2;exact⟨Pr,F,env,env',x,rl,e1,λvx H1 F1 r1 s1 p1=>o Pr F1 env' σ H1 x d vx Q r1 (.inl p1) e3 λv H3 F3 r3 s3 p3=>q v H3 F3 r3 (s1.trans s3) p3⟩
def dw(a:Ev):dJ:=λenv=>bindR (a env) λd aD=>match d with
 | .bl b=>.ok b aD
 | _=>.stuck
theorem Qa{a:Ev}{σ:L2.St}{H:Hp}{Q:Bool->Hp->Prop}(h:tT C (dw a) σ H Q):tE C a σ H λx H'=>∃k,x = .bl k/\Q k H':=by
 obtain⟨Pr,F,env,env',b,rl,e,q⟩:=h;obtain⟨d,aD,e1,e2⟩:=aO e;refine⟨Pr,F,env,aD,d,rl,e1,λv H1 F1 r1 s1 p1=>?_⟩;cases d with
 | bl c=>cases e2;exact⟨_,p1,q H1 F1 r1 s1⟩
 | _=>cases e2
theorem Vn{op:CmpOp}{r:R2}{g:D->D->Option D}{x y:Expr}{a b:Ev}(ho:pA X (compareOp op) r)(o:rO C r g)(ha:PX X C x a)(hb:zV X C y b)(hm:behindInMarks op y=false):Ml X C (.Compare x [op] [y] pos) (dw (aH g a b)):=
 (KQ ho ha hb hm).imp λσ H Q h=>by
  have h1:=Qa h;exact Ef o σ H _ h1
theorem fY{e:Expr}{a:Ev}(h:PX X C e a)(he:∀whole,isTrue e X.env whole=(do let v <-whole;standAt e.pos;holding [v] (truthy v)):=by intro _;rfl):Ml X C e (dw a):=
 (ZS h he).imp λσ H Q hq=>Qa hq
def zj(a:dJ):dJ:=λenv=>bindR (a env) λb aD=>.ok (!b) aD
theorem xJ{x:Expr}{a:dJ}(h:Ml X C x a):Ml X C (.UnaryOp .Not x pos) (zj a):=(ZV h).imp λσ H Q hq=>by
 obtain⟨Pr,F,env,env',b,rl,e,q⟩:=hq;obtain⟨c,aD,e1,e2⟩:=aO e;cases e2;exact⟨Pr,F,env,env',c,rl,e1,λH1 F1 r1 s1=>q H1 F1 r1 s1⟩
def cX(a b:dJ):dJ:=λenv=>bindR (a env) λc aD=>if c=true then b aD else .ok false aD
def sr(a b:dJ):dJ:=λenv=>bindR (a env) λc aD=>if c=true then .ok true aD else b aD
def Ut(X:Cx)(C:Cfg)(e:Expr)(ev:dJ):Prop:=PW X e (tT C ev)
theorem mO{x:Expr}{a:dJ}(h:Ml X C x a):Ut X C (.BoolOp .And [x] pos) a:=pw_and1 h
theorem rz{x:Expr}{a:dJ}(h:Ml X C x a):Ut X C (.BoolOp .Or [x] pos) a:=pw_or1 h
theorem mj{x y:Expr}{rest:List Expr}{a b:dJ}(ha:Ml X C x a)(hb:Ut X C (.BoolOp .And (y::rest) pos) b):Ut X C (.BoolOp .And (x::y::rest) pos) (cX a b):=
 (pw_and ha hb).imp λσ H Q hq=>by
  obtain⟨Pr,F,env,env',k,rl,e,q⟩:=hq;obtain⟨c,aD,e1,e2⟩:=aO e;refine⟨Pr,F,env,aD,c,rl,e1,λH1 F1 r1 s1=>?_⟩;split at e2
  ·rename_i hc;rw[if_pos hc];exact⟨Pr,F1,aD,env',k,r1,e2,λH2 F2 r2 s2=>q H2 F2 r2 (s1.trans s2)⟩
  ·rename_i hc;rw[if_neg hc];cases e2;exact q H1 F1 r1 s1
theorem pI{x y:Expr}{rest:List Expr}{a b:dJ}(ha:Ml X C x a)(hb:Ut X C (.BoolOp .Or (y::rest) pos) b):Ut X C (.BoolOp .Or (x::y::rest) pos) (sr a b):=
 (pw_or ha hb).imp λσ H Q hq=>by
  obtain⟨Pr,F,env,env',k,rl,e,q⟩:=hq;obtain⟨c,aD,e1,e2⟩:=aO e;refine⟨Pr,F,env,aD,c,rl,e1,λH1 F1 r1 s1=>?_⟩;split at e2
  ·rename_i hc;rw[if_pos hc];cases e2;exact q H1 F1 r1 s1
  ·rename_i hc;rw[if_neg hc];exact⟨Pr,F1,aD,env',k,r1,e2,λH2 F2 r2 s2=>q H2 F2 r2 (s1.trans s2)⟩
theorem Ut.pt{e:Expr}{a:dJ}(h:Ut X C e a):Ml X C e a:=PW.pt h
def YK(a b:Ev):Ev:=λenv=>bindR (a env) λc aD=>match c with
 | .bl true=>b aD
 | .bl false=>.ok (.bl false) aD
 | _=>.stuck
def Om(a b:Ev):Ev:=λenv=>bindR (a env) λc aD=>match c with
 | .bl true=>.ok (.bl true) aD
 | .bl false=>b aD
 | _=>.stuck
def Bu(a:Ev):Ev:=λenv=>bindR (a env) λc aD=>match c with
 | .bl b=>.ok (.bl (!b)) aD
 | _=>.stuck
theorem yG{op:BoolOp}{x:Expr}{a:Ev}(h:PX X C x a):PX X C (.BoolOp op [x] pos) a:=Z5 h
theorem Gb{x y:Expr}{rest:List Expr}{a b:Ev}(ha:PX X C x a)(hb:PX X C (.BoolOp .Or (y::rest) pos) b):PX X C (.BoolOp .Or (x::y::rest) pos) (Om a b):=
 (adL ha hb).imp λσ H Q hq=>by
  obtain⟨Pr,F,env,env',k,rl,e,q⟩:=hq;obtain⟨c,aD,e1,e2⟩:=aO e;refine⟨Pr,F,env,aD,c,rl,e1,λv H1 F1 r1 s1 p1=>?_⟩;cases c with
  | bl z=>
   refine⟨z,p1,?_⟩;cases z with
   | true=>cases e2;exact agn (q _ H1 F1 r1 s1 rfl)
   | false=>exact ago ⟨Pr,F1,aD,env',k,r1,e2,λv2 H2 F2 r2 s2 p2=>q v2 H2 F2 r2 (s1.trans s2) p2⟩
  | _=>cases e2
theorem Jo{x:Expr}{a:Ev}(ha:PX X C x a):PX X C (.UnaryOp .Not x pos) (Bu a):=(Z6 ha).imp λσ H Q hq=>by
 obtain⟨Pr,F,env,env',k,rl,e,q⟩:=hq;obtain⟨c,aD,e1,e2⟩:=aO e;refine⟨Pr,F,env,aD,c,rl,e1,λv H1 F1 r1 s1 p1=>?_⟩;cases c with
 | bl z=>cases e2;exact⟨z,p1,q _ H1 F1 r1 s1 rfl⟩
 | _=>cases e2
def agW(t:dJ)(a b:Ev):Ev:=λenv=>bindR (t env) λc aD=>if c=true then a aD else b aD
end
def wX(f:D->D->Option Bool):List D->List D->Option Bool
 | [],[]=>some true
 | x::xs,y::ys=>match f x y,wX f xs ys with
  | some a,some b=>some (a&&b)
  | _,_=>none
 | [],_::_=>some false
 | _::_,[]=>some false
def bC:Nat->D->D->Option Bool
 | 0,_,_=>none
 | n+1,.tup xs,.tup ys=>wX (bC n) xs ys
 | n+1,.lst xs,.lst ys=>wX (bC n) xs ys
 | _+1,.dct _,_=>none
 | _+1,.m9 _,_=>none
 | _+1,_,.dct _=>none
 | _+1,_,.m9 _=>none
 | _+1,.arr _,_=>none
 | _+1,_,.arr _=>none
 | _+1,.non,.non=>some true
 | _+1,.bl a,.bl b=>some (a == b)
 | _+1,.bl a,.int b=>some ((if a then 1 else 0) == b)
 | _+1,.int a,.bl b=>some (a == (if b then 1 else 0))
 | _+1,.int a,.int b=>some (a == b)
 | _+1,.str a,.str b=>some (a == b)
 | _+1,_,_=>some false
mutual
def Sh(h:Heap):D->Value->Prop
 | .non,u=>u = .none
 | .bl b,u=>u = .bool b
 | .int i,u=>∃t,u = .int i t
 | .str x,u=>∃t,u = .str (strOf x) t
 | .tup xs,u=>∃a its,u = .ref a/\IsTup h a its.toArray/\HF h xs its
 | .lst xs,u=>∃a its,u = .ref a/\PlainL h a its.toArray/\HF h xs its
 | .arr xs,u=>∃a its,u = .ref a/\PlainL h a its.toArray/\HF h xs its
 | .dct _,u=>∃a o,u = .ref a/\h.get? a=some o/\o.ExactDict
 | .m9 _,u=>∃a o,u = .ref a/\h.get? a=some o/\o.ExactDict
def HF(h:Heap):List D->List Value->Prop
 | [],us=>us=[]
 | d::ds,us=>∃u r,us=u::r/\Sh h d u/\HF h ds r
end
theorem HF.length{h:Heap}:∀{ds:List D} {us:List Value},HF h ds us->us.length=ds.length
 | [],_,e=>by cases e;rfl
 | d::ds,us,e=>by obtain⟨u,r,rfl,_,h2⟩:=e;rw[List.length_cons,List.length_cons,h2.length]
section
variable{X:Cx}{pins:List (Addr×Obj)}{σ:L2.St}{H:Hp}{s:Shared}
mutual
theorem Rep.sh(I:Inv X pins σ H s):∀(d:D) (v:V) (u:Value),Rep X.K H d v->RelV v u->Sh s.heap d u
 | .non,_,_,h,r=>by cases h;exact r
 | .bl _,_,_,h,r=>by cases h;exact r
 | .int _,_,_,h,r=>by cases h;exact r
 | .str _,_,_,h,r=>by obtain⟨h,_⟩:=h;cases h;exact r
 | .tup xs,v,u,h,r=>by
  obtain⟨z,a,vs,rfl,h1,h2⟩:=h;cases r;obtain⟨its,rv,p,_⟩:=I.tuple h1;exact⟨a,its,rfl,p,bI.sh I xs vs its h2 rv⟩
 | .lst xs,v,u,h,r=>by
  obtain⟨z,a,vs,rfl,h1,h2⟩:=h;cases r;obtain⟨its,rv,p,_⟩:=I.list (jT.of h1);exact⟨a,its,rfl,p,bI.sh I xs vs its h2 rv⟩
 | .arr xs,v,u,h,r=>by
  obtain⟨z,a,vs,rfl,h1,h2⟩:=h;cases r;obtain⟨its,rv,p,_⟩:=I.list h1;exact⟨a,its,rfl,p,bI.sh I xs vs its h2 rv⟩
 | .dct kvs,v,u,h,r=>by
  obtain⟨z,a,ks,rfl,h1,h2⟩:=h;cases r;obtain⟨_,_,vs,_,o,_,_,e,ex,_⟩:=h1.ok I.hok;exact⟨a,o,rfl,e,ex⟩
 | .m9 kvs,v,u,h,r=>by
  obtain⟨z,a,ks,rfl,h1,h2⟩:=h;cases r;obtain⟨_,_,vs,_,o,_,_,e,ex,_⟩:=h1.ok I.hok;exact⟨a,o,rfl,e,ex⟩
theorem bI.sh(I:Inv X pins σ H s):∀(ds:List D) (vs:List V) (us:List Value),bI X.K H ds vs->Vals vs us->HF s.heap ds us
 | [],_,_,h,r=>by cases h;cases r;exact rfl
 | d::ds,vs,us,h,r=>by
  obtain⟨v,rr,rfl,h1,h2⟩:=h;cases r with
  | cons q qs=>exact⟨_,_,rfl,Rep.sh I d v _ h1 q,bI.sh I ds rr _ h2 qs⟩
end
end
theorem Kr{h:Heap}{a:Addr}{xs ys:Array Value}(p:IsTup h a xs)(q:IsTup h a ys):xs=ys:=by obtain⟨o,e,_,n,d⟩:=p;obtain⟨o',e',_,n',d'⟩:=q;rw[e] at e';cases e';rw[d] at d';cases d';rfl
theorem K8{h:Heap}{a:Addr}{xs ys:Array Value}(p:PlainL h a xs)(q:PlainL h a ys):xs=ys:=by obtain⟨o,e,_,n,d⟩:=p.isList;obtain⟨o',e',_,n',d'⟩:=q.isList;rw[e] at e';cases e';rw[d] at d';cases d';rfl
theorem xG{h:Heap}{a:Addr}{xs ys:Array Value}(p:IsTup h a xs)(q:PlainL h a ys):False:=by obtain⟨o,e,c,n,d⟩:=p;obtain⟨o',e',c',n',d'⟩:=q.isList;rw[e] at e';cases e';rw[c] at c';simp at c'
theorem zr{h:Heap}:∀(n:Nat) (d e:D) (u:Value) (b:Bool),Sh h d u->Sh h e u->bC n d e=some b->b=true
 | 0,_,_,_,_,_,_,hb=>by simp[bC] at hb
 | n+1,d,e,u,b,hd,he,hb=>by
  have all:∀(xs ys:List D) (us:List Value) (b:Bool),HF h xs us->HF h ys us->wX (bC n) xs ys=some b->b=true:=by
   intro xs
   induction xs with
   | nil=>
    intro ys us b h1 h2 hb;cases h1;cases ys with
    | nil=>simp[wX] at hb;exact hb
    | cons y ys=>obtain⟨u,r,q,_⟩:=h2;cases q
   | cons x xs ih=>
    intro ys us b h1 h2 hb;obtain⟨u,r,rfl,h3,h4⟩:=h1;cases ys with
    | nil=>cases h2
    | cons y ys=>
     obtain⟨u',r',q,h5,h6⟩:=h2;cases q;unfold wX at hb;cases q1:bC n x y with
     | none=>rw[q1] at hb;simp at hb
     | some c=>
      cases q2:wX (bC n) xs ys with
      | none=>rw[q1,q2] at hb;simp at hb
      | some c'=>
       rw[q1,q2] at hb;have e1:=zr n x y u c h3 h5 q1;have e2:=ih ys r c' h4 h6 q2;subst e1 e2;simp at hb;exact hb
  cases d with
  | non=>cases hd;cases e<;>simp[Sh] at he;simp[bC] at hb;exact hb
  | bl c=>cases hd;cases e<;>simp[Sh] at he;subst he;simp[bC] at hb;exact hb
  | int i=>obtain⟨t,rfl⟩:=hd;cases e<;>simp[Sh] at he;subst he;simp[bC] at hb;exact hb
  | str x=>
   obtain⟨t,rfl⟩:=hd;cases e with
   | str y=>
    obtain⟨t',q⟩:=he;injection q with q1 _
    unfold strOf at q1;injection q1 with q2
    have q3:=congrArg Array.toList q2;simp at q3;subst q3;simp[bC] at hb;exact hb
   | _=>simp[Sh] at he
  | tup xs=>
   obtain⟨a,its,rfl,p,hs⟩:=hd;cases e with
   | tup ys=>
    obtain⟨a',its',q,p',hs'⟩:=he;cases q;have e2:its=its':=by simpa using Kr p p'
    subst e2;exact all xs ys its b hs hs' (by simpa only[bC] using hb)
   | lst ys=>
    obtain⟨a',its',q,p',hs'⟩:=he;cases q;exact(xG p p').elim
   | dct kvs=>simp[bC] at hb
   | m9 kvs=>simp[bC] at hb
   | arr kvs=>simp[bC] at hb
   | _=>simp[Sh] at he
  | lst xs=>
   obtain⟨a,its,rfl,p,hs⟩:=hd;cases e with
   | lst ys=>
    obtain⟨a',its',q,p',hs'⟩:=he;cases q;have e2:its=its':=by simpa using K8 p p'
    subst e2;exact all xs ys its b hs hs' (by simpa only[bC] using hb)
   | tup ys=>
    obtain⟨a',its',q,p',hs'⟩:=he;cases q;exact(xG p' p).elim
   | dct kvs=>simp[bC] at hb
   | m9 kvs=>simp[bC] at hb
   | arr kvs=>simp[bC] at hb
   | _=>simp[Sh] at he
  | dct kvs=>cases e<;>simp[bC] at hb
  | m9 kvs=>cases e<;>simp[bC] at hb
  | arr kvs=>cases e<;>simp[bC] at hb
theorem Lw{h:Heap}:∀(n:Nat) (d d' e:D) (u:Value) (b b':Bool),Sh h d u->Sh h d' u->bC n d e=some b->bC n d' e=some b'->b=b'
 | 0,_,_,_,_,_,_,_,_,hb,_=>by simp[bC] at hb
 | n+1,d,d',e,u,b,b',hd,hd',hb,hb'=>by
  have all:∀(xs xs' ys:List D) (us:List Value) (b b':Bool),HF h xs us->HF h xs' us->wX (bC n) xs ys=some b->wX (bC n) xs' ys=some b'->b=b':=by
   intro xs
   induction xs with
   | nil=>
    intro xs' ys us b b' h1 h2 hb hb';cases h1;cases xs' with
    | nil=>rw[hb] at hb';exact Option.some.inj hb'
    | cons y ys=>obtain⟨u,r,q,_⟩:=h2;cases q
   | cons x xs ih=>
    intro xs' ys us b b' h1 h2 hb hb';obtain⟨u,r,rfl,h3,h4⟩:=h1;cases xs' with
    | nil=>cases h2
    | cons x' xs'=>
     obtain⟨u',r',q,h5,h6⟩:=h2;cases q;cases ys with
     | nil=>simp[wX] at hb hb';rw[hb,hb']
     | cons y ys=>
      unfold wX at hb hb';cases q1:bC n x y with
      | none=>rw[q1] at hb;simp at hb
      | some c=>
       cases q2:wX (bC n) xs ys with
       | none=>rw[q1,q2] at hb;simp at hb
       | some c2=>
        cases q3:bC n x' y with
        | none=>rw[q3] at hb';simp at hb'
        | some c3=>
         cases q4:wX (bC n) xs' ys with
         | none=>rw[q3,q4] at hb';simp at hb'
         | some c4=>
          rw[q1,q2] at hb;rw[q3,q4] at hb';have e1:=Lw n x x' y u c c3 h3 h5 q1 q3;have e2:=ih xs' ys r c2 c4 h4 h6 q2 q4;subst e1 e2;simp at hb hb';rw[<-hb,<-hb']
  cases d with
  | non=>cases hd;cases d'<;>simp[Sh] at hd';rw[hb] at hb';exact Option.some.inj hb'
  | bl c=>cases hd;cases d'<;>simp[Sh] at hd';subst hd';rw[hb] at hb';exact Option.some.inj hb'
  | int i=>obtain⟨t,rfl⟩:=hd;cases d'<;>simp[Sh] at hd';subst hd';rw[hb] at hb';exact Option.some.inj hb'
  | str x=>
   obtain⟨t,rfl⟩:=hd;cases d' with
   | str y=>
    obtain⟨t',q⟩:=hd';injection q with q1 _
    unfold strOf at q1;injection q1 with q2
    have q3:=congrArg Array.toList q2;simp at q3;subst q3;rw[hb] at hb';exact Option.some.inj hb'
   | _=>simp[Sh] at hd'
  | tup xs=>
   obtain⟨a,its,rfl,p,hs⟩:=hd;cases d' with
   | tup xs'=>
    obtain⟨a',its',q,p',hs'⟩:=hd';cases q;have e2:its=its':=by simpa using Kr p p'
    subst e2;cases e with
    | tup ys=>exact all xs xs' ys its b b' hs hs' (by simpa only[bC] using hb) (by simpa only[bC] using hb')
    | _=>first|(simp[bC] at hb;done)|(simp only[bC,Option.some.injEq] at hb hb';rw[<-hb,<-hb'])
   | lst ys=>
    obtain⟨a',its',q,p',hs'⟩:=hd';cases q;exact(xG p p').elim
   | dct kvs=>cases e<;>simp[bC] at hb'
   | m9 kvs=>cases e<;>simp[bC] at hb'
   | arr kvs=>cases e<;>simp[bC] at hb'
   | _=>simp[Sh] at hd'
  | lst xs=>
   obtain⟨a,its,rfl,p,hs⟩:=hd;cases d' with
   | lst xs'=>
    obtain⟨a',its',q,p',hs'⟩:=hd';cases q;have e2:its=its':=by simpa using K8 p p'
    subst e2;cases e with
    | lst ys=>exact all xs xs' ys its b b' hs hs' (by simpa only[bC] using hb) (by simpa only[bC] using hb')
    | _=>first|(simp[bC] at hb;done)|(simp only[bC,Option.some.injEq] at hb hb';rw[<-hb,<-hb'])
   | tup ys=>
    obtain⟨a',its',q,p',hs'⟩:=hd';cases q;exact(xG p' p).elim
   | dct kvs=>cases e<;>simp[bC] at hb'
   | m9 kvs=>cases e<;>simp[bC] at hb'
   | arr kvs=>cases e<;>simp[bC] at hb'
   | _=>simp[Sh] at hd'
  | dct kvs=>cases e<;>simp[bC] at hb
  | m9 kvs=>cases e<;>simp[bC] at hb
  | arr kvs=>cases e<;>simp[bC] at hb
theorem vG(x y:List Nat):(strOf x == strOf y)=(x == y):=by
 rw[Bool.eq_iff_iff];simp only[beq_iff_eq];constructor
 ·intro e;unfold strOf at e;injection e with e
  simpa using congrArg Array.toList e
 ·intro e;rw[e]
theorem xQ:∀{f:D->D->Option Bool} {xs ys:List D},xs.length≠ys.length->∀b,wX f xs ys=some b->b=false
 | f,[],[],h,b,e=>absurd rfl h
 | f,[],_::_,_,b,e=>by simp[wX] at e;exact e
 | f,_::_,[],_,b,e=>by simp[wX] at e;exact e
 | f,x::xs,y::ys,h,b,e=>by
  unfold wX at e;cases h1:f x y with
  | none=>rw[h1] at e;simp at e
  | some c=>
   cases h2:wX f xs ys with
   | none=>rw[h1,h2] at e;simp at e
   | some d=>
    rw[h1,h2] at e;have:=xQ (f:=f) (xs:=xs) (ys:=ys) (by simpa using h) d h2;subst this;simp at e;exact e
theorem uf:∀{f:D->D->Option Bool} (xs ys:List D) (b:Bool),wX f xs ys=some b->∃e:Nat->Bool,(∀(j:Nat) (x y:D),xs[j]? = some x->ys[j]? = some y->f x y=some (e j))/\b=((List.range (min xs.length ys.length)).all e&&xs.length == ys.length)
 | f,[],ys,b,h=>by
  refine⟨λ_=>true,λj x y hx=>by simp at hx,?_⟩;cases ys with
  | nil=>simp[wX] at h;simp[h.symm]
  | cons y ys=>simp[wX] at h;simp[h.symm]
 | f,x::xs,[],b,h=>by
  refine⟨λ_=>true,λj x y _ hy=>by simp at hy,?_⟩;simp[wX] at h;simp[h.symm]
 | f,x::xs,y::ys,b,h=>by
  unfold wX at h;cases h1:f x y with
  | none=>rw[h1] at h;simp at h
  | some c=>
   cases h2:wX f xs ys with
   | none=>rw[h1,h2] at h;simp at h
   | some d=>
    rw[h1,h2] at h;obtain⟨e,he,hd⟩:=uf xs ys d h2;refine⟨λj=>match j with|0=>c|j+1=>e j,λj x' y' hx hy=>?_,?_⟩
    ·cases j with
     | zero=>simp at hx hy;subst hx hy;exact h1
     | succ j=>exact he j x' y' (by simpa using hx) (by simpa using hy)
    ·have hb:b=(c&&d):=by simpa using h.symm
     have hm:min (x::xs).length (y::ys).length=min xs.length ys.length+1:=by simp only[List.length_cons];omega
     rw[hb,hd,hm,List.range_succ_eq_map,List.all_cons,List.all_map,Bool.and_assoc];have hl:((x::xs).length == (y::ys).length)=(xs.length == ys.length):=by simp
     rw[hl]
     rfl
theorem ni{h:Heap}:∀{ds:List D} {us:List Value} {j:Nat} {u:Value},HF h ds us->us[j]? = some u->∃d,ds[j]? = some d/\Sh h d u
 | [],_,_,_,e,g=>by cases e;simp at g
 | d::ds,us,j,u,e,g=>by
  obtain⟨v,r,rfl,h1,h2⟩:=e;cases j with
  | zero=>simp at g;subst g;exact⟨d,rfl,h1⟩
  | succ j=>obtain⟨c,e1,e2⟩:=ni h2 (j:=j) (by simpa using g);exact⟨c,by simpa using e1,e2⟩
theorem DX:∀(n:Nat) (d e:D) (u v:Value) (b:Bool) (A:Around) (s:Shared),Sh s.heap d u->Sh s.heap e v->bC n d e=some b->A.units+n<cLine->SeqAt.EqAt A s u v b
 | 0,_,_,_,_,_,_,_,_,_,h,_=>by simp[bC] at h
 | n+1,d,e,u,v,b,A,s,hd,he,h,hu=>by
  have hu0:A.units<cLine:=by omega
  have hin:A.in1.units+n<cLine:=by show A.units+1+n<cLine;omega
  cases d with
  | non=>
   cases hd;cases e with
   | non=>cases he;simp[bC] at h;subst h;exact SeqAt.EqAt.same _
   | bl c=>cases he;simp[bC] at h;subst h;exact SeqAt.EqAt.none_bool c
   | int i=>obtain⟨t,rfl⟩:=he;simp[bC] at h;subst h;exact SeqAt.EqAt.none_int i t
   | str x=>obtain⟨t,rfl⟩:=he;simp[bC] at h;subst h;exact SeqAt.EqAt.none_str _ t
   | tup ys=>obtain⟨a,its,rfl,p,_⟩:=he;simp[bC] at h;subst h;exact SeqAt.EqAt.none_tuple p hu0
   | lst ys=>obtain⟨a,its,rfl,p,_⟩:=he;simp[bC] at h;subst h;exact SeqAt.EqAt.none_list p.isList hu0
   | dct kvs=>simp[bC] at h
   | m9 kvs=>simp[bC] at h
   | arr kvs=>simp[bC] at h
  | bl c=>
   cases hd;cases e with
   | non=>cases he;simp[bC] at h;subst h;exact SeqAt.EqAt.bool_none c
   | bl c'=>cases he;simp only[bC,Option.some.injEq] at h;subst h;exact SeqAt.EqAt.bool_bool c c'
   | int i=>obtain⟨t,rfl⟩:=he;simp only[bC,Option.some.injEq] at h;subst h;exact SeqAt.EqAt.bool_int c i t
   | str x=>obtain⟨t,rfl⟩:=he;simp[bC] at h;subst h;exact SeqAt.EqAt.bool_str c _ t
   | tup ys=>obtain⟨a,its,rfl,p,_⟩:=he;simp[bC] at h;subst h;exact SeqAt.EqAt.bool_tuple c p hu0
   | lst ys=>obtain⟨a,its,rfl,p,_⟩:=he;simp[bC] at h;subst h;exact SeqAt.EqAt.bool_list c p.isList hu0
   | dct kvs=>simp[bC] at h
   | m9 kvs=>simp[bC] at h
   | arr kvs=>simp[bC] at h
  | int i=>
   obtain⟨t',rfl⟩:=hd;cases e with
   | non=>cases he;simp[bC] at h;subst h;exact SeqAt.EqAt.int_none i t'
   | bl c'=>cases he;simp only[bC,Option.some.injEq] at h;subst h;exact SeqAt.EqAt.int_bool i t' c'
   | int j=>obtain⟨t,rfl⟩:=he;simp only[bC,Option.some.injEq] at h;subst h;exact SeqAt.EqAt.int_int i t' j t
   | str x=>obtain⟨t,rfl⟩:=he;simp[bC] at h;subst h;exact SeqAt.EqAt.int_str i t' _ t
   | tup ys=>obtain⟨a,its,rfl,p,_⟩:=he;simp[bC] at h;subst h;exact SeqAt.EqAt.int_tuple i t' p hu0
   | lst ys=>obtain⟨a,its,rfl,p,_⟩:=he;simp[bC] at h;subst h;exact SeqAt.EqAt.int_list i t' p.isList hu0
   | dct kvs=>simp[bC] at h
   | m9 kvs=>simp[bC] at h
   | arr kvs=>simp[bC] at h
  | str x=>
   obtain⟨t',rfl⟩:=hd;cases e with
   | non=>cases he;simp[bC] at h;subst h;exact SeqAt.EqAt.str_none _ t'
   | bl c'=>cases he;simp[bC] at h;subst h;exact SeqAt.EqAt.str_bool _ t' c'
   | int j=>obtain⟨t,rfl⟩:=he;simp[bC] at h;subst h;exact SeqAt.EqAt.str_int _ t' j t
   | str y=>obtain⟨t,rfl⟩:=he;simp only[bC,Option.some.injEq] at h;subst h;rw[<-vG];exact SeqAt.EqAt.str_str _ t' _ t
   | tup ys=>obtain⟨a,its,rfl,p,_⟩:=he;simp[bC] at h;subst h;exact SeqAt.EqAt.str_tuple _ t' p hu0
   | lst ys=>obtain⟨a,its,rfl,p,_⟩:=he;simp[bC] at h;subst h;exact SeqAt.EqAt.str_list _ t' p.isList hu0
   | dct kvs=>simp[bC] at h
   | m9 kvs=>simp[bC] at h
   | arr kvs=>simp[bC] at h
  | tup xs=>
   obtain⟨a,its,rfl,p,hs⟩:=hd;cases e with
   | non=>cases he;simp[bC] at h;subst h;exact SeqAt.EqAt.tuple_none p hu0
   | bl c'=>cases he;simp[bC] at h;subst h;exact SeqAt.EqAt.tuple_bool c' p hu0
   | int j=>obtain⟨t,rfl⟩:=he;simp[bC] at h;subst h;exact SeqAt.EqAt.tuple_int j t p hu0
   | str y=>obtain⟨t,rfl⟩:=he;simp[bC] at h;subst h;exact SeqAt.EqAt.tuple_str _ t p hu0
   | tup ys=>
    obtain⟨a',its',rfl,p',hs'⟩:=he;by_cases haa:a=a'
    ·subst haa;have:=zr (n+1) (.tup xs) (.tup ys) (.ref a) b ⟨a,its,rfl,p,hs⟩ ⟨a,its',rfl,p',hs'⟩ h;subst this;exact SeqAt.EqAt.same _
    ·simp only[bC] at h;obtain⟨f,hf,hb⟩:=uf xs ys b h;have l1:=hs.length;have l2:=hs'.length;refine SeqAt.EqAt.of_refs haa ?_;have:=SeqAt.RcAt.tuples (e:=f) p p' hu0 λj h1 h2=>?_
     ·rw[hb];simp only[List.size_toArray] at this;rw[l1,l2] at this;exact this
     ·have g1:its[j]? = some its.toArray[j]:=by simp at h1 ⊢
      have g2:its'[j]? = some its'.toArray[j]:=by simp at h2 ⊢
      obtain⟨x,q1,q2⟩:=ni hs g1;obtain⟨y,q3,q4⟩:=ni hs' g2;exact DX n x y _ _ _ A.in1 s q2 q4 (hf j x y q1 q3) hin
   | lst ys=>obtain⟨a',its',rfl,p',_⟩:=he;simp[bC] at h;subst h;exact SeqAt.EqAt.tuple_list p p'.isList hu0
   | dct kvs=>simp[bC] at h
   | m9 kvs=>simp[bC] at h
   | arr kvs=>simp[bC] at h
  | lst xs=>
   obtain⟨a,its,rfl,p,hs⟩:=hd;cases e with
   | non=>cases he;simp[bC] at h;subst h;exact SeqAt.EqAt.list_none p.isList hu0
   | bl c'=>cases he;simp[bC] at h;subst h;exact SeqAt.EqAt.list_bool c' p.isList hu0
   | int j=>obtain⟨t,rfl⟩:=he;simp[bC] at h;subst h;exact SeqAt.EqAt.list_int j t p.isList hu0
   | str y=>obtain⟨t,rfl⟩:=he;simp[bC] at h;subst h;exact SeqAt.EqAt.list_str _ t p.isList hu0
   | lst ys=>
    obtain⟨a',its',rfl,p',hs'⟩:=he;have l1:=hs.length;have l2:=hs'.length;by_cases haa:a=a'
    ·subst haa;have:=zr (n+1) (.lst xs) (.lst ys) (.ref a) b ⟨a,its,rfl,p,hs⟩ ⟨a,its',rfl,p',hs'⟩ h;subst this;exact SeqAt.EqAt.same _
    ·simp only[bC] at h;refine SeqAt.EqAt.of_refs haa ?_;by_cases hl:xs.length=ys.length
     ·obtain⟨f,hf,hb⟩:=uf xs ys b h;have:=SeqAt.RcAt.lists (e:=f) p.isList p'.isList (by simp only[List.size_toArray];omega) hu0 λj h1 h2=>?_
      ·rw[hb,<-hl,Nat.min_self,beq_self_eq_true,Bool.and_true,<-l1];simp only[List.size_toArray] at this;exact this
      ·have g1:its[j]? = some its.toArray[j]:=by simp at h1 ⊢
       have g2:its'[j]? = some its'.toArray[j]:=by simp at h2 ⊢
       obtain⟨x,q1,q2⟩:=ni hs g1;obtain⟨y,q3,q4⟩:=ni hs' g2;exact DX n x y _ _ _ A.in1 s q2 q4 (hf j x y q1 q3) hin
     ·have:=xQ hl b h;subst this;exact SeqAt.RcAt.lists_lengths p.isList p'.isList (by simp only[List.size_toArray];rw[l1,l2];simpa using hl) hu0
   | tup ys=>obtain⟨a',its',rfl,p',_⟩:=he;simp[bC] at h;subst h;exact SeqAt.EqAt.list_tuple p.isList p' hu0
   | dct kvs=>simp[bC] at h
   | m9 kvs=>simp[bC] at h
   | arr kvs=>simp[bC] at h
  | dct kvs=>cases e<;>simp[bC] at h
  | m9 kvs=>cases e<;>simp[bC] at h
  | arr kvs=>cases e<;>simp[bC] at h
theorem uN(n:Nat)(its its':List Value)(xs ys:List D)(f:Nat->Bool)(A:Around)(s:Shared)(hs:HF s.heap xs its)(hs':HF s.heap ys its')(hf:∀(j:Nat) (x y:D),xs[j]? = some x->ys[j]? = some y->bC n x y=some (f j))(hin:A.in1.units+n<cLine)
  (j:Nat) (h1:j<its.toArray.size) (h2:j<its'.toArray.size):SeqAt.EqAt A.in1 s its.toArray[j] its'.toArray[j] (f j):=by
 have g1:its[j]? = some its.toArray[j]:=by simp at h1 ⊢
 have g2:its'[j]? = some its'.toArray[j]:=by simp at h2 ⊢
 obtain⟨x,q1,q2⟩:=ni hs g1;obtain⟨y,q3,q4⟩:=ni hs' g2;exact DX n x y _ _ _ A.in1 s q2 q4 (hf j x y q1 q3) hin
theorem ado(n:Nat)(d e:D)(u v:Value)(b:Bool)(A:Around)(s:Shared)(hd:Sh s.heap d u)(he:Sh s.heap e v)(h:bC (n+1) d e=some b)(hu:A.units+(n+1)<cLine):SeqAt.RcAt A s u v b:=by
 have hu0:A.units<cLine:=by omega
 have hin:A.in1.units+n<cLine:=by show A.units+1+n<cLine;omega
 cases d with
 | non=>
  cases hd;cases e with
  | non=>
   cases he;simp[bC] at h;subst h;exact SeqAt.RcAt.none_none
  | bl c'=>
   cases he;simp[bC] at h;subst h;exact SeqAt.RcAt.none_bool c'
  | int j=>
   obtain⟨t,rfl⟩:=he;simp[bC] at h;subst h;exact SeqAt.RcAt.none_int j t
  | str y=>
   obtain⟨t,rfl⟩:=he;simp[bC] at h;subst h;exact SeqAt.RcAt.none_str _ t
  | tup ys=>
   obtain⟨a',its',rfl,p',hs'⟩:=he;simp[bC] at h;subst h;exact SeqAt.RcAt.none_tuple p' hu0
  | lst ys=>
   obtain⟨a',its',rfl,p',hs'⟩:=he;simp[bC] at h;subst h;exact SeqAt.RcAt.none_list p'.isList hu0
  | arr kvs=>
   simp[bC] at h
  | dct kvs=>
   simp[bC] at h
  | m9 kvs=>
   simp[bC] at h
 | bl c=>
  cases hd;cases e with
  | non=>
   cases he;simp[bC] at h;subst h;exact SeqAt.RcAt.bool_none c
  | bl c'=>
   cases he;simp only[bC,Option.some.injEq] at h;subst h;exact SeqAt.RcAt.bool_bool c c'
  | int j=>
   obtain⟨t,rfl⟩:=he;simp only[bC,Option.some.injEq] at h;subst h;exact SeqAt.RcAt.bool_int c j t
  | str y=>
   obtain⟨t,rfl⟩:=he;simp[bC] at h;subst h;exact SeqAt.RcAt.bool_str c _ t
  | tup ys=>
   obtain⟨a',its',rfl,p',hs'⟩:=he;simp[bC] at h;subst h;exact SeqAt.RcAt.bool_tuple c p' hu0
  | lst ys=>
   obtain⟨a',its',rfl,p',hs'⟩:=he;simp[bC] at h;subst h;exact SeqAt.RcAt.bool_list c p'.isList hu0
  | arr kvs=>
   simp[bC] at h
  | dct kvs=>
   simp[bC] at h
  | m9 kvs=>
   simp[bC] at h
 | int i=>
  obtain⟨t',rfl⟩:=hd;cases e with
  | non=>
   cases he;simp[bC] at h;subst h;exact SeqAt.RcAt.int_none i t'
  | bl c'=>
   cases he;simp only[bC,Option.some.injEq] at h;subst h;exact SeqAt.RcAt.int_bool i t' c'
  | int j=>
   obtain⟨t,rfl⟩:=he;simp only[bC,Option.some.injEq] at h;subst h;exact SeqAt.RcAt.int_int i t' j t
  | str y=>
   obtain⟨t,rfl⟩:=he;simp[bC] at h;subst h;exact SeqAt.RcAt.int_str i t' _ t
  | tup ys=>
   obtain⟨a',its',rfl,p',hs'⟩:=he;simp[bC] at h;subst h;exact SeqAt.RcAt.int_tuple i t' p' hu0
  | lst ys=>
   obtain⟨a',its',rfl,p',hs'⟩:=he;simp[bC] at h;subst h;exact SeqAt.RcAt.int_list i t' p'.isList hu0
  | arr kvs=>
   simp[bC] at h
  | dct kvs=>
   simp[bC] at h
  | m9 kvs=>
   simp[bC] at h
 | str x=>
  obtain⟨t',rfl⟩:=hd;cases e with
  | non=>
   cases he;simp[bC] at h;subst h;exact SeqAt.RcAt.str_none _ t'
  | bl c'=>
   cases he;simp[bC] at h;subst h;exact SeqAt.RcAt.str_bool _ t' c'
  | int j=>
   obtain⟨t,rfl⟩:=he;simp[bC] at h;subst h;exact SeqAt.RcAt.str_int _ t' j t
  | str y=>
   obtain⟨t,rfl⟩:=he;simp only[bC,Option.some.injEq] at h;subst h;rw[<-vG];exact SeqAt.RcAt.str_str _ t' _ t
  | tup ys=>
   obtain⟨a',its',rfl,p',hs'⟩:=he;simp[bC] at h;subst h;exact SeqAt.RcAt.str_tuple _ t' p' hu0
  | lst ys=>
   obtain⟨a',its',rfl,p',hs'⟩:=he;simp[bC] at h;subst h;exact SeqAt.RcAt.str_list _ t' p'.isList hu0
  | arr kvs=>
   simp[bC] at h
  | dct kvs=>
   simp[bC] at h
  | m9 kvs=>
   simp[bC] at h
 | tup xs=>
  obtain⟨a,its,rfl,p,hs⟩:=hd;cases e with
  | non=>
   cases he;simp[bC] at h;subst h;exact SeqAt.RcAt.tuple_none p hu0
  | bl c'=>
   cases he;simp[bC] at h;subst h;exact SeqAt.RcAt.tuple_bool c' p hu0
  | int j=>
   obtain⟨t,rfl⟩:=he;simp[bC] at h;subst h;exact SeqAt.RcAt.tuple_int j t p hu0
  | str y=>
   obtain⟨t,rfl⟩:=he;simp[bC] at h;subst h;exact SeqAt.RcAt.tuple_str _ t p hu0
  | tup ys=>
   obtain⟨a',its',rfl,p',hs'⟩:=he;simp only[bC] at h;have l1:=hs.length;have l2:=hs'.length;obtain⟨f,hf,hb⟩:=uf xs ys b h;have:=SeqAt.RcAt.tuples (e:=f) p p' hu0 λj h1 h2=>?_
   ·rw[hb];simp only[List.size_toArray] at this;rw[l1,l2] at this;exact this
   ·exact uN n its its' xs ys f A s hs hs' hf hin j h1 h2
  | lst ys=>
   obtain⟨a',its',rfl,p',hs'⟩:=he;simp[bC] at h;subst h;exact SeqAt.RcAt.tuple_list p p'.isList hu0
  | arr kvs=>
   simp[bC] at h
  | dct kvs=>
   simp[bC] at h
  | m9 kvs=>
   simp[bC] at h
 | lst xs=>
  obtain⟨a,its,rfl,p,hs⟩:=hd;cases e with
  | non=>
   cases he;simp[bC] at h;subst h;exact SeqAt.RcAt.list_none p.isList hu0
  | bl c'=>
   cases he;simp[bC] at h;subst h;exact SeqAt.RcAt.list_bool c' p.isList hu0
  | int j=>
   obtain⟨t,rfl⟩:=he;simp[bC] at h;subst h;exact SeqAt.RcAt.list_int j t p.isList hu0
  | str y=>
   obtain⟨t,rfl⟩:=he;simp[bC] at h;subst h;exact SeqAt.RcAt.list_str _ t p.isList hu0
  | tup ys=>
   obtain⟨a',its',rfl,p',hs'⟩:=he;simp[bC] at h;subst h;exact SeqAt.RcAt.list_tuple p.isList p' hu0
  | lst ys=>
   obtain⟨a',its',rfl,p',hs'⟩:=he;simp only[bC] at h;have l1:=hs.length;have l2:=hs'.length;by_cases hl:xs.length=ys.length
   ·obtain⟨f,hf,hb⟩:=uf xs ys b h;have:=SeqAt.RcAt.lists (e:=f) p.isList p'.isList (by simp only[List.size_toArray];omega) hu0 λj h1 h2=>?_
    ·rw[hb,<-hl,Nat.min_self,beq_self_eq_true,Bool.and_true,<-l1];simp only[List.size_toArray] at this;exact this
    ·exact uN n its its' xs ys f A s hs hs' hf hin j h1 h2
   ·have:=xQ hl b h;subst this;exact SeqAt.RcAt.lists_lengths p.isList p'.isList (by simp only[List.size_toArray];rw[l1,l2];simpa using hl) hu0
  | arr kvs=>
   simp[bC] at h
  | dct kvs=>
   simp[bC] at h
  | m9 kvs=>
   simp[bC] at h
 | arr kvs=>
  cases e<;>simp[bC] at h
 | dct kvs=>
  cases e<;>simp[bC] at h
 | m9 kvs=>
  cases e<;>simp[bC] at h
theorem Vk(n:Nat)(d e:D)(u v:Value)(b:Bool)(A:Around)(s:Shared)(hd:Sh s.heap d u)(he:Sh s.heap e v)(h:bC (n+1) d e=some b)(hu:A.units+(n+1)<cLine):SeqAt.RcNeAt A s u v (!b):=by
 have hu0:A.units<cLine:=by omega
 have hin:A.in1.units+n<cLine:=by show A.units+1+n<cLine;omega
 cases d with
 | non=>
  cases hd;cases e with
  | non=>
   cases he;simp[bC] at h;subst h;exact SeqAt.RcNeAt.none_none
  | bl c'=>
   cases he;simp[bC] at h;subst h;exact SeqAt.RcNeAt.none_bool c'
  | int j=>
   obtain⟨t,rfl⟩:=he;simp[bC] at h;subst h;exact SeqAt.RcNeAt.none_int j t
  | str y=>
   obtain⟨t,rfl⟩:=he;simp[bC] at h;subst h;exact SeqAt.RcNeAt.none_str _ t
  | tup ys=>
   obtain⟨a',its',rfl,p',hs'⟩:=he;simp[bC] at h;subst h;exact SeqAt.RcNeAt.none_tuple p' hu0
  | lst ys=>
   obtain⟨a',its',rfl,p',hs'⟩:=he;simp[bC] at h;subst h;exact SeqAt.RcNeAt.none_list p'.isList hu0
  | arr kvs=>
   simp[bC] at h
  | dct kvs=>
   simp[bC] at h
  | m9 kvs=>
   simp[bC] at h
 | bl c=>
  cases hd;cases e with
  | non=>
   cases he;simp[bC] at h;subst h;exact SeqAt.RcNeAt.bool_none c
  | bl c'=>
   cases he;simp only[bC,Option.some.injEq] at h;subst h;exact SeqAt.RcNeAt.bool_bool c c'
  | int j=>
   obtain⟨t,rfl⟩:=he;simp only[bC,Option.some.injEq] at h;subst h;exact SeqAt.RcNeAt.bool_int c j t
  | str y=>
   obtain⟨t,rfl⟩:=he;simp[bC] at h;subst h;exact SeqAt.RcNeAt.bool_str c _ t
  | tup ys=>
   obtain⟨a',its',rfl,p',hs'⟩:=he;simp[bC] at h;subst h;exact SeqAt.RcNeAt.bool_tuple c p' hu0
  | lst ys=>
   obtain⟨a',its',rfl,p',hs'⟩:=he;simp[bC] at h;subst h;exact SeqAt.RcNeAt.bool_list c p'.isList hu0
  | arr kvs=>
   simp[bC] at h
  | dct kvs=>
   simp[bC] at h
  | m9 kvs=>
   simp[bC] at h
 | int i=>
  obtain⟨t',rfl⟩:=hd;cases e with
  | non=>
   cases he;simp[bC] at h;subst h;exact SeqAt.RcNeAt.int_none i t'
  | bl c'=>
   cases he;simp only[bC,Option.some.injEq] at h;subst h;exact SeqAt.RcNeAt.int_bool i t' c'
  | int j=>
   obtain⟨t,rfl⟩:=he;simp only[bC,Option.some.injEq] at h;subst h;exact SeqAt.RcNeAt.int_int i t' j t
  | str y=>
   obtain⟨t,rfl⟩:=he;simp[bC] at h;subst h;exact SeqAt.RcNeAt.int_str i t' _ t
  | tup ys=>
   obtain⟨a',its',rfl,p',hs'⟩:=he;simp[bC] at h;subst h;exact SeqAt.RcNeAt.int_tuple i t' p' hu0
  | lst ys=>
   obtain⟨a',its',rfl,p',hs'⟩:=he;simp[bC] at h;subst h;exact SeqAt.RcNeAt.int_list i t' p'.isList hu0
  | arr kvs=>
   simp[bC] at h
  | dct kvs=>
   simp[bC] at h
  | m9 kvs=>
   simp[bC] at h
 | str x=>
  obtain⟨t',rfl⟩:=hd;cases e with
  | non=>
   cases he;simp[bC] at h;subst h;exact SeqAt.RcNeAt.str_none _ t'
  | bl c'=>
   cases he;simp[bC] at h;subst h;exact SeqAt.RcNeAt.str_bool _ t' c'
  | int j=>
   obtain⟨t,rfl⟩:=he;simp[bC] at h;subst h;exact SeqAt.RcNeAt.str_int _ t' j t
  | str y=>
   obtain⟨t,rfl⟩:=he;simp only[bC,Option.some.injEq] at h;subst h;rw[<-vG];exact SeqAt.RcNeAt.str_str _ t' _ t
  | tup ys=>
   obtain⟨a',its',rfl,p',hs'⟩:=he;simp[bC] at h;subst h;exact SeqAt.RcNeAt.str_tuple _ t' p' hu0
  | lst ys=>
   obtain⟨a',its',rfl,p',hs'⟩:=he;simp[bC] at h;subst h;exact SeqAt.RcNeAt.str_list _ t' p'.isList hu0
  | arr kvs=>
   simp[bC] at h
  | dct kvs=>
   simp[bC] at h
  | m9 kvs=>
   simp[bC] at h
 | tup xs=>
  obtain⟨a,its,rfl,p,hs⟩:=hd;cases e with
  | non=>
   cases he;simp[bC] at h;subst h;exact SeqAt.RcNeAt.tuple_none p hu0
  | bl c'=>
   cases he;simp[bC] at h;subst h;exact SeqAt.RcNeAt.tuple_bool c' p hu0
  | int j=>
   obtain⟨t,rfl⟩:=he;simp[bC] at h;subst h;exact SeqAt.RcNeAt.tuple_int j t p hu0
  | str y=>
   obtain⟨t,rfl⟩:=he;simp[bC] at h;subst h;exact SeqAt.RcNeAt.tuple_str _ t p hu0
  | tup ys=>
   obtain⟨a',its',rfl,p',hs'⟩:=he;simp only[bC] at h;have l1:=hs.length;have l2:=hs'.length;obtain⟨f,hf,hb⟩:=uf xs ys b h;have:=SeqAt.RcNeAt.tuples (e:=f) p p' hu0 λj h1 h2=>?_
   ·rw[hb];simp only[List.size_toArray] at this;rw[l1,l2] at this;exact this
   ·exact uN n its its' xs ys f A s hs hs' hf hin j h1 h2
  | lst ys=>
   obtain⟨a',its',rfl,p',hs'⟩:=he;simp[bC] at h;subst h;exact SeqAt.RcNeAt.tuple_list p p'.isList hu0
  | arr kvs=>
   simp[bC] at h
  | dct kvs=>
   simp[bC] at h
  | m9 kvs=>
   simp[bC] at h
 | lst xs=>
  obtain⟨a,its,rfl,p,hs⟩:=hd;cases e with
  | non=>
   cases he;simp[bC] at h;subst h;exact SeqAt.RcNeAt.list_none p.isList hu0
  | bl c'=>
   cases he;simp[bC] at h;subst h;exact SeqAt.RcNeAt.list_bool c' p.isList hu0
  | int j=>
   obtain⟨t,rfl⟩:=he;simp[bC] at h;subst h;exact SeqAt.RcNeAt.list_int j t p.isList hu0
  | str y=>
   obtain⟨t,rfl⟩:=he;simp[bC] at h;subst h;exact SeqAt.RcNeAt.list_str _ t p.isList hu0
  | tup ys=>
   obtain⟨a',its',rfl,p',hs'⟩:=he;simp[bC] at h;subst h;exact SeqAt.RcNeAt.list_tuple p.isList p' hu0
  | lst ys=>
   obtain⟨a',its',rfl,p',hs'⟩:=he;simp only[bC] at h;have l1:=hs.length;have l2:=hs'.length;by_cases hl:xs.length=ys.length
   ·obtain⟨f,hf,hb⟩:=uf xs ys b h;have:=SeqAt.RcNeAt.lists (e:=f) p.isList p'.isList (by simp only[List.size_toArray];omega) hu0 λj h1 h2=>?_
    ·rw[hb,<-hl,Nat.min_self,beq_self_eq_true,Bool.and_true,<-l1];simp only[List.size_toArray] at this;exact this
    ·exact uN n its its' xs ys f A s hs hs' hf hin j h1 h2
   ·have:=xQ hl b h;subst this;exact SeqAt.RcNeAt.lists_lengths p.isList p'.isList (by simp only[List.size_toArray];rw[l1,l2];simpa using hl) hu0
  | arr kvs=>
   simp[bC] at h
  | dct kvs=>
   simp[bC] at h
  | m9 kvs=>
   simp[bC] at h
 | arr kvs=>
  cases e<;>simp[bC] at h
 | dct kvs=>
  cases e<;>simp[bC] at h
 | m9 kvs=>
  cases e<;>simp[bC] at h
section
variable{X:Cx}{C:Cfg}
def adB(K:Fg):R2:=λx y H Q=>∃dx dy b,Rep K H dx x/\Rep K H dy y/\bC 60 dx dy=some b/\Q (.bl b) H
def adv(K:Fg):R2:=λx y H Q=>∃dx dy b,Rep K H dx x/\Rep K H dy y/\bC 60 dx dy=some b/\Q (.bl (!b)) H
theorem aal(hu:X.A.units+60<cLine):pA X (compareOp .Eq) (adB X.K):=by intro pins s σ H x y v u Q I rx ry h;obtain⟨dx,dy,b,h1,h2,h3,q⟩:=h;exact ado 59 dx dy v u b X.A s (Rep.sh I dx x v h1 rx) (Rep.sh I dy y u h2 ry) h3 hu X.prog X.w X.xe _ ⟨.bl b,H,I,rfl,q⟩
theorem aaf(hu:X.A.units+60<cLine):pA X (compareOp .NotEq) (adv X.K):=by intro pins s σ H x y v u Q I rx ry h;obtain⟨dx,dy,b,h1,h2,h3,q⟩:=h;exact Vk 59 dx dy v u b X.A s (Rep.sh I dx x v h1 rx) (Rep.sh I dy y u h2 ry) h3 hu X.prog X.w X.xe _ ⟨.bl (!b),H,I,rfl,q⟩
def lV(x y:D):Option D:=(bC 60 x y).map .bl
def rJ(x y:D):Option D:=(bC 60 x y).map λb=>.bl (!b)
theorem adV:rO C (adB C.K) lV:=by
 intro Pr F env σ H x y d vx vy Q r hx hy h q;unfold lV at h;cases e:bC 60 x y with
 | none=>rw[e] at h;cases h
 | some b=>
  rw[e] at h;cases h;exact⟨x,y,b,hx.rep r.fr,hy.rep r.fr,e,q _ H F r (aP.refl F) rfl⟩
theorem adS:rO C (adv C.K) rJ:=by
 intro Pr F env σ H x y d vx vy Q r hx hy h q;unfold rJ at h;cases e:bC 60 x y with
 | none=>rw[e] at h;cases h
 | some b=>
  rw[e] at h;cases h;exact⟨x,y,b,hx.rep r.fr,hy.rep r.fr,e,q _ H F r (aP.refl F) rfl⟩
def Lg(x:D):List D->Option Bool
 | []=>some false
 | y::ys=>match bC 59 y x,Lg x ys with
  | some a,some b=>some (a||b)
  | _,_=>none
theorem Lf(x:D):∀(ys:List D) (b:Bool),Lg x ys=some b->(∀y∈ys,∃c,bC 59 y x=some c)/\(b=true ↔ ∃y∈ys,bC 59 y x=some true)
 | [],b,h=>by simp[Lg] at h;subst h;simp
 | y::ys,b,h=>by
  unfold Lg at h;cases h1:bC 59 y x with
  | none=>rw[h1] at h;simp at h
  | some c=>
   cases h2:Lg x ys with
   | none=>rw[h1,h2] at h;simp at h
   | some d=>
    rw[h1,h2] at h;obtain⟨i1,i2⟩:=Lf x ys d h2;have hb:b=(c||d):=by simpa using h.symm
    refine⟨λz hz=>?_,?_⟩
    ·rcases List.mem_cons.mp hz with rfl|hz
     ·exact⟨c,h1⟩
     ·exact i1 z hz
    ·rw[hb,Bool.or_eq_true];constructor
     ·rintro(hc|hd)
      ·exact⟨y,List.mem_cons_self,by rw[h1,hc]⟩
      ·obtain⟨z,hz,e⟩:=i2.mp hd;exact⟨z,List.mem_cons_of_mem _ hz,e⟩
     ·rintro⟨z,hz,e⟩;rcases List.mem_cons.mp hz with rfl|hz
      ·rw[h1] at e;left;simpa using e
      ·right;exact i2.mpr ⟨z,hz,e⟩
open Classical in
noncomputable def Ar(h:Heap)(x:D)(u:Value):Bool:=decide (∃y,Sh h y u/\bC 59 y x=some true)
open Classical in
theorem El{h:Heap}{x y:D}{u:Value}{c:Bool}(hy:Sh h y u)(e:bC 59 y x=some c):Ar h x u=c:=by
 unfold Ar;cases c with
 | true=>exact decide_eq_true ⟨y,hy,e⟩
 | false=>
  refine decide_eq_false ?_;rintro⟨z,hz,e'⟩;have:=Lw 59 z y x u true false hz hy e' e;cases this
theorem wj{s:Shared}{A:Around}{x:D}{v:Value}{ys:List D}{us:List Value}{b:Bool}(hx:Sh s.heap x v)(hs:HF s.heap ys us)(h:Lg x ys=some b)(hu:A.units+59<cLine) :
  (∀w,w∈us.toArray->SeqAt.EqAt A s w v (Ar s.heap x w))/\us.toArray.any (Ar s.heap x)=b:=by
 obtain⟨h1,h2⟩:=Lf x ys b h;have item:∀w∈us,∃y∈ys,Sh s.heap y w:=λw hw=>by
  obtain⟨j,hj,e⟩:=List.mem_iff_getElem.mp hw;obtain⟨d,e1,e2⟩:=ni hs (show us[j]? = some w by rw[List.getElem?_eq_getElem hj,e]);exact⟨d,List.mem_of_getElem? e1,e2⟩
 have back:∀{ys:List D} {us:List Value},HF s.heap ys us->∀y∈ys,∃w∈us,Sh s.heap y w:=by
  intro ys
  induction ys with
  | nil=>intro us _ y hy;cases hy
  | cons z zs ih=>
   intro us hs y hy;obtain⟨w,r,rfl,g1,g2⟩:=hs;rcases List.mem_cons.mp hy with rfl|hy
   ·exact⟨w,List.mem_cons_self,g1⟩
   ·obtain⟨w',m,g⟩:=ih g2 y hy;exact⟨w',List.mem_cons_of_mem _ m,g⟩
 refine⟨λw hw=>?_,?_⟩
 ·obtain⟨y,hy,sy⟩:=item w (by simpa using hw);obtain⟨c,hc⟩:=h1 y hy;rw[El sy hc];exact DX 59 y x w v c A s sy hx hc hu
 ·rw[List.any_toArray,Bool.eq_iff_iff,h2,List.any_eq_true];constructor
  ·rintro⟨w,hw,e⟩;obtain⟨y,hy,sy⟩:=item w hw;obtain⟨c,hc⟩:=h1 y hy;rw[El sy hc] at e;subst e;exact⟨y,hy,hc⟩
  ·rintro⟨y,hy,e⟩;obtain⟨w,hw,sy⟩:=back hs y hy;exact⟨w,hw,El sy e⟩
def Ft:D->Option (List D)
 | .tup xs=>some xs
 | .lst xs=>some xs
 | .arr xs=>some xs
 | _=>none
def M7(K:Fg)(neg:Bool):R2:=λx y H Q=>∃dx dy ys b,Rep K H dx x/\Rep K H dy y/\Ft dy=some ys/\Lg dx ys=some b/\Q (.bl (if neg then !b else b)) H
theorem aaj(hu:X.A.units+61<cLine):pA X (compareOp .In) (M7 X.K false):=by
 intro pins s σ H x y v u Q I rx ry h;obtain⟨dx,dy,ys,b,h1,h2,h3,h4,q⟩:=h;have hx:=Rep.sh I dx x v h1 rx;have hy:=Rep.sh I dy y u h2 ry;have hin:X.A.in1.units+59<cLine:=by show X.A.units+1+59<cLine;omega
 cases dy with
 | tup zs=>
  cases h3;obtain⟨a,its,rfl,p,hs⟩:=hy;obtain⟨g1,g2⟩:=wj (A:=X.A.in1) hx hs h4 hin;refine SeqAt.in_tupleAt (Ar s.heap dx) p g1 ⟨.bl _,H,I,rfl,?_⟩;rw[g2];exact q
 | lst zs=>
  cases h3;obtain⟨a,its,rfl,p,hs⟩:=hy;obtain⟨g1,g2⟩:=wj (A:=X.A.in1) hx hs h4 hin;refine SeqAt.in_listAt (Ar s.heap dx) p.isList g1 ⟨.bl _,H,I,rfl,?_⟩;rw[g2];exact q
 | arr zs=>
  cases h3;obtain⟨a,its,rfl,p,hs⟩:=hy;obtain⟨g1,g2⟩:=wj (A:=X.A.in1) hx hs h4 hin;refine SeqAt.in_listAt (Ar s.heap dx) p.isList g1 ⟨.bl _,H,I,rfl,?_⟩;rw[g2];exact q
 | _=>cases h3
theorem Nq(hu:X.A.units+61<cLine):pA X (compareOp .NotIn) (M7 X.K true):=by
 intro pins s σ H x y v u Q I rx ry h;obtain⟨dx,dy,ys,b,h1,h2,h3,h4,q⟩:=h;have hx:=Rep.sh I dx x v h1 rx;have hy:=Rep.sh I dy y u h2 ry;have hin:X.A.in1.units+59<cLine:=by show X.A.units+1+59<cLine;omega
 cases dy with
 | tup zs=>
  cases h3;obtain⟨a,its,rfl,p,hs⟩:=hy;obtain⟨g1,g2⟩:=wj (A:=X.A.in1) hx hs h4 hin;refine SeqAt.notIn_tupleAt (Ar s.heap dx) p g1 ⟨.bl _,H,I,rfl,?_⟩;rw[g2];exact q
 | lst zs=>
  cases h3;obtain⟨a,its,rfl,p,hs⟩:=hy;obtain⟨g1,g2⟩:=wj (A:=X.A.in1) hx hs h4 hin;refine SeqAt.notIn_listAt (Ar s.heap dx) p.isList g1 ⟨.bl _,H,I,rfl,?_⟩;rw[g2];exact q
 | arr zs=>
  cases h3;obtain⟨a,its,rfl,p,hs⟩:=hy;obtain⟨g1,g2⟩:=wj (A:=X.A.in1) hx hs h4 hin;refine SeqAt.notIn_listAt (Ar s.heap dx) p.isList g1 ⟨.bl _,H,I,rfl,?_⟩;rw[g2];exact q
 | _=>cases h3
end
theorem rO.or{C:Cfg}{r r':R2}{g g':D->D->Option D}(h:rO C r g)(h':rO C r' g'):rO C (λx y H Q=>r x y H Q\/r' x y H Q) (λx y=>(g x y).or (g' x y)):=by
 intro Pr F env σ H x y d vx vy Q rl hx hy e q;have e:(g x y).or (g' x y)=some d:=e;cases e1:g x y with
 | some c=>
  rw[e1] at e;cases e;exact .inl (h Pr F env σ H x y d vx vy Q rl hx hy e1 q)
 | none=>
  rw[e1] at e;exact .inr (h' Pr F env σ H x y d vx vy Q rl hx hy e q)
section
variable{X:Cx}{C:Cfg}
def ab9(x y:D):Option D:=match Ft y with
 | some ys=>(Lg x ys).map .bl
 | none=>none
def xO(x y:D):Option D:=match Ft y with
 | some ys=>(Lg x ys).map λb=>.bl (!b)
 | none=>none
theorem aax:rO C (M7 C.K false) ab9:=by
 intro Pr F env σ H x y d vx vy Q r hx hy h q;unfold ab9 at h;cases e1:Ft y with
 | none=>rw[e1] at h;cases h
 | some ys=>
  rw[e1] at h;cases e:Lg x ys with
  | none=>simp only[e,Option.map_none] at h;cases h
  | some b=>
   simp only[e,Option.map_some] at h;cases h;exact⟨x,y,ys,b,hx.rep r.fr,hy.rep r.fr,e1,e,q _ H F r (aP.refl F) rfl⟩
theorem Nx:rO C (M7 C.K true) xO:=by
 intro Pr F env σ H x y d vx vy Q r hx hy h q;unfold xO at h;cases e1:Ft y with
 | none=>rw[e1] at h;cases h
 | some ys=>
  rw[e1] at h;cases e:Lg x ys with
  | none=>simp only[e,Option.map_none] at h;cases h
  | some b=>
   simp only[e,Option.map_some] at h;cases h;exact⟨x,y,ys,b,hx.rep r.fr,hy.rep r.fr,e1,e,q _ H F r (aP.refl F) rfl⟩
def ab8(x y:D):Option D:=match x,y with
 | .str [c],.str z=>some (.bl (decide (c∈z)))
 | _,_=>none
def DG(x y:D):Option D:=match x,y with
 | .str [c],.str z=>some (.bl (!decide (c∈z)))
 | _,_=>none
abbrev adz:R2:=λx y H Q=>∃i j,x = .str i/\y = .str j/\Q (.bl (!(Builtin.Str.occurrences j i 0 j.length 1).isEmpty)) H
abbrev KJ:R2:=λx y H Q=>∃i j,x = .str i/\y = .str j/\Q (.bl (!(!(Builtin.Str.occurrences j i 0 j.length 1).isEmpty))) H
theorem one_sign(c:Nat)(z:List Nat):(!(Builtin.Str.occurrences (strOf z) (strOf [c]) 0 (strOf z).length 1).isEmpty)=decide (c∈z):=by
 have:=StrLaws.found_one (strOf z) c;unfold strOf at this ⊢
 simpa using this
theorem aaw:rO C adz ab8:=by
 intro Pr F env σ H x y d vx vy Q r hx hy h q;unfold ab8 at h;split at h
 ·rename_i c z;cases h;obtain⟨rfl,_⟩:=hx.str;obtain⟨rfl,_⟩:=hy.str;refine⟨_,_,rfl,rfl,?_⟩;rw[one_sign];exact q _ H F r (aP.refl F) rfl
 ·cases h
theorem Nv:rO C KJ DG:=by
 intro Pr F env σ H x y d vx vy Q r hx hy h q;unfold DG at h;split at h
 ·rename_i c z;cases h;obtain⟨rfl,_⟩:=hx.str;obtain⟨rfl,_⟩:=hy.str;refine⟨_,_,rfl,rfl,?_⟩;rw[one_sign];exact q _ H F r (aP.refl F) rfl
 ·cases h
def gIn(x y:D):Option D:=(ab9 x y).or (ab8 x y)
def qO(x y:D):Option D:=(xO x y).or (DG x y)
abbrev adA(K:Fg):R2:=λx y H Q=>M7 K false x y H Q\/adz x y H Q
abbrev KN(K:Fg):R2:=λx y H Q=>M7 K true x y H Q\/KJ x y H Q
theorem aak(hu:X.A.units+61<cLine):pA X (compareOp .In) (adA X.K):=(aaj hu).or Nt
theorem Nr(hu:X.A.units+61<cLine):pA X (compareOp .NotIn) (KN X.K):=(Nq hu).or Dg
theorem adU:rO C (adA C.K) gIn:=aax.or aaw
theorem Ra:rO C (KN C.K) qO:=Nx.or Nv
def isPlain(x:V):Prop:=x = .non\/∃b,x = .bl b
theorem aai:pA X (compareOp .Is) (λx y H Q=>isPlain y/\Q (.bl (decide (x=y))) H):=by
 intro pins s σ H x y v u Q I rx ry h;obtain⟨hp,q⟩:=h;rcases hp with rfl|⟨b,rfl⟩
 ·exact aah pins s σ H x .non v u Q I rx ry ⟨rfl,q⟩
 ·cases ry;refine wpAny_is_plain ?_ (DQ I q ?_)
  ·cases x<;>first|(cases rx;rfl)|(obtain⟨t,rfl⟩:=rx;rfl)
  ·cases x with
   | bl c=>cases rx;cases b<;>cases c<;>rfl
   | _=>first|(cases rx;rfl)|(obtain⟨t,rfl⟩:=rx;rfl)
def isD:D->D->Option Bool
 | .non,.non=>some true
 | .bl a,.bl b=>some (a == b)
 | _,.non=>some false
 | _,.bl _=>some false
 | _,_=>none
def gIs(x y:D):Option D:=(isD x y).map .bl
theorem aeE{F H:Hp}{x y:D}{vx vy:V}{b:Bool}(hx:jj C.K F H x vx)(hy:jj C.K F H y vy)(h:isD x y=some b):isPlain vy/\decide (vx=vy)=b:=by
 have af8:∀a,¬(V.ref a=V.non):=λa e=>by cases e
 cases y with
 | non=>
  obtain rfl:=hy.non;refine⟨.inl rfl,?_⟩;cases x with
  | non=>obtain rfl:=hx.non;simp[isD] at h;simp[h]
  | bl c=>obtain rfl:=hx.bl;simp[isD] at h;simp[h]
  | int i=>obtain rfl:=hx.int;simp[isD] at h;simp[h]
  | str z=>obtain⟨rfl,_⟩:=hx.str;simp[isD] at h;simp[h]
  | tup xs=>rcases hx with ⟨_,a,_,rfl,_⟩|⟨a,rfl,_⟩<;>(simp[isD] at h;simp[h])
  | lst xs=>rcases hx with ⟨_,a,_,rfl,_⟩|⟨a,rfl,_⟩<;>(simp[isD] at h;simp[h])
  | arr xs=>rcases hx with ⟨_,a,_,rfl,_⟩|⟨a,rfl,_⟩<;>(simp[isD] at h;simp[h])
  | dct xs=>rcases hx with ⟨_,a,_,rfl,_⟩|⟨a,rfl,_⟩<;>(simp[isD] at h;simp[h])
  | m9 xs=>rcases hx with ⟨_,a,_,rfl,_⟩|⟨a,rfl,_⟩<;>(simp[isD] at h;simp[h])
 | bl k=>
  obtain rfl:=hy.bl;refine⟨.inr ⟨k,rfl⟩,?_⟩;cases x with
  | non=>obtain rfl:=hx.non;simp[isD] at h;simp[h]
  | bl c=>obtain rfl:=hx.bl;simp only[isD,Option.some.injEq] at h;rw[<-h,acv]
  | int i=>obtain rfl:=hx.int;simp[isD] at h;simp[h]
  | str z=>obtain⟨rfl,_⟩:=hx.str;simp[isD] at h;simp[h]
  | tup xs=>rcases hx with ⟨_,a,_,rfl,_⟩|⟨a,rfl,_⟩<;>(simp[isD] at h;simp[h])
  | lst xs=>rcases hx with ⟨_,a,_,rfl,_⟩|⟨a,rfl,_⟩<;>(simp[isD] at h;simp[h])
  | arr xs=>rcases hx with ⟨_,a,_,rfl,_⟩|⟨a,rfl,_⟩<;>(simp[isD] at h;simp[h])
  | dct xs=>rcases hx with ⟨_,a,_,rfl,_⟩|⟨a,rfl,_⟩<;>(simp[isD] at h;simp[h])
  | m9 xs=>rcases hx with ⟨_,a,_,rfl,_⟩|⟨a,rfl,_⟩<;>(simp[isD] at h;simp[h])
 | _=>cases x<;>simp[isD] at h
theorem adT:rO C (λx y H Q=>isPlain y/\Q (.bl (decide (x=y))) H) gIs:=by
 intro Pr F env σ H x y d vx vy Q r hx hy h q;unfold gIs at h;cases e:isD x y with
 | none=>rw[e] at h;cases h
 | some b=>
  rw[e] at h;cases h;obtain⟨h1,h2⟩:=aeE hx hy e;exact⟨h1,by rw[h2];exact q _ H F r (aP.refl F) rfl⟩
def gI(c:Int->Int->Bool)(f:Int->Int->D)(x y:D):Option D:=match x,y with
 | .int i,.int j=>if c i j=true then some (f i j) else none
 | _,_=>none
theorem Rc{Cd:Int->Int->Prop}{c:Int->Int->Bool}{f:Int->Int->D}{g:Int->Int->V}(hc:∀i j,c i j=true->Cd i j)(hf:∀i j F,Rep C.K F (f i j) (g i j)):rO C (rI Cd g) (gI c f):=by
 intro Pr F env σ H x y d vx vy Q r hx hy h q;unfold gI at h;split at h
 ·rename_i i j;split at h
  ·rename_i hcc;cases h;obtain rfl:=hx.int;obtain rfl:=hy.int;exact⟨i,j,rfl,rfl,hc i j hcc,q _ H F r (aP.refl F) (hf i j F)⟩
  ·cases h
 ·cases h
theorem Yu{f:Int->Int->D}{g:Int->Int->V}(hf:∀i j F,Rep C.K F (f i j) (g i j)):rO C (Ym g) (gI (λ_ _=>true) f):=by
 intro Pr F env σ H x y d vx vy Q r hx hy h q;unfold gI at h;split at h
 ·rename_i i j;rw[if_pos rfl] at h;cases h;obtain rfl:=hx.int;obtain rfl:=hy.int;exact⟨i,j,rfl,rfl,q _ H F r (aP.refl F) (hf i j F)⟩
 ·cases h
def lr(i j:Int):Bool:=decide (Builtin.Int.intBits i+Builtin.Int.intBits j<=134217728)
theorem V5:pA X (binaryOp .Mult) (rI (λi j=>lr i j=true) λi j=>.int (i*j)):=
 opI λi j _ _ _ _ _ hc q=>mul_int q (mulOk_of_bits (Nat.le_refl _) (Nat.le_refl _) (of_decide_eq_true hc))
def t6:D->D->Option D:=gI lr λi j=>.int (i*j)
def qM:D->D->Option D:=gI (λ_ _=>true) λi j=>.int (i - j)
def ab2:D->D->Option D:=gI (λ_ j=>decide (0<j)) λi j=>.int (i % j)
def J3:D->D->Option D:=gI (λi j=>decide (0<=j/\j<=1000000/\i.natAbs<2^64)) λi j=>.int (i^j.toNat)
def WX:D->D->Option D:=gI (λi j=>decide (0<=j/\j<=1000000/\i.natAbs<2^64)) λi j=>.int (i*2^j.toNat)
def G8:D->D->Option D:=gI (λ_ j=>decide (0<=j)) λi j=>.int (i / 2^j.toNat)
def G9:D->D->Option D:=gI (λ_ _=>true) λi j=>.int (Builtin.bitAnd i j)
theorem aau:rO C (rI (λi j=>lr i j=true) λi j=>.int (i*j)) t6:=Rc (λ_ _ h=>h) λ_ _ _=>rfl
theorem aaq:rO C (Ym λi j=>.int (i - j)) qM:=Yu λ_ _ _=>rfl
theorem aav:rO C (rI (λ_ j=>0<j) λi j=>.int (i % j)) ab2:=Rc (λ_ _ h=>of_decide_eq_true h) λ_ _ _=>rfl
theorem aat:rO C (rI Yc λi j=>.int (i^j.toNat)) J3:=Rc (λi j h=>(show 0<=j/\j<=1000000/\i.natAbs<2^64 from of_decide_eq_true h)) λ_ _ _=>rfl
theorem aas:rO C (rI Yc λi j=>.int (i*2^j.toNat)) WX:=Rc (λi j h=>(show 0<=j/\j<=1000000/\i.natAbs<2^64 from of_decide_eq_true h)) λ_ _ _=>rfl
theorem aar:rO C (rI (λ_ j=>0<=j) λi j=>.int (i / 2^j.toNat)) G8:=Rc (λ_ _ h=>of_decide_eq_true h) λ_ _ _=>rfl
theorem aay:rO C (Ym λi j=>.int (Builtin.bitAnd i j)) G9:=Yu λ_ _ _=>rfl
def agR:D->D->Option D:=gI (λ_ _=>true) λi j=>.bl (decide (i<j))
def agQ(x y:D):Option D:=match x,y with
 | .str a,.str b=>some (.bl (decide (a<b)))
 | _,_=>none
def gLt(x y:D):Option D:=(agR x y).or (agQ x y)
def gLe:D->D->Option D:=gI (λ_ _=>true) λi j=>.bl (decide (i<=j))
def gGt:D->D->Option D:=gI (λ_ _=>true) λi j=>.bl (decide (j<i))
def gGe:D->D->Option D:=gI (λ_ _=>true) λi j=>.bl (decide (j<=i))
end
abbrev tQ(e:Expr)(E:PySem.Env):Prop:=starEach [e] E=(false,eval e E)::starEach [] E
section
variable{X:Cx}{C:Cfg}
def QC(K:Fg):R2:=λx y H Q=>∃a b ys,x = .ref a/\y = .ref b/\nG K H a []/\nG K H b ys/\Q (.ref b) H
theorem Q9:pA X (binaryOp .Add) (QC X.K):=by
 intro pins s σ H x y v u Q I rx ry h;obtain⟨a,b,ys,rfl,rfl,ha,hb,q⟩:=h;cases rx;cases ry;obtain⟨its,r1,p1,_⟩:=I.tuple ha;obtain⟨its2,r2,p2,_⟩:=I.tuple hb;cases r1;obtain⟨⟨cls,dd,data,sl⟩,ho,hc,n,hd⟩:=id p1;obtain⟨⟨cls2,dd2,data2,sl2⟩,ho2,hc2,n2,hd2⟩:=id p2;simp only at hc hd hc2 hd2;subst hc hd hc2 hd2;exact concat_meets ⟨_,ho,rfl⟩ ⟨_,ho2,rfl⟩ noFill_tuple_add seq_tuple_add PySem.F.slot_tuple_add PySem.F.entry_tuple_add (PySem.F.args_tuple_add_2 _ _)
  (tuple_addW0 a b ([]:List Value).toArray its2.toArray n n2 dd dd2 sl sl2 (by simp)) ⟨ho,ho2,⟨.ref b,H,I,rfl,q⟩⟩
abbrev adD:R2:=λx y H Q=>∃i j,x = .str i/\y = .str j/\i.length+j.length<=sizeLine/\Q (.str (i++j)) H
abbrev adE(K:Fg):R2:=λx y H Q=>Ym (λi j=>.int (i+j)) x y H Q\/adD x y H Q\/adC x y H Q\/Yo K x y H Q\/QC K x y H Q
theorem V7:pA X (binaryOp .Add) (adE X.K):=aao.or (Jt.or (aam.or (V6.or Q9)))
def bJ(x y:D):Option D:=match x,y with
 | .int i,.int j=>some (.int (i+j))
 | .str a,.str b=>if a.length+b.length<=sizeLine then some (.str (a++b)) else none
 | .lst a,.lst b=>if a.length+b.length<=sizeLine then some (.lst (a++b)) else none
 | .tup a,.tup b=>if a.length+b.length<=sizeLine then some (.tup (a++b)) else none
 | _,_=>none
theorem Cv(a b:List Nat):strOf a++strOf b=strOf (a++b):=by show(⟨(strOf a).cps++(strOf b).cps⟩:Str)=_;unfold strOf;simp
theorem fV(a:List Nat):(strOf a).length=a.length:=by show a.toArray.size=a.length;simp
theorem aaz:rO C (adE C.K) bJ:=by
 intro Pr F env σ H x y d vx vy Q r hx hy h q;unfold bJ at h;split at h
 ·cases h;obtain rfl:=hx.int;obtain rfl:=hy.int;exact .inl ⟨_,_,rfl,rfl,q _ H F r (aP.refl F) rfl⟩
 ·split at h
  ·rename_i hz;cases h;obtain⟨rfl,_⟩:=hx.str;obtain⟨rfl,_⟩:=hy.str;refine .inr (.inl ⟨_,_,rfl,rfl,by rw[fV,fV];exact hz,?_⟩);rw[Cv];exact q _ H F r (aP.refl F) ⟨rfl,by rw[List.length_append];exact hz⟩
  ·cases h
 ·split at h
  ·rename_i hz;cases h;obtain⟨_,a,vs,rfl,h1,h2⟩:=hx.lst r.fr;obtain⟨_,b,ws,rfl,h3,h4⟩:=hy.lst r.fr;refine .inr (.inr (.inl ⟨a,b,vs,ws,rfl,rfl,h1,h3,by rw[h2.length,h4.length];exact hz,λp hp=>?_⟩));obtain⟨r2,s2⟩:=r.new (o:=.lst (vs++ws)) hp;exact q _ _ _ r2 s2 ⟨by rw[List.length_append];exact hz,p,_,rfl,aU,bI.mono s2 _ _ (h2.append h4)⟩
  ·cases h
 ·split at h
  ·rename_i hz;cases h;obtain⟨z1,a,vs,rfl,h1,f1,h2⟩:=hx.tup r.fr;obtain⟨z2,b,ws,rfl,h3,f3,h4⟩:=hy.tup r.fr;by_cases hv:vs=[]
   ·subst hv;have e1:_=0:=h2.length.symm;have e2:=List.eq_nil_of_length_eq_zero e1;subst e2;refine .inr (.inr (.inr (.inr ⟨a,b,ws,rfl,rfl,h1,h3,?_⟩)));exact q _ H F r (aP.refl F) ⟨z2,b,ws,rfl,f3,h4⟩
   ·refine .inr (.inr (.inr (.inl ⟨a,b,vs,ws,rfl,rfl,h1,h3,hv,by rw[h2.length,h4.length];exact hz,λhw=>?_,λhw p hp=>?_⟩)))
    ·subst hw;have e1:_=0:=h4.length.symm;have e2:=List.eq_nil_of_length_eq_zero e1;subst e2;rw[List.append_nil] at q;exact q _ H F r (aP.refl F) ⟨z1,a,vs,rfl,f1,h2⟩
    ·obtain⟨r2,s2⟩:=r.new (o:=.tup (vs++ws)) hp;exact q _ _ _ r2 s2 ⟨by rw[List.length_append];exact hz,p,_,rfl,nG.of aU,bI.mono s2 _ _ (h2.append h4)⟩
  ·cases h
 ·cases h
def HD(K:Fg)(F H:Hp):List D->List V->Prop
 | [],vs=>vs=[]
 | d::ds,vs=>∃v r,vs=v::r/\jj K F H d v/\HD K F H ds r
def tAB(C:Cfg)(ev:cJ):TA:=λσ H Q=>∃(Pr F:Hp) (env env':Env) (ds:List D),Rel C Pr F env σ H/\ev env = .ok ds env'/\
 ∀vs H' F',Rel C Pr F' env' σ H'->aP F F'->HD C.K F' H' ds vs->Q vs H'
def uv(X:Cx)(C:Cfg)(es:List Expr)(ev:cJ):Prop:=PA X es (tAB C ev)
theorem bj{e:Expr}{a:Ev}(h:zV X C e a)(hs:tQ e X.env:=by rfl):uv X C [e] (aa a ao):=(iM h mV hs).imp λσ H Q hq=>by
 obtain⟨Pr,F,env,env',ds,rl,e,q⟩:=hq;obtain⟨d1,aD,e1,e2⟩:=aO e;cases e2;exact⟨Pr,F,env,env',d1,rl,e1,λv H1 F1 r1 s1 p1=>q _ H1 F1 r1 s1 ⟨v,[],rfl,p1,rfl⟩⟩
theorem vW{e:Expr}{es:List Expr}{a:Ev}{r:cJ}(ha:PX X C e a)(hr:uv X C es r)(hs:starEach (e::es) X.env=(false,eval e X.env)::starEach es X.env:=by rfl):uv X C (e::es) (aa a r):=
 (iM ha hr hs).imp λσ H Q h=>by
  obtain⟨Pr,F,env,env',ds,rl,e,q⟩:=h;obtain⟨d1,aD,e1,e2⟩:=aO e;obtain⟨zy,dh,e3,e4⟩:=aO e2;cases e4;refine⟨Pr,F,env,aD,d1,rl,e1,λv H1 F1 r1 s1 p1=>?_⟩;refine⟨Pr,F1,aD,env',zy,r1,e3,λvs H2 F2 r2 s2 p2=>?_⟩;exact q _ H2 F2 r2 (s1.trans s2) ⟨v,vs,rfl,.inl (Rep.mono s2 d1 v p1),p2⟩
def CallD(C:Cfg)(r:List V->Hp->VK->Prop)(g:List D->Option D):Prop:=∀(Pr F:Hp) (env:Env) (σ:L2.St) (H:Hp) (ds:List D) (d:D) (vs:List V) (Q:VK),Rel C Pr F env σ H->HD C.K F H ds vs->g ds=some d->
 (∀v H' F',Rel C Pr F' env σ H'->aP F F'->Rep C.K F' d v->Q v H')->r vs H Q
def az(g:List D->Option D)(a:cJ):Ev:=λenv=>bindR (a env) λds aD=>d9 (g ds) aD
theorem LQ{r:List V->Hp->VK->Prop}{g:List D->Option D}{a:cJ}(o:CallD C r g)(σ:L2.St)(H:Hp)(Q:VK)(h:tE C (az g a) σ H Q):tCB r (tAB C a) σ H Q:=by obtain⟨Pr,F,env,env',d,rl,e,q⟩:=h;obtain⟨ds,aD,e1,e2⟩:=aO e;obtain⟨e3,rfl⟩:=dC e2;exact⟨Pr,F,env,env',ds,rl,e1,λvs H1 F1 r1 s1 p1=>o Pr F1 env' σ H1 ds d vs Q r1 p1 e3 λv H2 F2 r2 s2 p2=>q v H2 F2 r2 (s1.trans s2) p2⟩
theorem qD{x:Str}{p pos:Pos}{e:Expr}{es:List Expr}{id:String}{r:List V->Hp->VK->Prop}{g:List D->Option D}{a:cJ}(hc:ji X (.builtin id) r)(o:CallD C r g)(hg:Gl X x)(hm:X.mg x=none)(hv:bootBuiltins x=some (.builtin id))(ha:uv X C (e::es) a)
  (hn:x ≠ "__name__":=by decide) (hdb:j9 x:=by decide) (he:starEach (e::es) X.env=(false,eval e X.env)::starEach es X.env:=by rfl) (hpl:(backTo pos (starEach es X.env)).any (·.1)=false:=by rfl) :
  PX X C (.Call (.Name x p) (e::es) [] pos) (az g a):=(yP hc hg hm hv ha hn hdb he hpl).imp (LQ o)
theorem vX{x:Str}{p pos:Pos}{e:Expr}{es:List Expr}{T:String}{r:List V->Hp->VK->Prop}{g:List D->Option D}{a:cJ}(hc:ji X (.type T) r)(o:CallD C r g)(hg:Gl X x)(hm:X.mg x=none)(hv:bootBuiltins x=some (.type T))(ha:uv X C (e::es) a)
  (hn:x ≠ "__name__":=by decide) (hdb:j9 x:=by decide) (he:starEach (e::es) X.env=(false,eval e X.env)::starEach es X.env:=by rfl) (hpl:(backTo pos (starEach es X.env)).any (·.1)=false:=by rfl) :
  PX X C (.Call (.Name x p) (e::es) [] pos) (az g a):=(oX hc hg hm hv ha hn hdb he hpl).imp (LQ o)
theorem lW{K:Fg}{F H:Hp}{d:D}{vs:List V}(h:HD K F H [d] vs):∃v,vs=[v]/\jj K F H d v:=by obtain⟨v,r,rfl,h1,h2⟩:=h;cases h2;exact⟨v,rfl,h1⟩
theorem acB{K:Fg}{F H:Hp}{d e:D}{vs:List V}(h:HD K F H [d,e] vs):∃v w,vs=[v,w]/\jj K F H d v/\jj K F H e w:=by obtain⟨v,r,rfl,h1,h2⟩:=h;obtain⟨w,rfl,h3⟩:=lW h2;exact⟨v,w,rfl,h1,h3⟩
def f9:List D->Option D
 | [.str x]=>some (.int x.length)
 | [.tup xs]=>some (.int xs.length)
 | [.lst xs]=>some (.int xs.length)
 | [.arr xs]=>some (.int xs.length)
 | _=>none
theorem acy:CallD C (λxs H Q=>∃x n,xs=[x]/\afq C.K x H n/\Q (.int n) H) f9:=by
 intro Pr F env σ H ds d vs Q r hs h q;unfold f9 at h;split at h
 ·cases h;obtain⟨v,rfl,hv⟩:=lW hs;obtain⟨rfl,hz⟩:=hv.str;exact⟨_,_,rfl,⟨by rw[fV];exact hz,(fV _).symm⟩,q _ H F r (aP.refl F) rfl⟩
 ·cases h;obtain⟨v,rfl,hv⟩:=lW hs;obtain⟨_,a,ws,rfl,h1,_,h2⟩:=hv.tup r.fr;exact⟨_,_,rfl,.inr ⟨ws,h1,h2.length.symm⟩,q _ H F r (aP.refl F) rfl⟩
 ·cases h;obtain⟨v,rfl,hv⟩:=lW hs;obtain⟨_,a,ws,rfl,h1,h2⟩:=hv.lst r.fr;exact⟨_,_,rfl,.inl ⟨ws,jT.of h1,h2.length.symm⟩,q _ H F r (aP.refl F) rfl⟩
 ·cases h;obtain⟨v,rfl,hv⟩:=lW hs;obtain⟨_,a,ws,rfl,h1,h2⟩:=hv.arr r.fr;exact⟨_,_,rfl,.inl ⟨ws,h1,h2.length.symm⟩,q _ H F r (aP.refl F) rfl⟩
 ·cases h
def cG:List D->Option D
 | [.tup xs]=>some (.tup xs)
 | [.lst xs]=>some (.tup xs)
 | _=>none
abbrev Qu(K:Fg):List V->Hp->VK->Prop:=λxs H Q=>∃p ys,xs=[.ref p]/\((jT K H p ys/\∀l,H l=none->Q (.ref l) (upd H l (.tup ys)))\/(nG K H p ys/\Q (.ref p) H))
theorem Tv:CallD C (Qu C.K) cG:=by
 intro Pr F env σ H ds d vs Q r hs h q;unfold cG at h;split at h
 ·cases h;obtain⟨v,rfl,hv⟩:=lW hs;obtain⟨z,a,ws,rfl,h1,f1,h2⟩:=hv.tup r.fr;exact⟨a,ws,rfl,.inr ⟨h1,q _ H F r (aP.refl F) ⟨z,a,ws,rfl,f1,h2⟩⟩⟩
 ·cases h;obtain⟨v,rfl,hv⟩:=lW hs;obtain⟨z,a,ws,rfl,h1,h2⟩:=hv.lst r.fr;refine⟨a,ws,rfl,.inl ⟨jT.of h1,λl hl=>?_⟩⟩;obtain⟨r2,s2⟩:=r.new (o:=.tup ws) hl;exact q _ _ _ r2 s2 ⟨z,l,ws,rfl,nG.of aU,bI.mono s2 _ _ h2⟩
 ·cases h
def signs(x:List Nat):List D:=x.map λc=>.str [c]
abbrev Qw:List V->Hp->VK->Prop:=λxs H Q=>∃z,xs=[.str z]/\z.length<=sizeLine/\∀l,H l=none->Q (.ref l) (upd H l (.lst (z.cps.toList.map λc=>V.str ⟨#[c]⟩)))
theorem Ka(hh:X.calm=true):ji X (.type "list") Qw:=by
 intro pins s σ H xs us Q I r h;obtain⟨z,rfl,hz,q⟩:=h;obtain⟨u,rfl,⟨t,rfl⟩⟩:=vals1 r;refine call_list_str (I.ok.hd hh) z t (λh' tk acc' c' kp e hacc=>?_) hz;refine⟨.ref s.heap.objs.size,_,I.laid kp (Nat.le_refl _) (show gP X.prog X.w _ h' _ (.lst (z.cps.toList.map λc=>V.str ⟨#[c]⟩)) from⟨?_,acc'.toList,c',?_,by simpa using e⟩),rfl,q _ (I.hok.fresh (Nat.le_refl _))⟩
 ·simpa[Str.length] using hz
 ·obtain⟨hsz,hit⟩:=hacc;have go:∀(cs:List Nat) (vs:List Value),vs.length=cs.length->(∀(j:Nat) (v:Value),vs[j]? = some v->∃(c:Nat) (u:Tok),cs[j]? = some c/\v=Value.str ⟨#[c]⟩ u)->Vals (cs.map λc=>V.str ⟨#[c]⟩) vs:=by
   intro cs
   induction cs with
   | nil=>intro vs hl _;rw[List.eq_nil_of_length_eq_zero hl];exact .nil
   | cons c cs ih=>
    intro vs hl hv;cases vs with
    | nil=>simp at hl
    | cons v vs=>
     obtain⟨c',u,e1,e2⟩:=hv 0 v rfl;simp at e1;subst e1 e2;exact .cons ⟨u,rfl⟩ (ih vs (by simpa using hl) λj w hw=>by simpa using hv (j+1) w (by simpa using hw))
  refine go _ _ (by simpa using hsz) λj v hv=>?_;obtain⟨c,u,e1,e2⟩:=hit j v (by simpa using hv);exact⟨c,u,by simpa using e1,e2⟩
def qP:List D->Option D
 | [.tup xs]=>some (.lst xs)
 | [.lst xs]=>some (.lst xs)
 | [.str x]=>some (.lst (signs x))
 | _=>none
abbrev Qy(K:Fg):List V->Hp->VK->Prop:=λxs H Q=>(∃p ys,xs=[.ref p]/\(jT K H p ys\/nG K H p ys)/\∀l,H l=none->Q (.ref l) (upd H l (.lst ys)))\/Qw xs H Q
theorem Kd(hh:X.calm=true):ji X (.type "list") (Qy X.K):=Ed.or (Ka hh)
theorem yz{K:Fg}{F:Hp}:∀x:List Nat,bI K F (signs x) (x.map λc=>V.str ⟨#[c]⟩)
 | []=>rfl
 | c::x=>⟨_,_,rfl,⟨rfl,by rw[sizeLine_eq];simp⟩,yz x⟩
theorem XC:CallD C (Qy C.K) qP:=by
 intro Pr F env σ H ds d vs Q r hs h q;unfold qP at h;split at h
 ·cases h;obtain⟨v,rfl,hv⟩:=lW hs;obtain⟨z,a,ws,rfl,h1,f1,h2⟩:=hv.tup r.fr;refine .inl ⟨a,ws,rfl,.inr h1,λl hl=>?_⟩;obtain⟨r2,s2⟩:=r.new (o:=.lst ws) hl;exact q _ _ _ r2 s2 ⟨z,l,ws,rfl,aU,bI.mono s2 _ _ h2⟩
 ·cases h;obtain⟨v,rfl,hv⟩:=lW hs;obtain⟨z,a,ws,rfl,h1,h2⟩:=hv.lst r.fr;refine .inl ⟨a,ws,rfl,.inl (jT.of h1),λl hl=>?_⟩;obtain⟨r2,s2⟩:=r.new (o:=.lst ws) hl;exact q _ _ _ r2 s2 ⟨z,l,ws,rfl,aU,bI.mono s2 _ _ h2⟩
 ·rename_i x;cases h;obtain⟨v,rfl,hv⟩:=lW hs;obtain⟨rfl,hz⟩:=hv.str;refine .inr ⟨_,rfl,by rw[fV];exact hz,λl hl=>?_⟩;obtain⟨r2,s2⟩:=r.new (o:=.lst ((strOf x).cps.toList.map λc=>V.str ⟨#[c]⟩)) hl;refine q _ _ _ r2 s2 ⟨by simpa[signs] using hz,l,_,rfl,aU,?_⟩;have e:(strOf x).cps.toList=x:=by simp[strOf]
  rw[e];exact yz x
 ·cases h
def my:List D->Option D
 | [.int i,.int j]=>if 0<j/\j<1073741824 then some (.tup [.int (i / j),.int (i % j)]) else none
 | _=>none
theorem OJ:CallD C (λxs H Q=>∃i j,xs=[.int i,.int j]/\afu i j/\∀p,H p=none->Q (.ref p) (upd H p (.tup [.int (i / j),.int (i % j)]))) my:=by
 intro Pr F env σ H ds d vs Q r hs h q;unfold my at h;split at h
 ·split at h
  ·rename_i hj;cases h;obtain⟨v,w,rfl,hv,hw⟩:=acB hs;obtain rfl:=hv.int;obtain rfl:=hw.int;refine⟨_,_,rfl,hj,λp hp=>?_⟩;obtain⟨r2,s2⟩:=r.new (o:=.tup [.int _,.int _]) hp;exact q _ _ _ r2 s2 ⟨by rw[sizeLine_eq];simp,p,_,rfl,nG.of aU,⟨_,_,rfl,rfl,_,_,rfl,rfl,rfl⟩⟩
  ·cases h
 ·cases h
def Uk:D->String
 | .non=>"NoneType"
 | .bl _=>"bool"
 | .int _=>"int"
 | .str _=>"str"
 | .tup _=>"tuple"
 | .lst _=>"list"
 | .arr _=>"list"
 | .dct _=>"dict"
 | .m9 _=>"dict"
def o6(d:D)(T:String):Bool:=Uk d == T||(Uk d == "bool" && T == "int")
theorem abI{d:D}{u c:Value}{b:Bool}{s:Shared}{A:Around}{E:Value->Shared->Prop}{Q:Value->Shared->Prop}(N5:X.K.In s.heap)(h:Sh s.heap d u)(e:PySem.W.kitOne X.K (.type (Uk d)) c=some b)(q:∀tk,Q (.bool b) { s with toks:=tk }) :
  wpAny (model X.prog X.w) A (call (.builtin "isinstance") [u,c]) Q E s:=by
 cases d with
 | non=>cases h;exact PySem.W.kia_one PySem.W.kitx_none N5 True.intro e (λz=>nomatch z) q
 | bl y=>cases h;exact PySem.W.kia_one PySem.W.kitx_bool N5 True.intro e (λz=>nomatch z) q
 | int i=>obtain⟨t,rfl⟩:=h;exact PySem.W.kia_one PySem.W.kitx_int N5 True.intro e (λz=>nomatch z) q
 | str y=>obtain⟨t,rfl⟩:=h;exact PySem.W.kia_one PySem.W.kitx_str N5 True.intro e (λz=>nomatch z) q
 | tup xs=>
  obtain⟨a,its,rfl,p,_⟩:=h;obtain⟨o,h1,h2,_⟩:=p;exact PySem.W.kia_one PySem.W.kitx_tuple N5 ⟨o,h1,h2⟩ e (λz=>nomatch z) q
 | lst xs=>
  obtain⟨a,its,rfl,p,_⟩:=h;obtain⟨o,h1,h2,_⟩:=p.isList;exact PySem.W.kia_one PySem.W.kitx_list N5 ⟨o,h1,h2⟩ e (λz=>nomatch z) q
 | arr xs=>
  obtain⟨a,its,rfl,p,_⟩:=h;obtain⟨o,h1,h2,_⟩:=p.isList;exact PySem.W.kia_one PySem.W.kitx_list N5 ⟨o,h1,h2⟩ e (λz=>nomatch z) q
 | dct kvs=>
  obtain⟨a,o,rfl,h1,h2⟩:=h;exact PySem.W.kia_one PySem.W.kitx_dict N5 ⟨o,h1,h2.1⟩ e (λz=>nomatch z) q
 | m9 kvs=>
  obtain⟨a,o,rfl,h1,h2⟩:=h;exact PySem.W.kia_one PySem.W.kitx_dict N5 ⟨o,h1,h2.1⟩ e (λz=>nomatch z) q
def Oh(T:String)(d:D):Option D:=some (.bl (o6 d T))
theorem TJ{T:String}(hk:∀d:D,PySem.W.kitOne X.K (.type (Uk d)) (.type T)=some (o6 d T)) :
  ji X (.builtin "isinstance") (λxs H Q=>∃d x,xs=[x,.ty T]/\Rep X.K H d x/\Q (.bl (o6 d T)) H):=by
 intro pins s σ H xs us Q I r h;obtain⟨d,x,rfl,hr,q⟩:=h;obtain⟨u,w,rfl,r1,r2⟩:=vals2 r;cases r2;exact abI (X:=X) I.YB (Rep.sh I d x u hr r1) (hk d) λtk=>⟨.bl _,H,I.tok tk,rfl,q⟩
theorem yJ{T:String}{xT:Str}{e:Expr}{a:Ev}{p q pos:Pos}(hg:Gl X "isinstance")(hm:X.mg "isinstance" = none)(hgT:Gl X xT)(hmT:X.mg xT=none)(hvT:bootBuiltins xT=some (.type T))
  (hk:∀d:D,PySem.W.kitOne X.K (.type (Uk d)) (.type T)=some (o6 d T)) (hK:X.K=C.K) (ha:PX X C e a) (hn:xT ≠ "__name__":=by decide) (hd:j9 xT:=by decide)
  (he:starEach [e,.Name xT q] X.env=(false,eval e X.env)::starEach [.Name xT q] X.env:=by rfl) :
  PX X C (.Call (.Name "isinstance" p) [e,.Name xT q] [] pos) (iI (Oh T) a):=by
 refine(yP (TJ hk) hg hm boot_isinstance (iM ha (iM (V0 (v:=.ty T) hgT hmT hvT rfl hn hd) mV) he) (by decide) (by decide) he rfl).imp λσ H Q h=>?_;obtain⟨Pr,F,env,env',d,rl,e1,qq⟩:=h;obtain⟨d0,aD,e2,e3⟩:=aO e1;obtain⟨e4,rfl⟩:=dC e3;cases e4;refine⟨Pr,F,env,env',d0,rl,e2,λv H1 F1 r1 s1 p1=>⟨d0,v,rfl,?_,qq _ H1 F1 r1 s1 rfl⟩⟩;rw[hK];exact Rep.mono r1.fr d0 v p1
def nD:List D->Option (List Bool)
 | []=>some []
 | .bl b::r=>(nD r).map (b :: ·)
 | _=>none
theorem yD{K:Fg}{F:Hp}:∀{ds:List D} {bs:List Bool} {vs:List V},nD ds=some bs->bI K F ds vs->vs=bs.map V.bl
 | [],bs,vs,h,hr=>by simp[nD] at h;subst h;cases hr;rfl
 | d::ds,bs,vs,h,hr=>by
  obtain⟨v,r,rfl,h1,h2⟩:=hr;cases d with
  | bl b=>
   simp only[nD] at h;cases e:nD ds with
   | none=>rw[e] at h;cases h
   | some cs=>
    rw[e] at h;cases h;cases h1;rw[yD e h2]
    rfl
  | _=>simp[nD] at h
theorem xZ:∀{bs:List Bool} {us:List Value},Vals (bs.map V.bl) us->us=bs.map Value.bool
 | [],_,.nil=>rfl
 | b::bs,_,.cons r t=>by
  cases r;rw[xZ t]
  rfl
theorem Av(bs:List Bool):(List.range bs.length).all (λi=>bs.getD i true)=bs.all id:=by
 induction bs with
 | nil=>rfl
 | cons b bs ih=>
  rw[List.length_cons,List.range_succ_eq_map,List.all_cons,List.all_map,List.all_cons];simp only[List.getD_cons_zero,id]
  congr 1
theorem Aq(bs:List Bool):(List.range bs.length).any (λi=>bs.getD i true)=bs.any id:=by
 induction bs with
 | nil=>rfl
 | cons b bs ih=>
  rw[List.length_cons,List.range_succ_eq_map,List.any_cons,List.any_map,List.any_cons];simp only[List.getD_cons_zero,id]
  congr 1
theorem O5(hc:X.calm=true):ji X (.builtin "all") (λxs H Q=>∃(p:Addr) (bs:List Bool),xs=[.ref p]/\jT X.K H p (bs.map V.bl)/\Q (.bl (bs.all id)) H):=by
 intro pins s σ H xs us Q I r h;obtain⟨p,bs,rfl,hq,q⟩:=h;obtain⟨u,rfl,rx⟩:=vals1 r;cases rx;obtain⟨its,rv,pl,_⟩:=I.list hq;have e:=xZ rv;subst e;refine call_all_walk (wpAny_pyIter_list pl.isList ?_);have hlt:p<s.heap.objs.size:=by obtain⟨o,e,_⟩:=pl.isList;exact Heap.lt_size e
 refine⟨s.heap.objs.size,_,_,_,_,_,λi=>bs.getD i true,rfl,Walks.list (A:=X.A.in1) (show X.A.in1.handled=none from I.ok.hd hc) s.heap.objs.size p (Nat.ne_of_lt hlt) (bs.map Value.bool).toArray,⟨⟨_,Heap.get?_push_size _ rfl,rfl,rfl⟩,by obtain⟨o,e,rr⟩:=pl.isList;exact⟨o,Heap.get?_push_of_some _ e,rr⟩⟩,?_,λh' tk hk=>?_⟩
 ·intro i v s' Q' E' hv hq';have hv:(bs.map Value.bool).toArray[i]? = some v:=hv;rw[List.getElem?_toArray,List.getElem?_map] at hv;cases hb:bs[i]? with
  | none=>rw[hb] at hv;cases hv
  | some b=>
   rw[hb] at hv;cases hv;refine wpAny_truthy_bool ?_;have this:bs.getD i true=b:=by simp[List.getD_eq_getElem?_getD,hb]
   have hq':Q' (bs.getD i true) s':=hq'
   rwa [this] at hq'
 ·have I1:Inv X pins σ H { s with heap:=h',toks:=tk }:=I.kept λb o e=>hk b o (by simp;exact Nat.ne_of_lt (Heap.lt_size e)) (Heap.get?_push_of_some _ e);refine⟨.bl _,H,I1,rfl,?_⟩;have e2:(bs.map Value.bool).toArray.size=bs.length:=by simp
  rw[e2,Av];exact q
theorem O4(hc:X.calm=true):ji X (.builtin "any") (λxs H Q=>∃(p:Addr) (bs:List Bool),xs=[.ref p]/\jT X.K H p (bs.map V.bl)/\Q (.bl (bs.any id)) H):=by
 intro pins s σ H xs us Q I r h;obtain⟨p,bs,rfl,hq,q⟩:=h;obtain⟨u,rfl,rx⟩:=vals1 r;cases rx;obtain⟨its,rv,pl,_⟩:=I.list hq;have e:=xZ rv;subst e;refine call_any_walk (wpAny_pyIter_list pl.isList ?_);have hlt:p<s.heap.objs.size:=by obtain⟨o,e,_⟩:=pl.isList;exact Heap.lt_size e
 refine⟨s.heap.objs.size,_,_,_,_,_,λi=>bs.getD i true,rfl,Walks.list (A:=X.A.in1) (show X.A.in1.handled=none from I.ok.hd hc) s.heap.objs.size p (Nat.ne_of_lt hlt) (bs.map Value.bool).toArray,⟨⟨_,Heap.get?_push_size _ rfl,rfl,rfl⟩,by obtain⟨o,e,rr⟩:=pl.isList;exact⟨o,Heap.get?_push_of_some _ e,rr⟩⟩,?_,λh' tk hk=>?_⟩
 ·intro i v s' Q' E' hv hq';have hv:(bs.map Value.bool).toArray[i]? = some v:=hv;rw[List.getElem?_toArray,List.getElem?_map] at hv;cases hb:bs[i]? with
  | none=>rw[hb] at hv;cases hv
  | some b=>
   rw[hb] at hv;cases hv;refine wpAny_truthy_bool ?_;have this:bs.getD i true=b:=by simp[List.getD_eq_getElem?_getD,hb]
   have hq':Q' (bs.getD i true) s':=hq'
   rwa [this] at hq'
 ·have I1:Inv X pins σ H { s with heap:=h',toks:=tk }:=I.kept λb o e=>hk b o (by simp;exact Nat.ne_of_lt (Heap.lt_size e)) (Heap.get?_push_of_some _ e);refine⟨.bl _,H,I1,rfl,?_⟩;have e2:(bs.map Value.bool).toArray.size=bs.length:=by simp
  rw[e2,Aq];exact q
def xE:List D->Option D
 | [.lst ds]=>(nD ds).map λbs=>.bl (bs.all id)
 | _=>none
def Ak:List D->Option D
 | [.lst ds]=>(nD ds).map λbs=>.bl (bs.any id)
 | _=>none
theorem acA:CallD C (λxs H Q=>∃(p:Addr) (bs:List Bool),xs=[.ref p]/\jT C.K H p (bs.map V.bl)/\Q (.bl (bs.all id)) H) xE:=by
 intro Pr F env σ H ds d vs Q r hs h q;unfold xE at h;split at h
 ·rename_i es;cases e:nD es with
  | none=>rw[e] at h;cases h
  | some bs=>
   rw[e] at h;cases h;obtain⟨v,rfl,hv⟩:=lW hs;obtain⟨z,a,ws,rfl,h1,h2⟩:=hv.lst r.fr;have e2:=yD e h2;subst e2;exact⟨a,bs,rfl,jT.of h1,q _ H F r (aP.refl F) rfl⟩
 ·cases h
theorem acz:CallD C (λxs H Q=>∃(p:Addr) (bs:List Bool),xs=[.ref p]/\jT C.K H p (bs.map V.bl)/\Q (.bl (bs.any id)) H) Ak:=by
 intro Pr F env σ H ds d vs Q r hs h q;unfold Ak at h;split at h
 ·rename_i es;cases e:nD es with
  | none=>rw[e] at h;cases h
  | some bs=>
   rw[e] at h;cases h;obtain⟨v,rfl,hv⟩:=lW hs;obtain⟨z,a,ws,rfl,h1,h2⟩:=hv.lst r.fr;have e2:=yD e h2;subst e2;exact⟨a,bs,rfl,jT.of h1,q _ H F r (aP.refl F) rfl⟩
 ·cases h
def jw:List D->Option (List (List Nat))
 | []=>some []
 | .str x::r=>(jw r).map (x :: ·)
 | _=>none
def wO(sep:List Nat):List (List Nat)->List Nat
 | []=>[]
 | x::r=>r.foldl (λacc y=>acc++sep++y) x
theorem R5(sep:List Nat)(xs:List (List Nat)):Txt.join (strOf sep) (xs.map strOf)=strOf (wO sep xs):=by
 unfold Txt.join;unfold Builtin.Str.glued;cases xs with
 | nil=>rfl
 | cons x r=>
  show(⟨(r.map strOf).foldl (λacc p=>acc++(strOf sep).cps++p.cps) (strOf x).cps⟩:Str)=strOf (r.foldl (λacc y=>acc++sep++y) x);have go:∀(r:List (List Nat)) (x:List Nat),(r.map strOf).foldl (λacc p=>acc++(strOf sep).cps++p.cps) (strOf x).cps=(strOf (r.foldl (λacc y=>acc++sep++y) x)).cps:=by
   intro r
   induction r with
   | nil=>intro x;rfl
   | cons y r ih=>
    intro x;rw[List.map_cons,List.foldl_cons,List.foldl_cons];rw[<-ih (x++sep++y)]
    congr 1
    simp[strOf]
  rw[go]
theorem vV{K:Fg}{F:Hp}:∀{ds:List D} {xs:List (List Nat)} {vs:List V},jw ds=some xs->bI K F ds vs->vs=xs.map λx=>V.str (strOf x)
 | [],bs,vs,h,hr=>by simp[jw] at h;subst h;cases hr;rfl
 | d::ds,bs,vs,h,hr=>by
  obtain⟨v,r,rfl,h1,h2⟩:=hr;cases d with
  | str b=>
   simp only[jw] at h;cases e:jw ds with
   | none=>rw[e] at h;cases h
   | some cs=>
    rw[e] at h;cases h;cases h1.1;rw[vV e h2]
    rfl
  | _=>simp[jw] at h
theorem vB:∀{xs:List (List Nat)} {us:List Value},Vals (xs.map λx=>V.str (strOf x)) us->StrsAre us (xs.map strOf)
 | [],_,.nil=>.nil
 | x::xs,_,.cons r t=>by
  obtain⟨k,rfl⟩:=r;exact .cons _ k (vB t)
def joinFits(sep:List Nat)(xs:List (List Nat)):Bool:=decide ((xs.map List.length).sum+xs.length*sep.length<=16777216)
def rJoin(K:Fg):V->List V->Hp->VK->Prop:=λx vs H Q=>∃sep xs p,x = .str (strOf sep)/\vs=[.ref p]/\jT K H p (xs.map λx=>V.str (strOf x))/\joinFits sep xs=true/\Q (.str (strOf (wO sep xs))) H
theorem Wd:MtR X "str.join" (rJoin X.K):=by
 intro pins s σ H x vs v us Q I rx rv h;obtain⟨sep,xs,p,rfl,rfl,hq,hf,q⟩:=h;obtain⟨t,rfl⟩:=rx;obtain⟨u,rfl,ru⟩:=vals1 rv;cases ru;obtain⟨its,r,pl,_⟩:=I.list hq;have hs:=vB r;refine join_list pl.isList (by simpa using hs) ?_ λt' k=>?_
 ·have hf':=of_decide_eq_true hf;have e:((xs.map strOf).map (·.length))=xs.map List.length:=by
   rw[List.map_map];apply List.map_congr_left;intro z _;exact fV z
  rw[e,fV,List.length_map];exact hf'
 ·rw[R5];exact⟨.str _,H,I.tok k,⟨t',rfl⟩,q⟩
theorem Fl(sep:List Nat):∀(r:List (List Nat)) (x:List Nat),(r.foldl (λacc y=>acc++sep++y) x).length=x.length+(r.map List.length).sum+r.length*sep.length
 | [],x=>by simp
 | y::r,x=>by
  rw[List.foldl_cons,Fl sep r,List.length_append,List.length_append,List.map_cons,List.sum_cons,List.length_cons,Nat.add_mul];omega
theorem R6{sep:List Nat}{xs:List (List Nat)}(h:joinFits sep xs=true):(wO sep xs).length<=sizeLine:=by
 have h':=of_decide_eq_true h;rw[sizeLine_eq];cases xs with
 | nil=>simp[wO]
 | cons x r=>
  show(r.foldl (λacc y=>acc++sep++y) x).length<=_;rw[Fl];rw[List.map_cons,List.sum_cons,List.length_cons,Nat.add_mul] at h';omega
def m5(x y:D):Option D:=match x,y with
 | .str sep,.lst ds=>(match jw ds with
  | some xs=>if joinFits sep xs=true then some (.str (wO sep xs)) else none
  | none=>none)
 | _,_=>none
theorem Vw{o e:Expr}{a b:Ev}{apos cpos:Pos}(hK:X.K=C.K)(ho:PX X C o a)(he:zV X C e b)(hbase:attributeBase o "join" X.env (eval o X.env)=eval o X.env:=by rfl)
  (hs:tQ e X.env:=by rfl)
  (hfew:((backTo cpos (starEach [e] X.env)).all (λx=>!x.1)&&(backToKw cpos (keywordEach [] X.env)).all (λx=>x.1.isSome)
   && decide ([e].length+([]:List Keyword).length+(if ([]:List Keyword).isEmpty then 0 else 1)<30))=true:=by rfl)
  (hline:(apos.endLine == cpos.line)=true:=by rfl) (hplain:(backTo cpos (starEach [] X.env)).any (·.1)=false:=by rfl) :
  PX X C (.Call (.Attribute o "join" apos) [e] [] cpos) (aH m5 a b):=by
 refine(Q4 PySem.F.plainAttrs_str PySem.F.slot_str_join PySem.F.type_str_join Wd ho (iM he mV hs) hbase hfew hline hs hplain).imp λσ H Q h=>?_;obtain⟨Pr,F,env,env',d,rl,e0,q⟩:=h;obtain⟨x,aD,e1,e2⟩:=aO e0;obtain⟨y,dh,e3,e4⟩:=aO e2;obtain⟨e5,rfl⟩:=dC e4;unfold m5 at e5;split at e5
 ·rename_i sep ds;split at e5
  ·rename_i xs hxs;split at e5
   ·rename_i hf;cases e5;refine⟨Pr,F,env,aD,_,rl,e1,λvx H1 F1 r1 s1 p1=>?_⟩;obtain⟨rfl,_⟩:=p1;refine⟨rfl,Pr,F1,aD,env',_,r1,e3,λvy H2 F2 r2 s2 p2=>?_⟩;obtain⟨z,l,ws,rfl,h1,h2⟩:=p2.lst r2.fr;have e6:=vV hxs h2;subst e6;exact⟨sep,xs,l,rfl,rfl,jT.of h1,hf,q _ H2 F2 r2 (s1.trans s2) ⟨rfl,R6 hf⟩⟩
   ·cases e5
  ·cases e5
 ·cases e5
end
theorem Rel.put{C:Cfg}{Pr F:Hp}{env:Env}{σ:L2.St}{H:Hp}(r:Rel C Pr F env σ H){i:Nat}{d:D}{v:V}(hfx:C.fx i=none)(p:Rep C.K F d v):Rel C Pr F (env.set i (some (false,d))) (σ.set i (some v)) H:=by
 refine⟨r.pr,r.fr,by rw[List.length_set,List.length_set];exact r.len,λj e he=>?_,λj e he=>?_,λj k e f b hj hk g1 g2=>?_,r.dj,λj a hj=>?_⟩
 ·by_cases hji:j=i
  ·subst hji;have hl:j<env.length:=by
    have:=(List.getElem?_eq_some_iff.mp he).1
    rwa [List.length_set] at this
   rw[List.getElem?_set_self hl] at he;cases he;exact⟨v,List.getElem?_set_self (by rw[<-r.len];exact hl),p⟩
  ·rw[List.getElem?_set_ne (Ne.symm hji)] at he ⊢;exact r.val j e he
 ·by_cases hji:j=i
  ·subst hji;have hl:j<env.length:=by
    have:=(List.getElem?_eq_some_iff.mp he).1
    rwa [List.length_set] at this
   rw[List.getElem?_set_self hl] at he;cases he
  ·rw[List.getElem?_set_ne (Ne.symm hji)] at he ⊢;exact r.own j e he
 ·have nn:∀(j:Nat) (e:D),(env.set i (some (false,d)))[j]? = some (some (true,e))->j≠i:=λj e he z=>by
   subst z;have hl:j<env.length:=by
    have:=(List.getElem?_eq_some_iff.mp he).1
    rwa [List.length_set] at this
   rw[List.getElem?_set_self hl] at he;cases he
  have nj:=nn j e hj;have nk:=nn k f hk;rw[List.getElem?_set_ne (Ne.symm nj)] at hj g1;rw[List.getElem?_set_ne (Ne.symm nk)] at hk g2;exact r.apart j k e f b hj hk g1 g2
 ·have hji:j≠i:=λz=>by rw[z,hfx] at hj;cases hj
  rw[List.getElem?_set_ne (Ne.symm hji)];exact r.fix j a hj
structure Uh(K:Fg)(Pr F:Hp)(env:Env)(σ:L2.St)(H:Hp)(d:D)(a:Addr):Prop where
 own:lK K F H d a
 nF:F a=none
 nP:Pr a=none
 ap:∀(j:Nat) (e:D),env[j]? = some (some (true,e))->σ[j]? = some (some (V.ref a))->False
theorem Uh.of{C:Cfg}{Pr F:Hp}{env:Env}{σ:L2.St}{H:Hp}{a:Addr}{o:HO}{d:D}(r:Rel C Pr F env σ H)(h:H a=none)(ho:lK C.K F (upd H a o) d a):Uh C.K Pr F env σ (upd H a o) d a:=
 ⟨ho,r.fr.free h,r.pr.free h,λj e he hs=>by
  obtain⟨b,h1,h2,_⟩:=r.own j e he;rw[hs] at h1;cases h1;obtain⟨u,hu⟩:=h2.some;rw[h] at hu;cases hu⟩
theorem Rel.Jp{C:Cfg}{Pr F:Hp}{env:Env}{σ:L2.St}{H:Hp}(r:Rel C Pr F env σ H){i:Nat}{d:D}{a:Addr}(hfx:C.fx i=none)(n:Uh C.K Pr F env σ H d a):Rel C Pr F (env.set i (some (true,d))) (σ.set i (some (.ref a))) H:=by
 have same:∀(j:Nat) (x:Bool×D),(env.set i (some (true,d)))[j]? = some (some x)->j=i->x=(true,d)/\j<env.length:=λj x he z=>by
  subst z;have hl:j<env.length:=by
   have:=(List.getElem?_eq_some_iff.mp he).1
   rwa [List.length_set] at this
  rw[List.getElem?_set_self hl] at he;cases he;exact⟨rfl,hl⟩
 refine⟨r.pr,r.fr,by rw[List.length_set,List.length_set];exact r.len,λj e he=>?_,λj e he=>?_,λj k e f b hj hk g1 g2=>?_,r.dj,λj a hj=>?_⟩
 ·by_cases hji:j=i
  ·have:=(same j _ he hji).1;cases this
  ·rw[List.getElem?_set_ne (Ne.symm hji)] at he ⊢;exact r.val j e he
 ·by_cases hji:j=i
  ·obtain⟨z,hl⟩:=same j _ he hji;cases z;subst hji;exact⟨a,List.getElem?_set_self (by rw[<-r.len];exact hl),n.own,n.nF,n.nP⟩
  ·rw[List.getElem?_set_ne (Ne.symm hji)] at he ⊢;exact r.own j e he
 ·by_cases nj:j=i
  ·by_cases nk:k=i
   ·rw[nj,nk]
   ·obtain⟨z,hl⟩:=same j _ hj nj;subst nj;rw[List.getElem?_set_self (by rw[<-r.len];exact hl)] at g1;cases g1;rw[List.getElem?_set_ne (Ne.symm nk)] at hk g2;exact(n.ap k f hk g2).elim
  ·rw[List.getElem?_set_ne (Ne.symm nj)] at hj g1;by_cases nk:k=i
   ·obtain⟨z,hl⟩:=same k _ hk nk;subst nk;rw[List.getElem?_set_self (by rw[<-r.len];exact hl)] at g2;cases g2;exact(n.ap j e hj g1).elim
   ·rw[List.getElem?_set_ne (Ne.symm nk)] at hk g2;exact r.apart j k e f b hj hk g1 g2
 ·have hji:j≠i:=λz=>by rw[z,hfx] at hj;cases hj
  rw[List.getElem?_set_ne (Ne.symm hji)];exact r.fix j a hj
theorem Rel.keep{C:Cfg}{Pr F:Hp}{env:Env}{σ:L2.St}{H:Hp}{d:D}{a:Addr}(r:Rel C Pr F env σ H)(n:Uh C.K Pr F env σ H d a):∃F',Rel C Pr F' env σ H/\aP F F'/\Rep C.K F' d (.ref a):=by
 obtain⟨o,ho⟩:=n.own.some;have s1:aP F (upd F a o):=lE n.nF;have rep:Rep C.K (upd F a o) d (.ref a):=by
  have h2:=n.own;cases d with
  | lst xs=>obtain⟨z,vs,g1,g2⟩:=h2;rw[ho] at g1;cases g1;exact⟨z,a,vs,rfl,aU,bI.mono s1 _ _ g2⟩
  | dct kvs=>obtain⟨z,ks,g1,g2⟩:=h2;rw[ho] at g1;cases g1;exact⟨z,a,ks,rfl,.inl aU,dD.mono s1 _ _ g2⟩
  | m9 kvs=>obtain⟨z,ks,g1,g2⟩:=h2;rw[ho] at g1;cases g1;exact⟨z,a,ks,rfl,.inl aU,qg.mono s1 _ _ g2⟩
  | _=>exact h2.elim
 refine⟨upd F a o,⟨r.pr,λb u e=>?_,r.len,λj e he=>?_,λj e he=>?_,r.apart,λb u e=>?_,r.fix⟩,s1,rep⟩
 ·by_cases hb:b=a
  ·subst hb;rw[aU] at e;cases e;exact ho
  ·rw[bM hb] at e;exact r.fr b u e
 ·obtain⟨v,g1,g2⟩:=r.val j e he;exact⟨v,g1,Rep.mono s1 e v g2⟩
 ·obtain⟨b,g1,g2,g3,g4⟩:=r.own j e he;have hb:b≠a:=λz=>by subst z;exact n.ap j e he g1
  exact⟨b,g1,g2.mono s1 rfl,by rw[bM hb];exact g3,g4⟩
 ·by_cases hb:b=a
  ·subst hb;exact n.nP
  ·rw[bM hb] at e;exact r.dj b u e
theorem Rel.write{C:Cfg}{Pr F:Hp}{env:Env}{σ:L2.St}{H:Hp}{i:Nat}{d d':D}{a:Addr}{u:HO}(r:Rel C Pr F env σ H)(h:env[i]? = some (some (true,d)))(hs:σ[i]? = some (some (V.ref a)))(ho:lK C.K F (upd H a u) d' a) :
  Rel C Pr F (env.set i (some (true,d'))) σ (upd H a u):=by
 obtain⟨a',h1,h2,h3,h4⟩:=r.own i d h;rw[hs] at h1;cases h1;have hi:i<env.length:=(List.getElem?_eq_some_iff.mp h).1;have ne:∀(j:Nat) (e:D) (b:Addr),j≠i->env[j]? = some (some (true,e))->σ[j]? = some (some (V.ref b))->b≠a:=λj e b hj he g z=>hj (r.apart j i e d a he h (by rw[<-z];exact g) hs);refine⟨λb w e=>?_,λb w e=>?_,by rw[List.length_set];exact r.len,λj e he=>?_,λj e he=>?_,λj k e f b hj hk g1 g2=>?_,r.dj,r.fix⟩
 ·have hb:b≠a:=λz=>by rw[z,h4] at e;cases e
  rw[bM hb];exact r.pr b w e
 ·have hb:b≠a:=λz=>by rw[z,h3] at e;cases e
  rw[bM hb];exact r.fr b w e
 ·by_cases hj:j=i
  ·subst hj;rw[List.getElem?_set_self hi] at he;cases he
  ·rw[List.getElem?_set_ne (Ne.symm hj)] at he;exact r.val j e he
 ·by_cases hj:j=i
  ·subst hj;rw[List.getElem?_set_self hi] at he;cases he;exact⟨a,hs,ho,h3,h4⟩
  ·rw[List.getElem?_set_ne (Ne.symm hj)] at he;obtain⟨b,g1,g2,g3,g4⟩:=r.own j e he;exact⟨b,g1,g2.mono (aP.refl F) (bM (ne j e b hj he g1)),g3,g4⟩
 ·have un:∀(j:Nat) (e:D),(env.set i (some (true,d')))[j]? = some (some (true,e))->∃e',env[j]? = some (some (true,e')):=λj e he=>by
   by_cases hj:j=i
   ·subst hj;exact⟨d,h⟩
   ·rw[List.getElem?_set_ne (Ne.symm hj)] at he;exact⟨e,he⟩
  obtain⟨e',hj'⟩:=un j e hj;obtain⟨f',hk'⟩:=un k f hk;exact r.apart j k e' f' b hj' hk' g1 g2
def tN(C:Cfg)(ev:Ev):TE:=λσ H Q=>∃(Pr F:Hp) (env env':Env) (d:D),Rel C Pr F env σ H/\ev env = .ok d env'/\
 ∀a H' F',Rel C Pr F' env' σ H'->aP F F'->Uh C.K Pr F' env' σ H' d a->Q (.ref a) H'
def Kf(X:Cx)(C:Cfg)(e:Expr)(ev:Ev):Prop:=PE X e (tN C ev)
section
variable{X:Cx}{C:Cfg}{pos:Pos}
theorem Kf.px{e:Expr}{ev:Ev}(h:Kf X C e ev):PX X C e ev:=PE.imp h λσ H Q hq=>by
 obtain⟨Pr,F,env,env',d,r,e,q⟩:=hq;refine⟨Pr,F,env,env',d,r,e,λa H' F' r' s' n'=>?_⟩;obtain⟨F2,r2,s2,p2⟩:=r'.keep n';exact q _ _ F2 r2 (s'.trans s2) p2
theorem cZ{es:List Expr}{r:cJ}(h:Em X C es r):Kf X C (.List es pos) (bZ r):=(Z8 h).imp λσ H Q hq=>by
 obtain⟨Pr,F,env,env',d,rl,e,q⟩:=hq;obtain⟨ds,aD,e1,e2⟩:=aO e;split at e2
 ·rename_i hz;cases e2;refine⟨Pr,F,env,env',ds,rl,e1,λvs H1 F1 r1 s1 p1=>⟨by rw[p1.length];exact hz,λp hp=>?_⟩⟩;exact q _ _ F1 (r1.fresh hp) s1 (Uh.of r1 hp ⟨hz,vs,aU,p1⟩)
 ·cases e2
abbrev GV:=D->Env->Option Env
abbrev Mp:=List D->Env->Option Env
def tG(C:Cfg)(lo:Nat)(gv:GV):TG:=λv σ H Q=>∃(Pr F:Hp) (env env':Env) (d:D),Rel C Pr F env σ H/\Rep C.K F d v/\gv d env=some env'/\
 ∀σ' H' F',Rel C Pr F' env' σ' H'->aP F F'->σ'.take lo=σ.take lo->Q σ' H'
def tGs(C:Cfg)(lo:Nat)(gv:Mp):XX:=λvs σ H Q=>∃(Pr F:Hp) (env env':Env) (ds:List D),Rel C Pr F env σ H/\bI C.K F ds vs/\gv ds env=some env'/\
 ∀σ' H' F',Rel C Pr F' env' σ' H'->aP F F'->σ'.take lo=σ.take lo->Q σ' H'
def Hx(X:Cx)(C:Cfg)(lo:Nat)(e:Expr)(gv:GV):Prop:=PG X e (tG C lo gv)
def O9(X:Cx)(C:Cfg)(lo:Nat)(es:List Expr)(gv:Mp):Prop:=Y4 X es (tGs C lo gv)
theorem _root_.L2.PG.imp{X:Cx}{e:Expr}{t t':TG}(h:PG X e t)(i:∀v σ H Q,t' v σ H Q->t v σ H Q):PG X e t':=λpins s σ H v u Q I r q=>h pins s σ H v u Q I r (i v σ H Q q)
theorem _root_.L2.Y4.imp{X:Cx}{e:List Expr}{t t':XX}(h:Y4 X e t)(i:∀v σ H Q,t' v σ H Q->t v σ H Q):Y4 X e t':=λpins s σ H v u Q I r q=>h pins s σ H v u Q I r (i v σ H Q q)
def ak(i:Nat):GV:=λd env=>some (env.set i (some (false,d)))
theorem QG{lo i:Nat}{x:Str}(hN:X.N.Nodup)(hi:X.N[i]? = some x)(hx:Loc X.env.scope x)(hlo:lo<=i)(hfx:C.fx i=none)(hf:X.fn x=true\/X.env.scope.names.lookup x=some .local:=by first|exact .inl rfl|exact .inr rfl|assumption):Hx X C lo (.Name x pos) (ak i):=
 (VN hN hi hx hf).imp λv σ H Q h=>by
  obtain⟨Pr,F,env,env',d,r,p,e,q⟩:=h;cases e;exact q _ _ F (r.put hfx p) (aP.refl F) (by rw[List.take_set_of_le hlo])
def fG:Mp:=λds env=>if ds.isEmpty then some env else none
def aW(g:GV)(gs:Mp):Mp:=λds env=>match ds with
 | d::r=>(g d env).bind λe1=>gs r e1
 | []=>none
theorem fZ{lo:Nat}:O9 X C lo [] fG:=VM.imp λv σ H Q h=>by
 obtain⟨Pr,F,env,env',ds,r,p,e,q⟩:=h;cases ds with
 | nil=>cases e;cases p;exact⟨rfl,q _ _ F r (aP.refl F) rfl⟩
 | cons d ds=>cases e
theorem bz{lo:Nat}{e:Expr}{es:List Expr}{g:GV}{gs:Mp}(h1:Hx X C lo e g)(h2:O9 X C lo es gs)
  (hs:(assignEach (e::es) X.env).map (·.2)=assign e X.env::(assignEach es X.env).map (·.2):=by rfl):O9 X C lo (e::es) (aW g gs):=(QZ h1 h2 hs).imp λv σ H Q h=>by
 obtain⟨Pr,F,env,env',ds,r,p,e,q⟩:=h;cases ds with
 | nil=>cases e
 | cons d ds=>
  obtain⟨u,w,rfl,p1,p2⟩:=p;obtain⟨aD,e1,e2⟩:=Option.bind_eq_some_iff.mp e;refine⟨u,w,rfl,Pr,F,env,aD,d,r,p1,e1,λσ1 H1 F1 r1 s1 t1=>?_⟩;exact⟨Pr,F1,aD,env',ds,r1,bI.mono s1 _ _ p2,e2,λσ2 H2 F2 r2 s2 t2=>q σ2 H2 F2 r2 (s1.trans s2) (t2.trans t1)⟩
def eE(n:Nat)(gs:Mp):GV:=λd env=>match d with
 | .tup ds=>if ds.length=n then gs ds env else none
 | _=>none
theorem Vu{lo:Nat}{es:List Expr}{k:Nat}{gs:Mp}{n:Nat}(hc:X.calm=true)(hK:X.K=C.K)(h:O9 X C lo es gs)
  (hn:(assignEach es X.env).length=n:=by rfl) (hst:(assignEach es X.env).findIdx? (·.1)=none:=by rfl):Hx X C lo (.Tuple es k pos) (eE n gs):=(Z0 hc h hn hst).imp λv σ H Q h=>by
 obtain⟨Pr,F,env,env',d,r,p,e,q⟩:=h;cases d with
 | tup ds=>
  obtain⟨z,a,vs,rfl,h1,h2⟩:=p;unfold eE at e;simp only at e;split at e
  ·rename_i hl;rw[hK];exact⟨a,vs,rfl,aP.tupK r.fr h1,by rw[h2.length];exact hl,Pr,F,env,env',ds,r,h2,e,q⟩
  ·cases e
 | _=>cases e
def J0(i:Nat)(ix:Ev):GV:=λd env=>match env[i]? with
 | some (some (_,_))=>(match ix env with
  | .ok (.int k) aD=>(match aD[i]? with
   | some (some (true,.lst xs))=>(R8 xs.length k).map λj=>aD.set i (some (true,.lst (xs.set j d)))
   | _=>none)
  | _=>none)
 | _=>none
theorem ZK{lo i:Nat}{x:Str}{ix:Expr}{ev:Ev}{px:Pos}(hN:X.N[i]? = some x)(hv:rn X.env.scope x)(h:PX X C ix ev)
  (ha:∀v,assign (.Subscript (.Name x px) ix pos) X.env v=(do
   let ov <-holding [v] (eval (.Name x px) X.env)
   let iv <-holding [v,ov] (eval ix X.env)
   standAt pos
   holding [v,ov,iv] (setItem ov iv v)
   release [v,ov,iv] []):=by intro _;rfl)
  (hd:j9 x:=by decide) (hcd:rF x:=by decide):Hx X C lo (.Subscript (.Name x px) ix pos) (J0 i ev):=
 (Z1 (lN hN hv hd hcd) h set_list ha).imp λv σ H Q hq=>by
  obtain⟨Pr,F,env,env',d,r,p,e,q⟩:=hq;unfold J0 at e;split at e
  ·rename_i o0 d0 h0;obtain⟨v0,hv0,_⟩:=r.rd h0;split at e
   ·rename_i k aD e1;split at e
    ·rename_i xs h2;obtain⟨j,hj,e3⟩:=Option.map_eq_some_iff.mp e;subst e3;refine⟨v0,hv0,Pr,F,env,aD,.int k,r,e1,λvi H1 F1 r1 s1 p1=>?_⟩;cases p1;obtain⟨a,g1,⟨z,vs,g2,g3⟩,g4,g5⟩:=r1.own i _ h2;rw[hv0] at g1;cases g1;refine⟨a,vs,k,j,rfl,rfl,g2,by rw[g3.length];exact hj,?_⟩;refine q σ _ F1 (r1.write h2 hv0 ⟨by rw[List.length_set];exact z,vs.set j v,aU,bI.set (Rep.mono s1 d v p) j g3⟩) s1 rfl
    ·cases e
   ·cases e
  ·cases e
end
inductive Out where
 | nx (env:Env)
 | rt (o:Bool) (d:D) (env:Env)
 | bk (env:Env)
 | ct (env:Env)
 | stuck
abbrev bG:=Env->Out
def Fin(C:Cfg)(Pr F:Hp)(D:Ends):Out->Prop
 | .nx env'=>∀σ' H' F',Rel C Pr F' env' σ' H'->aP F F'->D.nx σ' H'
 | .rt false d env'=>∀v σ' H' F',Rel C Pr F' env' σ' H'->aP F F'->Rep C.K F' d v->D.rt v H'
 | .rt true d env'=>∀a σ' H' F',Rel C Pr F' env' σ' H'->aP F F'->Uh C.K Pr F' env' σ' H' d a->D.rt (.ref a) H'
 | .bk env'=>∀σ' H' F',Rel C Pr F' env' σ' H'->aP F F'->D.bk σ' H'
 | .ct env'=>∀σ' H' F',Rel C Pr F' env' σ' H'->aP F F'->D.ct σ' H'
 | .stuck=>False
theorem Fin.mono{C:Cfg}{Pr F F1:Hp}{D:Ends}(s:aP F F1):∀{o:Out},Fin C Pr F D o->Fin C Pr F1 D o
 | .nx _,h=>λσ' H' F' r t=>h σ' H' F' r (s.trans t)
 | .rt false _ _,h=>λv σ' H' F' r t=>h v σ' H' F' r (s.trans t)
 | .rt true _ _,h=>λv σ' H' F' r t=>h v σ' H' F' r (s.trans t)
 | .bk _,h=>λσ' H' F' r t=>h σ' H' F' r (s.trans t)
 | .ct _,h=>λσ' H' F' r t=>h σ' H' F' r (s.trans t)
 | .stuck,h=>h
def tS(C:Cfg)(ev:bG):TS:=λD σ H=>∃(Pr F:Hp) (env:Env),Rel C Pr F env σ H/\Fin C Pr F D (ev env)
def Ay(X:Cx)(C:Cfg)(st:Stmt)(ev:bG):Prop:=PS X st (tS C ev)
def ur(X:Cx)(C:Cfg)(st:List Stmt)(ev:bG):Prop:=HH X st (tS C ev)
def eF{α:Type}(x:R α)(f:α->Env->Out):Out:=match x with
 | .ok a env=>f a env
 | .stuck=>.stuck
theorem eZ{C:Cfg}{Pr F:Hp}{D:Ends}{α:Type}{x:R α}{f:α->Env->Out}(h:Fin C Pr F D (eF x f)):∃a aD,x = .ok a aD/\Fin C Pr F D (f a aD):=by
 cases x with
 | ok a aD=>exact⟨a,aD,rfl,h⟩
 | stuck=>exact h.elim
section
variable{X:Cx}{C:Cfg}{pos:Pos}
def bK:bG:=λenv=>.nx env
def aC(a b:bG):bG:=λenv=>match a env with
 | .nx e=>b e
 | .rt o d e=>.rt o d e
 | .bk e=>.bk e
 | .ct e=>.ct e
 | .stuck=>.stuck
theorem cj:ur X C [] bK:=Vy.imp λD σ H h=>by
 obtain⟨Pr,F,env,r,f⟩:=h;exact f σ H F r (aP.refl F)
theorem aA{st:Stmt}{rest:List Stmt}{a b:bG}(h1:Ay X C st a)(h2:ur X C rest b):ur X C (st::rest) (aC a b):=(QK h1 h2).imp λD σ H h=>by
 obtain⟨Pr,F,env,r,f⟩:=h;refine⟨Pr,F,env,r,?_⟩;unfold aC at f;cases e:a env with
 | nx e1=>rw[e] at f;exact λσ' H' F' r' s'=>⟨Pr,F',e1,r',f.mono s'⟩
 | rt o d e1=>rw[e] at f;cases o<;>exact f
 | bk e1=>rw[e] at f;exact f
 | ct e1=>rw[e] at f;exact f
 | stuck=>rw[e] at f;exact f
theorem aF{st:Stmt}{a:bG}(h1:Ay X C st a):ur X C [st] a:=Vx h1
def dB(t:dJ)(a b:bG):bG:=λenv=>eF (t env) λc aD=>if c=true then a aD else b aD
theorem dF{c:Expr}{a b:List Stmt}{t:dJ}{ea eb:bG}(hc:Ml X C c t)(ha:ur X C a ea)(hb:ur X C b eb):Ay X C (.If c a b pos) (dB t ea eb):=(adK hc ha hb).imp λD σ H h=>by
 obtain⟨Pr,F,env,r,f⟩:=h;obtain⟨k,aD,e1,f1⟩:=eZ f;refine⟨Pr,F,env,aD,k,r,e1,λH1 F1 r1 s1=>?_⟩;split at f1
 ·rename_i hk;rw[if_pos hk];exact⟨Pr,F1,aD,r1,f1.mono s1⟩
 ·rename_i hk;rw[if_neg hk];exact⟨Pr,F1,aD,r1,f1.mono s1⟩
def aY(a:Ev):bG:=λenv=>eF (a env) λd aD=>.rt false d aD
theorem bh{e:Expr}{a:Ev}(h:PX X C e a):Ay X C (.Return (some e) pos) (aY a):=(QR h).imp λD σ H hq=>by
 obtain⟨Pr,F,env,r,f⟩:=hq;obtain⟨d,aD,e1,f1⟩:=eZ f;exact⟨Pr,F,env,aD,d,r,e1,λv H1 F1 r1 s1 p1=>f1 v σ H1 F1 r1 s1 p1⟩
def qp(a:Ev):bG:=λenv=>eF (a env) λd aD=>.rt true d aD
theorem tU{e:Expr}{a:Ev}(h:Kf X C e a):Ay X C (.Return (some e) pos) (qp a):=(QR h).imp λD σ H hq=>by
 obtain⟨Pr,F,env,r,f⟩:=hq;obtain⟨d,aD,e1,f1⟩:=eZ f;exact⟨Pr,F,env,aD,d,r,e1,λv H1 F1 r1 s1 p1=>f1 v σ H1 F1 r1 s1 p1⟩
def Zq:bG:=λenv=>.rt false .non env
def Bm(o:Option Env):Out:=match o with
 | some e=>.nx e
 | none=>.stuck
def aK(a:Ev)(g:GV):bG:=λenv=>eF (a env) λd aD=>Bm (g d aD)
theorem acJ{a:Ev}{g:GV}{D:Ends}{σ:L2.St}{H:Hp}(h:tS C (aK a g) D σ H):Qc (tE C a) (tG C 0 g) D σ H:=by
 obtain⟨Pr,F,env,r,f⟩:=h;obtain⟨d,aD,e1,f1⟩:=eZ f;refine⟨Pr,F,env,aD,d,r,e1,λv H1 F1 r1 s1 p1=>?_⟩;cases e2:g d aD with
 | none=>rw[e2] at f1;exact f1.elim
 | some dh=>rw[e2] at f1;exact⟨Pr,F1,aD,dh,d,r1,p1,e2,λσ2 H2 F2 r2 s2 _=>f1 σ2 H2 F2 r2 (s1.trans s2)⟩
theorem mq{tg e:Expr}{a:Ev}{g:GV}(he:PX X C e a)(hg:Hx X C 0 tg g)(hs:swapsWithSole [tg] e pos.line X.env=pure false:=by rfl)(hw:swappedStores [tg] e X.env=pure none:=by rfl)
  (h1:(assignEach [tg] X.env).map (·.2)=[assign tg X.env]:=by rfl):Ay X C (.Assign [tg] e pos) (aK a g):=(ZX he hg hs hw h1).imp λD σ H h=>acJ h
theorem Vo{i:Nat}{x:Str}{e:Expr}{a:Ev}{pos':Pos}(hN:X.N.Nodup)(hi:X.N[i]? = some x)(hx:Loc X.env.scope x)(hfx:C.fx i=none)(he:PX X C e a)(hs:swapsWith e (some (.Name x pos')) pos.line X.env=pure false:=by rfl)(hf:X.fn x=true\/X.env.scope.names.lookup x=some .local:=by first|exact .inl rfl|exact .inr rfl|assumption) :
  Ay X C (.Assign [.Name x pos'] e pos) (aK a (ak i)):=(QM hN hi hx he hs hf).imp λD σ H h=>by
 obtain⟨Pr,F,env,r,f⟩:=h;obtain⟨d,aD,e1,f1⟩:=eZ f;exact⟨Pr,F,env,aD,d,r,e1,λv H1 F1 r1 s1 p1=>f1 _ H1 F1 (r1.put hfx p1) s1⟩
def cT(i:Nat)(a:Ev):bG:=λenv=>eF (a env) λd aD=>.nx (aD.set i (some (true,d)))
theorem Vp{i:Nat}{x:Str}{e:Expr}{a:Ev}{pos':Pos}(hN:X.N.Nodup)(hi:X.N[i]? = some x)(hx:Loc X.env.scope x)(hfx:C.fx i=none)(he:Kf X C e a)(hs:swapsWith e (some (.Name x pos')) pos.line X.env=pure false:=by rfl)(hf:X.fn x=true\/X.env.scope.names.lookup x=some .local:=by first|exact .inl rfl|exact .inr rfl|assumption) :
  Ay X C (.Assign [.Name x pos'] e pos) (cT i a):=(QM hN hi hx he hs hf).imp λD σ H h=>by
 obtain⟨Pr,F,env,r,f⟩:=h;obtain⟨d,aD,e1,f1⟩:=eZ f;exact⟨Pr,F,env,aD,d,r,e1,λv H1 F1 r1 s1 p1=>f1 _ H1 F1 (r1.Jp hfx p1) s1⟩
def fX(i:Nat)(a:Ev):bG:=λenv=>match env[i]? with
 | some (some (true,.lst _))=>eF (a env) λd aD=>(match aD[i]? with
  | some (some (true,.lst xs))=>if xs.length<sizeLine then .nx (aD.set i (some (true,.lst (xs++[d])))) else .stuck
  | _=>.stuck)
 | _=>.stuck
theorem Vr{i:Nat}{x:Str}{e:Expr}{a:Ev}{px apos cpos:Pos}(hN:X.N[i]? = some x)(hv:rn X.env.scope x)(he:PX X C e a)(hK:X.K=C.K)
  (hs:swapsWith (.Call (.Attribute (.Name x px) "append" apos) [e] [] cpos) none pos.line X.env=pure false:=by rfl)
  (hfew:((backTo cpos (starEach [e] X.env)).all (λx=>!x.1)&&(backToKw cpos (keywordEach [] X.env)).all (λx=>x.1.isSome)
   && decide (([e]:List Expr).length+([]:List Keyword).length+(if ([]:List Keyword).isEmpty then 0 else 1)<30))=true:=by rfl)
  (hbase:attributeBase (.Name x px) "append" X.env (eval (.Name x px) X.env)=eval (.Name x px) X.env:=by rfl)
  (hline:(apos.endLine == cpos.line)=true:=by rfl) (hst:tQ e X.env:=by rfl) (hplain:(backTo cpos (starEach [] X.env)).any (·.1)=false:=by rfl)
  (hd:j9 x:=by decide) (hcd:rF x:=by decide):Ay X C (.Expr (.Call (.Attribute (.Name x px) "append" apos) [e] [] cpos) pos) (fX i a):=by
 refine PS.imp (KR (Q4 PySem.F.plainAttrs_list PySem.F.slot_list_append PySem.F.type_list_append v7 (lN hN hv hd hcd) (iM he mV hst) hbase hfew hline hst hplain) hs) λD σ H h=>?_;obtain⟨Pr,F,env,r,f⟩:=h;unfold fX at f;split at f
 ·rename_i xs0 h0;obtain⟨d,aD,e1,f1⟩:=eZ f;obtain⟨a0,hv0,⟨z0,vs0,g0,_⟩,_⟩:=r.own i _ h0;refine⟨_,hv0,.inl ⟨rfl,vs0,jT.of g0⟩,Pr,F,env,aD,d,r,e1,λv H1 F1 r1 s1 p1=>?_⟩;split at f1
  ·rename_i xs h1;split at f1
   ·rename_i hz;obtain⟨a,g1,⟨z,vs,g2,g3⟩,g4,g5⟩:=r1.own i _ h1;rw[hv0] at g1;cases g1;refine⟨a0,vs,v,rfl,rfl,g2,by rw[g3.length];exact hz,?_⟩;exact f1 σ _ F1 (r1.write h1 hv0 ⟨by rw[List.length_append];exact hz,vs++[v],aU,g3.append (bI.one p1)⟩) s1
   ·exact f1.elim
  ·exact f1.elim
 ·exact f.elim
def oE(K:Fg)(F:Hp)(ds:List D)(J:It):Prop:=∀(i:Nat) (H:Hp),aP F H->(ds[i]? = none->i=ds.length->J.stop i H)/\∀d,ds[i]? = some d->J.go i H/\∀x H',J.Uv i H x H'->
 (H'=H/\Rep K F d x)\/∃p vs es,H p=none/\H'=upd H p (.tup vs)/\x = .ref p/\d = .tup es/\es.length<=sizeLine/\bI K F es vs
def tI(C:Cfg)(ev:cJ):TI:=λσ H R=>∃(Pr F:Hp) (env env':Env) (ds:List D),Rel C Pr F env σ H/\ev env = .ok ds env'/\
 ∀J H' F',Rel C Pr F' env' σ H'->aP F F'->oE C.K F' ds J->R J H'
def Hw(X:Cx)(C:Cfg)(tg iter:Expr)(ev:cJ):Prop:=PI X tg iter (tI C ev)
theorem _root_.L2.PI.imp{X:Cx}{tg e:Expr}{t t':TI}(h:PI X tg e t)(i:∀σ H R,t' σ H R->t σ H R):PI X tg e t':=λpins s σ H R I q=>h pins s σ H R I (i σ H R q)
theorem oE.item{Pr F F1:Hp}{env:Env}{σ:L2.St}{H:Hp}{ds:List D}{J:It}{i:Nat}{d:D}{x:V}{H':Hp}(r:Rel C Pr F1 env σ H)(s:aP F F1)(y:oE C.K F ds J)(hd:ds[i]? = some d)(hy:J.Uv i H x H') :
  ∃F2,Rel C Pr F2 env σ H'/\aP F1 F2/\Rep C.K F2 d x:=by
 rcases((y i H (s.trans r.fr)).2 d hd).2 x H' hy with ⟨rfl,p⟩|⟨p,vs,es,hp,rfl,rfl,rfl,hz,q⟩
 ·exact⟨F1,r,aP.refl F1,Rep.mono s _ _ p⟩
 ·obtain⟨r2,s2⟩:=r.new (o:=.tup vs) hp;exact⟨_,r2,s2,hz,p,vs,rfl,nG.of aU,bI.mono (s.trans s2) _ _ q⟩
def jb(g:GV)(b:bG):List D->bG
 | [],env=>.nx env
 | d::ds,env=>(match g d env with
  | none=>.stuck
  | some e1=>(match b e1 with
   | .nx e2=>jb g b ds e2
   | .ct e2=>jb g b ds e2
   | .bk e2=>.nx e2
   | .rt o d e2=>.rt o d e2
   | .stuck=>.stuck))
def dI(it:cJ)(g:GV)(b:bG):bG:=λenv=>eF (it env) λds aD=>jb g b ds aD
theorem Vq{tg iter:Expr}{body:List Stmt}{it:cJ}{g:GV}{b:bG}(hp:PassesOwn (model X.prog X.w) X.A X.env X.xe)(hc:X.calm=true)(hi:Hw X C tg iter it)(hg:Hx X C 0 tg g)(hb:ur X C body b)
  (hs:∀x,foldedSetIterable iter X.env x=pure x:=by intro _;rfl):Ay X C (.For tg iter body [] pos) (dI it g b):=(ZW hp hc hi hg hb hs).imp λD σ H h=>by
 obtain⟨Pr,F,env,r,f⟩:=h;obtain⟨ds,aD,e1,f1⟩:=eZ f;refine⟨Pr,F,env,aD,ds,r,e1,λJ H1 F1 r1 s1 y1=>?_⟩;refine⟨λi m σ' H'=>m=ds.length - i/\i<=ds.length/\∃F' env',Rel C Pr F' env' σ' H'/\aP F1 F'/\Fin C Pr F' D (jb g b (ds.drop i) env'),⟨ds.length,rfl,Nat.zero_le _,F1,aD,r1,aP.refl _,f1.mono s1⟩,?_⟩;rintro i m σ' H' ⟨rfl,hi,F',env',r',s',f'⟩;by_cases hl:i<ds.length
 ·have hd:ds[i]? = some ds[i]:=List.getElem?_eq_getElem hl;have hdr:ds.drop i=ds[i]::ds.drop (i+1):=List.drop_eq_getElem_cons hl;have yy:=y1 i H' (s'.trans r'.fr);refine .inr ⟨(yy.2 _ hd).1,λσ2 H2=>∃F' env',Rel C Pr F' env' σ2 H2/\aP F1 F'/\Fin C Pr F' D (jb g b (ds.drop (i+1)) env'),λσ2 H2 h2=>⟨ds.length - (i+1),by omega,rfl,hl,h2⟩,λx H2 hy=>?_⟩;obtain⟨F2,r2,s2,p2⟩:=oE.item r' s' y1 hd hy;rw[hdr] at f';have f2:=f'.mono s2;unfold jb at f2;cases eg:g ds[i] env' with
  | none=>rw[eg] at f2;exact f2.elim
  | some e2=>
   rw[eg] at f2;refine⟨Pr,F2,env',e2,ds[i],r2,p2,eg,λσ3 H3 F3 r3 s3 _=>⟨Pr,F3,e2,r3,?_⟩⟩;simp only at f2;have s13:aP F1 F3:=(s'.trans s2).trans s3;cases eb:b e2 with
   | nx e3=>rw[eb] at f2;exact λσ4 H4 F4 r4 s4=>⟨F4,e3,r4,s13.trans s4,f2.mono (s3.trans s4)⟩
   | ct e3=>rw[eb] at f2;exact λσ4 H4 F4 r4 s4=>⟨F4,e3,r4,s13.trans s4,f2.mono (s3.trans s4)⟩
   | bk e3=>rw[eb] at f2;exact λσ4 H4 F4 r4 s4=>f2 σ4 H4 F4 r4 (s3.trans s4)
   | rt o d e3=>rw[eb] at f2;cases o<;>exact λv σ4 H4 F4 r4 s4 p4=>f2 v σ4 H4 F4 r4 (s3.trans s4) p4
   | stuck=>rw[eb] at f2;exact f2.elim
 ·have e:i=ds.length:=by omega
  subst e;rw[List.drop_length] at f';exact .inl ⟨(y1 _ H' (s'.trans r'.fr)).1 (List.getElem?_eq_none (Nat.le_refl _)) rfl,f' σ' H' F' r' (aP.refl F')⟩
def Ci(t:dJ)(b:bG):Nat->bG
 | 0,_=>.stuck
 | n+1,env=>eF (t env) λc e1=>if c=true then (match b e1 with
   | .nx e2=>Ci t b n e2
   | .ct e2=>Ci t b n e2
   | .bk e2=>.nx e2
   | .rt o d e2=>.rt o d e2
   | .stuck=>.stuck) else .nx e1
end
end Ev
namespace L2
open PySem PySem.Spec PyProof.Rows
def Its(z:Str):It:=⟨λi _=>i<z.cps.size,λi H x H'=>H'=H/\∃c,z.cps[i]? = some c/\x = .str ⟨#[c]⟩,λi _=>z.cps.size<=i⟩
theorem Mr{P:Program}{w:World}{K:PySem.W.Frag}{tg:Expr}(it:Addr)(z:Str)(t:Tok):Turn P w K tg (Its z) [it] it (λi h=>h.IsStrIter it "str_ascii_iterator" z t i/\i<=z.cps.size) where
 mem:=by simp
 obj:=λi h st b hb=>by
  have e:b=it:=by simpa using hb
  subst e;obtain⟨⟨o,ho,hc,hd⟩,_⟩:=st;exact⟨o,ho,λv z=>by rw[hd] at z;cases z⟩
 keep:=λi h h' st k=>let ⟨⟨o,ho,r⟩,l⟩:=st;⟨⟨o,k it (by simp) o ho,r⟩,l⟩
 item:=by intro X hP hw hK hc i pins s σ H E I hf st hg;subst hP hw hK;obtain⟨f0,f1,f2,f3,f4,f5⟩:=hf it (by simp);have hg':i<z.cps.size:=hg;refine wpAny_pyNext_ascii_item st.1 (c:=z.cps[i]) (by simp[hg']) λh' hit' hs'=>?_;have I1:Inv X pins σ H { s with heap:=h',toks:=s.toks+1 }:=I.turned (λb o hb e=>hs'.extBut b o hb e) f0 f1 f3 f4 f5;obtain⟨o,ho,hcl,hda⟩:=hit';refine⟨_,rfl,G4 (s:={ s with heap:=h',toks:=s.toks+1 }) (n:="str_ascii_iterator") ho hcl hda (by decide) ⟨.str ⟨#[z.cps[i]]⟩,H,I1,⟨_,rfl⟩,⟨rfl,_,by simp[hg'],rfl⟩,⟨⟨o,ho,hcl,hda⟩,hg'⟩,λb hb=>(hf b hb).1⟩⟩
 done:=by intro X hP hw hK hc i pins s σ H E I hf st hg;subst hP hw hK;obtain⟨f0,f1,f2,f3,f4,f5⟩:=hf it (by simp);have hg':z.cps.size<=i:=hg;exact wpAny_pyNext_ascii_end (I.ok.hd hc) st.1 (by simp;omega) λh' eb=>⟨rfl,I.turned (t':=s.toks) (λb o hb e=>eb b o hb e) f0 f1 f3 f4 f5⟩
 self:=λ_ _ _ _ _ st h=>wpAny_pyIter_striter_ascii st.1 h
theorem Mq{P:Program}{w:World}{K:PySem.W.Frag}{tg:Expr}(it:Addr)(z:Str)(t:Tok):Turn P w K tg (Its z) [it] it (λi h=>h.IsStrIter it "str_iterator" z t i/\i<=z.cps.size) where
 mem:=by simp
 obj:=λi h st b hb=>by
  have e:b=it:=by simpa using hb
  subst e;obtain⟨⟨o,ho,hc,hd⟩,_⟩:=st;exact⟨o,ho,λv z=>by rw[hd] at z;cases z⟩
 keep:=λi h h' st k=>let ⟨⟨o,ho,r⟩,l⟩:=st;⟨⟨o,k it (by simp) o ho,r⟩,l⟩
 item:=by intro X hP hw hK hc i pins s σ H E I hf st hg;subst hP hw hK;obtain⟨f0,f1,f2,f3,f4,f5⟩:=hf it (by simp);have hg':i<z.cps.size:=hg;refine wpAny_pyNext_wide_item st.1 (c:=z.cps[i]) (by simp[hg']) λh' hit' hs'=>?_;have I1:Inv X pins σ H { s with heap:=h',toks:=s.toks+1 }:=I.turned (λb o hb e=>hs'.extBut b o hb e) f0 f1 f3 f4 f5;obtain⟨o,ho,hcl,hda⟩:=hit';refine⟨_,rfl,G4 (s:={ s with heap:=h',toks:=s.toks+1 }) (n:="str_iterator") ho hcl hda (by decide) ⟨.str ⟨#[z.cps[i]]⟩,H,I1,⟨_,rfl⟩,⟨rfl,_,by simp[hg'],rfl⟩,⟨⟨o,ho,hcl,hda⟩,hg'⟩,λb hb=>(hf b hb).1⟩⟩
 done:=by intro X hP hw hK hc i pins s σ H E I hf st hg;subst hP hw hK;obtain⟨f0,f1,f2,f3,f4,f5⟩:=hf it (by simp);have hg':z.cps.size<=i:=hg;exact wpAny_pyNext_wide_end (I.ok.hd hc) st.1 (by simp;omega) λh' eb=>⟨rfl,I.turned (t':=s.toks) (λb o hb e=>eb b o hb e) f0 f1 f3 f4 f5⟩
 self:=λ_ _ _ _ _ st h=>wpAny_pyIter_striter_wide st.1 h
section
variable{X:Cx}{tg:Expr}
def agu(K:PySem.W.Frag)(tl:TE):TI:=λσ H R=>tl σ H λx H1=>(∃a,x = .ref a/\(∃xs,jT K H1 a xs)/\R (Itl K a) H1)\/(∃a,x = .ref a/\(∃xs,nG K H1 a xs)/\R (Itt K a) H1)\/∃z,x = .str z/\R (Its z) H1
theorem ZZ{l:Expr}{tl:TE}(hl:PE X l tl):PI X tg l (agu X.K tl):=by
 intro pins s σ H R I h;refine gG (hl pins s σ H _ I h) λv s1 ⟨x,H1,I1,r1,q1⟩=>?_;have own:∀b ∈ [s1.heap.objs.size],pY X pins H1 b:=λb hb=>by
  have e:b=s1.heap.objs.size:=by simpa using hb
  subst e;exact I1.SQ (Nat.le_refl _) (I1.hok.fresh (Nat.le_refl _))
 rcases q1 with ⟨a,e,⟨xs,hq⟩,q⟩|⟨a,e,⟨xs,hq⟩,q⟩|⟨z,e,q⟩
 ·subst e;cases r1;obtain⟨its,rv,p,hz⟩:=I1.list hq;refine wpAny_pyIter_list p.isList ?_;exact⟨s1.heap.objs.size,[s1.heap.objs.size],_,_,H1,rfl,I1.kept (t':=s1.toks) λb o e=>Heap.get?_push_of_some _ e,Ms a _,⟨_,Heap.get?_push_size _ rfl,rfl,rfl⟩,own,q⟩
 ·subst e;cases r1;obtain⟨its,rv,p,hz⟩:=I1.tuple hq;refine wpAny_pyIter_tuple (show s1.heap.IsTuple a its.toArray from p) ?_;exact⟨s1.heap.objs.size,[s1.heap.objs.size],_,_,H1,rfl,I1.kept (t':=s1.toks) λb o e=>Heap.get?_push_of_some _ e,HY a _,⟨_,Heap.get?_push_size _ rfl,rfl,rfl⟩,own,q⟩
 ·subst e;obtain⟨t,rfl⟩:=r1;cases ha:z.cps.all (·< 128)
  ·exact wpAny_pyIter_wide ha ⟨s1.heap.objs.size,[s1.heap.objs.size],_,_,H1,rfl,I1.kept (t':=s1.toks) λb o e=>Heap.get?_push_of_some _ e,Mq _ z t,⟨⟨_,Heap.get?_push_size _ rfl,rfl,rfl⟩,Nat.zero_le _⟩,own,q⟩
  ·exact wpAny_pyIter_ascii ha ⟨s1.heap.objs.size,[s1.heap.objs.size],_,_,H1,rfl,I1.kept (t':=s1.toks) λb o e=>Heap.get?_push_of_some _ e,Mr _ z t,⟨⟨_,Heap.get?_push_size _ rfl,rfl,rfl⟩,Nat.zero_le _⟩,own,q⟩
end
end L2
namespace Ev
open PySem PySem.Spec PyProof.Rows L2
section
variable{X:Cx}{C:Cfg}{pos:Pos}{tg:Expr}
def z8(x:List Nat):List D:=x.map λc=>.str [c]
theorem HJ{F:Hp}{a:Addr}{vs:List V}{ds:List D}(h:nG C.K F a vs)(p:bI C.K F ds vs):oE C.K F ds (Itt C.K a):=λi H s=>by
 refine⟨λ_ e=>⟨vs,aP.tupK s h,by rw[p.length,e];exact Nat.le_refl _⟩,λd hd=>?_⟩;obtain⟨v,h1,h2⟩:=p.get hd;refine⟨⟨vs,v,aP.tupK s h,h1⟩,λx H' hy=>.inl ⟨hy.1,?_⟩⟩;have:=hy.2 vs (aP.tupK s h);rw[h1] at this;cases this;exact h2
theorem HN{F:Hp}{x:List Nat}:oE C.K F (z8 x) (Its (strOf x)):=λi H s=>by
 refine⟨λ_ e=>?_,λd hd=>?_⟩
 ·show x.toArray.size<=i;rw[e];simp[z8]
 ·unfold z8 at hd;rw[List.getElem?_map] at hd;obtain⟨c,hc,rfl⟩:=Option.map_eq_some_iff.mp hd;refine⟨?_,λv H' hy=>.inl ⟨hy.1,?_⟩⟩
  ·show i<x.toArray.size;have:=(List.getElem?_eq_some_iff.mp hc).1
   simpa using this
  ·obtain⟨c',h1,rfl⟩:=hy.2;have h2:x[i]? = some c':=by simpa[strOf] using h1
   rw[hc] at h2;cases h2;exact⟨rfl,by show 1<=sizeLine;decide⟩
def WK:D->Option (List D)
 | .lst xs=>some xs
 | .arr xs=>some xs
 | .tup xs=>some xs
 | .str x=>some (z8 x)
 | _=>none
def d8(a:Ev):cJ:=λenv=>bindR (a env) λd aD=>d9 (WK d) aD
theorem Vt{l:Expr}{a:Ev}(hK:X.K=C.K)(h:PX X C l a):Hw X C tg l (d8 a):=(ZZ h).imp λσ H R hq=>by
 obtain⟨Pr,F,env,env',ds,r,e,q⟩:=hq;obtain⟨d,aD,e1,e2⟩:=aO e;obtain⟨e3,rfl⟩:=dC e2;refine⟨Pr,F,env,env',d,r,e1,λv H1 F1 r1 s1 p1=>?_⟩;rw[hK];cases d with
 | lst xs=>
  cases e3;obtain⟨z,a,vs,rfl,g1,g2⟩:=p1;refine .inl ⟨a,rfl,⟨vs,jT.of (r1.fr _ _ g1)⟩,q _ H1 F1 r1 s1 λi H s=>?_⟩;refine⟨λ_ e=>⟨vs,jT.of (s _ _ g1),by rw[g2.length,e];exact Nat.le_refl _⟩,λd hd=>?_⟩;obtain⟨v,h1,h2⟩:=g2.get hd;refine⟨⟨vs,v,jT.of (s _ _ g1),h1⟩,λx H' hy=>.inl ⟨hy.1,?_⟩⟩;have:=hy.2 vs (jT.of (s _ _ g1));rw[h1] at this;cases this;exact h2
 | arr xs=>
  cases e3;obtain⟨z,a,vs,rfl,g1,g2⟩:=p1;refine .inl ⟨a,rfl,⟨vs,r1.fr.seq g1⟩,q _ H1 F1 r1 s1 λi H s=>?_⟩;refine⟨λ_ e=>⟨vs,s.seq g1,by rw[g2.length,e];exact Nat.le_refl _⟩,λd hd=>?_⟩;obtain⟨v,h1,h2⟩:=g2.get hd;refine⟨⟨vs,v,s.seq g1,h1⟩,λx H' hy=>.inl ⟨hy.1,?_⟩⟩;have:=hy.2 vs (s.seq g1);rw[h1] at this;cases this;exact h2
 | tup xs=>
  cases e3;obtain⟨z,a,vs,rfl,g1,g2⟩:=p1;exact .inr (.inl ⟨a,rfl,⟨vs,aP.tupK r1.fr g1⟩,q _ H1 F1 r1 s1 (HJ g1 g2)⟩)
 | str x=>
  cases e3;obtain⟨rfl,z⟩:=p1;exact .inr (.inr ⟨_,rfl,q _ H1 F1 r1 s1 HN⟩)
 | _=>cases e3
def fM(lo c:Int)(n:Nat):List D:=(List.range n).map λ(i:Nat)=>.int (lo+i*c)
theorem kh(lo c:Int)(n:Nat):(fM lo c n).length=n:=by simp[fM]
theorem yj{lo c:Int}{n i:Nat}{d:D}(h:(fM lo c n)[i]? = some d):i<n/\d = .int (lo+i*c):=by
 have hi:i<n:=by
  have:=(List.getElem?_eq_some_iff.mp h).1
  rwa [kh] at this
 refine⟨hi,?_⟩;unfold fM at h;rw[List.getElem?_map,List.getElem?_range hi] at h;cases h;rfl
theorem xU{F:Hp}{lo:Int}{n:Nat}:oE C.K F (fM lo 1 n) (Itr lo n):=λi H s=>by
 refine⟨λ_ e=>by show n<=i;rw[e,kh];exact Nat.le_refl _,λd hd=>?_⟩;obtain⟨hi,rfl⟩:=yj hd;refine⟨hi,λx H' hy=>.inl ⟨hy.1,?_⟩⟩;show x = .int _;rw[Int.mul_one];exact hy.2
def jF(j:Int):Bool:=decide (-(2^62)<=j)&&decide (j<2^62)
theorem tR{j:Int}(h:jF j=true) : -(2^62)<=j/\j<2^62:=by unfold jF at h;rw[Bool.and_eq_true] at h;exact⟨of_decide_eq_true h.1,of_decide_eq_true h.2⟩
def vU:List D->Option (List D)
 | [.int j]=>if jF j=true then some (fM 0 1 j.toNat) else none
 | [.int i,.int j]=>if jF i=true/\jF j=true then some (fM i 1 (j - i).toNat) else none
 | [.int i,.int j,.int c]=>if c≠0/\c.natAbs<1073741824/\Builtin.Range.small i j c=true then some (fM i c (Builtin.Range.rangeSize i j c).toNat) else none
 | _=>none
def dz(a:cJ):cJ:=λenv=>bindR (a env) λds aD=>d9 (vU ds) aD
theorem bI.agt{F:Hp}{i:Int}{vs:List V}(h:bI C.K F [.int i] vs):vs=[.int i]:=by obtain⟨v,r,rfl,h1,h2⟩:=h;cases h1;cases h2;rfl
theorem bI.ags{F:Hp}{i j:Int}{vs:List V}(h:bI C.K F [.int i,.int j] vs):vs=[.int i,.int j]:=by obtain⟨v,r,rfl,h1,v',r',rfl,h2,h3⟩:=h;cases h1;cases h2;cases h3;rfl
theorem Jm{a:Expr}{ea:cJ}{p pos:Pos}(hg:Gl X "range")(hm:X.mg "range" = none)(ha:Em X C [a] ea)(hl:∀env ds env',ea env = .ok ds env'->ds.length=1)(hs:starEach [a] X.env=[(false,eval a X.env)]:=by rfl):Hw X C tg (.Call (.Name "range" p) [a] [] pos) (dz ea):=
 (Nk hg hm ha hs).imp λσ H R hq=>by
  obtain⟨Pr,F,env,env',ds,r,e,q⟩:=hq;obtain⟨as,aD,e1,e2⟩:=aO e;obtain⟨e3,rfl⟩:=dC e2;refine⟨Pr,F,env,env',as,r,e1,λvs H1 F1 r1 s1 p1=>?_⟩;have:=hl _ _ _ e1;unfold vU at e3;split at e3
  ·split at e3
   ·rename_i hf;cases e3;have hb:=tR hf;exact⟨_,p1.agt,hb.1,hb.2,q _ H1 F1 r1 s1 xU⟩
   ·cases e3
  ·simp at this
  ·simp at this
  ·cases e3
theorem Jl{a b:Expr}{ea:cJ}{p pos:Pos}(hg:Gl X "range")(hm:X.mg "range" = none)(ha:Em X C [a,b] ea)(hl:∀env ds env',ea env = .ok ds env'->ds.length=2)(hs:starEach [a,b] X.env=[(false,eval a X.env),(false,eval b X.env)]:=by rfl)(hs2:starEach [b] X.env=[(false,eval b X.env)]:=by rfl):Hw X C tg (.Call (.Name "range" p) [a,b] [] pos) (dz ea):=
 (Nj hg hm ha hs hs2).imp λσ H R hq=>by
  obtain⟨Pr,F,env,env',ds,r,e,q⟩:=hq;obtain⟨as,aD,e1,e2⟩:=aO e;obtain⟨e3,rfl⟩:=dC e2;refine⟨Pr,F,env,env',as,r,e1,λvs H1 F1 r1 s1 p1=>?_⟩;have:=hl _ _ _ e1;unfold vU at e3;split at e3
  ·simp at this
  ·split at e3
   ·rename_i hf;cases e3;have hb:=tR hf.1;have hb2:=tR hf.2;exact⟨_,_,p1.ags,⟨hb.1,hb.2,hb2.1,hb2.2⟩,q _ H1 F1 r1 s1 xU⟩
   ·cases e3
  ·simp at this
  ·cases e3
theorem Oo(env:Env)(ds:List D)(env':Env)(h:ao env = .ok ds env'):ds.length=0:=by cases h;rfl
theorem J5{a:Ev}{r:cJ}{n:Nat}(hr:∀env ds env',r env = .ok ds env'->ds.length=n)(env:Env)(ds:List D)(env':Env)(h:aa a r env = .ok ds env'):ds.length=n+1:=by obtain⟨d,aD,e1,e2⟩:=aO h;obtain⟨zy,dh,e3,e4⟩:=aO e2;cases e4;rw[List.length_cons,hr _ _ _ e3]
theorem bI.oA{F:Hp}{K:Fg}{ds:List D}{vs:List V}{k:Int}{d:D}(h:bI K F ds vs)(e:L2.oA ds k=some d):∃v,L2.oA vs k=some v/\Rep K F d v:=by unfold L2.oA at e ⊢;rw[h.length];obtain⟨j,h1,h2⟩:=Option.bind_eq_some_iff.mp e;obtain⟨v,h3,h4⟩:=h.get h2;exact⟨v,by rw[h1];exact h3,h4⟩
def bU:D->D->Option D
 | .lst xs,.int k=>oA xs k
 | .arr xs,.int k=>oA xs k
 | .tup xs,.int k=>oA xs k
 | .str x,.int k=>(oA x k).map λc=>.str [c]
 | _,_=>none
theorem Yt:rO C (rIx C.K) bU:=by
 intro Pr F env σ H x y d vx vy Q r px py e q;unfold bU at e;split at e
 ·obtain⟨z,a,vs,rfl,h1,h2⟩:=px.lst r.fr;cases py.int;obtain⟨v,e1,p1⟩:=h2.oA e;exact .inl ⟨a,vs,_,v,rfl,rfl,jT.of h1,e1,q _ _ F r (aP.refl F) p1⟩
 ·obtain⟨z,a,vs,rfl,h1,h2⟩:=px.arr r.fr;cases py.int;obtain⟨v,e1,p1⟩:=h2.oA e;exact .inl ⟨a,vs,_,v,rfl,rfl,h1,e1,q _ _ F r (aP.refl F) p1⟩
 ·obtain⟨z,a,vs,rfl,h1,_,h2⟩:=px.tup r.fr;cases py.int;obtain⟨v,e1,p1⟩:=h2.oA e;exact .inr (.inl ⟨a,vs,_,v,rfl,rfl,h1,e1,q _ _ F r (aP.refl F) p1⟩)
 ·obtain⟨rfl,z⟩:=px.str;cases py.int;obtain⟨c,e1,rfl⟩:=Option.map_eq_some_iff.mp e;exact .inr (.inr ⟨_,_,c,rfl,rfl,by simpa[strOf,Str.length] using z,by simpa[strOf] using e1,q _ _ F r (aP.refl F) ⟨rfl,by show 1<=sizeLine;decide⟩⟩)
 ·cases e
theorem adI{x y:Expr}{a b:Ev}(hK:X.K=C.K)(ha:PX X C x a)(hb:zV X C y b)(hs:pW y:=by intro _ _;rfl):PX X C (.Subscript x y pos) (aH bU a b):=by have h:=(Yr (pos:=pos) R7 ha hb hs);rw[hK] at h;exact h.imp (Ef Yt)
theorem ZQ{y:Expr}{b:Ev}{px:Pos}(i:Nat){x:Str}(hK:X.K=C.K)(hN:X.N[i]? = some x)(hv:rn X.env.scope x)(hb:zV X C y b)(hs:pW y:=by intro _ _;rfl)
  (hd:j9 x:=by decide) (hcd:rF x:=by decide):PX X C (.Subscript (.Name x px) y pos) (au bU i b):=by
 have h:=(Yr (pos:=pos) R7 (lN (pos:=px) hN hv hd hcd) hb hs);rw[hK] at h;exact h.imp (vf Yt)
def cutD{α:Type}(xs:List α)(lo hi:Option Int):List α:=(xs.drop (HT.fL xs.length 0 lo)).take (HT.fL xs.length xs.length hi - HT.fL xs.length 0 lo)
theorem qZ{α:Type}(xs:List α)(lo hi:Option Int):(cutD xs lo hi).length<=xs.length:=by unfold cutD;rw[List.length_take,List.length_drop];omega
theorem bI.cut{F:Hp}{K:Fg}{ds:List D}{vs:List V}(h:bI K F ds vs)(lo hi:Option Int):bI K F (cutD ds lo hi) (xF vs lo hi):=by unfold cutD xF;rw[h.length];exact bI.take _ (bI.drop _ h)
abbrev xR:=Env->R (Option Int)
def tP(C:Cfg)(ev:xR):TO:=λσ H Q=>∃(Pr F:Hp) (env env':Env) (o:Option Int),Rel C Pr F env σ H/\ev env = .ok o env'/\∀H' F',Rel C Pr F' env' σ H'->aP F F'->Q o H'
def Ue(X:Cx)(C:Cfg)(e:Option Expr)(ev:xR):Prop:=PO X e (tP C ev)
theorem _root_.L2.PO.imp{X:Cx}{e:Option Expr}{t t':TO}(h:PO X e t)(i:∀σ H Q,t' σ H Q->t σ H Q):PO X e t':=λpins s σ H Q I q=>h pins s σ H Q I (i σ H Q q)
def lH:xR:=λenv=>.ok none env
def uV(a:Ev):xR:=λenv=>bindR (a env) λd aD=>match d with
 | .int i=>.ok (some i) aD
 | _=>.stuck
theorem lF:Ue X C none lH:=VD.imp λσ H Q h=>by
 obtain⟨Pr,F,env,env',d,r,e,q⟩:=h;cases e;exact q H F r (aP.refl F)
theorem jA{e:Expr}{a:Ev}(h:PX X C e a):Ue X C (some e) (uV a):=(VB h).imp λσ H Q hq=>by
 obtain⟨Pr,F,env,env',o,r,e,q⟩:=hq;obtain⟨d,aD,e1,e2⟩:=aO e;refine⟨Pr,F,env,aD,d,r,e1,λv H1 F1 r1 s1 p1=>?_⟩;cases d with
 | int i=>cases e2;exact⟨i,p1,q H1 F1 r1 s1⟩
 | _=>cases e2
def gSl:D->Option Int->Option Int->Option D
 | .lst xs,lo,hi=>some (.lst (cutD xs lo hi))
 | .arr xs,lo,hi=>some (.lst (cutD xs lo hi))
 | .tup xs,lo,hi=>if HT.fL xs.length 0 lo=0/\HT.fL xs.length xs.length hi=xs.length then none else some (.tup (cutD xs lo hi))
 | _,_,_=>none
def uc(a:Ev)(lo hi:xR):Ev:=λenv=>bindR (a env) λd aD=>bindR (lo aD) λl dh=>bindR (hi dh) λu Al=>d9 (gSl d l u) Al
theorem Qj{Pr F:Hp}{env:Env}{σ:L2.St}{H:Hp}{x d:D}{v:V}{lo hi:Option Int}{Q:VK}(r:Rel C Pr F env σ H)(p:jj C.K F H x v)(e:gSl x lo hi=some d)(q:∀v H' F',Rel C Pr F' env σ H'->aP F F'->Rep C.K F' d v->Q v H') :
  adq C.K v lo hi H Q\/ZG C.K v lo hi H Q:=by
 unfold gSl at e;split at e
 ·cases e;obtain⟨z,a,vs,rfl,h1,h2⟩:=p.lst r.fr;refine .inl ⟨a,vs,rfl,jT.of h1,λb hb=>?_⟩;obtain⟨r2,s2⟩:=r.new (o:=.lst (xF vs lo hi)) hb;exact q _ _ _ r2 s2 ⟨Nat.le_trans (qZ _ _ _) z,b,_,rfl,aU,bI.mono s2 _ _ (h2.cut lo hi)⟩
 ·cases e;obtain⟨z,a,vs,rfl,h1,h2⟩:=p.arr r.fr;refine .inl ⟨a,vs,rfl,h1,λb hb=>?_⟩;obtain⟨r2,s2⟩:=r.new (o:=.lst (xF vs lo hi)) hb;exact q _ _ _ r2 s2 ⟨Nat.le_trans (qZ _ _ _) z,b,_,rfl,aU,bI.mono s2 _ _ (h2.cut lo hi)⟩
 ·obtain⟨z,a,vs,rfl,h1,_,h2⟩:=p.tup r.fr;split at e
  ·cases e
  ·rename_i hn;cases e;refine .inr ⟨a,vs,rfl,h1,by rw[h2.length];exact hn,λb hb=>?_⟩;obtain⟨r2,s2⟩:=r.new (o:=.tup (xF vs lo hi)) hb;exact q _ _ _ r2 s2 ⟨Nat.le_trans (qZ _ _ _) z,b,_,rfl,nG.of aU,bI.mono s2 _ _ (h2.cut lo hi)⟩
 ·cases e
theorem adG{x:Expr}{lo hi:Option Expr}{a:Ev}{el eh:xR}{p2:Pos}(hK:X.K=C.K)(ha:PX X C x a)(hl:Ue X C lo el)(hh:Ue X C hi eh):PX X C (.Subscript x (.Slice lo hi none p2) pos) (uc a el eh):=by have h:=yO (pos:=pos) (p2:=p2) (Mi.or Kz IW) ha hl hh;rw[hK] at h;refine h.imp λσ H Q hq=>?_;obtain⟨Pr,F,env,env',d,r,e,q⟩:=hq;obtain⟨x,aD,e1,e2⟩:=aO e;obtain⟨l,dh,e3,e4⟩:=aO e2;obtain⟨u,Al,e5,e6⟩:=aO e4;obtain⟨e7,rfl⟩:=dC e6;refine⟨Pr,F,env,aD,x,r,e1,λv H1 F1 r1 s1 p1=>⟨Pr,F1,aD,dh,l,r1,e3,λH2 F2 r2 s2=>⟨Pr,F2,dh,env',u,r2,e5,λH3 F3 r3 s3=>?_⟩⟩⟩;exact Qj r3 (.inl (Rep.mono (s2.trans s3) _ _ p1)) e7 λv H' F' r' s' p'=>q v H' F' r' (((s1.trans s2).trans s3).trans s') p'
def pB(kvs:List (D×D))(q:Key):Option D:=match kvs with
 | []=>none
 | (k,d)::r=>if qj k=some q then some d else pB r q
def xu(kvs:List (D×D))(q:Key)(d:D):List (D×D):=match kvs with
 | []=>[]
 | (k,e)::r=>(if qj k=some q then (k,d) else (k,e))::xu r q d
def putD(kvs:List (D×D))(k:D)(q:Key)(d:D):List (D×D):=if (pB kvs q).isSome then xu kvs q d else kvs++[(k,d)]
theorem dD.length{K:Fg}{F:Hp}:∀{ds:List (D×D)} {vs:List (Key×V)},dD K F ds vs->vs.length=ds.length
 | [],_,h=>by cases h;rfl
 | (k,d)::ds,vs,h=>by
  obtain⟨q,v,r,rfl,_,_,h2⟩:=h;rw[List.length_cons,List.length_cons,h2.length]
theorem dD.val{K:Fg}{F:Hp}(q:Key):∀{ds:List (D×D)} {vs:List (Key×V)},dD K F ds vs->(pB ds q=none/\uF vs q=none)\/∃d v,pB ds q=some d/\uF vs q=some v/\Rep K F d v
 | [],_,h=>by cases h;exact .inl ⟨rfl,rfl⟩
 | (k,d)::ds,vs,h=>by
  obtain⟨q',v,r,rfl,hk,h1,h2⟩:=h;unfold pB;by_cases e:q'=q
  ·subst e;rw[if_pos hk];exact .inr ⟨d,v,rfl,uD rfl,h1⟩
  ·rw[if_neg (λz=>e (Option.some.inj (hk.symm.trans z))),uE (p:=(q',v)) e];exact dD.val q h2
theorem dD.set{K:Fg}{F:Hp}(q:Key){d:D}{v:V}(hd:Rep K F d v):∀{ds:List (D×D)} {vs:List (Key×V)},dD K F ds vs->dD K F (xu ds q d) (vs.map λkv=>if kv.1=q then (kv.1,v) else kv)
 | [],_,h=>by cases h;exact rfl
 | (k,e)::ds,vs,h=>by
  obtain⟨q',u,r,rfl,hk,h1,h2⟩:=h;unfold xu;by_cases e':q'=q
  ·subst e';rw[if_pos hk];refine⟨q',v,_,?_,hk,hd,dD.set q' hd h2⟩;rw[List.map_cons,if_pos rfl]
  ·rw[if_neg (λz=>e' (Option.some.inj (hk.symm.trans z)))];refine⟨q',u,_,?_,hk,h1,dD.set q hd h2⟩;rw[List.map_cons,if_neg e']
theorem dD.append{K:Fg}{F:Hp}:∀{ds es:List (D×D)} {vs ws:List (Key×V)},dD K F ds vs->dD K F es ws->dD K F (ds++es) (vs++ws)
 | [],es,vs,ws,h,g=>by cases h;exact g
 | (k,d)::ds,es,vs,ws,h,g=>by
  obtain⟨q,v,r,rfl,h0,h1,h2⟩:=h;exact⟨q,v,r++ws,rfl,h0,h1,dD.append h2 g⟩
theorem Fq(q:Key)(d:D):∀kvs:List (D×D),(xu kvs q d).length=kvs.length
 | []=>rfl
 | (k,e)::r=>by unfold xu;rw[List.length_cons,List.length_cons,Fq q d r]
theorem Ge(kvs:List (D×D))(k:D)(q:Key)(d:D):(putD kvs k q d).length<=kvs.length+1:=by
 unfold putD;split
 ·rw[Fq];omega
 ·rw[List.length_append];exact Nat.le_refl _
theorem dD.put{K:Fg}{F:Hp}{ds:List (D×D)}{vs:List (Key×V)}{k:D}{q:Key}{d:D}{v:V}(h:dD K F ds vs)(hk:qj k=some q)(hd:Rep K F d v):dD K F (putD ds k q d) (putK vs q v):=by
 unfold putD putK;rw[yc];rcases h.val q with ⟨e1,e2⟩|⟨d',v',e1,e2,_⟩
 ·rw[e1,e2];exact h.append ⟨q,v,[],rfl,hk,hd,rfl⟩
 ·rw[e1,e2];exact dD.set q hd h
theorem Ry{K:Fg}{F:Hp}{k:D}{q:Key}{v:V}(h:qj k=some q)(p:Rep K F k v):v=kV q:=by
 cases k with
 | int i=>cases h;exact p
 | str x=>cases h;exact p.1
 | _=>cases h
theorem Rz{K:Fg}{F H:Hp}{k:D}{q:Key}{v:V}(h:qj k=some q)(p:jj K F H k v):v=kV q:=by
 cases k with
 | int i=>cases h;exact p.int
 | str x=>cases h;exact p.str.1
 | _=>cases h
theorem jj.dct{K:Fg}{F H:Hp}{kvs:List (D×D)}{v:V}(s:aP F H)(h:jj K F H (.dct kvs) v):kvs.length<=sizeLine/\∃a ks,v = .ref a/\Rd H a (.dK ks)/\dD K F kvs ks:=by
 rcases h with ⟨z,a,vs,rfl,h1,h2⟩|⟨a,rfl,z,vs,h1,h2⟩
 ·exact⟨z,a,vs,rfl,aP.rd s h1,h2⟩
 ·exact⟨z,a,vs,rfl,.inl h1,h2⟩
def Yn:R2:=λx y H Q=>∃a v,x = .ref a/\Pa H a y (some v)/\Q v H
def iZ:D->D->Option D
 | .dct kvs,k=>(qj k).bind λq=>pB kvs q
 | _,_=>none
theorem Wb:rO C Yn iZ:=by
 intro Pr F env σ H x y d vx vy Q r px py e q;unfold iZ at e;split at e
 ·obtain⟨z,a,ks,rfl,h1,h2⟩:=px.dct r.fr;obtain⟨k,hk,hv⟩:=Option.bind_eq_some_iff.mp e;cases Rz hk py;rcases h2.val k with ⟨e1,_⟩|⟨d',v',e1,e2,p2⟩
  ·rw[e1] at hv;cases hv
  ·rw[e1] at hv;cases hv;exact⟨a,v',rfl,.inl ⟨ks,k,h1,rfl,e2.symm⟩,q _ _ F r (aP.refl F) p2⟩
 ·cases e
theorem QH{y:Expr}{b:Ev}{px:Pos}(i:Nat){x:Str}(hu:X.A.units+1<cLine)(hN:X.N[i]? = some x)(hv:rn X.env.scope x)(hb:zV X C y b)(hs:Ug y:=by intro _ _;rfl)
  (hd:j9 x:=by decide) (hcd:rF x:=by decide):PX X C (.Subscript (.Name x px) y pos) (au iZ i b):=by
 have h:PE X (.Subscript (.Name x px) y pos) (Zj Yn _ _):=VV (pos:=pos) hu (lN (pos:=px) hN hv hd hcd) hb hs;exact h.imp (vf Wb)
def zp:Ev:=λenv=>.ok (.dct []) env
theorem yF:Kf X C (.Dict [] [] pos) zp:=Q3.imp λσ H Q hq=>by
 obtain⟨Pr,F,env,env',d,r,e,q⟩:=hq;cases e;exact λp hp=>q _ _ F (r.fresh hp) (aP.refl F) (Uh.of r hp ⟨Nat.zero_le _,[],aU,rfl⟩)
def nH(i:Nat)(k a:Ev):bG:=λenv=>eF (a env) λd aD=>match aD[i]? with
 | some (some (_,_))=>eF (k aD) λkd dh=>(match dh[i]?,qj kd with
  | some (some (true,.dct kvs)),some q=>if kvs.length<sizeLine then .nx (dh.set i (some (true,.dct (putD kvs kd q d)))) else .stuck
  | _,_=>.stuck)
 | _=>.stuck
theorem QF{i:Nat}{x:Str}{k e:Expr}{ek a:Ev}{px pos':Pos}(hu:X.A.units+1<cLine)(hN:X.N[i]? = some x)(hv:rn X.env.scope x)(hk:PX X C k ek)(he:PX X C e a)
  (hs:swapsWith e (some (.Subscript (.Name x px) k pos')) pos.line X.env=pure false:=by rfl)
  (hd:j9 x:=by decide) (hcd:rF x:=by decide):Ay X C (.Assign [.Subscript (.Name x px) k pos'] e pos) (nH i ek a):=
 (Vz hu (lN hN hv hd hcd) hk he hs).imp λD σ H h=>by
  obtain⟨Pr,F,env,r,f⟩:=h;obtain⟨d,aD,e1,f1⟩:=eZ f;refine⟨Pr,F,env,aD,d,r,e1,λv H1 F1 r1 s1 p1=>?_⟩;split at f1
  ·rename_i o0 d0 h0;obtain⟨v0,hv0,_⟩:=r1.rd h0;obtain⟨kd,dh,e2,f2⟩:=eZ f1;refine⟨v0,hv0,Pr,F1,aD,dh,kd,r1,e2,λvk H2 F2 r2 s2 p2=>?_⟩;split at f2
   ·rename_i kvs q h2 hq;split at f2
    ·rename_i hz;obtain⟨b,g1,⟨z,ks,g2,g3⟩,g4,g5⟩:=r2.own i _ h2;rw[hv0] at g1;cases g1;have hz':ks.length<sizeLine:=by rw[g3.length];exact hz
     cases Ry hq p2;refine⟨b,_,rfl,Uj.k g2 hz',?_⟩;refine f2 σ _ F2 (r2.write h2 hv0 ⟨Nat.le_trans (Ge _ _ _ _) hz,_,aU,g3.put hq (Rep.mono s2 _ _ p1)⟩) (s1.trans s2)
    ·exact f2.elim
   ·exact f2.elim
  ·exact f1.elim
def Oc(x:List Nat):List (List Nat)->List (List Nat)
 | []=>[x]
 | y::r=>if y<x then y::Oc x r else x::y::r
def jx:List (List Nat)->List (List Nat)
 | []=>[]
 | x::r=>Oc x (jx r)
theorem wg(x:List Nat):∀l,(Oc x l).Perm (x::l)
 | []=>.refl _
 | y::r=>by
  unfold Oc;split
  ·exact((wg x r).cons y).trans (.swap x y r)
  ·exact .refl _
theorem iU:∀l,(jx l).Perm l
 | []=>.refl _
 | x::r=>(wg x (jx r)).trans ((iU r).cons x)
theorem wQ(x:List Nat):∀l,l.Pairwise (λa b=>a<=b)->(Oc x l).Pairwise (λa b=>a<=b)
 | [],_=>List.pairwise_singleton _ _
 | y::r,h=>by
  unfold Oc;have h1:=List.pairwise_cons.mp h;split
  ·rename_i hyx;refine List.pairwise_cons.mpr ⟨λz hz=>?_,wQ x r h1.2⟩;rcases List.mem_cons.mp ((wg x r).mem_iff.mp hz) with rfl|hz
   ·exact List.le_of_lt hyx
   ·exact h1.1 z hz
  ·rename_i hyx;have hxy:x<=y:=List.not_lt.mp hyx;refine List.pairwise_cons.mpr ⟨λz hz=>?_,h⟩;rcases List.mem_cons.mp hz with rfl|hz
   ·exact hxy
   ·exact List.le_trans hxy (h1.1 z hz)
theorem uH:∀l,(jx l).Pairwise (λa b=>a<=b)
 | []=>.nil
 | x::r=>wQ x _ (uH r)
theorem Bd:∀(p:Str) (l:List Str),risingS p l=true->(p::l).Pairwise (λa b=>a.cps.toList<=b.cps.toList)
 | p,[],_=>List.pairwise_singleton _ _
 | p,x::r,h=>by
  have h':(!Spec.ltCps x.cps.toList p.cps.toList&&risingS x r)=true:=h;rw[Bool.and_eq_true,PyProof.Rows.ltCps_eq] at h';have hxp:¬x.cps.toList<p.cps.toList:=by
   have:=h'.1
   simpa using this
  have ih:=Bd x r h'.2;refine List.pairwise_cons.mpr ⟨λz hz=>?_,ih⟩;have hpx:p.cps.toList<=x.cps.toList:=List.not_lt.mp hxp;rcases List.mem_cons.mp hz with rfl|hz
  ·exact hpx
  ·exact List.le_trans hpx ((List.pairwise_cons.mp ih).1 z hz)
theorem MF:∀(l:List Str),sortedS l=true->l.Pairwise (λa b=>a.cps.toList<=b.cps.toList)
 | [],_=>.nil
 | x::r,h=>Bd x r h
theorem My(s:Str):strOf s.cps.toList=s:=by obtain⟨c⟩:=s;simp[strOf]
theorem Cw{xs:List (List Nat)}{ss ss':List Str}(e:ss=xs.map strOf)(hp:ss'.Perm ss)(hs:sortedS ss'=true):ss'=(jx xs).map strOf:=by
 subst e;have h1:(ss'.map λs=>s.cps.toList).Perm xs:=by
  have:=hp.map (λs:Str=>s.cps.toList);rw[List.map_map] at this;have e2:xs.map ((λs:Str=>s.cps.toList) ∘ strOf)=xs:=by rw[List.map_congr_left (g:=id) (λx _=>by simp[strOf])];simp
  rwa [e2] at this
 have h2:(ss'.map λs=>s.cps.toList)=jx xs:=by refine List.Perm.eq_of_pairwise (le:=λa b=>a<=b) (λa b _ _=>List.le_antisymm) ?_ (uH xs) (h1.trans (iU xs).symm);exact List.pairwise_map.mpr (MF ss' hs)
 rw[<-h2,List.map_map];have e3:∀l:List Str,l.map (strOf ∘ λs=>s.cps.toList)=l:=λl=>by
  induction l with
  | nil=>rfl
  | cons a r ih=>rw[List.map_cons,ih];show strOf a.cps.toList::r=a::r;rw[My]
 exact(e3 ss').symm
theorem uC:∀{us:List Value} {ss:List Str},StrsAre us ss->Vals (ss.map V.str) us
 | _,_,.nil=>.nil
 | _,_,.cons y t h=>.cons ⟨t,rfl⟩ (uC h)
theorem uI{K:Fg}{F:Hp}:∀(xs:List (List Nat)),(∀x∈xs,x.length<=sizeLine)->bI K F (xs.map D.str) (xs.map λz=>V.str (strOf z))
 | [],_=>rfl
 | x::xs,h=>⟨_,_,rfl,⟨rfl,h x (List.mem_cons_self ..)⟩,uI xs λy hy=>h y (List.mem_cons_of_mem _ hy)⟩
def CV(K:Fg):List V->Hp->VK->Prop:=λxs H Q=>∃p zs,xs=[.ref p]/\(jT K H p (zs.map λz=>V.str (strOf z))\/∃ks,Rd H p (.dK ks)/\ks.map (·.1)=zs.map λz=>Sum.inr (strOf z))/\zs.length<64/\∀l,H l=none->Q (.ref l) (upd H l (.lst ((jx zs).map λz=>V.str (strOf z))))
theorem Fp{pins:List (Addr×Obj)}{s:Shared}{σ:L2.St}{H:Hp}{Q:VK}{zs:List (List Nat)}{out:Array Value}{ss':List Str}{a:Addr}{e:Nat}{h':Heap}{tk:Nat}(I:Inv X pins σ H s)(hz:zs.length<64)(q:∀l,H l=none->Q (.ref l) (upd H l (.lst ((jx zs).map λz=>V.str (strOf z)))))
  (a1:StrsAre out.toList ss') (a2:ss'.Perm (zs.map strOf)) (a3:sortedS ss'=true) (hk:∀b o,s.heap.get? b=some o->h'.get? b=some o) (ha:s.heap.objs.size<=a) (ho:h'.get? a=some (seqObj "list" out e)):EP X pins σ Q (.ref a) { s with heap:=h',toks:=tk }:=by
 have e1:=Cw rfl a2 a3;subst e1;have rv:=uC a1;rw[List.map_map] at rv;have hl:((jx zs).map λz=>V.str (strOf z)).length<=sizeLine:=by rw[List.length_map,(iU zs).length_eq];exact Nat.le_trans (Nat.le_of_lt hz) (by decide)
 exact⟨.ref a,_,I.laid (t':=tk) hk ha (show gP X.prog X.w _ h' a (.lst ((jx zs).map λz=>V.str (strOf z))) from⟨hl,out.toList,e,rv,by simpa[seqObj] using ho⟩),rfl,q a (I.hok.fresh ha)⟩
theorem Hr(hc:X.calm=true):ji X (.builtin "sorted") (CV X.K):=by
 intro pins s σ H xs us Q I r h;obtain⟨p,zs,rfl,hq,hz,q⟩:=h;obtain⟨u,rfl,rx⟩:=vals1 r;cases rx;rcases hq with hq|⟨ks,hq,hks⟩
 ·obtain⟨its,r',pl,hzz⟩:=I.list hq;have hS:StrsAre its (zs.map strOf):=vB r';refine sorted_strs pl.isList hS (by rw[<-r'.length,List.length_map];exact hz) λout ss' a1 a2 a3=>?_;obtain⟨e,he⟩:=sortedAll_at s.heap its out;exact Fp (tk:=s.toks) I hz q a1 a2 a3 (λb o e=>sortedAll_old e) (Nat.le_succ _) he
 ·obtain⟨hz2,hsys,vs,rkv,hD⟩:=Hh I.hok hq;obtain⟨ep,hat⟩:=hD.dictAt;have hlen:vs.length=zs.length:=by
   have e1:=rkv.length;have e2:=congrArg List.length hks;rw[List.length_map,List.length_map] at e2;omega
  refine Calls.call_function_entry kind_sorted plain_sorted entry_sorted (args_sorted1 _) ?_;unfold Builtin.«sorted»;refine wpAny_bind (m:=checkCount "sorted" 1 1 _) (wpAny_pure ?_);refine wpAny_bind (PySem.W.kdu_collect (A:=X.A.in1) (PySem.W.kdl_dict (knd:=eN X.prog X.w) (kvs:=vs) (ep:=ep) hsys) (I.ok.hd hc) hat (by rw[hlen];exact Nat.le_trans (Nat.le_of_lt hz) (by decide)) λh' tk acc hk hacc=>?_);have hl:acc.toList.length=vs.length:=by rw[Array.length_toList];exact hacc.1
  have hS:StrsAre acc.toList (zs.map strOf):=by
   have keys:∀j:Nat,j<vs.length->∃v t,acc.toList[j]? = some v/\v=Value.str (strOf (zs.getD j [])) t:=λj hj=>by
    have hja:j<acc.size:=by rw[hacc.1];exact hj
    have e1:acc[j]? = some acc[j]:=by simp[hja]
    obtain⟨k,x,hx,hkx⟩:=hacc.2 j _ e1;have e2:(vs.map (·.1))[j]? = some k:=by rw[List.getElem?_map,hx];rfl
    rw[<-rkv.keys,hks,List.getElem?_map] at e2;obtain⟨z,hzj,rfl⟩:=Option.map_eq_some_iff.mp e2;rcases eU (k:=Sum.inr (strOf z)) (v:=acc[j]) hkx with ⟨i,t,z1,_⟩|⟨y,t,z1,z2⟩
    ·cases z1
    ·cases z1;exact⟨_,t,by rw[Array.getElem?_toList];exact e1,by rw[z2,List.getD_eq_getElem?_getD,hzj];rfl⟩
   have build:∀(us:List Value) (ys:List (List Nat)),us.length=ys.length->(∀j:Nat,j<us.length->∃v t,us[j]? = some v/\v=Value.str (strOf (ys.getD j [])) t)->StrsAre us (ys.map strOf):=λus=>by
    induction us with
    | nil=>intro ys hl _;cases ys with
     | nil=>exact .nil
     | cons _ _=>cases hl
    | cons u us ih=>intro ys hl hk;cases ys with
     | nil=>cases hl
     | cons y ys=>
      obtain⟨v,t,e1,e2⟩:=hk 0 (Nat.succ_pos _);cases e1;rw[e2];exact .cons _ t (ih ys (by simpa using hl) λj hj=>by
       obtain⟨v,t,e1,e2⟩:=hk (j+1) (by simpa using hj);exact⟨v,t,by simpa using e1,by simpa using e2⟩)
   exact build _ _ (by rw[hl,hlen]) λj hj=>keys j (by rw[<-hl];exact hj)
  refine wpAny_bind (wpAny_newList ?_ (by rw[hl,hlen];exact Nat.le_trans (Nat.le_of_lt hz) (by decide)));have hoL:(h'.push (seqObj "list" acc.toList.toArray 0)).get? h'.objs.size=some (seqObj "list" acc.toList.toArray 0):=Heap.get?_push_size _ rfl;show wpAny _ _ _ _ _ { s with heap:=h'.push (seqObj "list" acc.toList.toArray 0),toks:=tk };refine wpAny_bind (wpAny_holding (wpAny_call_entry slot_list_sort ⟨_,hoL,rfl⟩ entry_list_sort (list_sort_treeK strKind_oneLt hoL hS.keysOf (λv₁ v₂ rest e=>keyKind_strs (by rw[<-e];exact hS)) (by rw[hl,hlen];exact hz) λst' b1 b2=>⟨_,rfl,?_⟩) (args_list_sort _)));obtain⟨ss',a1,a2,a3⟩:=sorted_out_str hS b1 b2;obtain⟨e,he⟩:=sortedHeap_at (out:=(arrOf st').map (·.2)) hoL;refine wpAny_pure ⟨_,rfl,?_⟩;have I1:L2.Inv X pins σ H { s with heap:=h',toks:=tk }:=I.kept hk;refine Fp (s:={ s with heap:=h',toks:=tk }) (tk:=tk) I1 hz q a1 a2 a3 (λb o e=>?_) (Nat.le_refl _) he;have lt':=Heap.lt_size e;rw[sortedHeap_old (Nat.ne_of_lt lt') (by rw[size_push'];exact Nat.lt_succ_of_lt lt')];exact Heap.get?_push_of_some _ e
def iQ:List D->Option D
 | [.lst ds]=>(jw ds).bind λzs=>if zs.length<64/\(∀z∈zs,z.length<=sizeLine) then some (.lst ((jx zs).map .str)) else none
 | [.dct kvs]=>(jw (kvs.map (·.1))).bind λzs=>if zs.length<64/\(∀z∈zs,z.length<=sizeLine) then some (.lst ((jx zs).map .str)) else none
 | _=>none
theorem dD.keys{K:Fg}{F:Hp}:∀{kvs:List (D×D)} {ks:List (Key×V)} {zs:List (List Nat)},dD K F kvs ks->jw (kvs.map (·.1))=some zs->ks.map (·.1)=zs.map λz=>Sum.inr (strOf z)
 | [],ks,zs,h,e=>by cases h;simp[jw] at e;subst e;rfl
 | (k,d)::kvs,ks,zs,h,e=>by
  obtain⟨q,v,r,rfl,h0,h1,h2⟩:=h;cases k with
  | str x=>
   cases h0;have e':(jw (kvs.map (·.1))).map (x :: ·)=some zs:=by simpa[jw] using e
   obtain⟨zs',e1,rfl⟩:=Option.map_eq_some_iff.mp e';rw[List.map_cons,List.map_cons,dD.keys h2 e1]
  | _=>simp[jw] at e
theorem IV{Pr F:Hp}{env:Env}{σ:L2.St}{H:Hp}{l:Addr}{zs:List (List Nat)}(r:Rel C Pr F env σ H)(hl:H l=none)(hz:zs.length<64/\∀z∈zs,z.length<=sizeLine) :
  lK C.K F (upd H l (.lst ((jx zs).map λz=>V.str (strOf z)))) (.lst ((jx zs).map .str)) l:=by
 refine⟨by rw[List.length_map,(iU zs).length_eq];exact Nat.le_trans (Nat.le_of_lt hz.1) (by decide),_,aU,uI _ λz h=>hz.2 z ((iU zs).mem_iff.mp h)⟩
theorem OD:CallD C (CV C.K) iQ:=by
 intro Pr F env σ H ds d vs Q r p e q;have fin:∀(zs:List (List Nat)) (l:Addr),(zs.length<64/\∀z∈zs,z.length<=sizeLine)->d = .lst ((jx zs).map .str)->H l=none->Q (.ref l) (upd H l (.lst ((jx zs).map λz=>V.str (strOf z)))):=λzs l hz hd hl=>by
  subst hd;obtain⟨F2,r2,s2,p2⟩:=(r.fresh (o:=.lst ((jx zs).map λz=>V.str (strOf z))) hl).keep (Uh.of r hl (IV r hl hz));exact q _ _ F2 r2 s2 p2
 unfold iQ at e;split at e
 ·obtain⟨v,w,rfl,p1,p2⟩:=p;cases p2;obtain⟨zs,e1,e2⟩:=Option.bind_eq_some_iff.mp e;split at e2
  ·rename_i hz;cases e2;obtain⟨z,a,ws,rfl,h1,h2⟩:=p1.lst r.fr;have e6:=vV e1 h2;subst e6;exact⟨a,zs,rfl,.inl (jT.of h1),hz.1,λl hl=>fin zs l hz rfl hl⟩
  ·cases e2
 ·obtain⟨v,w,rfl,p1,p2⟩:=p;cases p2;obtain⟨zs,e1,e2⟩:=Option.bind_eq_some_iff.mp e;split at e2
  ·rename_i hz;cases e2;obtain⟨z,a,ks,rfl,h1,h2⟩:=p1.dct r.fr;exact⟨a,zs,rfl,.inr ⟨ks,h1,h2.keys e1⟩,hz.1,λl hl=>fin zs l hz rfl hl⟩
  ·cases e2
 ·cases e
theorem Nf{p:Pos}{e:Expr}{a:cJ}(hK:X.K=C.K)(hc:X.calm=true)(hg:Gl X "sorted")(hm:X.mg "sorted" = none)(ha:uv X C [e] a)(he:tQ e X.env:=by rfl)(hpl:(backTo pos (starEach [] X.env)).any (·.1)=false:=by rfl) :
  PX X C (.Call (.Name "sorted" p) [e] [] pos) (az iQ a):=
 qD (X:=X) (r:=CV C.K) (by rw[<-hK];exact Hr hc) OD hg hm PyProof.Rows.boot_sorted ha (by decide) (by decide) he hpl
end
theorem Rel.pad{C:Cfg}{Pr F:Hp}{env:Env}{σ:L2.St}{H:Hp}(m:Nat)(r:Rel C Pr F env σ H):Rel C Pr F (env++List.replicate m none) (qG m σ) H:=by
 have un:∀(j:Nat) (x:Bool×D),(env++List.replicate m none)[j]? = some (some x)->env[j]? = some (some x):=λj x he=>by
  by_cases hj:j<env.length
  ·rwa [List.getElem?_append_left hj] at he
  ·rw[List.getElem?_append_right (by omega),List.getElem?_replicate] at he;split at he<;>cases he
 have up:∀(j:Nat) (v:V),σ[j]? = some (some v)->(qG m σ)[j]? = some (some v):=λj v h=>by
  unfold qG;rw[List.getElem?_append_left (List.getElem?_eq_some_iff.mp h).1];exact h
 have dn:∀(j:Nat) (v:V),(qG m σ)[j]? = some (some v)->σ[j]? = some (some v):=λj v he=>by
  unfold qG at he;by_cases hj:j<σ.length
  ·rwa [List.getElem?_append_left hj] at he
  ·rw[List.getElem?_append_right (by omega),List.getElem?_replicate] at he;split at he<;>cases he
 refine⟨r.pr,r.fr,by unfold qG;rw[List.length_append,List.length_append,List.length_replicate,List.length_replicate,r.len],λj e he=>?_,λj e he=>?_,λj k e f b hj hk g1 g2=>r.apart j k e f b (un _ _ hj) (un _ _ hk) (dn _ _ g1) (dn _ _ g2),r.dj,λj a h=>up _ _ (r.fix j a h)⟩
 ·obtain⟨v,h1,h2⟩:=r.val j e (un _ _ he);exact⟨v,up _ _ h1,h2⟩
 ·obtain⟨a,h1,h2⟩:=r.own j e (un _ _ he);exact⟨a,up _ _ h1,h2⟩
theorem Rel.cut{C:Cfg}{Pr F:Hp}{env:Env}{σ σ0:L2.St}{H:Hp}(r:Rel C Pr F env σ H)(h:σ.take σ0.length=σ0)(fix:∀i a,C.fx i=some a->σ0[i]? = some (some (V.ref a))):Rel C Pr F (env.take σ0.length) σ0 H:=by
 have hl:σ0.length<=σ.length:=by have:=congrArg List.length h;rw[List.length_take] at this;omega
 have un:∀(j:Nat) (x:Bool×D),(env.take σ0.length)[j]? = some (some x)->env[j]? = some (some x)/\j<σ0.length:=λj x he=>by
  have hj:j<σ0.length:=by have:=(List.getElem?_eq_some_iff.mp he).1;rw[List.length_take] at this;omega
  rw[List.getElem?_take_of_lt hj] at he;exact⟨he,hj⟩
 have dn:∀(j:Nat),j<σ0.length->σ[j]? = σ0[j]?:=λj hj=>by
  have:=List.getElem?_take_of_lt (l:=σ) hj;rw[h] at this;exact this.symm
 refine⟨r.pr,r.fr,by rw[List.length_take,r.len];omega,λj e he=>?_,λj e he=>?_,λj k e f b hj hk g1 g2=>r.apart j k e f b (un _ _ hj).1 (un _ _ hk).1 (by rw[dn _ (un _ _ hj).2];exact g1) (by rw[dn _ (un _ _ hk).2];exact g2),r.dj,fix⟩
 ·obtain⟨e1,e2⟩:=un _ _ he;rw[<-dn j e2];exact r.val j e e1
 ·obtain⟨e1,e2⟩:=un _ _ he;rw[<-dn j e2];exact r.own j e e1
def uw(g:GV)(c:dJ)(e:Ev):List D->Env->R (List D)
 | [],env=>.ok [] env
 | d::ds,env=>(match g d env with
  | none=>.stuck
  | some e1=>bindR (c e1) λb e2=>if b=true then bindR (e e2) λy e3=>bindR (uw g c e ds e3) λys e4=>.ok (y::ys) e4 else uw g c e ds e2)
def dR(lo n:Nat)(it:cJ)(g:GV)(c:dJ)(e:Ev):Ev:=λenv=>bindR (it env) λds aD=>if aD.length=lo then bindR (uw g c e ds (aD++List.replicate (n - lo) none)) λys dh=>(if ys.length<=sizeLine then .ok (.lst ys) (dh.take lo) else .stuck) else .stuck
def Hv(X:Cx)(C:Cfg)(ifs:List Expr)(ev:dJ):Prop:=Y0 X ifs (tT C ev)
def cu:dJ:=λenv=>.ok true env
theorem fc{X:Cx}{C:Cfg}:Hv X C [] cu:=λpins s σ H Q I h=>by
 obtain⟨Pr,F,env,env',b,r,e,q⟩:=h;cases e;exact VJ pins s σ H Q I (q H F r (aP.refl F))
theorem jB{X:Cx}{C:Cfg}{c:Expr}{t:dJ}(h:Ml X C c t):Hv X C [c] t:=VH h
theorem Yx{C:Cfg}{lo n:Nat}{it:cJ}{g:GV}{c:dJ}{e:Ev}{σ:L2.St}{H:Hp}{Q:VK}(h:tN C (dR lo n it g c e) σ H Q):tLC n (tI C it) (tG C lo g) (tT C c) (tE C e) σ H Q:=by
 obtain⟨Pr,F,env,env',d,r,ev,q⟩:=h;obtain⟨ds,aD,e1,e2⟩:=aO ev;split at e2
 ·rename_i hlo;obtain⟨ys,dh,e3,e4⟩:=aO e2;split at e4
  ·rename_i hz;cases e4;refine⟨Pr,F,env,aD,ds,r,e1,λJ H1 F1 r1 s1 y1 a ha=>?_⟩;have hσ:σ.length=lo:=r1.len.symm.trans hlo;have hPa:Pr a=none:=r1.pr.free ha;refine⟨λi m σ' H'=>m=ds.length - i/\i<=ds.length/\∃F' m8 acc ws rest,Rel C (upd Pr a (.lst ws)) F' m8 σ' H'/\aP F1 F'/\bI C.K F' acc ws/\σ'.take lo=σ/\uw g c e (ds.drop i) m8 = .ok rest dh/\acc++rest=ys,
    ⟨ds.length,rfl,Nat.zero_le _,F1,aD++List.replicate (n - lo) none,[],[],ys,?_,aP.refl _,rfl,?_,e3,rfl⟩,?_⟩
   ·rw[hσ];exact(r1.aside (o:=.lst []) ha).pad _
   ·unfold qG;rw[<-hσ,List.take_left]
   rintro i m σ' H' ⟨rfl,hi,F',m8,acc,ws,rest,r',s',p',t',l',hacc⟩;have hFa:F' a=none:=by
    cases ez:F' a with
    | none=>rfl
    | some w=>have:=r'.dj a w ez;rw[aU] at this;cases this
   by_cases hl:i<ds.length
   ·have hd:ds[i]? = some ds[i]:=List.getElem?_eq_getElem hl;have hdr:ds.drop i=ds[i]::ds.drop (i+1):=List.drop_eq_getElem_cons hl;have yy:=y1 i H' (s'.trans r'.fr);refine .inr ⟨(yy.2 _ hd).1,λσ2 H2=>∃F' m8 acc ws rest,Rel C (upd Pr a (.lst ws)) F' m8 σ2 H2/\aP F1 F'/\bI C.K F' acc ws/\σ2.take lo=σ/\uw g c e (ds.drop (i+1)) m8 = .ok rest dh/\acc++rest=ys,
     λσ2 H2 h2=>⟨ds.length - (i+1),by omega,rfl,hl,h2⟩,λx H2 hy=>?_⟩
    obtain⟨F2,r2,s2,p2⟩:=oE.item r' s' y1 hd hy;rw[hdr] at l';unfold uw at l';cases eg:g ds[i] m8 with
    | none=>rw[eg] at l';cases l'
    | some e5=>
     rw[eg] at l';obtain⟨b,e6,c1,l2⟩:=aO l';refine⟨_,F2,m8,e5,ds[i],r2,p2,eg,λσ3 H3 F3 r3 s3 t3=>⟨_,F3,e5,e6,b,r3,c1,λH4 F4 r4 s4=>?_⟩⟩;have t3':σ3.take lo=σ:=t3.trans t';have Zy:aP F' F4:=(s2.trans s3).trans s4;cases b with
     | false=>
      show if false=true then _ else _
      rw[if_neg Bool.false_ne_true];rw[if_neg Bool.false_ne_true] at l2;exact⟨F4,e6,acc,ws,rest,r4,s'.trans Zy,bI.mono Zy _ _ p',t3',l2,hacc⟩
     | true=>
      show if true=true then _ else _
      rw[if_pos rfl];rw[if_pos rfl] at l2;obtain⟨y,e7,c2,l3⟩:=aO l2;obtain⟨ys2,e8,c3,l4⟩:=aO l3;cases l4;refine⟨_,F4,e6,e7,y,r4,c2,λv H5 F5 r5 s5 p5=>?_⟩;have hlen:acc.length+(ys2.length+1)=ys.length:=by rw[<-hacc,List.length_append,List.length_cons]
      refine⟨ws,r5.pr _ _ aU,by rw[p'.length];omega,F5,e7,acc++[y],ws++[v],ys2,?_,s'.trans (Zy.trans s5),(bI.mono (Zy.trans s5) _ _ p').append (bI.one p5),t3',c3,by rw[List.append_assoc];exact hacc⟩;have r6:=r5.turn (u:=.lst (ws++[v])) aU
      rwa [Kp] at r6
   ·have ei:i=ds.length:=by omega
    subst ei;rw[List.drop_length] at l';cases l';rw[List.append_nil] at hacc;subst hacc;refine .inl ⟨(y1 _ H' (s'.trans r'.fr)).1 (List.getElem?_eq_none (Nat.le_refl _)) rfl,?_⟩;have sP:aP Pr (upd Pr a (.lst ws)):=lE hPa;have r7:Rel C Pr F' (dh.take lo) σ H':=by
     have:=(r'.less sP).cut (σ0:=σ) (by rw[hσ];exact t') r1.fix
     rwa [hσ] at this
    refine q a H' F' r7 (s1.trans s') ⟨⟨hz,ws,r'.pr _ _ aU,p'⟩,hFa,hPa,λj e he hs=>?_⟩;have hj:j<σ.length:=(List.getElem?_eq_some_iff.mp hs).1;have he':dh[j]? = some (some (true,e)):=by rw[List.getElem?_take_of_lt (by rw[<-hσ];exact hj)] at he;exact he
    obtain⟨b,g1,_,_,g4⟩:=r'.own j e he';have:σ'[j]? = some (some (V.ref a)):=by rw[<-t',List.getElem?_take_of_lt (by rw[<-hσ];exact hj)] at hs;exact hs
    rw[this] at g1;cases g1;rw[aU] at g4;cases g4
  ·cases e4
 ·cases e2
section
variable{X:Cx}{C:Cfg}{pos:Pos}
theorem ZJ{elt tg iter:Expr}{ifs:List Expr}{scope:Scope}(N':List Str){it:cJ}{g:GV}{c:dJ}{e:Ev}(lo:Nat)(ok:jN X scope N')(hc:X.calm=true)(hi:Hw X C tg iter it)
  (bg:∀X',dX X scope N' X'->Hx X' C lo tg g) (bc:∀X',dX X scope N' X'->Hv X' C ifs c) (be:∀X',dX X scope N' X'->PX X' C elt e)
  (hs:∀x,foldedSetIterable iter X.env x=pure x:=by intro _;rfl):Kf X C (.ListComp elt [⟨tg,iter,ifs,0⟩] scope pos) (dR lo N'.length it g c e):=
 (adM ok hc hi bg bc be hs).imp λσ H Q h=>Yx h
theorem Nb{elt tg iter:Expr}{ifs:List Expr}{scope:Scope}(N':List Str){spos py:Pos}{it:cJ}{g:GV}{c:dJ}{e:Ev}(lo:Nat){i:Nat}{y:Str}(ok:jN X scope N')(hc:X.calm=true)(hi:Hw X C tg iter it)
  (bg:∀X',dX X scope N' X'->Hx X' C lo tg g) (bc:∀X',dX X scope N' X'->Hv X' C ifs c) (be:∀X',dX X scope N' X'->PX X' C elt e)
  (hN:X.N.Nodup) (hy:X.N[i]? = some y) (hx:Loc X.env.scope y) (hfx:C.fx i=none)
  (hsw:swapsWith (.ListComp elt [⟨tg,iter,ifs,0⟩] scope pos) (some (.Name y py)) spos.line X.env=pure true)
  (hf:X.fn y=true\/X.env.scope.names.lookup y=some .local:=by first|exact .inl rfl|exact .inr rfl|assumption)
  (hs:∀x,foldedSetIterable iter X.env x=pure x:=by intro _;rfl):Ay X C (.Assign [.Name y py] (.ListComp elt [⟨tg,iter,ifs,0⟩] scope pos) spos) (cT i (dR lo N'.length it g c e)):=
 (QL ok hc hi bg bc be hN hy hx hsw hf hs).imp λD σ H h=>by
  obtain⟨Pr,F,env,r,f⟩:=h;obtain⟨d,aD,e1,f1⟩:=eZ f;have:tN C (dR lo N'.length it g c e) σ H λv H1=>wV i v σ H1 D.nx:=⟨Pr,F,env,aD,d,r,e1,λv H1 F1 r1 s1 p1=>f1 _ H1 F1 (r1.Jp hfx p1) s1⟩;exact Yx this
end
def oR(K:Fg)(n:Nat)(f:List D->Option D):Sp:=λvs H Q _=>∃(F:Hp) (ds:List D) (d:D),ds.length=n/\aP F H/\bI K F ds vs/\f ds=some d/\
 ∀v H' F',aP H H'->aP F' H'->aP F F'->(∀b o,F' b=some o->F b=some o\/H b=none)->Rep K F' d v->Q v H'
def Yj(K:Fg)(n:Nat)(f:List D->Option D):Sp:=λvs H Q _=>∃(F:Hp) (ds:List D) (d:D),ds.length=n/\aP F H/\bI K F ds vs/\f ds=some d/\
 ∀a H' F',aP H H'->aP F' H'->aP F F'->(∀b o,F' b=some o->F b=some o\/H b=none)->lK K F' H' d a->F' a=none->H a=none->Q (.ref a) H'
def uG(K:Fg)(n:Nat)(f:List D->Option (D×D)):Sp:=λvs H Q _=>∃(F:Hp) (a:Addr) (r:List V) (x:D) (ds:List D) (d x':D),vs = .ref a::r/\ds.length+1=n/\aP F H/\F a=none/\lK K F H x a/\bI K F ds r/\f (x::ds)=some (d,x')/\
 ∀v H' F',(∀b o,b≠a->H b=some o->H' b=some o)->aP F' H'->aP F F'->(∀b o,F' b=some o->F b=some o\/H b=none)->lK K F' H' x' a->Rep K F' d v->Q v H'
theorem Rel.after{C:Cfg}{Pr F F':Hp}{env:Env}{σ:L2.St}{H H':Hp}(r:Rel C Pr F env σ H)(s:aP H H')(sF:aP F' H')(sF':aP F F')(nw:∀b o,F' b=some o->F b=some o\/H b=none):Rel C Pr F' env σ H':=by
 refine⟨r.pr.trans s,sF,r.len,λj e he=>?_,λj e he=>?_,r.apart,λb o e=>?_,r.fix⟩
 ·obtain⟨v,h1,h2⟩:=r.val j e he;exact⟨v,h1,Rep.mono sF' _ _ h2⟩
 ·obtain⟨a,h1,h2,h3,h4⟩:=r.own j e he;obtain⟨o,ho⟩:=h2.some;refine⟨a,h1,h2.mono sF' (by rw[ho,s _ _ ho]),?_,h4⟩;cases e:F' a with
  | none=>rfl
  | some u=>
   rcases nw a u e with z|z
   ·rw[h3] at z;cases z
   ·rw[ho] at z;cases z
 ·rcases nw b o e with z|z
  ·exact r.dj b o z
  ·exact r.pr.free z
theorem Rel.XR{C:Cfg}{Pr F F':Hp}{env:Env}{σ:L2.St}{H H':Hp}{i:Nat}{a:Addr}{d d':D}(r:Rel C Pr F env σ H)(h:env[i]? = some (some (true,d)))(hs:σ[i]? = some (some (V.ref a)))(s:∀b o,b≠a->H b=some o->H' b=some o)(sF:aP F' H')(sF':aP F F')(nw:∀b o,F' b=some o->F b=some o\/H b=none)(ho:lK C.K F' H' d' a):Rel C Pr F' (env.set i (some (true,d'))) σ H':=by
 obtain⟨a',h1,h2,h3,h4⟩:=r.own i d h;rw[hs] at h1;cases h1;have hi:i<env.length:=(List.getElem?_eq_some_iff.mp h).1;obtain⟨oa,hoa⟩:=h2.some;have ne:∀(j:Nat) (e:D) (b:Addr),j≠i->env[j]? = some (some (true,e))->σ[j]? = some (some (V.ref b))->b≠a:=λj e b hj he g z=>hj (r.apart j i e d a he h (by rw[<-z];exact g) hs);have nF:∀b u,F b=none->H b=some u->F' b=none:=λb u e1 e2=>by
  cases e:F' b with
  | none=>rfl
  | some w=>
   rcases nw b w e with z|z
   ·rw[e1] at z;cases z
   ·rw[e2] at z;cases z
 refine⟨λb w e=>?_,sF,by rw[List.length_set];exact r.len,λj e he=>?_,λj e he=>?_,λj k e f b hj hk g1 g2=>?_,λb o e=>?_,r.fix⟩
 ·have hb:b≠a:=λz=>by rw[z,h4] at e;cases e
  exact s b w hb (r.pr b w e)
 ·by_cases hj:j=i
  ·subst hj;rw[List.getElem?_set_self hi] at he;cases he
  ·rw[List.getElem?_set_ne (Ne.symm hj)] at he;obtain⟨v,g1,g2⟩:=r.val j e he;exact⟨v,g1,Rep.mono sF' _ _ g2⟩
 ·by_cases hj:j=i
  ·subst hj;rw[List.getElem?_set_self hi] at he;cases he;exact⟨a,hs,ho,nF a oa h3 hoa,h4⟩
  ·rw[List.getElem?_set_ne (Ne.symm hj)] at he;obtain⟨b,g1,g2,g3,g4⟩:=r.own j e he;obtain⟨ob,hob⟩:=g2.some;exact⟨b,g1,g2.mono sF' (by rw[hob,s b ob (ne j e b hj he g1) hob]),nF b ob g3 hob,g4⟩
 ·have un:∀(j:Nat) (e:D),(env.set i (some (true,d')))[j]? = some (some (true,e))->∃e',env[j]? = some (some (true,e')):=λj e he=>by
   by_cases hj:j=i
   ·subst hj;exact⟨d,h⟩
   ·rw[List.getElem?_set_ne (Ne.symm hj)] at he;exact⟨e,he⟩
  obtain⟨e',hj'⟩:=un j e hj;obtain⟨f',hk'⟩:=un k f hk;exact r.apart j k e' f' b hj' hk' g1 g2
 ·rcases nw b o e with z|z
  ·exact r.dj b o z
  ·exact r.pr.free z
section
variable{X:Cx}{C:Cfg}{pos p:Pos}{k n:Nat}{f:Addr}{fd:FuncData}{ps:List Str}{x:Str}{e:Expr}{es:List Expr}
theorem zq{g:List D->Option D}{a:cJ}{env env':Env}{d:D}(h:az g a env = .ok d env'):∃ds,a env = .ok ds env'/\g ds=some d:=by obtain⟨ds,aD,e1,e2⟩:=aO h;obtain⟨e3,rfl⟩:=dC e2;exact⟨ds,e1,e3⟩
theorem ZM{g:List D->Option D}{a:cJ}(G:ph X.prog X.w X.K X.mg X.base Ep k f fd ps (oR C.K n g))(hr:ju k X.A)(hg:Gl X x)(hm:X.mg x=some (.ref f))(hk:PySem.W.keepIn X.K (.ref f)=true)(hb:Binds X.K fd ps [])
  (ha:Em X C (e::es) a) (hn:∀env ds env',a env = .ok ds env'->ds.length=n) (hdb:j9 x:=by decide) (he:starEach (e::es) X.env=(false,eval e X.env)::starEach es X.env:=by rfl) (hpl:(backTo pos (starEach es X.env)).any (·.1)=false:=by rfl) :
  PX X C (.Call (.Name x p) (e::es) [] pos) (az g a):=(Df G hr hg hm hk hb .nil Q6 ha hdb he hpl).imp λσ H Q hq=>by
 obtain⟨Pr,F,env,env',d,r,e,q⟩:=hq;obtain⟨ds,e1,e2⟩:=zq e;refine⟨Pr,F,env,env',ds,r,e1,λvs H1 F1 r1 s1 p1=>?_⟩;show oR C.K n g (vs++[]) H1 Q E0;rw[List.append_nil];exact⟨F1,ds,d,hn _ _ _ e1,r1.fr,p1,e2,λv H2 F2 t1 t2 t3 t4 p2=>q v H2 F2 (r1.after t1 t2 t3 t4) (s1.trans t3) p2⟩
theorem Vs{g:List D->Option D}{a:cJ}(G:ph X.prog X.w X.K X.mg X.base Ep k f fd ps (Yj C.K n g))(hr:ju k X.A)(hg:Gl X x)(hm:X.mg x=some (.ref f))(hk:PySem.W.keepIn X.K (.ref f)=true)(hb:Binds X.K fd ps [])
  (ha:Em X C (e::es) a) (hn:∀env ds env',a env = .ok ds env'->ds.length=n) (hdb:j9 x:=by decide) (he:starEach (e::es) X.env=(false,eval e X.env)::starEach es X.env:=by rfl) (hpl:(backTo pos (starEach es X.env)).any (·.1)=false:=by rfl) :
  Kf X C (.Call (.Name x p) (e::es) [] pos) (az g a):=(Df G hr hg hm hk hb .nil Q6 ha hdb he hpl).imp λσ H Q hq=>by
 obtain⟨Pr,F,env,env',d,r,e,q⟩:=hq;obtain⟨ds,e1,e2⟩:=zq e;refine⟨Pr,F,env,env',ds,r,e1,λvs H1 F1 r1 s1 p1=>?_⟩;show Yj C.K n g (vs++[]) H1 Q E0;rw[List.append_nil];refine⟨F1,ds,d,hn _ _ _ e1,r1.fr,p1,e2,λb H2 F2 t1 t2 t3 t4 ho hF hH=>q b H2 F2 (r1.after t1 t2 t3 t4) (s1.trans t3) ⟨ho,hF,r1.pr.free hH,λj e he hs=>?_⟩⟩;obtain⟨c,h1,h2,_⟩:=r1.own j e he;rw[hs] at h1;cases h1;obtain⟨u,hu⟩:=h2.some;rw[hH] at hu;cases hu
def cD(f:List D->Option (D×D))(i:Nat)(a:cJ):Ev:=λenv=>match env[i]? with
 | some (some (true,_))=>bindR (a env) λds aD=>(match aD[i]? with
  | some (some (true,x))=>(match f (x::ds) with
   | some (d,x')=>.ok d (aD.set i (some (true,x')))
   | none=>.stuck)
  | _=>.stuck)
 | _=>.stuck
theorem adJ{g:List D->Option (D×D)}{a:cJ}{i:Nat}{y:Str}{py:Pos}(hN:X.N[i]? = some y)(hv:rn X.env.scope y)(G:ph X.prog X.w X.K X.mg X.base Ep k f fd ps (uG C.K n g))(hr:ju k X.A)(hg:Gl X x)(hm:X.mg x=some (.ref f))(hk:PySem.W.keepIn X.K (.ref f)=true)(hb:Binds X.K fd ps [])
  (ha:Em X C es a) (hn:∀env ds env',a env = .ok ds env'->ds.length+1=n) (hdb:j9 x:=by decide) (he:starEach (.Name y py::es) X.env=(false,eval (.Name y py) X.env)::starEach es X.env:=by rfl) (hpl:(backTo pos (starEach es X.env)).any (·.1)=false:=by rfl)
  (hd:j9 y:=by decide) (hcd:rF y:=by decide) :
  PX X C (.Call (.Name x p) (.Name y py::es) [] pos) (cD g i a):=(Df G hr hg hm hk hb .nil Q6 (iM (lN hN hv hd hcd) ha he) hdb he hpl).imp λσ H Q hq=>by
 obtain⟨Pr,F,env,env',d,r,e,q⟩:=hq;unfold cD at e;split at e
 ·rename_i d0 h0;obtain⟨ds,aD,e1,e2⟩:=aO e;split at e2
  ·rename_i z hz;split at e2
   ·rename_i d1 z' hg;cases e2;obtain⟨a0,hs0,_⟩:=r.own i _ h0;refine⟨_,hs0,Pr,F,env,aD,ds,r,e1,λvs H1 F1 r1 s1 p1=>?_⟩;obtain⟨a1,hs1,ho1,hF1,hP1⟩:=r1.own i _ hz;rw[hs0] at hs1;cases hs1;show uG C.K n g (_::vs++[]) H1 Q E0;rw[List.append_nil];exact⟨F1,a0,vs,z,ds,d,z',rfl,hn _ _ _ e1,r1.fr,hF1,ho1,p1,hg,λv H2 F2 t1 t2 t3 t4 t5 p2=>q v H2 F2 (r1.XR hz hs0 t1 t2 t3 t4 t5) (s1.trans t3) p2⟩
   ·cases e2
  ·cases e2
 ·cases e
end
def envOf(n:Nat)(ds:List D):Env:=ds.map (λd=>some (false,d))++List.replicate (n - ds.length) none
def uY(n:Nat)(x:D)(ds:List D):Env:=some (true,x)::(ds.map (λd=>some (false,d))++List.replicate (n - (ds.length+1)) none)
def bL(n:Nat)(ev:bG)(ds:List D):Option D:=match ev (envOf n ds) with
 | .rt false d _=>some d
 | .nx _=>some .non
 | _=>none
def runN(n:Nat)(ev:bG)(ds:List D):Option D:=match ev (envOf n ds) with
 | .rt true d _=>some d
 | _=>none
def eO(n:Nat)(ev:bG)(ds:List D):Option (D×D):=match ds with
 | []=>none
 | x::r=>(match ev (uY n x r) with
  | .rt false d env=>(match env[0]? with
   | some (some (true,x'))=>some (d,x')
   | _=>none)
  | .nx env=>(match env[0]? with
   | some (some (true,x'))=>some (.non,x')
   | _=>none)
  | _=>none)
def C0(K:Fg):Cfg:=⟨K,λ_=>none⟩
def C1(K:Fg)(a:Addr):Cfg:=⟨K,λi=>if i=0 then some a else none⟩
def Dr(H F:Hp):Hp:=λb=>if (F b).isSome then none else H b
theorem Gs{H F:Hp}{b:Addr}{o:HO}(h:Dr H F b=some o):H b=some o/\F b=none:=by
 unfold Dr at h;split at h
 ·cases h
 ·rename_i z;exact⟨h,by cases e:F b with|none=>rfl|some w=>rw[e] at z;exact absurd rfl z⟩
theorem yX{H F:Hp}{b:Addr}(h:Dr H F b=none):H b=none\/∃o,F b=some o:=by
 unfold Dr at h;split at h
 ·rename_i z;exact .inr (Option.isSome_iff_exists.mp z)
 ·exact .inl h
theorem Bf{K:Fg}{F H:Hp}{ds:List D}{vs:List V}{N:List Str}(s:aP F H)(p:bI K F ds vs):Rel (C0 K) (Dr H F) F (envOf N.length ds) (start N vs) H:=by
 have un:∀(j:Nat) (x:Bool×D),(envOf N.length ds)[j]? = some (some x)->∃d,x=(false,d)/\ds[j]? = some d:=λj x he=>by
  unfold envOf at he;by_cases hj:j<(ds.map λd=>some (false,d)).length
  ·rw[List.getElem?_append_left hj,List.getElem?_map] at he;obtain⟨d,h1,h2⟩:=Option.map_eq_some_iff.mp he;cases h2;exact⟨d,rfl,h1⟩
  ·rw[List.getElem?_append_right (by omega),List.getElem?_replicate] at he;split at he<;>cases he
 refine⟨λb o e=>(Gs e).1,s,?_,λj d he=>?_,λj d he=>?_,λj k d e a hj hk=>?_,λb o e=>?_,λi a h=>by cases h⟩
 ·unfold envOf L2.start;rw[List.length_append,List.length_append,List.length_map,List.length_map,List.length_replicate,List.length_replicate,p.length]
 ·obtain⟨d',z,hd⟩:=un j _ he;cases z;obtain⟨v,h1,h2⟩:=p.get hd;refine⟨v,?_,h2⟩;unfold L2.start;rw[List.getElem?_append_left (by rw[List.length_map];exact(List.getElem?_eq_some_iff.mp h1).1),List.getElem?_map,h1]
  rfl
 ·obtain⟨d',z,_⟩:=un j _ he;cases z
 ·obtain⟨d',z,_⟩:=un j _ hj;cases z
 ·unfold Dr;rw[e];rfl
theorem aP.Ju{H F F' H':Hp}(s1:aP (Dr H F) H')(s2:aP F F')(s3:aP F' H')(sF:aP F H):aP H H':=λb o e=>by
 cases z:F b with
 | none=>exact s1 b o (by unfold Dr;rw[z];exact e)
 | some w=>
  have:=sF b w z;rw[e] at this;cases this;exact s3 b o (s2 b o z)
theorem JF{H F F':Hp}(s2:aP F F')(dj:∀b o,F' b=some o->Dr H F b=none)(b:Addr)(o:HO)(h:F' b=some o):F b=some o\/H b=none:=by
 rcases yX (dj b o h) with z|⟨w,z⟩
 ·exact .inr z
 ·have:=s2 b w z;rw[h] at this;cases this;exact .inl z
section
variable{P:Program}{w:World}{K:Fg}{mg:Str->Option Value}{base:Heap}{x qual:Str}{st:Stmt}{f:Addr}{fd:FuncData}{N ps:List Str}{k:Nat}{ev:bG}
abbrev bx(P:Program)(w:World)(K:Fg)(mg:Str->Option Value)(base:Heap)(N:List Str)(qual:Str)(st:Stmt)(f:Addr)(cdv:Value)(A:Around)(outer:List PySem.Env)(s:Shared)(H:Hp)(E:XK):Cx:=(J6 Ep P w K mg base N qual (aN st) f cdv A outer s H E).nox
theorem Hj(F:Ui K x qual st f fd)(S:bA N ps (aN st))
  (hb:∀(cdv:Value) (A:Around) (outer:List PySem.Env) (s:Shared) (H:Hp) (E:XK),ju k (A.deeper (envOfC qual (aN st) s.heap.objs.size f cdv))->ur (bx P w K mg base N qual st f cdv A outer s H E) (C0 K) (gj st) ev) :
  ph P w K mg base Ep (k+1) f fd ps (oR K ps.length (bL N.length ev)):=by
 refine F.ok S (λvs H Q E h=>?_) (λcdv A outer s H vs Q E hr h=>?_)
 ·obtain⟨F0,ds,d,hl,_,p,_⟩:=h;rw[p.length,hl]
 ·obtain⟨F0,ds,d,hl,sF,p,e,q⟩:=h;refine⟨_,hb cdv A outer s H E hr,Dr H F0,F0,envOf N.length ds,Bf sF p,?_⟩;unfold bL at e;split at e
  ·rename_i d' env' h1;cases e;rw[h1];exact λv σ' H' F' r' s' p'=>q v H' F' (aP.Ju r'.pr s' r'.fr sF) r'.fr s' (JF s' r'.dj) p'
  ·rename_i env' h1;cases e;rw[h1];exact λσ' H' F' r' s'=>q .non H' F' (aP.Ju r'.pr s' r'.fr sF) r'.fr s' (JF s' r'.dj) rfl
  ·cases e
theorem Xx(F:Ui K x qual st f fd)(S:bA N ps (aN st))
  (hb:∀(cdv:Value) (A:Around) (outer:List PySem.Env) (s:Shared) (H:Hp) (E:XK),ju k (A.deeper (envOfC qual (aN st) s.heap.objs.size f cdv))->ur (bx P w K mg base N qual st f cdv A outer s H E) (C0 K) (gj st) ev) :
  ph P w K mg base Ep (k+1) f fd ps (Yj K ps.length (runN N.length ev)):=by
 refine F.ok S (λvs H Q E h=>?_) (λcdv A outer s H vs Q E hr h=>?_)
 ·obtain⟨F0,ds,d,hl,_,p,_⟩:=h;rw[p.length,hl]
 ·obtain⟨F0,ds,d,hl,sF,p,e,q⟩:=h;refine⟨_,hb cdv A outer s H E hr,Dr H F0,F0,envOf N.length ds,Bf sF p,?_⟩;unfold runN at e;split at e
  ·rename_i d' env' h1;cases e;rw[h1];refine λa σ' H' F' r' s' n'=>q a H' F' (aP.Ju r'.pr s' r'.fr sF) r'.fr s' (JF s' r'.dj) n'.own n'.nF ?_;rcases yX n'.nP with z|⟨u,z⟩
   ·exact z
   ·have:=s' a u z;rw[n'.nF] at this;cases this
  ·cases e
theorem FZ{K:Fg}{F H:Hp}{y:D}{a:Addr}{ds:List D}{vs:List V}{N:List Str}(s:aP F H)(hF:F a=none)(ho:lK K F H y a)(p:bI K F ds vs):Rel (C1 K a) (λb=>if b=a then none else Dr H F b) F (uY N.length y ds) (start N (.ref a::vs)) H:=by
 have un:∀(j:Nat) (x:Bool×D),(uY N.length y ds)[j]? = some (some x)->(j=0/\x=(true,y))\/∃i d,j=i+1/\x=(false,d)/\ds[i]? = some d:=λj x he=>by
  unfold uY at he;cases j with
  | zero=>cases he;exact .inl ⟨rfl,rfl⟩
  | succ i=>
   rw[List.getElem?_cons_succ] at he;by_cases hj:i<(ds.map λd=>some (false,d)).length
   ·rw[List.getElem?_append_left hj,List.getElem?_map] at he;obtain⟨d,h1,h2⟩:=Option.map_eq_some_iff.mp he;cases h2;exact .inr ⟨i,d,rfl,rfl,h1⟩
   ·rw[List.getElem?_append_right (by omega),List.getElem?_replicate] at he;split at he<;>cases he
 have z0:(start N (.ref a::vs))[0]? = some (some (V.ref a)):=rfl;refine⟨λb o e=>?_,s,?_,λj d he=>?_,λj d he=>?_,λj k d e b hj hk _ _=>?_,λb o e=>?_,λi b h=>?_⟩
 ·have e':(if b=a then none else Dr H F b)=some o:=e;split at e'
  ·cases e'
  ·exact(Gs e').1
 ·unfold uY L2.start;simp only[List.length_cons,List.length_append,List.length_map,List.length_replicate,p.length,List.map_cons];omega
 ·rcases un j _ he with ⟨_,z⟩|⟨i,d',rfl,z,hd⟩
  ·cases z
  ·cases z;obtain⟨v,h1,h2⟩:=p.get hd;refine⟨v,?_,h2⟩;unfold L2.start;rw[List.map_cons,List.cons_append,List.getElem?_cons_succ,List.getElem?_append_left (by rw[List.length_map];exact(List.getElem?_eq_some_iff.mp h1).1),List.getElem?_map,h1]
   rfl
 ·rcases un j _ he with ⟨rfl,z⟩|⟨i,d',rfl,z,hd⟩
  ·cases z;exact⟨a,z0,ho,hF,if_pos rfl⟩
  ·cases z
 ·rcases un j _ hj with ⟨rfl,_⟩|⟨i,d',rfl,z,_⟩
  ·rcases un k _ hk with ⟨rfl,_⟩|⟨i,d',rfl,z,_⟩
   ·rfl
   ·cases z
  ·cases z
 ·show(if b=a then none else Dr H F b)=none;split
  ·rfl
  ·unfold Dr;rw[e];rfl
 ·have h':(if i=0 then some a else none)=some b:=h;split at h'
  ·rename_i hi;cases h';rw[hi];exact z0
  ·cases h'
theorem acu{y:Str}{qs:List Str}(F:Ui K x qual st f fd)(S:bA N (y::qs) (aN st))
  (hb:∀(cdv:Value) (A:Around) (outer:List PySem.Env) (s:Shared) (H:Hp) (E:XK) (a:Addr),ju k (A.deeper (envOfC qual (aN st) s.heap.objs.size f cdv))->ur (bx P w K mg base N qual st f cdv A outer s H E) (C1 K a) (gj st) ev) :
  ph P w K mg base Ep (k+1) f fd (y::qs) (uG K (qs.length+1) (eO N.length ev)):=by
 refine F.ok S (λvs H Q E h=>?_) (λcdv A outer s H vs Q E hr h=>?_)
 ·obtain⟨F0,a,r,z,ds,d,z',rfl,hl,_,_,_,p,_⟩:=h;rw[List.length_cons,List.length_cons,p.length];exact hl
 ·obtain⟨F0,a,r,z,ds,d,z',rfl,hl,sF,hFa,ho,p,e,q⟩:=h;refine⟨_,hb cdv A outer s H E a hr,_,F0,uY N.length z ds,FZ sF hFa ho p,?_⟩;have fin:∀(env':Env) (σ':L2.St) (H' F':Hp) (v:V) (d:D) (z':D),env'[0]? = some (some (true,z'))->Rel (C1 K a) (λb=>if b=a then none else Dr H F0 b) F' env' σ' H'->aP F0 F'->Rep K F' d v->(∀v H' F',(∀b o,b≠a->H b=some o->H' b=some o)->aP F' H'->aP F0 F'->(∀b o,F' b=some o->F0 b=some o\/H b=none)->lK K F' H' z' a->Rep K F' d v->Q v H')->Q v H':=λenv' σ' H' F' v d z' h0 r' s' p' q=>by
   obtain⟨b,g1,g2,g3,g4⟩:=r'.own 0 z' h0;have g5:=r'.fix 0 a rfl;rw[g1] at g5;cases g5;refine q v H' F' (λc o hc e=>?_) r'.fr s' (λc o e=>?_) g2 p'
   ·cases u:F0 c with
    | none=>exact r'.pr c o (by show(if c=a then none else Dr H F0 c)=some o;rw[if_neg hc];unfold Dr;rw[u];exact e)
    | some w=>
     have:=sF c w u;rw[e] at this;cases this;exact r'.fr c o (s' c o u)
   ·by_cases hc:c=a
    ·subst hc;rw[g3] at e;cases e
    ·have h1:=r'.dj c o e;have h1':(if c=a then none else Dr H F0 c)=none:=h1;rw[if_neg hc] at h1';rcases yX h1' with u|⟨w,u⟩
     ·exact .inr u
     ·have:=s' c w u;rw[e] at this;cases this;exact .inl u
  unfold eO at e;simp only at e;split at e
  ·rename_i d' env' h1;split at e
   ·rename_i z1 h0;cases e;rw[h1];exact λv σ' H' F' r' s' p'=>fin env' σ' H' F' v _ _ h0 r' s' p' q
   ·cases e
  ·rename_i env' h1;split at e
   ·rename_i z1 h0;cases e;rw[h1];exact λσ' H' F' r' s'=>fin env' σ' H' F' .non .non _ h0 r' s' rfl q
   ·cases e
  ·cases e
end
structure Good(X:Cx)(C:Cfg):Prop where
 K:X.K=C.K
 calm:X.calm=true
 un:X.A.units+64<cLine
theorem Good.u1{X:Cx}{C:Cfg}(G:Good X C):X.A.units+1<cLine:=Nat.lt_of_le_of_lt (Nat.add_le_add_left (by decide:1<=64) _) G.un
theorem Good.u60{X:Cx}{C:Cfg}(G:Good X C):X.A.units+60<cLine:=Nat.lt_of_le_of_lt (Nat.add_le_add_left (by decide:60<=64) _) G.un
theorem Good.u61{X:Cx}{C:Cfg}(G:Good X C):X.A.units+61<cLine:=Nat.lt_of_le_of_lt (Nat.add_le_add_left (by decide:61<=64) _) G.un
theorem Good.at{X X':Cx}{C:Cfg}{scope:Scope}{N':List Str}(G:Good X C)(h:dX X scope N' X'):Good X' C:=by obtain⟨_,_,_,_,_,rfl⟩:=h;exact⟨G.K,G.calm,G.un⟩
def Own(P:Program)(w:World)(K:Fg)(mg:Str->Option Value)(base:Heap)(x:Str)(k:Nat)(ps:List Str)(sp:Sp):Prop:=
 ∃f fd,ph P w K mg base Ep k f fd ps sp/\mg x=some (.ref f)/\PySem.W.keepIn K (.ref f)=true/\Binds K fd ps []
def Glb(K:Fg)(mg:Str->Option Value)(x:Str)(d:D):Prop:=∃v u,mg x=some u/\RelV v u/\∀F,Rep K F d v
def cU(K:Fg)(mg:Str->Option Value)(x:Str)(st:Stmt)(ps:List Str):Prop:=∃f fd,Ui K x x st f fd/\mg x=some (.ref f)/\Binds K fd ps []
def jJ:List Str->Bool
 | []=>true
 | x::r=>!(r.contains x)&&jJ r
theorem jP:∀{l:List Str},jJ l=true->l.Nodup
 | [],_=>.nil
 | x::r,h=>by
  have h':(!(r.contains x)&&jJ r)=true:=h;rw[Bool.and_eq_true] at h';refine List.nodup_cons.mpr ⟨λhm=>?_,jP h'.2⟩;have:r.contains x=true:=List.contains_iff_mem.mpr hm;rw[this] at h';exact absurd h'.1 (by decide)
def Lq(outer:List (Str×NameKind)):List (Str×NameKind)->Bool
 | []=>true
 | (n,k)::r=>(!decide (k = .free)||decide (outer.lookup n=some .cell)||decide (outer.lookup n=some .free))&&Lq outer r
theorem Hc{outer:List (Str×NameKind)}:∀{l:List (Str×NameKind)},Lq outer l=true->∀x∈l,x.2 = .free->outer.lookup x.1=some .cell\/outer.lookup x.1=some .free
 | [],_,x,hx,_=>by simp at hx
 | (n,k)::r,h,x,hx,hf=>by
  have h':((!decide (k = .free)||decide (outer.lookup n=some .cell)||decide (outer.lookup n=some .free))&&Lq outer r)=true:=h;rw[Bool.and_eq_true,Bool.or_eq_true,Bool.or_eq_true] at h';rcases List.mem_cons.mp hx with rfl|hx
  ·rcases h'.1 with (z|z)|z
   ·have hf':k = .free:=hf;rw[decide_eq_true hf'] at z;exact absurd z (by decide)
   ·exact .inl (of_decide_eq_true z)
   ·exact .inr (of_decide_eq_true z)
  ·exact Hc h'.2 x hx hf
theorem gC{X:Cx}{scope:Scope}{N':List Str}(h1:scope.kind = .function:=by rfl)(h2:jJ (scope.names.map (·.1))=true:=by rfl)(h3:Lq X.env.scope.names scope.names=true:=by rfl)(h4:Tu scope.names N' X.N=true:=by rfl)(h5:Nat.ble X.N.length N'.length=true:=by rfl):jN X scope N':=
 ⟨h1,jP h2,Hc h3,h4,Nat.le_of_ble_eq_true h5⟩
section
variable{X:Cx}{C:Cfg}{pos p px:Pos}{x y z:Expr}{a b c:Ev}{t u:dJ}{i:Nat}{n:Str}
theorem aJ(i:Nat)(hN:X.N[i]? = some n:=by rfl)(hv:rn X.env.scope n:=by first|exact Or.inl rfl|exact Or.inr (Or.inl rfl)|exact Or.inr (Or.inr rfl))(hd:j9 n:=by decide)(hcd:rF n:=by decide):PX X C (.Name n pos) (aq i):=ZL i hN hv hd hcd
theorem cQ(i:Nat)(hN:X.N[i]? = some n:=by rfl)(hv:rn X.env.scope n:=by first|exact Or.inl rfl|exact Or.inr (Or.inl rfl)|exact Or.inr (Or.inr rfl))(hd:j9 n:=by decide)(hcd:rF n:=by decide):zV X C (.Name n pos) (aV i):=Vv i hN hv hd hcd
structure Bi(X:Cx)(C:Cfg)(op:Operator)(g:D->D->Option D):Prop where
 ex:∃r,pA X (binaryOp op) r/\rO C r g
structure Cm(X:Cx)(C:Cfg)(op:CmpOp)(g:D->D->Option D):Prop where
 ex:∃r,pA X (compareOp op) r/\rO C r g
theorem gk(G:Good X C):Bi X C .Add bJ:=⟨_,V7,by rw[G.K];exact aaz⟩
theorem Mg:Bi X C .Sub qM:=⟨_,aab,aaq⟩
theorem TY:Bi X C .Mult t6:=⟨_,V5,aau⟩
theorem afl:Bi X C .Mod ab2:=⟨_,aag,aav⟩
theorem YS:Bi X C .Pow J3:=⟨_,aae,aat⟩
theorem afk:Bi X C .LShift WX:=⟨_,aad,aas⟩
theorem YQ:Bi X C .RShift G8:=⟨_,aac,aar⟩
theorem YW:Bi X C .BitAnd G9:=⟨_,aan,aay⟩
theorem pO(G:Good X C):Cm X C .Eq lV:=⟨_,aal G.u60,by rw[G.K];exact adV⟩
theorem wC(G:Good X C):Cm X C .NotEq rJ:=⟨_,aaf G.u60,by rw[G.K];exact adS⟩
theorem afh(G:Good X C):Cm X C .In gIn:=⟨_,aak G.u61,by rw[G.K];exact adU⟩
theorem LR(G:Good X C):Cm X C .NotIn qO:=⟨_,Nr G.u61,by rw[G.K];exact Ra⟩
theorem afg:Cm X C .Is gIs:=⟨_,aai,adT⟩
theorem iK{op:Operator}{g:D->D->Option D}(o:Bi X C op g)(ha:PX X C x a)(hb:zV X C y b):PX X C (.BinOp x op y pos) (aH g a b):=let ⟨_,h1,h2⟩:=o.ex;adH h1 h2 ha hb
theorem eG{op:Operator}{g:D->D->Option D}(i:Nat)(o:Bi X C op g)(hb:zV X C y b)(hN:X.N[i]? = some n:=by rfl)(hv:rn X.env.scope n:=by first|exact Or.inl rfl|exact Or.inr (Or.inl rfl)|exact Or.inr (Or.inr rfl))(hd:j9 n:=by decide)(hcd:rF n:=by decide):PX X C (.BinOp (.Name n px) op y pos) (au g i b):=let ⟨_,h1,h2⟩:=o.ex;ZP i hN hv h1 h2 hb hd hcd
theorem Ex{op:CmpOp}{g:D->D->Option D}(o:Cm X C op g)(ha:PX X C x a)(hb:zV X C y b)(hm:behindInMarks op y=false:=by rfl):PX X C (.Compare x [op] [y] pos) (aH g a b):=let ⟨_,h1,h2⟩:=o.ex;ZR h1 h2 ha hb hm
theorem sS{op:CmpOp}{g:D->D->Option D}(i:Nat)(o:Cm X C op g)(hb:zV X C y b)(hN:X.N[i]? = some n:=by rfl)(hv:rn X.env.scope n:=by first|exact Or.inl rfl|exact Or.inr (Or.inl rfl)|exact Or.inr (Or.inr rfl))(hm:behindInMarks op y=false:=by rfl)(hd:j9 n:=by decide)(hcd:rF n:=by decide):PX X C (.Compare (.Name n px) [op] [y] pos) (au g i b):=by obtain⟨r,h1,h2⟩:=o.ex;exact(De h1 (lN hN hv hd hcd) hb hm).imp (vf h2)
theorem j7{op:CmpOp}{g:D->D->Option D}(o:Cm X C op g)(ha:PX X C x a)(hb:zV X C y b)(hm:behindInMarks op y=false:=by rfl):Ml X C (.Compare x [op] [y] pos) (dw (aH g a b)):=let ⟨_,h1,h2⟩:=o.ex;Vn h1 h2 ha hb hm
theorem iH{op:CmpOp}{g:D->D->Option D}(i:Nat)(o:Cm X C op g)(hb:zV X C y b)(hN:X.N[i]? = some n:=by rfl)(hv:rn X.env.scope n:=by first|exact Or.inl rfl|exact Or.inr (Or.inl rfl)|exact Or.inr (Or.inr rfl))(hm:behindInMarks op y=false:=by rfl)(hd:j9 n:=by decide)(hcd:rF n:=by decide):Ml X C (.Compare (.Name n px) [op] [y] pos) (dw (au g i b)):=by obtain⟨r,h1,h2⟩:=o.ex;exact(KQ h1 (lN hN hv hd hcd) hb hm).imp λσ H Q h=>vf h2 σ H _ (Qa h)
theorem rP(G:Good X C)(ha:PX X C x a)(hb:zV X C y b)(hs:pW y:=by intro _ _;rfl):PX X C (.Subscript x y pos) (aH bU a b):=adI G.K ha hb hs
theorem bY(i:Nat)(G:Good X C)(hb:zV X C y b)(hN:X.N[i]? = some n:=by rfl)(hv:rn X.env.scope n:=by first|exact Or.inl rfl|exact Or.inr (Or.inl rfl)|exact Or.inr (Or.inr rfl))(hs:pW y:=by intro _ _;rfl)(hd:j9 n:=by decide)(hcd:rF n:=by decide):PX X C (.Subscript (.Name n px) y pos) (au bU i b):=ZQ i G.K hN hv hb hs hd hcd
theorem uB(i:Nat)(G:Good X C)(hb:zV X C y b)(hN:X.N[i]? = some n:=by rfl)(hv:rn X.env.scope n:=by first|exact Or.inl rfl|exact Or.inr (Or.inl rfl)|exact Or.inr (Or.inr rfl))(hs:Ug y:=by intro _ _;rfl)(hd:j9 n:=by decide)(hcd:rF n:=by decide):PX X C (.Subscript (.Name n px) y pos) (au iZ i b):=QH i G.u1 hN hv hb hs hd hcd
theorem Px{lo hi:Option Expr}{el eh:xR}{p2:Pos}(G:Good X C)(ha:PX X C x a)(hl:Ue X C lo el)(hh:Ue X C hi eh):PX X C (.Subscript x (.Slice lo hi none p2) pos) (uc a el eh):=adG G.K ha hl hh
variable{e:Expr}{es:List Expr}{ea:cJ}
theorem jW(G:Good X C)(hm:X.mg "len" = none)(ha:uv X C [e] ea)(hg:Gl X "len":=by rfl)(he:tQ e X.env:=by rfl):PX X C (.Call (.Name "len" p) [e] [] pos) (az f9 ea):=
 qD (by rw[<-G.K];exact TF) acy hg hm PySem.boot_len ha (by decide) (by decide) he rfl
theorem Ey(G:Good X C)(hm:X.mg "all" = none)(ha:uv X C [e] ea)(hg:Gl X "all":=by rfl)(he:tQ e X.env:=by rfl):PX X C (.Call (.Name "all" p) [e] [] pos) (az xE ea):=
 qD (by rw[<-G.K];exact O5 G.calm) acA hg hm (by decide +kernel) ha (by decide) (by decide) he rfl
theorem Ko(G:Good X C)(hm:X.mg "any" = none)(ha:uv X C [e] ea)(hg:Gl X "any":=by rfl)(he:tQ e X.env:=by rfl):PX X C (.Call (.Name "any" p) [e] [] pos) (az Ak ea):=
 qD (by rw[<-G.K];exact O4 G.calm) acz hg hm (by decide +kernel) ha (by decide) (by decide) he rfl
theorem uz(G:Good X C)(hm:X.mg "sorted" = none)(ha:uv X C [e] ea)(hg:Gl X "sorted":=by rfl)(he:tQ e X.env:=by rfl):PX X C (.Call (.Name "sorted" p) [e] [] pos) (az iQ ea):=
 Nf G.K G.calm hg hm ha he rfl
theorem xW{e2:Expr}(G:Good X C)(hm:X.mg "divmod" = none)(ha:uv X C [e,e2] ea)(hg:Gl X "divmod":=by rfl)(he:starEach [e,e2] X.env=(false,eval e X.env)::starEach [e2] X.env:=by rfl)(hpl:(backTo pos (starEach [e2] X.env)).any (·.1)=false:=by rfl):PX X C (.Call (.Name "divmod" p) [e,e2] [] pos) (az my ea):=
 qD Hs OJ hg hm (by decide +kernel) ha (by decide) (by decide) he hpl
theorem gQ(G:Good X C)(hm:X.mg "tuple" = none)(ha:uv X C [e] ea)(hg:Gl X "tuple":=by rfl)(he:tQ e X.env:=by rfl):PX X C (.Call (.Name "tuple" p) [e] [] pos) (az cG ea):=
 vX (T:="tuple") (r:=Qu C.K) (by rw[<-G.K];exact Ao) Tv hg hm (by decide +kernel) ha (by decide) (by decide) he rfl
theorem Ce(G:Good X C)(hm:X.mg "list" = none)(ha:uv X C [e] ea)(hg:Gl X "list":=by rfl)(he:tQ e X.env:=by rfl):PX X C (.Call (.Name "list" p) [e] [] pos) (az qP ea):=
 vX (T:="list") (r:=Qy C.K) (by rw[<-G.K];exact Kd G.calm) XC hg hm (by decide +kernel) ha (by decide) (by decide) he rfl
theorem vA{o:Expr}{apos cpos:Pos}(G:Good X C)(ho:PX X C o a)(he:zV X C e b)(hbase:attributeBase o "join" X.env (eval o X.env)=eval o X.env:=by rfl)
  (hs:tQ e X.env:=by rfl)
  (hfew:((backTo cpos (starEach [e] X.env)).all (λx=>!x.1)&&(backToKw cpos (keywordEach [] X.env)).all (λx=>x.1.isSome)
   && decide ([e].length+([]:List Keyword).length+(if ([]:List Keyword).isEmpty then 0 else 1)<30))=true:=by rfl)
  (hline:(apos.endLine == cpos.line)=true:=by rfl) (hplain:(backTo cpos (starEach [] X.env)).any (·.1)=false:=by rfl) :
  PX X C (.Call (.Attribute o "join" apos) [e] [] cpos) (aH m5 a b):=Vw G.K ho he hbase hs hfew hline hplain
theorem cA{k k':Nat}{m:Nat}{ps:List Str}{g:List D->Option D}(O:Own X.prog X.w X.K X.mg X.base n k ps (oR X.K m g))(G:Good X C)(hr:ju k' X.A)(hk:Nat.ble k k'=true)(ha:Em X C (e::es) ea)(hn:∀env ds env',ea env = .ok ds env'->ds.length=m)
  (hg:Gl X n:=by rfl) (hdb:j9 n:=by decide) (he:starEach (e::es) X.env=(false,eval e X.env)::starEach es X.env:=by rfl) (hpl:(backTo pos (starEach es X.env)).any (·.1)=false:=by rfl):PX X C (.Call (.Name n p) (e::es) [] pos) (az g ea):=by
 obtain⟨f,fd,h1,h2,h3,h4⟩:=O;rw[G.K] at h1;have h1':ph X.prog X.w X.K X.mg X.base Ep k f fd ps (oR C.K m g):=by rw[G.K];exact h1
 exact ZM h1' (hr.mono (Nat.le_of_ble_eq_true hk)) hg h2 h3 h4 ha hn hdb he hpl
theorem Gq{k k':Nat}{m:Nat}{ps:List Str}{g:List D->Option D}(O:Own X.prog X.w X.K X.mg X.base n k ps (Yj X.K m g))(G:Good X C)(hr:ju k' X.A)(hk:Nat.ble k k'=true)(ha:Em X C (e::es) ea)(hn:∀env ds env',ea env = .ok ds env'->ds.length=m)
  (hg:Gl X n:=by rfl) (hdb:j9 n:=by decide) (he:starEach (e::es) X.env=(false,eval e X.env)::starEach es X.env:=by rfl) (hpl:(backTo pos (starEach es X.env)).any (·.1)=false:=by rfl):Kf X C (.Call (.Name n p) (e::es) [] pos) (az g ea):=by
 obtain⟨f,fd,h1,h2,h3,h4⟩:=O;rw[G.K] at h1;have h1':ph X.prog X.w X.K X.mg X.base Ep k f fd ps (Yj C.K m g):=by rw[G.K];exact h1
 exact Vs h1' (hr.mono (Nat.le_of_ble_eq_true hk)) hg h2 h3 h4 ha hn hdb he hpl
theorem jV{k k':Nat}{m:Nat}{ps:List Str}{g:List D->Option (D×D)}{v:Str}{pv:Pos}(i:Nat)(O:Own X.prog X.w X.K X.mg X.base n k ps (uG X.K m g))(G:Good X C)(hr:ju k' X.A)(hk:Nat.ble k k'=true)(ha:Em X C es ea)(hn:∀env ds env',ea env = .ok ds env'->ds.length+1=m)
  (hN:X.N[i]? = some v:=by rfl) (hv:rn X.env.scope v:=by first|exact Or.inl rfl|exact Or.inr (Or.inl rfl)|exact Or.inr (Or.inr rfl))
  (hg:Gl X n:=by rfl) (hdb:j9 n:=by decide) (he:starEach (.Name v pv::es) X.env=(false,eval (.Name v pv) X.env)::starEach es X.env:=by rfl) (hpl:(backTo pos (starEach es X.env)).any (·.1)=false:=by rfl)
  (hd:j9 v:=by decide) (hcd:rF v:=by decide):PX X C (.Call (.Name n p) (.Name v pv::es) [] pos) (cD g i ea):=by
 obtain⟨f,fd,h1,h2,h3,h4⟩:=O;rw[G.K] at h1;have h1':ph X.prog X.w X.K X.mg X.base Ep k f fd ps (uG C.K m g):=by rw[G.K];exact h1
 exact adJ hN hv h1' (hr.mono (Nat.le_of_ble_eq_true hk)) hg h2 h3 h4 ha hn hdb he hpl hd hcd
theorem len0:∀(env:Env) (ds:List D) (env':Env),ao env = .ok ds env'->ds.length=0:=Oo
theorem aZ{a:Ev}{r:cJ}{m:Nat}(hr:∀env ds env',r env = .ok ds env'->ds.length=m):∀(env:Env) (ds:List D) (env':Env),aa a r env = .ok ds env'->ds.length=m+1:=J5 hr
theorem gH{r:cJ}{m:Nat}(hr:∀env ds env',r env = .ok ds env'->ds.length=m):∀(env:Env) (ds:List D) (env':Env),r env = .ok ds env'->ds.length+1=m+1:=λenv ds env' h=>by rw[hr env ds env' h]
theorem bu{lo:Nat}(i:Nat)(hnd:jJ X.N=true:=by rfl)(hlo:Nat.ble lo i=true:=by rfl)(hfx:C.fx i=none:=by rfl)(hi:X.N[i]? = some n:=by rfl)(hx:Loc X.env.scope n:=by first|exact Or.inl rfl|exact Or.inr rfl)(hf:X.fn n=true\/X.env.scope.names.lookup n=some .local:=by first|exact .inl rfl|exact .inr rfl):Hx X C lo (.Name n pos) (ak i):=
 QG (jP hnd) hi hx (Nat.le_of_ble_eq_true hlo) hfx hf
theorem nC{lo:Nat}{k:Nat}{gs:Mp}{m:Nat}(G:Good X C)(h:O9 X C lo es gs)(hn:(assignEach es X.env).length=m:=by rfl)(hst:(assignEach es X.env).findIdx? (·.1)=none:=by rfl):Hx X C lo (.Tuple es k pos) (eE m gs):=Vu G.calm G.K h hn hst
theorem abR{lo:Nat}{ix:Expr}{ev:Ev}(i:Nat)(h:PX X C ix ev)(hN:X.N[i]? = some n:=by rfl)(hv:rn X.env.scope n:=by first|exact Or.inl rfl|exact Or.inr (Or.inl rfl)|exact Or.inr (Or.inr rfl))
  (ha:∀v,assign (.Subscript (.Name n px) ix pos) X.env v=(do
   let ov <-holding [v] (eval (.Name n px) X.env)
   let iv <-holding [v,ov] (eval ix X.env)
   standAt pos
   holding [v,ov,iv] (setItem ov iv v)
   release [v,ov,iv] []):=by intro _;rfl)
  (hd:j9 n:=by decide) (hcd:rF n:=by decide):Hx X C lo (.Subscript (.Name n px) ix pos) (J0 i ev):=ZK hN hv h ha hd hcd
theorem bT{pos':Pos}(i:Nat)(he:PX X C e a)(hnd:jJ X.N=true:=by rfl)(hfx:C.fx i=none:=by rfl)(hi:X.N[i]? = some n:=by rfl)(hx:Loc X.env.scope n:=by first|exact Or.inl rfl|exact Or.inr rfl)(hs:swapsWith e (some (.Name n pos')) pos.line X.env=pure false:=by rfl)(hf:X.fn n=true\/X.env.scope.names.lookup n=some .local:=by first|exact .inl rfl|exact .inr rfl) :
  Ay X C (.Assign [.Name n pos'] e pos) (aK a (ak i)):=Vo (jP hnd) hi hx hfx he hs hf
theorem nq{pos':Pos}(i:Nat)(he:Kf X C e a)(hnd:jJ X.N=true:=by rfl)(hfx:C.fx i=none:=by rfl)(hi:X.N[i]? = some n:=by rfl)(hx:Loc X.env.scope n:=by first|exact Or.inl rfl|exact Or.inr rfl)(hs:swapsWith e (some (.Name n pos')) pos.line X.env=pure false:=by rfl)(hf:X.fn n=true\/X.env.scope.names.lookup n=some .local:=by first|exact .inl rfl|exact .inr rfl) :
  Ay X C (.Assign [.Name n pos'] e pos) (cT i a):=Vp (jP hnd) hi hx hfx he hs hf
theorem rW{apos cpos:Pos}(i:Nat)(G:Good X C)(he:PX X C e a)(hN:X.N[i]? = some n:=by rfl)(hv:rn X.env.scope n:=by first|exact Or.inl rfl|exact Or.inr (Or.inl rfl)|exact Or.inr (Or.inr rfl))
  (hs:swapsWith (.Call (.Attribute (.Name n px) "append" apos) [e] [] cpos) none pos.line X.env=pure false:=by rfl)
  (hfew:((backTo cpos (starEach [e] X.env)).all (λx=>!x.1)&&(backToKw cpos (keywordEach [] X.env)).all (λx=>x.1.isSome)
   && decide (([e]:List Expr).length+([]:List Keyword).length+(if ([]:List Keyword).isEmpty then 0 else 1)<30))=true:=by rfl)
  (hbase:attributeBase (.Name n px) "append" X.env (eval (.Name n px) X.env)=eval (.Name n px) X.env:=by rfl)
  (hline:(apos.endLine == cpos.line)=true:=by rfl) (hst:tQ e X.env:=by rfl) (hplain:(backTo cpos (starEach [] X.env)).any (·.1)=false:=by rfl)
  (hd:j9 n:=by decide) (hcd:rF n:=by decide):Ay X C (.Expr (.Call (.Attribute (.Name n px) "append" apos) [e] [] cpos) pos) (fX i a):=
 Vr hN hv he G.K hs hfew hbase hline hst hplain hd hcd
theorem Ji{k:Expr}{ek:Ev}{pos':Pos}(i:Nat)(G:Good X C)(hk:PX X C k ek)(he:PX X C e a)(hN:X.N[i]? = some n:=by rfl)(hv:rn X.env.scope n:=by first|exact Or.inl rfl|exact Or.inr (Or.inl rfl)|exact Or.inr (Or.inr rfl))
  (hs:swapsWith e (some (.Subscript (.Name n px) k pos')) pos.line X.env=pure false:=by rfl)
  (hd:j9 n:=by decide) (hcd:rF n:=by decide):Ay X C (.Assign [.Subscript (.Name n px) k pos'] e pos) (nH i ek a):=QF G.u1 hN hv hk he hs hd hcd
theorem iz{tg:Expr}(G:Good X C)(h:PX X C x a):Hw X C tg x (d8 a):=Vt G.K h
theorem kO{tg:Expr}(hm:X.mg "range" = none)(ha:Em X C [e] ea)(hl:∀env ds env',ea env = .ok ds env'->ds.length=1)(hg:Gl X "range":=by rfl)(hs:starEach [e] X.env=[(false,eval e X.env)]:=by rfl):Hw X C tg (.Call (.Name "range" p) [e] [] pos) (dz ea):=Jm hg hm ha hl hs
theorem Dy{tg e2:Expr}(hm:X.mg "range" = none)(ha:Em X C [e,e2] ea)(hl:∀env ds env',ea env = .ok ds env'->ds.length=2)(hg:Gl X "range":=by rfl)(hs:starEach [e,e2] X.env=[(false,eval e X.env),(false,eval e2 X.env)]:=by rfl)(hs2:starEach [e2] X.env=[(false,eval e2 X.env)]:=by rfl):Hw X C tg (.Call (.Name "range" p) [e,e2] [] pos) (dz ea):=Jl hg hm ha hl hs hs2
theorem j8{tg iter:Expr}{body:List Stmt}{it:cJ}{g:GV}{bs:bG}(G:Good X C)(hi:Hw X C tg iter it)(hg:Hx X C 0 tg g)(hb:ur X C body bs)(hp:PassesOwn (model X.prog X.w) X.A X.env X.xe:=by exact PassesOwn.never)
  (hs:∀x,foldedSetIterable iter X.env x=pure x:=by intro _;rfl):Ay X C (.For tg iter body [] pos) (dI it g bs):=Vq hp G.calm hi hg hb hs
theorem qi{elt tg iter:Expr}{ifs:List Expr}{scope:Scope}(N':List Str){it:cJ}{g:GV}{cc:dJ}{ee:Ev}(lo:Nat)(ok:jN X scope N')(G:Good X C)(hi:Hw X C tg iter it)
  (bg:∀X',dX X scope N' X'->Hx X' C lo tg g) (bc:∀X',dX X scope N' X'->Hv X' C ifs cc) (be:∀X',dX X scope N' X'->PX X' C elt ee)
  (hs:∀x,foldedSetIterable iter X.env x=pure x:=by intro _;rfl):Kf X C (.ListComp elt [⟨tg,iter,ifs,0⟩] scope pos) (dR lo N'.length it g cc ee):=ZJ N' lo ok G.calm hi bg bc be hs
theorem M4{elt tg iter:Expr}{ifs:List Expr}{scope:Scope}(N':List Str){spos py:Pos}{it:cJ}{g:GV}{cc:dJ}{ee:Ev}(lo:Nat)(i:Nat)(ok:jN X scope N')(G:Good X C)(hi:Hw X C tg iter it)
  (bg:∀X',dX X scope N' X'->Hx X' C lo tg g) (bc:∀X',dX X scope N' X'->Hv X' C ifs cc) (be:∀X',dX X scope N' X'->PX X' C elt ee)
  (hnd:jJ X.N=true:=by rfl) (hfx:C.fx i=none:=by rfl) (hy:X.N[i]? = some n:=by rfl) (hx:Loc X.env.scope n:=by first|exact Or.inl rfl|exact Or.inr rfl)
  (hsw:swapsWith (.ListComp elt [⟨tg,iter,ifs,0⟩] scope pos) (some (.Name n py)) spos.line X.env=pure true:=by rfl)
  (hf:X.fn n=true\/X.env.scope.names.lookup n=some .local:=by first|exact .inl rfl|exact .inr rfl)
  (hs:∀x,foldedSetIterable iter X.env x=pure x:=by intro _;rfl):Ay X C (.Assign [.Name n py] (.ListComp elt [⟨tg,iter,ifs,0⟩] scope pos) spos) (cT i (dR lo N'.length it g cc ee)):=Nb N' lo ok G.calm hi bg bc be (jP hnd) hy hx hfx hsw hf hs
end
section
variable{P:Program}{w:World}{K:Fg}{mg:Str->Option Value}{base:Heap}{x:Str}{st:Stmt}{N ps:List Str}{k:Nat}{ev:bG}
theorem xN{x:Str}{f:Addr}{cdv:Value}{A:Around}{outer:List PySem.Env}{s:Shared}{H:Hp}{E:XK}{C:Cfg}(hC:C.K=K)(hr:ju k (A.deeper (envOfC x (aN st) s.heap.objs.size f cdv))):Good (bx P w K mg base N x st f cdv A outer s H E) C:=⟨hC.symm,rfl,hr.units⟩
theorem bN(F:cU K mg x st ps)(S:bA N ps (aN st))
  (hb:∀(f:Addr) (cdv:Value) (A:Around) (outer:List PySem.Env) (s:Shared) (H:Hp) (E:XK),ju k (A.deeper (envOfC x (aN st) s.heap.objs.size f cdv))->Good (bx P w K mg base N x st f cdv A outer s H E) (C0 K)->ur (bx P w K mg base N x st f cdv A outer s H E) (C0 K) (gj st) ev) :
  Own P w K mg base x (k+1) ps (oR K ps.length (bL N.length ev)):=by
 obtain⟨f,fd,h1,h2,h3⟩:=F;exact⟨f,fd,Hj h1 S λcdv A outer s H E hr=>hb f cdv A outer s H E hr (xN rfl hr),h2,h1.kp,h3⟩
theorem V1(F:cU K mg x st ps)(S:bA N ps (aN st))
  (hb:∀(f:Addr) (cdv:Value) (A:Around) (outer:List PySem.Env) (s:Shared) (H:Hp) (E:XK),ju k (A.deeper (envOfC x (aN st) s.heap.objs.size f cdv))->Good (bx P w K mg base N x st f cdv A outer s H E) (C0 K)->ur (bx P w K mg base N x st f cdv A outer s H E) (C0 K) (gj st) ev) :
  Own P w K mg base x (k+1) ps (Yj K ps.length (runN N.length ev)):=by
 obtain⟨f,fd,h1,h2,h3⟩:=F;exact⟨f,fd,Xx h1 S λcdv A outer s H E hr=>hb f cdv A outer s H E hr (xN rfl hr),h2,h1.kp,h3⟩
theorem tW{y:Str}{qs:List Str}(F:cU K mg x st (y::qs))(S:bA N (y::qs) (aN st))
  (hb:∀(f:Addr) (cdv:Value) (A:Around) (outer:List PySem.Env) (s:Shared) (H:Hp) (E:XK) (a:Addr),ju k (A.deeper (envOfC x (aN st) s.heap.objs.size f cdv))->Good (bx P w K mg base N x st f cdv A outer s H E) (C1 K a)->ur (bx P w K mg base N x st f cdv A outer s H E) (C1 K a) (gj st) ev) :
  Own P w K mg base x (k+1) (y::qs) (uG K (qs.length+1) (eO N.length ev)):=by
 obtain⟨f,fd,h1,h2,h3⟩:=F;exact⟨f,fd,acu h1 S λcdv A outer s H E a hr=>hb f cdv A outer s H E a hr (xN rfl hr),h2,h1.kp,h3⟩
theorem ir{sc:Scope}(h1:sc.kind = .function:=by rfl)(h2:sc.isCoroutine=false:=by rfl)(h3:sc.isGenerator=false:=by rfl)(h4:jJ N=true:=by rfl)(h5:N.take ps.length=ps:=by rfl)
  (h6:(ps.all λx=>decide (sc.names.lookup x=some .local)||decide (sc.names.lookup x=some .cell))=true:=by rfl) (h7:(sc.names.all λy=>!decide (y.2 = .free))=true:=by rfl):bA N ps sc:=by
 refine⟨h1,h2,h3,jP h4,h5,λx hx=>?_,λy hy z=>?_⟩
 ·have:=List.all_eq_true.mp h6 x hx;rw[Bool.or_eq_true] at this;rcases this with z|z
  ·exact .inl (of_decide_eq_true z)
  ·exact .inr (of_decide_eq_true z)
 ·have:=List.all_eq_true.mp h7 y hy;rw[decide_eq_true z] at this;exact absurd this (by decide)
end
open PySem PySem.Spec PySem.W PySem.Calls PyProof.Rows L2
theorem wJ:∀(ns:List Int) (i:Int),i∈ns->Builtin.Int.intBits i<=WData.weightAll (ns.map WData.int)
 | [],_,h=>by simp at h
 | n::ns,i,h=>by
  rw[List.map_cons,WData.weightAll];rcases List.mem_cons.mp h with rfl|h
  ·have e:WData.weight (.int i)=Builtin.Int.intBits i:=by rw[WData.weight];rfl
   rw[e];omega
  ·have:=wJ ns i h;omega
def Kh(ns:List Int):Prop:=∀i∈ns,Builtin.Int.intBits i<=2^20
theorem Eh{l:OpenLaw}{n:Nat}{q:Program}{loose:List Str}{XP:(Str->Option Value)->Heap->Prop}{YP:World->Heap->Prop}{d:DefRec}
  (hn:l.most=some n) (hdf:d.params.defaults=[])
  (call:∀(w:World) (s₀ s₁:Shared) (mg mb:Str->Option Value) (fa:Addr) (o:Obj) (pm cd doc:Value) (a:Addr) (vs:List Value) (ns:List Int),
   Ground q loose [] XP w s₀ mg mb s₁.heap->YP w s₁.heap->
   s₁.heap.get? fa=some o->o.data = .func (docDef d.name d.params d.body d.scope pm cd doc)->s₁.heap.CodeRec cd d.name->mg d.name=some (.ref fa)->
   s₁.heap.get? a=some { cls:=.type "list",data:=.seq vs.toArray }->IntsAre vs ns->ns.length<=n->Kh ns->s₁.gens = #[]->
   codeAny (model l.prog w) callerA (.call (.ref fa) ⟨[.ref a],[]⟩) (λr s'=>r = .ok (.ret (.bool true))/\OldK s₁.heap s'.heap/\s'.os=s₁.os/\AllBare s'.gens) s₁) :
  WalkO q loose XP YP l.row.toRowW d [] (λf vs=>PySem.call f vs):=by
 intro w s₀ s₁ mg mb G Y fa o pm cd doc dV kV ho hd hcd hD hmg hg args vals as hpre hlay hrd hwl hlo;obtain rfl:dV = .none:=Dflts.none hD hdf;obtain rfl:kV = .none:=Dflts.noKw hD;obtain⟨a,vs,ns,rfl,rfl,hobj,hints,hlen⟩:=Att.MT hn hpre hwl;have Lj:Kh ns:=λi hi=>by
  have h1:=(layableW_iff.mp (layableW_arg hlay _ (List.mem_singleton.mpr rfl))).2.2;rw[WData.weight] at h1;exact Nat.le_trans (wJ ns i hi) h1
 refine enter_call (codeAny_mono (call w s₀ s₁ mg mb fa o pm cd doc a vs ns G Y ho (fd_plain hd) hcd hmg hobj hints hlen Lj hg) λr s' hq=>?_);obtain⟨rfl,h2,h3,h4⟩:=hq;exact⟨.inl ⟨.bool true,.bool true,[],rfl,λ_=>rfl,.bool true,Att.Nh l _,λ_=>⟨List.Pairwise.nil,λ_ hm=>(nomatch hm)⟩⟩,h2,h3,h4⟩
theorem acW{l:PySem.W.OpenLaw}{n k:Nat}{q:Program}{loose:List Str}{XP:(Str->Option Value)->Heap->Prop}{YP:World->Heap->Prop}{d:DefRec}{K:Params->PySem.W.Frag}{x:Str}{f:List D->Option D}
  (hn:l.most=some n) (hn2:n<=sizeLine) (hdf:d.params.defaults=[]) (hr:ju k callerA)
  (hY:∀(w:World) (h:Heap),YP w h->(K w.params).In h)
  (hf:∀ns:List Int,ns.length<=n->Kh ns->f [.arr (ns.map .int)]=some (.bl true))
  (F:∀(w:World) (mg:Str->Option Value) (fa:Addr) (h:Heap),(K w.params).In h->h.Ns mainGlobals mg->mg d.name=some (.ref fa)->
   ∃fd:FuncData,(∀(s:Shared) (u:Value),BindsTo s fd ⟨[u],[]⟩ [(x,u)])/\
    ∀base:Heap,(K w.params).In base->base.Ns mainGlobals mg->ph l.prog w (K w.params) mg base Ep k fa fd [x] (oR (K w.params) 1 f)) :
  PySem.W.WalkO q loose XP YP l.row.toRowW d [] (λf vs=>PySem.call f vs):=by
 refine Eh hn hdf λw s₀ s₁ mg mb fa o pm cd doc a vs ns G Y ho hd hcd hmg hobj hints hlen Lj hg=>?_;have KX:=hY w _ Y;obtain⟨fd,hb,hF⟩:=F w mg fa _ KX G.T.g hmg;refine Rx KX G.T.g G.T.b G.T.builtins G.T.nolimit hg hobj hints (Nat.le_trans hlen hn2) hr hF hb (λH hO hS=>?_) λH e s' z=>z;refine⟨H,[.arr (ns.map .int)],.bl true,rfl,aP.refl H,⟨_,_,rfl,⟨by rw[List.length_map];exact Nat.le_trans hlen hn2,a,_,rfl,hS,?_⟩,rfl⟩,hf ns hlen Lj,λv H' F' _ _ _ _ p=>p⟩;clear hints hlen Lj hS
 induction ns with
 | nil=>exact rfl
 | cons m ns ih=>exact⟨_,_,rfl,rfl,ih⟩
section
variable{K:Fg}{h:Heap}{mg:Str->Option Value}
theorem funAt{x:Str}{st:Stmt}{ps:List Str}{f:Addr}{oc:Value}{od an:Option Addr}{osl:Array (Option Value)}{kV doc pm cdv ct:Value}(X:K.In h)(G:h.Ns mainGlobals mg)
  (a:PySem.W.nsIn K mainGlobals x=some (some (.ref f))) (l:K.lookup f=some ⟨oc,od,.func (PySem.W.fnOf x x (lC st) (gj st) (aN st) .none kV doc pm an cdv ct),osl⟩)
  (c:PySem.W.codeIn K cdv x=true) (k:PySem.W.keepIn K (.ref f)=true)
  (b:∀(kV doc pm:Value) (an:Option Addr) (cdv ct:Value) (us:List Value),us.length=ps.length->bindArgs (PySem.W.fnOf x x (lC st) (gj st) (aN st) .none kV doc pm an cdv ct) ⟨us,[]⟩=pure (ps.zip us)):cU K mg x st ps:=
 ⟨f,_,J4 l c k,PySem.W.mg_of X G a,(J4 (st:=st) l c k).binds b⟩
theorem WW{x s:Str}{z:List Nat}{t:Tok}(X:K.In h)(G:h.Ns mainGlobals mg)(a:PySem.W.nsIn K mainGlobals x=some (some (.str s t)))(hs:s=strOf z)(hz:z.length<=sizeLine):Glb K mg x (.str z):=
 ⟨.str s,_,PySem.W.mg_of X G a,⟨t,rfl⟩,λF=>⟨by rw[hs],hz⟩⟩
theorem uM{x:Str}(X:K.In h)(G:h.Ns mainGlobals mg)(e:PySem.W.nsIn K mainGlobals x=some none):mg x=none:=PySem.W.mg_none_of X G e
end
open PySem L2
theorem Hd{g:GV}{b:bG}(P:Env->Prop):∀(ds:List D),(∀d∈ds,∀env,P env->∃e1 e2,g d env=some e1/\b e1 = .nx e2/\P e2)->∀env,P env->∃e',jb g b ds env = .nx e'/\P e'
 | [],_,env,hp=>⟨env,rfl,hp⟩
 | d::ds,h,env,hp=>by
  obtain⟨e1,e2,h1,h2,h3⟩:=h d (List.mem_cons_self ..) env hp;obtain⟨e',h4,h5⟩:=Hd P ds (λd' hd=>h d' (List.mem_cons_of_mem _ hd)) e2 h3;refine⟨e',?_,h5⟩;unfold jb;rw[h1];simp only;rw[h2];exact h4
theorem Lr{g:GV}{b:bG}{all:List D}(P:List D->Env->Prop)(h:∀done d rest,all=done++d::rest->∀env,P done env->∃e1 e2,g d env=some e1/\b e1 = .nx e2/\P (done++[d]) e2):∀(ds done:List D),all=done++ds->∀env,P done env->∃e',jb g b ds env = .nx e'/\P all e'
 | [],done,ha,env,hp=>⟨env,rfl,by rw[ha,List.append_nil];exact hp⟩
 | d::ds,done,ha,env,hp=>by
  obtain⟨e1,e2,h1,h2,h3⟩:=h done d ds ha env hp;obtain⟨e',h4,h5⟩:=Lr P h ds (done++[d]) (by rw[List.append_assoc];exact ha) e2 h3;refine⟨e',?_,h5⟩;unfold jb;rw[h1];simp only;rw[h2];exact h4
theorem jQ{g:GV}{b:bG}(all:List D)(P:List D->Env->Prop)(h:∀done d rest,all=done++d::rest->∀env,P done env->∃e1 e2,g d env=some e1/\b e1 = .nx e2/\P (done++[d]) e2)(env:Env)(h0:P [] env):∃e',jb g b all env = .nx e'/\P all e':=Lr P h all [] rfl env h0
theorem aL{a b:bG}{env e:Env}(h:a env = .nx e):aC a b env=b e:=by unfold aC;rw[h]
theorem oO{a b:bG}{env e:Env}{o:Bool}{d:D}(h:a env = .rt o d e):aC a b env = .rt o d e:=by unfold aC;rw[h]
theorem iR{it:cJ}{g:GV}{b:bG}{env e:Env}{ds:List D}(h:it env = .ok ds e):dI it g b env=jb g b ds e:=by unfold dI;rw[h];rfl
theorem cY{a:Ev}{g:GV}{env e e':Env}{d:D}(h:a env = .ok d e)(h':g d e=some e'):aK a g env = .nx e':=by unfold aK;rw[h];show Bm (g d e)=_;rw[h'];rfl
theorem jX{t:dJ}{a b:bG}{env e:Env}(h:t env = .ok true e):dB t a b env=a e:=by unfold dB;rw[h];rfl
theorem jr{t:dJ}{a b:bG}{env e:Env}(h:t env = .ok false e):dB t a b env=b e:=by unfold dB;rw[h];rfl
theorem cL{a:Ev}{env e:Env}{d:D}(h:a env = .ok d e):aY a env = .rt false d e:=by unfold aY;rw[h];rfl
theorem bw{g:List D->Option D}{a:cJ}{env e:Env}{ds:List D}{d:D}(h:a env = .ok ds e)(h':g ds=some d):az g a env = .ok d e:=by unfold az;rw[h];show d9 (g ds) e=_;rw[h'];rfl
theorem cz{g:D->D->Option D}{a b:Ev}{env e1 e2:Env}{x y d:D}(h1:a env = .ok x e1)(h2:b e1 = .ok y e2)(h3:g x y=some d):aH g a b env = .ok d e2:=by
 unfold aH;rw[h1];show bindR (b e1) _=_;rw[h2];show d9 (g x y) e2=_;rw[h3]
 rfl
theorem bH{g:D->D->Option D}{i:Nat}{b:Ev}{env e2:Env}{x y d:D}{o o':Bool}{x0:D}(h1:env[i]? = some (some (o',x0)))(h2:b env = .ok y e2)(h4:e2[i]? = some (some (o,x)))(h3:g x y=some d):au g i b env = .ok d e2:=by
 unfold au;rw[h1];show bindR (b env) _=_;rw[h2];show(match e2[i]? with|some (some (_,x))=>d9 (g x y) e2|_=>.stuck)=_;rw[h4];show d9 (g x y) e2=_;rw[h3]
 rfl
theorem aX{a:Ev}{r:cJ}{env e1 e2:Env}{d:D}{ds:List D}(h1:a env = .ok d e1)(h2:r e1 = .ok ds e2):aa a r env = .ok (d::ds) e2:=by
 unfold aa;rw[h1];show bindR (r e1) _=_;rw[h2]
 rfl
theorem cB{env:Env}:ao env = .ok [] env:=rfl
theorem Td{r:cJ}{env e:Env}{ds:List D}(h:r env = .ok ds e)(hz:ds.length<=sizeLine):bZ r env = .ok (.lst ds) e:=by unfold bZ;rw[h];show(if ds.length<=sizeLine then _ else _)=_;rw[if_pos hz]
theorem qR{r:cJ}{env e:Env}{ds:List D}(h:r env = .ok ds e)(hz:ds.length<=sizeLine):cI r env = .ok (.tup ds) e:=by unfold cI;rw[h];show(if ds.length<=sizeLine then _ else _)=_;rw[if_pos hz]
theorem lA{f:List D->Option (D×D)}{i:Nat}{a:cJ}{env e1:Env}{ds:List D}{x0 x d x':D}(h0:env[i]? = some (some (true,x0)))(h1:a env = .ok ds e1)(h2:e1[i]? = some (some (true,x)))(h3:f (x::ds)=some (d,x')):cD f i a env = .ok d (e1.set i (some (true,x'))):=by unfold cD;rw[h0];show bindR (a env) _=_;rw[h1];show(match e1[i]? with|some (some (true,x))=>(match f (x::ds) with|some (d,x')=>R.ok d (e1.set i (some (true,x')))|none=>R.stuck)|_=>R.stuck)=_;rw[h2];show(match f (x::ds) with|some (d,x')=>R.ok d (e1.set i (some (true,x')))|none=>.stuck)=_;rw[h3]
theorem Ln{i j:Int}(h:lr i j=true):t6 (.int i) (.int j)=some (.int (i*j)):=by show gI lr (λi j=>D.int (i*j)) (.int i) (.int j)=_;unfold gI;simp only;rw[if_pos h]
theorem SM{a b:List D}(h:a.length+b.length<=sizeLine):bJ (.lst a) (.lst b)=some (.lst (a++b)):=by show(if a.length+b.length<=sizeLine then _ else _)=_;rw[if_pos h]
theorem iJ{a:Ev}{env e:Env}{b:Bool}(h:a env = .ok (.bl b) e):dw a env = .ok b e:=by unfold dw;rw[h];rfl
theorem xP{a:Ev}{env e:Env}{d:D}{ds:List D}(h:a env = .ok d e)(h':WK d=some ds):d8 a env = .ok ds e:=by unfold d8;rw[h];show d9 (WK d) e=_;rw[h'];rfl
theorem jy{n:Nat}{ev:bG}{x d x':D}{r:List D}{env:Env}(h:ev (uY n x r) = .rt false d env)(h0:env[0]? = some (some (true,x'))):eO n ev (x::r)=some (d,x'):=by unfold eO;simp only;rw[h];simp only;rw[h0]
theorem fK{n:Nat}{ev:bG}{d:D}{ds:List D}{env:Env}(h:ev (envOf n ds) = .rt false d env):bL n ev ds=some d:=by unfold bL;rw[h]
theorem La{g:GV}{e:Ev}(P:Env->Prop)(f:D->D):∀(ds:List D) (env:Env),P env->(∀d∈ds,∀env,P env->∃e1 e2,g d env=some e1/\e e1 = .ok (f d) e2/\P e2)->∃env',uw g cu e ds env = .ok (ds.map f) env'/\P env'
 | [],env,hp,_=>⟨env,rfl,hp⟩
 | d::ds,env,hp,h=>by
  obtain⟨e1,e2,h1,h2,h3⟩:=h d (List.mem_cons_self ..) env hp;obtain⟨e3,h4,h5⟩:=La P f ds e2 h3 λd' hd=>h d' (List.mem_cons_of_mem _ hd);refine⟨e3,?_,h5⟩;unfold uw;rw[h1];show bindR (e e1) _=_;rw[h2];show bindR (uw g cu e ds e2) _=_;rw[h4]
  rfl
theorem uW{lo n:Nat}{it:cJ}{g:GV}{c:dJ}{e:Ev}{env aD dh:Env}{ds ys:List D}(h1:it env = .ok ds aD)(hl:aD.length=lo)(h2:uw g c e ds (aD++List.replicate (n - lo) none) = .ok ys dh)(hz:ys.length<=sizeLine):dR lo n it g c e env = .ok (.lst ys) (dh.take lo):=by unfold dR;rw[h1];show(if aD.length=lo then _ else _)=_;rw[if_pos hl,h2];show(if ys.length<=sizeLine then _ else _)=_;rw[if_pos hz]
theorem dig(n:Int)(m:Nat)(hm:0<m):∃d:Nat,d<m/\n % (m:Int)=(d:Int):=by have h1:0<=n % (m:Int):=Int.emod_nonneg n (by omega);have h2:n % (m:Int)<m:=Int.emod_lt_of_pos n (by omega);exact⟨(n % (m:Int)).toNat,by omega,by omega⟩
theorem Ej{α:Type}{xs:List α}{d:Nat}(h:d<xs.length):oA xs (d:Int)=some xs[d]:=lD (List.getElem?_eq_getElem h)
def okN:Nat->D->Bool
 | 0,_=>false
 | n+1,.tup xs=>xs.all (okN n)
 | n+1,.lst xs=>xs.all (okN n)
 | _+1,.dct _=>false
 | _+1,.m9 _=>false
 | _+1,.arr _=>false
 | _+1,_=>true
theorem zx{f:D->D->Option Bool}:∀(xs:List D),(∀x∈xs,f x x=some true)->wX f xs xs=some true
 | [],_=>rfl
 | x::r,h=>by
  unfold wX;rw[h x (List.mem_cons_self ..),zx r λy hy=>h y (List.mem_cons_of_mem _ hy)]
  rfl
theorem uX:∀(n:Nat) (d:D),okN n d=true->bC n d d=some true
 | 0,_,h=>by cases h
 | n+1,d,h=>by
  cases d with
  | tup xs=>exact zx xs λx hx=>uX n x (List.all_eq_true.mp h x hx)
  | lst xs=>exact zx xs λx hx=>uX n x (List.all_eq_true.mp h x hx)
  | dct _=>cases h
  | m9 _=>cases h
  | arr _=>cases h
  | non=>rfl
  | bl b=>show some (b == b)=_;simp
  | int i=>show some (i == i)=_;simp
  | str x=>show some (x == x)=_;simp
end Ev
namespace L2
open PySem PySem.Spec PyProof.Rows
section
variable{X:Cx}{pins:List (Addr×Obj)}{σ:St}{H:Hp}{s:Shared}{h':Heap}
theorem Inv.drawn{t':Nat}{ch:List Addr}{T:Addr}{o:HO}(I:Inv X pins σ H s)(hch:∀b∈ch,pY X pins H b)(k:∀b u,b ∉ ch->s.heap.get? b=some u->h'.get? b=some u)(hT:s.heap.objs.size<=T)
  (new:gP X.prog X.w (upd H T o) h' T o):Inv X pins σ (upd H T o) { s with heap:=h',toks:=t' }:=by
 have nT:H T=none:=I.hok.fresh hT;have Yv:∀b u,H b=some u->b ∉ ch:=λb u e z=>by rw[(hch b z).1] at e;cases e
 have up:∀b u,H b=some u->upd H T o b=some u:=λb u e=>by rw[bM (gm e nT)];exact e
 refine I.step (g':=s.gens) (d':=s.drawn) (ch:=ch) (λb hb=>?_) (λb u _ _ hc e _=>k b u hc e) (λb u _ _ hc e _=>⟨u.slots,k b u hc e⟩) (λb u hc e n=>?_)
  (λb u hc e=>⟨u,k b u hc e⟩) (λb xs e=>up b _ e) (λb u v e=>up b _ e) (λb ps e=>⟨#[],by rw[up b _ e];simp⟩) (λm hm=>?_) (λb u e=>?_) I.bare
 ·obtain⟨h0,h1,h2,h3,h4,h5⟩:=hch b hb;exact⟨h3,h1,h4,h5⟩
 ·have hb:b≠T:=λz=>by
   subst z;exact absurd (Heap.lt_size e) (Nat.not_lt.mpr hT)
  rw[bM hb];exact n
 ·obtain⟨u,es,ep,ho,r⟩:=hm;have hL:X.env.locals ∉ ch:=λz=>(hch _ z).2.1 rfl;exact⟨u,es,ep,k _ u hL ho,r⟩
 ·by_cases hb:b=T
  ·subst hb;rw[aU] at e;cases e;exact new
  ·rw[bM hb] at e;refine(I.hok b u e).stay (λc v hc q=>k c v ?_ q) (λc q=>up _ _ q) λc xs q=>up _ _ q;rcases hc with z|z
   ·rw[z];exact Yv b u e
   ·exact Yv c _ z
theorem Inv.Kq{t':Nat}{ch:List Addr}(I:Inv X pins σ H s)(hch:∀b∈ch,pY X pins H b)(k:∀b u,b ∉ ch->s.heap.get? b=some u->h'.get? b=some u):Inv X pins σ H { s with heap:=h',toks:=t' }:=by
 have Yv:∀b u,H b=some u->b ∉ ch:=λb u e z=>by rw[(hch b z).1] at e;cases e
 refine I.step (g':=s.gens) (d':=s.drawn) (ch:=ch) (λb hb=>?_) (λb u _ _ hc e _=>k b u hc e) (λb u _ _ hc e _=>⟨u.slots,k b u hc e⟩) (λb u hc e n=>n)
  (λb u hc e=>⟨u,k b u hc e⟩) (λb xs e=>e) (λb u v e=>e) (λb ps e=>⟨#[],by rw[e];simp⟩) (λm hm=>?_) (λb u e=>?_) I.bare
 ·obtain⟨h0,h1,h2,h3,h4,h5⟩:=hch b hb;exact⟨h3,h1,h4,h5⟩
 ·obtain⟨u,es,ep,ho,r⟩:=hm;have hL:X.env.locals ∉ ch:=λz=>(hch _ z).2.1 rfl;exact⟨u,es,ep,k _ u hL ho,r⟩
 ·refine(I.hok b u e).stay (λc v hc q=>k c v ?_ q) (λ_ q=>q) λ_ _ q=>q;rcases hc with z|z
  ·rw[z];exact Yv b u e
  ·exact Yv c _ z
end
def Ite(z:Str):It:=⟨λi _=>i<z.cps.size,λi H x H'=>∃p c,z.cps[i]? = some c/\H p=none/\H'=upd H p (.tup [.int i,.str ⟨#[c]⟩])/\x = .ref p,λi _=>i=z.cps.size⟩
theorem Bb{P:Program}{w:World}{K:PySem.W.Frag}{elts:List Expr}{k:Nat}{pos:Pos}(e it:Addr)(z:Str)(t:Tok)(ty:String)(hei:e≠it)
  (D:∀A:Around,A.handled=none->Draws P w A it [it] z.cps.size (λi v=>∃c u,z.cps[i]? = some c/\v = .str ⟨#[c]⟩ u) (λi h=>h.IsStrIter it ty z t i)) :
  Turn P w K (.Tuple elts k pos) (Ite z) [e,it] e (λi h=>(∃old,IsEnum h e it i old)/\h.IsStrIter it ty z t i) where
 mem:=by simp
 obj:=λi h st b hb=>by
  obtain⟨⟨old,he⟩,o,ho,hc,hd⟩:=st;rcases List.mem_cons.mp hb with rfl|hb
  ·exact⟨_,he,λv z=>by cases z⟩
  ·rw[List.mem_singleton.mp hb];exact⟨o,ho,λv z=>by rw[hd] at z;cases z⟩
 keep:=λi h h' st kk=>by
  obtain⟨⟨old,he⟩,o,ho,r⟩:=st;exact⟨⟨old,kk e (by simp) _ he⟩,o,kk it (by simp) o ho,r⟩
 item:=by
  intro X hP hw hK hc i pins s σ H E I hf st hg;subst hP hw hK;obtain⟨⟨old,he⟩,hit⟩:=st;refine wpAny_pyNext_enum_itemD (A:=X.A) (D X.A.in1 (I.ok.hd hc)) he hit hg hei (by simp[hei]) λx h' tk hv ho hSt agH hsz hk=>?_;obtain⟨c,u,hcz,rfl⟩:=hv;have hT:s.heap.objs.size<=s.heap.objs.size:=Nat.le_refl _;have helt:e<s.heap.objs.size:=Heap.lt_size he;have hilt:it<s.heap.objs.size:=by obtain⟨_,x,_⟩:=hit;exact Heap.lt_size x
  have nT:H s.heap.objs.size=none:=I.hok.fresh hT;refine⟨_,rfl,?_⟩;refine wpAny_letOwnedTupleGo_enum (s:={ s with heap:=h',toks:=tk+1 }) ho λh'' agB hs''=>?_;have rZ:∀b o,b≠e->h'.get? b=some o->h''.get? b=some o:=λb o hb q=>(hs''.2 b hb).trans q;have hnT:s.heap.objs.size ∉ [e,it]:=λhb=>by
   rcases List.mem_cons.mp hb with z|hb
   ·exact Nat.ne_of_gt helt z
   ·exact Nat.ne_of_gt hilt (List.mem_singleton.mp hb)
  refine⟨.ref s.heap.objs.size,upd H s.heap.objs.size (.tup [.int i,.str ⟨#[c]⟩]),I.drawn (t':=tk+1) (ch:=[e,it]) hf (λb o hb q=>rZ b o (λz=>hb (by simp[z])) (hk b o (λz=>hb (by simp[z])) (λz=>hb (by simp[z])) q)) hT ?_,rfl,⟨_,c,hcz,nT,rfl,rfl⟩,⟨⟨_,by simpa using agB⟩,?_⟩,λb hb=>?_⟩
  ·exact⟨by show 2<=sizeLine;decide,[.int i tk,.str ⟨#[c]⟩ u],.cons ⟨_,rfl⟩ (.cons ⟨_,rfl⟩ .nil),_,rZ _ _ (Nat.ne_of_gt helt) agH,rfl,⟨_,rfl⟩,rfl⟩
  ·obtain⟨o,q,r⟩:=hSt;exact⟨o,rZ it o hei.symm q,r⟩
  ·have hne:b≠s.heap.objs.size:=λz=>by
    subst z;exact hnT hb
   rw[bM hne];exact(hf b hb).1
 done:=by intro X hP hw hK hc i pins s σ H E I hf st hg;subst hP hw hK;have W:=WalksT.enumerateD (A:=X.A) (D X.A.in1 (I.ok.hd hc)) e hei (by simp[hei]) (by simp);have hg':i=z.cps.size:=hg;subst hg';exact W.done s _ _ st λh' tk hk=>⟨rfl,I.Kq (t':=tk) (ch:=[e,it]) hf λb o hb e=>hk b o hb e⟩
 self:=λA i s Q E st h=>by
  obtain⟨⟨old,he⟩,_⟩:=st;exact wpAny_pyIter_enum he h
section
variable{X:Cx}{tg:Expr}
def aeI(ta:TA):TI:=λσ H R=>ta σ H λvs H1=>∃z,vs=[.str z]/\R (Ite z) H1
theorem VL{elts:List Expr}{k:Nat}{tp:Pos}{a:Expr}{ta:TA}{p pos:Pos}(hg:Gl X "enumerate")(hm:X.mg "enumerate" = none)(ha:PA X [a] ta)(hs:starEach [a] X.env=[(false,eval a X.env)]:=by rfl):PI X (.Tuple elts k tp) (.Call (.Name "enumerate" p) [a] [] pos) (aeI ta):=by
 intro pins s σ H R I h;refine Call_ (tZ I hg hm PyProof.Rows.boot_enumerate (PyProof.Rows.callWith_type1 (gG (ha pos pins s σ H _ I h) λus s1 ⟨vs,H1,I1,r1,q1⟩=>?_) hs rfl));obtain⟨z,e,q⟩:=q1;subst e;cases r1 with
 | cons r rr=>
  cases rr;obtain⟨t,rfl⟩:=r;refine call_enumerate_str λh' he hit hsz hk=>?_;refine wpAny_pyIter_enum he ?_;have I2:Inv X pins σ H1 { s1 with heap:=h' }:=I1.kept (t':=s1.toks) hk;have own:∀b ∈ [s1.heap.objs.size+1,s1.heap.objs.size],pY X pins H1 b:=λb hb=>by
   rcases List.mem_cons.mp hb with rfl|hb
   ·exact I1.SQ (Nat.le_succ _) (I1.hok.fresh (Nat.le_succ _))
   ·rw[List.mem_singleton.mp hb];exact I1.SQ (Nat.le_refl _) (I1.hok.fresh (Nat.le_refl _))
  cases hz:z.cps.all (·< 128)
  ·have hit':h'.IsStrIter s1.heap.objs.size "str_iterator" z t 0:=by simpa[strIterType,hz] using hit
   exact⟨s1.heap.objs.size+1,[s1.heap.objs.size+1,s1.heap.objs.size],_,_,H1,rfl,I2,Bb _ _ z t "str_iterator" (Nat.succ_ne_self _) (λA hA=>Draws.strWide hA _ z t),⟨⟨_,he⟩,hit'⟩,own,q⟩
  ·have hit':h'.IsStrIter s1.heap.objs.size "str_ascii_iterator" z t 0:=by simpa[strIterType,hz] using hit
   exact⟨s1.heap.objs.size+1,[s1.heap.objs.size+1,s1.heap.objs.size],_,_,H1,rfl,I2,Bb _ _ z t "str_ascii_iterator" (Nat.succ_ne_self _) (λA hA=>Draws.strAscii hA _ z t),⟨⟨_,he⟩,hit'⟩,own,q⟩
end
open PySem PySem.Spec PyProof.Rows PySem.Builtin PySem.Builtin.Str
section
variable{X:Cx}{pins:List (Addr×Obj)}{σ:St}{H:Hp}{s:Shared}{a:Addr}{xs:List V}
theorem Inv.PJ(I:Inv X pins σ H s)(h:nG X.K H a xs):∃its:List Value,Vals xs its/\zT s.heap a its.toArray:=by
 rcases h with h|⟨o,its,n,hk,hc,hdn,hs,hz,r⟩
 ·obtain⟨z,its,r,p⟩:=h.ok I.hok;exact⟨its,r,p⟩
 ·exact⟨its.toList,r,⟨o,I.YB a o hk,hc,⟨n,by simpa using hs⟩,hdn⟩⟩
end
section
variable{X:Cx}{o e:Expr}{to te:TE}{name:Str}{apos cpos:Pos}{id:String}{r:V->List V->Hp->VK->Prop}{t:TA}
def afT(te ts:TE):TE:=λσ H Q=>te σ H λx H1=>ts σ H1 λy H2=>∃z,x = .str z/\z.length<=sizeLine/\y = .int (-1)/\Q (.str ⟨z.cps.toList.reverse.toArray⟩) H2
theorem Jj(z:Str)(u:Tok):(⟨((slicePicked z none none (some (-1,u))).filterMap (z.cps[·]?)).toArray⟩:Str)=⟨z.cps.toList.reverse.toArray⟩:=by
 have h:=PyProof.Rows.step_rev_list z u;unfold Txt.sliceBy at h;have h1:¬(((((some ((-1:Int),u)).map (·.1)).getD 1 == 1)&&((slicePicked z none none (some (-1,u))).length == z.length))=true):=by have:((((some ((-1:Int),u)).map (·.1)).getD 1 == 1))=false:=rfl;rw[this];simp
 rw[if_neg h1] at h;have h2:((slicePicked z none none (some (-1,u))).filterMap (z.cps[·]?))=z.cps.toList.reverse:=by
  have h3:((slicePicked z none none (some (-1,u))).filterMap (z.cps[·]?))=(List.range z.length).map λk=>z.cps.getD (z.length - 1 - k) 0:=by simpa using h
  rw[h3];apply List.ext_getElem
  ·simp[Str.length]
  ·intro i h4 h5;have hi:i<z.cps.size:=by simpa[Str.length] using h4
   simp[Str.length,Array.getD,List.getElem_reverse];rw[dif_pos (by omega)]
 rw[h2]
theorem Z4{st:Expr}{ts:TE}{p2 pos:Pos}(he:PE X e te)(hst:PE X st ts):PE X (.Subscript e (.Slice none none (some st) p2) pos) (afT te ts):=by
 intro pins s σ H Q I h;refine Subscript_ (gG (he pins s σ H _ I h) λv s1 ⟨x,H1,I1,r1,q1⟩=>?_);refine wpAny_Slice ?_;rw[evalPart_none,evalPart_some];refine wpAny_pure (wpAny_pure (gG (hst pins s1 σ H1 _ I1 q1) λw s2 ⟨y,H2,I2,r2,q2⟩=>?_));obtain⟨z,ex,hz,ey,q⟩:=q2;subst ex;subst ey;obtain⟨t,rfl⟩:=r1;obtain⟨t',rfl⟩:=r2;have I4:Inv X pins σ H2 { s2 with heap:=s2.heap.push { cls:=.type "slice",data:=.fields #[.none,.none,.int (-1) t'] } }:=I2.kept (t':=s2.toks) λb ob q=>Heap.get?_push_of_some _ q;show wpAny (model X.prog X.w) X.A (subscriptTail e (.Slice none none (some st) p2) (.str z t) (.ref s2.heap.objs.size)) (EP X pins σ Q) X.xe { s2 with heap:=s2.heap.push { cls:=.type "slice",data:=.fields #[.none,.none,.int (-1) t'] } };refine tail_any (ops:=[.ref s2.heap.objs.size,.str z t]) (typeIs_str _ z t) PySem.F.slot_str_getitem.lookup ?_ (by with_unfolding_all rfl);refine wpAny_getItem_str_slice (l:=none) (u:=none) (st:=some (-1,t')) ⟨_,Heap.get?_push_size _ rfl,rfl,rfl⟩ rfl ?_;unfold sliceMade;have h1:¬(((((some ((-1:Int),t')).map (·.1)).getD 1 == 1)&&((slicePicked z none none (some (-1,t'))).length == z.length))=true):=by have:((((some ((-1:Int),t')).map (·.1)).getD 1 == 1))=false:=rfl;rw[this];simp
 rw[if_neg h1,Jj];refine⟨?_,⟨.str ⟨z.cps.toList.reverse.toArray⟩,H2,I4.tok _,⟨_,rfl⟩,q⟩⟩;show z.cps.toList.reverse.toArray.size<=sizeLine
 simpa[Str.length] using hz
end
end L2
namespace Ev
open PySem PySem.Spec PyProof.Rows L2 PySem.Builtin
section
variable{X:Cx}{C:Cfg}{pos:Pos}{e x y:Expr}{a b:Ev}
def oh:D->Option D
 | .int i=>some (.int (-i))
 | _=>none
theorem Za:UnD C (rU λi=>.int (-i)) oh:=by
 intro Pr F env σ H x d vx Q r px e q;cases x with
 | int i=>cases e;exact⟨i,px.int,q _ H F r (aP.refl F) rfl⟩
 | _=>cases e
theorem uA(ha:PX X C x a):PX X C (.UnaryOp .USub x pos) (iI oh a):=adF HS Za ha
def ab0:D->Option D
 | .str z=>some (.str z.reverse)
 | _=>none
def pg(a:Ev):Ev:=λenv=>bindR (a env) λd aD=>d9 (ab0 d) aD
theorem Az{p2 p3 p4:Pos}{k:Nat}(ha:PX X C x a):PX X C (.Subscript x (.Slice none none (some (.UnaryOp .USub (.Constant (.int 1) k p4) p3)) p2) pos) (pg a):=by
 refine(Z4 (p2:=p2) (pos:=pos) ha (Q0 (pos:=p3) HS (Js (i:=1) (j:=k) (pos:=p4)))).imp λσ H Q hq=>?_;obtain⟨Pr,F,env,env',d,r,e,q⟩:=hq;obtain⟨z,aD,e1,e2⟩:=aO e;obtain⟨e3,rfl⟩:=dC e2;cases z with
 | str z=>
  cases e3;refine⟨Pr,F,env,env',.str z,r,e1,λv H1 F1 r1 s1 p1=>?_⟩;obtain⟨rfl,hz⟩:=p1;refine⟨1,rfl,strOf z,rfl,by rw[fV];exact hz,rfl,q _ H1 F1 r1 s1 ⟨by simp[strOf],by rw[List.length_reverse];exact hz⟩⟩
 | _=>cases e3
def qU(x:List Nat):List D:=x.zipIdx.map λp=>.tup [.int (p.2:Nat),.str [p.1]]
def DW(a:cJ):cJ:=λenv=>bindR (a env) λds aD=>match ds with
 | [.str x]=>.ok (qU x) aD
 | _=>.stuck
theorem JX{elts:List Expr}{k:Nat}{tp p:Pos}{ea:cJ}(hm:X.mg "enumerate" = none)(ha:Em X C [e] ea)(hg:Gl X "enumerate":=by rfl)(hs:starEach [e] X.env=[(false,eval e X.env)]:=by rfl):Hw X C (.Tuple elts k tp) (.Call (.Name "enumerate" p) [e] [] pos) (DW ea):=
 (VL hg hm ha hs).imp λσ H R hq=>by
  obtain⟨Pr,F,env,env',ds,r,e,q⟩:=hq;obtain⟨as,aD,e1,e2⟩:=aO e;refine⟨Pr,F,env,aD,as,r,e1,λvs H1 F1 r1 s1 p1=>?_⟩;split at e2
  ·rename_i x;cases e2;obtain⟨v,w,rfl,⟨rfl,hz⟩,p2⟩:=p1;cases p2;refine⟨strOf x,rfl,q _ H1 F1 r1 s1 λi H2 s2=>⟨λ_ ei=>?_,λd hd=>?_⟩⟩
   ·show i=x.toArray.size;rw[ei];simp[qU]
   ·unfold qU at hd;rw[List.getElem?_map] at hd;obtain⟨⟨c,j⟩,hc,rfl⟩:=Option.map_eq_some_iff.mp hd;rw[List.getElem?_zipIdx] at hc;obtain⟨c',hc',h2⟩:=Option.map_eq_some_iff.mp hc;cases h2;refine⟨?_,λy H3 hy=>.inr ?_⟩
    ·show i<x.toArray.size;have:=(List.getElem?_eq_some_iff.mp hc').1
     simpa using this
    ·obtain⟨p,c2,h3,h4,rfl,rfl⟩:=hy;have h5:x[i]? = some c2:=by simpa[strOf] using h3
     rw[hc'] at h5;cases h5;exact⟨p,_,_,h4,rfl,rfl,rfl,by show 2<=sizeLine;decide,_,_,rfl,by simp[Rep],_,_,rfl,⟨rfl,by show 1<=sizeLine;decide⟩,rfl⟩
  ·cases e2
end
theorem N6{prog:Program}{w:World}{A:Around}{E:Value->Shared->Prop}{s:Shared}{a:Addr}{o:Obj}{xs:Array Value}{k:Nat}{Q:Option Value->Shared->Prop}
  (hx:s.heap.get? a=some o) (hc:o.cls = .type "tuple") (hdat:o.data = .seq xs k) (hd:o.dict=none) (hA:A.handled=none)
  (h:∀h' tk,(∀b u,s.heap.get? b=some u->h'.get? b=some u)->Q none { s with heap:=h',toks:=tk }):wpAny (model prog w) A (getAttr? (.ref a) "keys") Q E s:=by
 obtain⟨hp,g,d,tk,os⟩:=s;obtain⟨oc,od,dt,sl⟩:=o;cases hc;cases hdat;cases hd;have hT:∀tk',(⟨hp,g,d,tk',os⟩:Shared).TypeIs (.ref a) "tuple":=λ_=>⟨_,hx,rfl⟩;have f1:=sub_AttributeError;have f3:=F.slot_tuple_getattribute.lookup;have f4:=F.slot_tuple_getattribute.bind (.ref a);have f5:=am_tuple_getattr_none;have hmiss:typeLookup (.type "tuple") "keys" = pure none:=by rw[typeLookup_type,builtinLookup_eq_fast];kernel_rfl
 unfold getAttr? getAttrBy? getAttrBy
 repeat (any_goals (first|assumption|exact hT _|((with_reducible show wpAny _ _ (call (Value.builtin "tuple.__getattribute__") _ _) _ _ _);refine call_meets F.slot_tuple_getattribute (hT _) am_entry_tuple_getattribute (F.args_tuple_getattribute_2 _ _) (meets_getattribute_miss_tuple a xs k sl "keys" _ hmiss (by decide +kernel) (by decide +kernel)) ⟨hx,hA,λh' tk' e hx'=>?_⟩)|wp_step))
 obtain⟨t',u',he⟩:=hx'.there;show wpAny _ _ (getattributeRaised _ _ _ _ _ _ _) _ _ _;unfold getattributeRaised
 repeat (any_goals (first|assumption|wp_step))
 exact h _ _ hx'.keeps
structure Pr where
 p:Addr
 k:Key
 kv:Value
 v:Value
def Ud(h:Heap)(r:Pr):Prop:=h.IsTuple r.p #[r.kv,r.v]/\zb r.k r.kv=true
theorem Ud.keep{h h':Heap}{r:Pr}{c d:Addr}(x:Ud h r)(n1:r.p≠c)(n2:r.p≠d)(k:∀b o,b≠c->b≠d->h.get? b=some o->h'.get? b=some o):Ud h' r:=
 let ⟨⟨o,ho,q⟩,y⟩:=x;⟨⟨o,k _ o n1 n2 ho,q⟩,y⟩
def putAll(kvs:List (Key×Value))(rs:List Pr):List (Key×Value):=rs.foldl (λacc r=>stored acc r.k r.v) kvs
theorem jY:plainId "dict.update.loop" = true:=by decide +kernel
theorem qW:entryFor table "dict.update.loop" = some Builtin.«dict.update.loop»:=entryFor_of_tree (by kernel_rfl)
theorem Ez{prog:Program}{w:World}{d it a:Addr}{its:List Value}(hdi:d≠it)(hda:d≠a)(hia:it≠a):∀(rs:List Pr) (i:Nat) (kvs:List (Key×Value)) (A:Around) (R:Result->Shared->Prop) (s:Shared),
  A.handled=none->its.drop i=rs.map (λr=>Value.ref r.p)->s.heap.IsTuple a its.toArray->s.heap.IsTupleIter it a i->s.heap.DictOf (eN prog w) d kvs->(∀r∈rs,Ud s.heap r/\r.p≠d/\r.p≠it)->kvs.length+rs.length<=sizeLine->
  (∀h' tk,h'.DictOf (eN prog w) d (putAll kvs rs)->(∀b o,b≠d->b≠it->s.heap.get? b=some o->h'.get? b=some o)->R (.ok (.ret .none)) { s with heap:=h',toks:=tk })->
  wpAny (model prog w) A.in1 (Builtin.«dict.update.loop» ⟨[.ref d,.ref it,rawInt i,.none],[]⟩) (λfin s'=>match fin with|.done f=>R (.ok f) s'|.again c'=>c'.quiet=true/\codeAny (model prog w) A c' R s') (λe s'=>R (.error e) s') s
 | [],i,kvs,A,R,s,hh,hdr,ht,hit,hD,_,_,h=>by
  unfold Builtin.«dict.update.loop»;have hx:its.toArray[i]? = none:=by
   have:its.length<=i:=by have:=congrArg List.length hdr;rw[List.length_drop] at this;simp at this;omega
   simp;omega
  refine wpAny_bind (wpAny_pyNext_tuple_end hh hit ht hx λh' hex=>?_);show wpAny _ _ (Builtin.Dict.addKeywords d [] >>= _) _ _ _;refine wpAny_bind (wpAny_pure (wpAny_pure ?_));exact h h' s.toks (hD.extBut hex hdi) λb o _ h2 e=>hex b o h2 e
 | r::rs,i,kvs,A,R,s,hh,hdr,ht,hit,hD,hrs,hz,h=>by
  unfold Builtin.«dict.update.loop»;obtain⟨⟨hpt,hkey⟩,n1,n2⟩:=hrs r (List.mem_cons_self ..);have hlt:i<its.length:=by have:=congrArg List.length hdr;rw[List.length_drop,List.map_cons,List.length_cons] at this;omega
  have hx0:its[i]? = some (.ref r.p):=by
   have:=congrArg (λl=>l[0]?) hdr
   simpa using this
  have hx:its.toArray[i]? = some (.ref r.p):=by simpa using hx0
  have agD:its.drop (i+1)=rs.map (λr=>Value.ref r.p):=by
   have:=congrArg List.tail hdr;rw[List.tail_drop] at this
   simpa using this
  refine wpAny_bind (wpAny_pyNext_tuple_item hit ht hx λh' hit' hs'=>?_);have k1:∀b o,b≠it->s.heap.get? b=some o->h'.get? b=some o:=λb o hb e=>(hs'.2 b hb).trans e;obtain⟨op,hop,hcp,np,hdp⟩:=hpt;have hop':h'.get? r.p=some op:=k1 _ _ n2 hop;dsimp only;refine wpAny_bind (wpAny_holding (wpAny_bind (wpAny_tryCatch ?_)));unfold Builtin.Dict.pairItems;refine wpAny_bind (wpAny_typeOf (T:="tuple") ⟨op,hop',hcp⟩ ?_);rw[if_pos (by decide)];unfold seqItems?;refine wpAny_bind (wpAny_bind (wpAny_load hop' ?_));rw[hdp];refine wpAny_pure (wpAny_pure ?_);show wpAny _ _ (holding [r.kv,r.v] (dictSet d r.kv r.v)) _ _ _;have hzk:kvs.length<=sizeLine:=by rw[List.length_cons] at hz;omega
  refine wpAny_holding (wpAny_dictSet_pairs (knd:=eN prog w) (kvs:=kvs) (k:=r.k) (hsz:=hzk) hkey (hD.sameBut hs' hdi) λh'' agL hs''=>?_);have k2:∀b o,b≠d->b≠it->s.heap.get? b=some o->h''.get? b=some o:=λb o hb1 hb2 e=>(hs''.2 b hb1).trans (k1 b o hb2 e);have hc:((i:Int)+1)=((i+1:Nat):Int):=by push_cast;rfl
  rw[hc];refine wpAny_pure ⟨plainId_quiet jY _,codeAny_builtin qW ?_⟩;rw[Around.under_plainId jY _];have hln:(stored kvs r.k r.v).length<=kvs.length+1:=by have:=stored_length_le kvs r.k r.v;exact this
  refine Ez hdi hda hia rs (i+1) (stored kvs r.k r.v) A R _ hh agD ?_ ?_ agL (λq hq=>?_) (by rw[List.length_cons] at hz;omega) λh3 tk hD3 k3=>?_
  ·obtain⟨o,ho,q⟩:=ht;exact⟨o,k2 a o hda.symm hia.symm ho,q⟩
  ·obtain⟨o,ho,q⟩:=hit';exact⟨o,(hs''.2 it hdi.symm).trans ho,q⟩
  ·obtain⟨p1,p2,p3⟩:=hrs q (List.mem_cons_of_mem _ hq);exact⟨p1.keep p2 p3 k2,p2,p3⟩
  ·exact h h3 tk hD3 λb o hb1 hb2 e=>k3 b o hb1 hb2 (k2 b o hb1 hb2 e)
section
variable{X:Cx}{C:Cfg}{pos:Pos}
abbrev Pv:=Addr×Key×V
def nu(kvs:List (Key×V))(rs:List Pv):List (Key×V):=rs.foldl (λacc r=>putK acc r.2.1 r.2.2) kvs
def QB(K:Fg):List V->Hp->VK->Prop:=λxs H Q=>∃(a:Addr) (rs:List Pv),xs=[.ref a]/\nG K H a (rs.map λr=>V.ref r.1)/\(∀r∈rs,nG K H r.1 [kV r.2.1,r.2.2])/\rs.length<=sizeLine/\∀l,H l=none->Q (.ref l) (upd H l (.dK (nu [] rs)))
theorem Gg{pins:List (Addr×Obj)}{σ:L2.St}{H:Hp}{s:Shared}(I:L2.Inv X pins σ H s):∀(rs:List Pv) (us:List Value),Vals (rs.map λr=>V.ref r.1) us->(∀r∈rs,nG X.K H r.1 [kV r.2.1,r.2.2])->∃ps:List Pr,us=ps.map (λr=>Value.ref r.p)/\(∀r∈ps,Ud s.heap r)/\Paired (λ(r:Pv) (q:Pr)=>r.2.1=q.k/\RelV r.2.2 q.v) rs ps
 | [],us,h,_=>by cases h;exact⟨[],rfl,λr hr=>by simp at hr,.nil⟩
 | r::rs,us,h,hp=>by
  cases h with
  | cons h1 h2=>
   cases h1;obtain⟨ps,rfl,q1,q2⟩:=Gg I rs _ h2 λr' hr=>hp r' (List.mem_cons_of_mem _ hr);obtain⟨its,rv,ht,_⟩:=I.tuple (hp r (List.mem_cons_self ..));obtain⟨u1,u2,rfl,r1,r2⟩:=rv.two;refine⟨⟨r.1,r.2.1,u1,u2⟩::ps,rfl,λq hq=>?_,.cons ⟨rfl,r2⟩ q2⟩;rcases List.mem_cons.mp hq with rfl|hq
   ·exact⟨ht,GF (P:=X.prog) (w:=X.w) r1⟩
   ·exact q1 q hq
theorem Bg:∀{rs:List Pv} {ps:List Pr} {kvs:List (Key×V)} {vs:List (Key×Value)},Paired (λ(r:Pv) (q:Pr)=>r.2.1=q.k/\RelV r.2.2 q.v) rs ps->KV kvs vs->KV (nu kvs rs) (putAll vs ps)
 | _,_,_,_,.nil,h=>h
 | _,_,kvs,vs,.cons (a:=r) (b:=q) ⟨h1,h2⟩ hr,h=>by
  show KV (nu (putK kvs r.2.1 r.2.2) _) (putAll (stored vs q.k q.v) _);refine Bg hr ?_;rw[h1];exact h.put q.k h2
theorem wK:∀(rs:List Pv) (kvs:List (Key×V)),(nu kvs rs).length<=kvs.length+rs.length
 | [],kvs=>Nat.le_refl _
 | r::rs,kvs=>by
  have h1:=wK rs (putK kvs r.2.1 r.2.2);have h2:=qK kvs r.2.1 r.2.2;show(nu (putK kvs r.2.1 r.2.2) rs).length<=_;rw[List.length_cons];omega
theorem O3(hc:X.calm=true):ji X (.type "dict") (QB X.K):=by
 intro pins s σ H xs us Q I r h;obtain⟨a,rs,rfl,hq,hp,hz,q⟩:=h;obtain⟨u,rfl,rx⟩:=vals1 r;cases rx;obtain⟨its,rv,ob,h1,h2,⟨n,h3⟩,h4⟩:=I.PJ hq;obtain⟨ps,rfl,hps,hpr⟩:=Gg I rs its rv hp;have hA:=I.ok.hd hc;have hlt:a<s.heap.objs.size:=Heap.lt_size h1;refine callType_codes (Q₁:=λobj s₁=>obj = .ref s.heap.objs.size/\s₁ = { s with heap:=s.heap.push { cls:=.type "dict",data:=.dict #[] } }) F.kt_called_dict (F.kt_typeCall_dict_1 _) F.entry_dict_init (kt_code_dict_new _ ⟨rfl,rfl⟩) ?_;rintro obj s₁ ⟨rfl,rfl⟩;have hnew:(s.heap.push { cls:=.type "dict",data:=.dict #[] }).DictOf (eN X.prog X.w) s.heap.objs.size []:=Heap.DictOf.new s.heap;have k0:∀b o,s.heap.get? b=some o->(s.heap.push { cls:=.type "dict",data:=.dict #[] }).get? b=some o:=λb o e=>Heap.get?_push_of_some _ e;refine⟨hnew.typeIs,F.args_dict_init_2 _ _,?_⟩;unfold Builtin.«dict.__init__»;refine wpAny_bind ?_;unfold Builtin.Dict.selfAndRest;refine wpAny_bind (wpAny_notOrdered_dict hnew.typeIs ?_);show wpAny _ _ (pure (s.heap.objs.size,[Value.ref a])) _ _ _;refine wpAny_pure ?_;show wpAny _ _ (Builtin.Dict.updateFrom "dict.__init__" s.heap.objs.size (.ref a) [] .none) _ _ _;unfold Builtin.Dict.updateFrom;refine wpAny_bind (wpAny_typeOf (T:="tuple") ⟨ob,k0 _ _ h1,h2⟩ ?_);rw[if_pos (by decide)];refine wpAny_bind (N6 (k0 _ _ h1) h2 h3 h4 hA λh' tk hk=>?_);simp only[Option.isNone_none,if_true];refine wpAny_bind (wpAny_rule (wpAny_bind ?_));have hT:h'.IsTuple a (ps.map λr=>Value.ref r.p).toArray:=⟨ob,hk _ _ (k0 _ _ h1),h2,n,h3⟩;refine wpAny_pyIter_tuple hT ?_;refine wpAny_pure ⟨plainId_quiet jY _,codeAny_builtin qW ?_⟩;rw[Around.under_plainId jY _];have hD0:h'.DictOf (eN X.prog X.w) s.heap.objs.size []:=hnew.keep hk;have abP:s.heap.objs.size<h'.objs.size:=by obtain⟨o,_,_,ho,_⟩:=hD0;exact Heap.lt_size ho
 have halt:a<h'.objs.size:=Heap.lt_size (hk _ _ (k0 _ _ h1));have hda:s.heap.objs.size≠a:=Nat.ne_of_gt hlt;refine Ez (Nat.ne_of_lt abP) hda (Nat.ne_of_gt halt) ps 0 [] X.A.in1 _ _ hA rfl ?_ ⟨_,Heap.get?_push_size _ rfl,rfl,rfl⟩ (hD0.push _) (λq hq=>?_) ?_ λh3 tk' hD3 k3=>?_
 ·obtain⟨o,ho,r⟩:=hT;exact⟨o,Heap.get?_push_of_some _ ho,r⟩
 ·obtain⟨⟨o,ho,r⟩,y⟩:=hps q hq;have aeL:q.p<s.heap.objs.size:=Heap.lt_size ho;refine⟨⟨⟨o,Heap.get?_push_of_some _ (hk _ _ (k0 _ _ ho)),r⟩,y⟩,Nat.ne_of_lt aeL,Nat.ne_of_lt (Nat.lt_trans aeL abP)⟩
 ·rw[<-Paired.length hpr]
  simpa using hz
 ·refine⟨rfl,?_⟩;have kk:∀b u,s.heap.get? b=some u->h3.get? b=some u:=λb u e=>by
   have hb:b<s.heap.objs.size:=Heap.lt_size e;exact k3 b u (Nat.ne_of_lt hb) (Nat.ne_of_lt (Nat.lt_trans hb abP)) (Heap.get?_push_of_some _ (hk _ _ (k0 _ _ e)))
  have hsys:(s.heap.objs.size == sysModules)=false:=by rw[beq_eq_false_iff_ne];exact Nat.ne_of_gt I.big
  refine⟨.ref s.heap.objs.size,upd H s.heap.objs.size (.dK (nu [] rs)),I.laid (t':=tk') kk (Nat.le_refl _) ⟨?_,hsys,_,Bg hpr .nil,hD3⟩,rfl,q _ (I.hok.fresh (Nat.le_refl _))⟩;have:=wK rs [];exact Nat.le_trans this (by simpa using hz)
def Lb:D->Option (D×D)
 | .tup [k,v]=>(qj k).map λ_=>(k,v)
 | _=>none
def pJ:List D->Option (List (D×D))
 | []=>some []
 | d::ds=>match Lb d,pJ ds with
  | some p,some r=>some (p::r)
  | _,_=>none
def lq(kvs : List (D × D)) : List (D × D) → List (D × D)
  | [] => kvs
  | (k, v) :: r => (match qj k with
    | some q => lq (putD kvs k q v) r
    | none => lq kvs r)
def qb:List D->Option D
 | [.tup ds]=>(pJ ds).map λps=>.dct (lq [] ps)
 | _=>none
theorem qF:∀(ps:List (D×D)) (kvs:List (D×D)),(lq kvs ps).length<=kvs.length+ps.length
 | [],kvs=>Nat.le_refl _
 | (k,v)::r,kvs=>by
  unfold lq;split
  ·rename_i q hq;have h1:=qF r (putD kvs k q v);have h2:=Ge kvs k q v;rw[List.length_cons];omega
  ·have h1:=qF r kvs;rw[List.length_cons];omega
theorem yQ:∀{ds:List D} {ps:List (D×D)},pJ ds=some ps->ps.length=ds.length
 | [],ps,h=>by cases h;rfl
 | d::ds,ps,h=>by
  unfold pJ at h;split at h
  ·rename_i p r h1 h2;cases h;rw[List.length_cons,List.length_cons,yQ h2]
  ·cases h
theorem Bh{K:Fg}{F:Hp}:∀{ds:List D} {ps:List (D×D)} {vs:List V} {kvs:List (D×D)} {ks:List (Key×V)},pJ ds=some ps->bI K F ds vs->dD K F kvs ks->
  ∃rs:List Pv,vs=rs.map (λr=>V.ref r.1)/\(∀r∈rs,nG K F r.1 [kV r.2.1,r.2.2])/\dD K F (lq kvs ps) (nu ks rs)
 | [],ps,vs,kvs,ks,h,hr,hk=>by cases h;cases hr;exact⟨[],rfl,λr hr=>by simp at hr,hk⟩
 | d::ds,ps,vs,kvs,ks,h,hr,hk=>by
  unfold pJ at h;split at h
  ·rename_i p r h1 h2;cases h;obtain⟨v,w,rfl,p1,p2⟩:=hr;unfold Lb at h1;split at h1
   ·rename_i k x;obtain⟨q,hq,rfl⟩:=Option.map_eq_some_iff.mp h1;obtain⟨_,a,us,rfl,h3,h4⟩:=p1;obtain⟨u1,w1,rfl,q1,u2,w2,rfl,q2,q3⟩:=h4;cases q3;cases Ry hq q1;obtain⟨rs,rfl,g1,g2⟩:=Bh (kvs:=putD kvs k q x) (ks:=putK ks q u2) h2 p2 (hk.put hq q2);refine⟨(a,q,u2)::rs,rfl,λr hr=>?_,?_⟩
    ·rcases List.mem_cons.mp hr with rfl|hr
     ·exact h3
     ·exact g1 r hr
    ·unfold lq;rw[hq];exact g2
   ·cases h1
  ·cases h
theorem XD:CallD C (QB C.K) qb:=by
 intro Pr F env σ H ds d vs Q r p e q;unfold qb at e;split at e
 ·rename_i ds;obtain⟨v,w,rfl,p1,p2⟩:=p;cases p2;obtain⟨ps,e1,rfl⟩:=Option.map_eq_some_iff.mp e;obtain⟨z,a,us,rfl,h1,h1F,h2⟩:=p1.tup r.fr;obtain⟨rs,rfl,g1,g2⟩:=Bh (kvs:=[]) (ks:=[]) e1 h2 rfl;have hl:rs.length=ds.length:=by
   have:=h2.length
   rwa [List.length_map] at this
  refine⟨a,rs,rfl,h1,λr' hr=>aP.tupK r.fr (g1 r' hr),by rw[hl];exact z,λl hlf=>?_⟩;obtain⟨F2,r2,s2,p2⟩:=(r.fresh (o:=.dK (nu [] rs)) hlf).keep (Uh.of (d:=.dct (lq [] ps)) r hlf ⟨by
   have h5:=qF ps [];rw[yQ e1] at h5;exact Nat.le_trans h5 (by simpa using z),_,aU,g2⟩)
  exact q _ _ F2 r2 s2 p2
 ·cases e
theorem Cg{p:Pos}{e:Expr}{ea:cJ}(G:Good X C)(hm:X.mg "dict" = none)(ha:uv X C [e] ea)(hg:Gl X "dict":=by rfl)(he:tQ e X.env:=by rfl):PX X C (.Call (.Name "dict" p) [e] [] pos) (az qb ea):=
 vX (T:="dict") (r:=QB C.K) (by rw[<-G.K];exact O3 G.calm) XD hg hm (by decide +kernel) ha (by decide) (by decide) he rfl
end
end Ev
namespace L2
open PySem PySem.Spec PyProof.Rows PySem.Builtin PySem.Builtin.Str
section
variable{X:Cx}
def Qz:R2:=λx y H Q=>∃a o,y = .ref a/\Pa H a x o/\Q (.bl o.isSome) H
theorem Q8(hu:X.A.units+1<cLine):pA X (compareOp .In) Qz:=by intro pins s σ H x y v u Q I rx ry h;obtain⟨a,o,rfl,g,q⟩:=h;cases ry;exact ag1 hu I g rx λs' I'=>⟨.bl o.isSome,H,I',rfl,q⟩
theorem Hn(v:Int)(n d:Nat):max 0 (min (if v<0 then v+(n:Int) else v) (n:Int))=((HT.fL n d (some v):Nat):Int):=by
 show _=(((if v<0 then (v+(n:Int)).toNat else min v.toNat n):Nat):Int);by_cases hv:v<0
 ·simp only[if_pos hv];omega
 ·simp only[if_neg hv];omega
theorem range_one(a b:Nat):sliceRange (a:Int) (b:Int) 1=List.range' a (b - a):=by
 unfold sliceRange;have h1:(1:Int) > 0:=by decide
 simp only[if_pos h1];have hc:(if (a:Int)<(b:Int) then ((b:Int) - (a:Int)+1 - 1) / 1 else 0).toNat=b - a:=by
  by_cases h:(a:Int)<(b:Int)
  ·rw[if_pos h,Int.ediv_one];omega
  ·rw[if_neg h];omega
 rw[hc,List.range'_eq_map_range];apply List.map_congr_left;intro k _;omega
theorem QW(lo hi:Option Int)(n:Nat):strSliceIndices lo hi 1 n=List.range' (HT.fL n 0 lo) (HT.fL n n hi - HT.fL n 0 lo):=by
 have h1:(1:Int) > 0:=by decide
 unfold strSliceIndices;simp only[if_pos h1];rw[<-range_one]
 congr 1
 ·cases lo with
  | none=>rfl
  | some v=>exact Hn v n 0
 ·cases hi with
  | none=>rfl
  | some v=>exact Hn v n n
theorem Hf(c:List Nat):∀(m a:Nat),a+m<=c.length->(List.range' a m).filterMap (c.toArray[·]?)=(c.drop a).take m
 | 0,a,_=>by simp
 | m+1,a,h=>by
  rw[List.range'_succ,List.filterMap_cons];have e:c.toArray[a]? = some c[a]:=by simp
  rw[e,Hf c m (a+1) (by omega),List.drop_eq_getElem_cons (l:=c) (i:=a) (by omega),List.take_succ_cons]
def ug(z:List Nat)(lo hi:Option Int):List Nat:=(z.drop (HT.fL z.length 0 lo)).take (HT.fL z.length z.length hi - HT.fL z.length 0 lo)
def af9:V->Option Int->Option Int->Hp->VK->Prop:=λx lo hi H Q=>∃z:List Nat,x = .str ⟨z.toArray⟩/\z.length<=sizeLine/\Q (.str ⟨(ug z lo hi).toArray⟩) H
theorem part_of{v:Value}{o:Option Int}(p:IsPart v o):∃l:Option (Int×Tok),v=partValue l/\l.map (·.1)=o:=by
 cases p with
 | none=>exact⟨none,rfl,rfl⟩
 | int i t=>exact⟨some (i,t),rfl,rfl⟩
theorem Qi:Mi X af9:=by
 intro pins s σ H x v vl vu lo hi sl Q I rx hs pl pu h;obtain⟨z,rfl,hz,q⟩:=h;obtain⟨t,rfl⟩:=rx;obtain⟨l,rfl,el⟩:=part_of pl;obtain⟨u,rfl,eu⟩:=part_of pu;refine⟨"str",_,PySem.F.slot_str_getitem.lookup,typeIs_str s _ t,?_⟩;obtain⟨o,h1,h2,h3⟩:=hs;refine wpAny_getItem_str_slice (l:=l) (u:=u) (st:=none) ⟨o,h1,h2,h3⟩ rfl ?_;have hp:slicePicked ⟨z.toArray⟩ l u none=List.range' (HT.fL z.length 0 lo) (HT.fL z.length z.length hi - HT.fL z.length 0 lo):=by unfold slicePicked;rw[el,eu];show strSliceIndices lo hi 1 z.toArray.size=_;rw[List.size_toArray,QW]
 have hle:HT.fL z.length 0 lo+(HT.fL z.length z.length hi - HT.fL z.length 0 lo)<=z.length\/HT.fL z.length z.length hi - HT.fL z.length 0 lo=0:=by have a1:=HT.CP z.length 0 (Nat.zero_le _) lo;have a2:=HT.CP z.length z.length (Nat.le_refl _) hi;omega
 have agF:((slicePicked ⟨z.toArray⟩ l u none).filterMap ((⟨z.toArray⟩:Str).cps[·]?))=ug z lo hi:=by
  rw[hp];unfold ug;rcases hle with hle|hle
  ·exact Hf z _ _ hle
  ·rw[hle];simp
 unfold sliceMade;split
 ·rename_i hc;have hlen:(slicePicked ⟨z.toArray⟩ l u none).length=z.length:=by
   have:=(Bool.and_eq_true_iff.mp hc).2;have:=eq_of_beq this
   simpa[Str.length] using this
  have hw:ug z lo hi=z:=by
   rw[hp,List.length_range'] at hlen;unfold ug;have a2:=HT.CP z.length z.length (Nat.le_refl _) hi;have a0:HT.fL z.length 0 lo=0\/z.length=0:=by omega
   rcases a0 with a0|a0
   ·rw[a0,List.drop_zero,List.take_of_length_le (by omega)]
   ·have:z=[]:=List.eq_nil_of_length_eq_zero a0;subst this;simp
  rw[hw] at q;exact⟨.str ⟨z.toArray⟩,H,I,⟨t,rfl⟩,q⟩
 ·rw[agF];refine⟨?_,⟨.str ⟨(ug z lo hi).toArray⟩,H,I.tok _,⟨_,rfl⟩,q⟩⟩;show(ug z lo hi).toArray.size<=sizeLine;rw[List.size_toArray];unfold ug;rw[List.length_take,List.length_drop];omega
end
end L2
namespace Ev
open PySem PySem.Spec PyProof.Rows L2 PySem.Builtin
section
variable{X:Cx}{C:Cfg}{pos:Pos}{x y:Expr}{a b:Ev}
def m6(k y:D):Option D:=match y with
 | .dct kvs=>(qj k).map λq=>.bl (pB kvs q).isSome
 | _=>none
theorem Rb:rO C Qz m6:=by
 intro Pr F env σ H x y d vx vy Q r px py e q;cases y with
 | dct kvs=>
  obtain⟨k,hk,rfl⟩:=Option.map_eq_some_iff.mp (show(qj x).map (λq=>D.bl (pB kvs q).isSome)=some d from e);obtain⟨z,p,ks,rfl,h1,h2⟩:=py.dct r.fr;cases Rz hk px;refine⟨p,uF ks k,rfl,.inl ⟨ks,k,h1,rfl,rfl⟩,?_⟩;have e2:(uF ks k).isSome=(pB kvs k).isSome:=by rcases h2.val k with ⟨g1,g2⟩|⟨d',v',g1,g2,_⟩<;>rw[g1,g2]<;>rfl
  rw[e2];exact q _ H F r (aP.refl F) rfl
 | _=>cases e
theorem Ma(G:Good X C):Cm X C .In m6:=⟨_,Q8 G.u1,Rb⟩
def abU:D->Option Int->Option Int->Option D
 | .str z,lo,hi=>some (.str (ug z lo hi))
 | _,_,_=>none
def qT(a:Ev)(lo hi:xR):Ev:=λenv=>bindR (a env) λd aD=>bindR (lo aD) λl dh=>bindR (hi dh) λu Al=>d9 (abU d l u) Al
theorem Hl(z:List Nat)(lo hi:Option Int):(ug z lo hi).length<=z.length:=by unfold ug;rw[List.length_take,List.length_drop];omega
theorem Ew{lo hi:Option Expr}{el eh:xR}{p2:Pos}(ha:PX X C x a)(hl:Ue X C lo el)(hh:Ue X C hi eh):PX X C (.Subscript x (.Slice lo hi none p2) pos) (qT a el eh):=by
 refine(yO (pos:=pos) (p2:=p2) Qi ha hl hh).imp λσ H Q hq=>?_;obtain⟨Pr,F,env,env',d,r,e,q⟩:=hq;obtain⟨z,aD,e1,e2⟩:=aO e;obtain⟨l,dh,e3,e4⟩:=aO e2;obtain⟨u,Al,e5,e6⟩:=aO e4;obtain⟨e7,rfl⟩:=dC e6;cases z with
 | str z=>
  cases e7;refine⟨Pr,F,env,aD,.str z,r,e1,λv H1 F1 r1 s1 p1=>⟨Pr,F1,aD,dh,l,r1,e3,λH2 F2 r2 s2=>⟨Pr,F2,dh,env',u,r2,e5,λH3 F3 r3 s3=>?_⟩⟩⟩;obtain⟨rfl,hz⟩:=p1;exact⟨z,rfl,hz,q _ H3 F3 r3 ((s1.trans s2).trans s3) ⟨rfl,Nat.le_trans (Hl _ _ _) hz⟩⟩
 | _=>cases e7
def agS:D->D->Option D
 | .lst a,.lst b=>if a.length+b.length<=sizeLine then some (.lst (a++b)) else none
 | _,_=>none
end
end Ev
namespace HT
open PySem PySem.Spec PyProof PyProof.Rows PySem.Builtin
section
variable{prog:Program}{w:World}{A:Around}{E:Value->Shared->Prop}{s:Shared}
theorem rT{t sl:Addr}{items:Array Value}{vl vu:Value}{lo hi:Option Int}{Q:Value->Shared->Prop}(ht:IsTup s.heap t items)(hs:s.heap.IsSliceOf sl vl vu .none)(pl:IsPart vl lo)(pu:IsPart vu hi)
  (hw:fL items.size 0 lo=0/\fL items.size items.size hi=items.size)
  (h:Q (.ref t) s):wpAny (model prog w) A (getItem (.ref t) (.ref sl)) Q E s:=by
 obtain⟨os,hos,hcs,hds⟩:=id hs;have hTs:s.TypeIs (.ref sl) "slice":=⟨os,hos,hcs⟩;unfold getItem
 try with_reducible refine wpAny_holding ?_
 first|refine wpAny_bind (wpAny_pure ?_)|skip
 refine wpAny_bind (wpAny_sequenceKey ht.typeIs (by decide) ?_);refine wpAny_bind (wpAny_callSpecial?_slot (name:=Str.ofString "__getitem__") ht.typeIs PyProof.Rows.slot_tuple_getitem
  (wpAny_call_entry PyProof.Rows.slot_tuple_getitem ht.typeIs entry_tuple_getitem ?_ (args_tuple_getitem _ _)))
 show wpAny _ _ (Builtin.Tuple.tupleItemsOf (.ref t) >>= _) _ _ s;refine wpAny_bind (tupleItemsOf_ ht ?_);refine wpAny_bind (wpAny_typeOf hTs ?_);rw[if_pos (by decide)];refine wpAny_bind (oV hs pl pu ?_);have agw:(((fL items.size 0 lo:Nat):Int) == 0&&(1:Int) == 1&&(fL items.size items.size hi - fL items.size 0 lo) == items.size)=true:=by rw[hw.1,hw.2];simp
 show wpAny _ _ (if (((fL items.size 0 lo:Nat):Int) == 0&&(1:Int) == 1&&(fL items.size items.size hi - fL items.size 0 lo) == items.size)=true then _ else _) _ _ s;rw[if_pos agw];refine wpAny_bind (m:=Builtin.Tuple.tupleIsExact (.ref t)) ?_;unfold Builtin.Tuple.tupleIsExact;refine wpAny_bind (wpAny_typeOf ht.typeIs ?_);refine wpAny_pure ?_;rw[if_pos (by decide)];exact wpAny_bind (wpAny_rule (wpAny_pure ⟨_,rfl,wpAny_pure h⟩))
end
end HT
namespace L2
open PySem PySem.Spec PyProof.Rows
section
variable{X:Cx}
def adp(K:PySem.W.Frag):V->Option Int->Option Int->Hp->VK->Prop:=λx lo hi H Q=>∃a xs,x = .ref a/\nG K H a xs/\(HT.fL xs.length 0 lo=0/\HT.fL xs.length xs.length hi=xs.length)/\Q (.ref a) H
theorem Qh:Mi X (adp X.K):=by
 intro pins s σ H x v vl vu lo hi sl Q I rx hs pl pu h;obtain⟨a,xs,rfl,hx,hw,q⟩:=h;cases rx;obtain⟨its,r,ht,hz⟩:=I.tuple hx;have hlen:its.toArray.size=xs.length:=by rw[List.size_toArray];exact r.length.symm
 refine⟨"tuple",_,PyProof.Rows.slot_tuple_getitem.lookup,ht.typeIs,?_⟩;refine HT.rT ht hs pl pu (by rw[hlen];exact hw) ?_;exact⟨.ref a,H,I,rfl,q⟩
end
end L2
namespace Ev
open PySem PySem.Spec PyProof.Rows L2
section
variable{X:Cx}{C:Cfg}{pos:Pos}{x:Expr}{a:Ev}{y z:Expr}{b c:Ev}
def Sy:D->Option Int->Option Int->Option D
 | .tup xs,lo,hi=>if HT.fL xs.length 0 lo=0/\HT.fL xs.length xs.length hi=xs.length then some (.tup xs) else some (.tup (cutD xs lo hi))
 | _,_,_=>none
def ae5(a:Ev)(lo hi:xR):Ev:=λenv=>bindR (a env) λd aD=>bindR (lo aD) λl dh=>bindR (hi dh) λu Al=>d9 (Sy d l u) Al
theorem Zv{Pr F:Hp}{env:Env}{σ:L2.St}{H:Hp}{x d:D}{v:V}{lo hi:Option Int}{Q:VK}(r:Rel C Pr F env σ H)(p:Rep C.K F x v)(e:Sy x lo hi=some d)(q:∀v H' F',Rel C Pr F' env σ H'->aP F F'->Rep C.K F' d v->Q v H') :
  ZG C.K v lo hi H Q\/adp C.K v lo hi H Q:=by
 unfold Sy at e;split at e
 ·obtain⟨z,a,vs,rfl,h1,_,h2⟩:=jj.tup r.fr (.inl p);split at e
  ·rename_i hn;cases e;exact .inr ⟨a,vs,rfl,h1,by rw[h2.length];exact hn,q _ H F r (aP.refl F) p⟩
  ·rename_i hn;cases e;refine .inl ⟨a,vs,rfl,h1,by rw[h2.length];exact hn,λb hb=>?_⟩;obtain⟨r2,s2⟩:=r.new (o:=.tup (xF vs lo hi)) hb;exact q _ _ _ r2 s2 ⟨Nat.le_trans (qZ _ _ _) z,b,_,rfl,nG.of aU,bI.mono s2 _ _ (h2.cut lo hi)⟩
 ·cases e
def Ls(g g':D->D->Option D)(a b c:Ev):Ev:=λenv=>bindR (a env) λu e1=>bindR (b e1) λv e2=>match g u v with
 | some (.bl k)=>if k=true then bindR (c e2) λt e3=>d9 (g' v t) e3 else .ok (.bl false) e2
 | _=>.stuck
end
end Ev
namespace ZT
open PySem PySem.Spec PyProof.Rows L2 PySem.Builtin
structure Ap(z TI TO j1 j2:Addr)(f1 f2:List Addr):Prop where
 a1:TI≠z
 a2:TO≠z
 a3:TI≠TO
 a4:j1≠j2
 b1:j1∈f1
 b2:j2∈f2
 c1:z ∉ f1
 c2:z ∉ f2
 c3:TO ∉ f1
 c4:TO ∉ f2
 c5:TI ∉ f1
 c6:TI ∉ f2
 c7:j2 ∉ f1
 c8:j1 ∉ f2
section
variable{prog:Program}{w:World}{A:Around}{E:Value->Shared->Prop}{s:Shared}{z TI TO j1 j2:Addr}{f1 f2:List Addr}{n1 n2 k:Nat}{P1 P2:Nat->Value->Prop}{S1 S2:Nat->Heap->Prop}{a b:Value}
theorem fO{c d:Addr}{f:List Addr}(h:c∈f)(h':d ∉ f):c≠d:=λe=>h' (e ▸ h)
theorem Ph{Q:Value->Shared->Prop}(D:Ap z TI TO j1 j2 f1 f2)(D1:Draws prog w A j1 f1 n1 P1 S1)(D2:Draws prog w A j2 f2 n2 P2 S2)(k1:k<n1)(k2:k<n2)
  (hz:IsZip s.heap z TI TO .none) (hTI:IsPair s.heap TI (.ref j1) (.ref j2)) (hTO:IsPair s.heap TO a b) (s1:S1 k s.heap) (s2:S2 k s.heap)
  (q:∀x y g tk,P1 k x->P2 k y->IsZip g z TI TO (rawInt s.heap.objs.size)->IsPair g TO x y->S1 (k+1) g->S2 (k+1) g->IsPair g s.heap.objs.size x y->g.objs.size=s.heap.objs.size+1->
   (∀c o,c≠z->c≠TO->c≠j1->c≠j2->s.heap.get? c=some o->g.get? c=some o)->Q (.ref s.heap.objs.size) { s with heap:=g,toks:=tk }) :
  wpAny (model prog w) A (Builtin.«zip.__next__» ⟨[.ref z],[]⟩) (λfin s'=>∃v,fin = .done (.ret v)/\Q v s') E s:=by
 have Xw:j1≠z:=fO D.b1 D.c1;have acr:j2≠z:=fO D.b2 D.c2;have acs:j1≠TO:=fO D.b1 D.c3;have afe:j2≠TO:=fO D.b2 D.c4;show wpAny _ _ (field (.ref z) 2 >>= _) _ _ _;refine wpAny_bind (wpAny_field hz rfl (x:=.bool false) rfl ?_);show wpAny _ _ (field (.ref z) 3 >>= _) _ _ _;refine wpAny_bind (wpAny_field hz rfl (x:=.ref TI) rfl ?_);refine wpAny_bind (wpAny_seqItems hTI rfl ?_);show wpAny _ _ (Builtin.SmallTypes.ownedTupleIsFree (.ref z) >>= _) _ _ _;refine wpAny_bind ?_;unfold Builtin.SmallTypes.ownedTupleIsFree;refine wpAny_bind (wpAny_field hz rfl (x:=.none) rfl (wpAny_pure ?_));simp only[if_true];refine wpAny_bind (wpAny_rule ?_);refine wpAny_bind (wpAny_field hz rfl (x:=.ref TO) rfl ?_);refine wpAny_bind (wpAny_setField_rec hz (by simp) λg1 hz1 e1=>?_)
 replace hz1:IsZip g1 z TI TO .ellipsis:=hz1
 refine wpAny_bind ?_;simp only[List.zipIdx_cons,List.zipIdx_nil,List.forIn_cons,List.forIn_nil];refine wpAny_bind (wpAny_bind (wpAny_onRaise ?_));show wpAny _ _ (Builtin.SmallTypes.nextOf (.ref j1) >>= _) _ _ _;have s1':S1 k g1:=D1.frame k _ _ s1 λc hc o e=>e1.extBut _ _ (fO hc D.c1) e;refine wpAny_bind (D1.item k { s with heap:=g1 } _ _ k1 s1' λx g2 tk2 px sx e2=>wpAny_pure ?_);have t2:IsPair g2 TO a b:=e2.extBut _ _ acs.symm (e1.extBut _ _ D.a2 hTO);refine wpAny_bind (wpAny_seqItems t2 rfl ?_);refine wpAny_bind (wpAny_updateSeq_pair t2 λg3 t3 e3=>?_)
 replace t3:IsPair g3 TO x b:=t3
 refine wpAny_bind (wpAny_letGo (wpAny_pure ?_));refine wpAny_bind (wpAny_bind (wpAny_onRaise ?_));show wpAny _ _ (Builtin.SmallTypes.nextOf (.ref j2) >>= _) _ _ _;have s2':S2 k g3:=D2.frame k _ _ s2 λc hc o e=>e3.extBut _ _ (fO hc D.c4) (e2.extBut _ _ (fO hc D.c8) (e1.extBut _ _ (fO hc D.c2) e));refine wpAny_bind (D2.item k { s with heap:=g3,toks:=tk2 } _ _ k2 s2' λy g4 tk4 py sy e4=>wpAny_pure ?_);have t4:IsPair g4 TO x b:=e4.extBut _ _ afe.symm t3;refine wpAny_bind (wpAny_seqItems t4 rfl ?_);refine wpAny_bind (wpAny_updateSeq_pair t4 λg5 t5 e5=>?_)
 replace t5:IsPair g5 TO x y:=t5
 refine wpAny_bind (wpAny_letGo (wpAny_pure (wpAny_pure ?_)));refine wpAny_bind (wpAny_seqItems t5 rfl ?_);refine wpAny_bind (wpAny_newTuple ?_);have hsz:g5.objs.size=s.heap.objs.size:=by rw[e5.1,e4.1,e3.1,e2.1,e1.1]
 have hz5:IsZip g5 z TI TO .ellipsis:=e5.extBut _ _ D.a2.symm (e4.extBut _ _ acr.symm (e3.extBut _ _ D.a2.symm (e2.extBut _ _ Xw.symm hz1)));have ad9:∀c o,c≠z->c≠TO->c≠j1->c≠j2->s.heap.get? c=some o->g5.get? c=some o:=λc o c1 c2 c3 c4 e=>
  e5.extBut _ _ c2 (e4.extBut _ _ c4 (e3.extBut _ _ c2 (e2.extBut _ _ c3 (e1.extBut _ _ c1 e))))
 have s15:S1 (k+1) g5:=D1.frame _ _ _ sx λc hc o e=>e5.extBut _ _ (fO hc D.c3) (e4.extBut _ _ (fO hc D.c7) (e3.extBut _ _ (fO hc D.c3) e));have s25:S2 (k+1) g5:=D2.frame _ _ _ sy λc hc o e=>e5.extBut _ _ (fO hc D.c4) e;have zlt:z<g5.objs.size:=Heap.lt_size hz5;show wpAny _ _ (Builtin.SmallTypes.ownedTupleHandOut (.ref z) (.ref g5.objs.size) >>= _) _ _ _;refine wpAny_bind ?_;unfold Builtin.SmallTypes.ownedTupleHandOut;have hz6:IsZip (g5.push { cls:=.type "tuple",data:=.seq #[x,y] }) z TI TO .ellipsis:=Heap.get?_push_of_some _ hz5;refine wpAny_bind (wpAny_setField_rec hz6 (by simp) λg7 hz7 e7=>?_)
 replace hz7:IsZip g7 z TI TO (rawInt g5.objs.size):=hz7
 refine wpAny_setField_rec hz7 (by simp) λg8 hz8 e8=>?_
 replace hz8:IsZip g8 z TI TO (rawInt g5.objs.size):=hz8
 have up:∀c o,c≠z->g5.get? c=some o->g8.get? c=some o:=λc o c1 e=>e8.extBut _ _ c1 (e7.extBut _ _ c1 (Heap.get?_push_of_some _ e));have t8:IsPair g8 g5.objs.size x y:=e8.extBut _ _ (Nat.ne_of_gt zlt) (e7.extBut _ _ (Nat.ne_of_gt zlt) (Heap.get?_push_size _ rfl));have l8:g8.objs.size=g5.objs.size+1:=by rw[e8.1,e7.1,Heap.size_push]
 rw[hsz] at hz8 t8 l8;refine wpAny_pure ⟨_,rfl,?_⟩;show Q (.ref g5.objs.size) _;rw[hsz];exact q x y g8 _ px py hz8 (up _ _ D.a2 t5) (D1.frame _ _ _ s15 λc hc o e=>up c o (fO hc D.c1) e) (D2.frame _ _ _ s25 λc hc o e=>up c o (fO hc D.c2) e) t8 l8 λc o c1 c2 c3 c4 e=>up c o c1 (ad9 c o c1 c2 c3 c4 e)
theorem Uu{Q:Fin->Shared->Prop}(D:Ap z TI TO j1 j2 f1 f2)(D1:Draws prog w A j1 f1 n1 P1 S1)(D2:Draws prog w A j2 f2 n2 P2 S2)(hk:k=n1\/(k<n1/\k=n2))
  (hz:IsZip s.heap z TI TO .none) (hTI:IsPair s.heap TI (.ref j1) (.ref j2)) (hTO:IsPair s.heap TO a b) (s1:S1 k s.heap) (s2:S2 k s.heap)
  (q:∀g e tk,(∀c o,c≠z->c≠TO->c≠j1->c≠j2->s.heap.get? c=some o->g.get? c=some o)->(∃o,g.get? e=some o/\o.cls = .type "StopIteration")->E (.ref e) { s with heap:=g,toks:=tk }) :
  wpAny (model prog w) A (Builtin.«zip.__next__» ⟨[.ref z],[]⟩) Q E s:=by
 have Xw:j1≠z:=fO D.b1 D.c1;have acr:j2≠z:=fO D.b2 D.c2;have acs:j1≠TO:=fO D.b1 D.c3;have afe:j2≠TO:=fO D.b2 D.c4;show wpAny _ _ (field (.ref z) 2 >>= _) _ _ _;refine wpAny_bind (wpAny_field hz rfl (x:=.bool false) rfl ?_);show wpAny _ _ (field (.ref z) 3 >>= _) _ _ _;refine wpAny_bind (wpAny_field hz rfl (x:=.ref TI) rfl ?_);refine wpAny_bind (wpAny_seqItems hTI rfl ?_);show wpAny _ _ (Builtin.SmallTypes.ownedTupleIsFree (.ref z) >>= _) _ _ _;refine wpAny_bind ?_;unfold Builtin.SmallTypes.ownedTupleIsFree;refine wpAny_bind (wpAny_field hz rfl (x:=.none) rfl (wpAny_pure ?_));simp only[if_true];refine wpAny_bind (wpAny_rule ?_);refine wpAny_bind (wpAny_field hz rfl (x:=.ref TO) rfl ?_);refine wpAny_bind (wpAny_setField_rec hz (by simp) λg1 hz1 e1=>?_)
 replace hz1:IsZip g1 z TI TO .ellipsis:=hz1
 refine wpAny_bind ?_;simp only[List.zipIdx_cons,List.zipIdx_nil,List.forIn_cons,List.forIn_nil];refine wpAny_bind (wpAny_bind (wpAny_onRaise ?_));show wpAny _ _ (Builtin.SmallTypes.nextOf (.ref j1) >>= _) _ _ _;have s1':S1 k g1:=D1.frame k _ _ s1 λc hc o e=>e1.extBut _ _ (fO hc D.c1) e;rcases hk with rfl|⟨k1,rfl⟩
 ·refine wpAny_bind (D1.done { s with heap:=g1 } _ _ s1' λg2 e x2 he=>?_);obtain⟨oe,hoe,hce⟩:=he;have hz2:IsZip g2 z TI TO .ellipsis:=x2 _ _ Xw.symm hz1;have hez:e≠z:=λx=>by subst x;rw[hz2] at hoe;cases hoe;simp at hce
  exact wpAny_setField_rec hz2 (by simp) λg3 _ e3=>q g3 e s.toks (λc o c1 _ c3 _ x=>e3.extBut _ _ c1 (x2 _ _ c3 (e1.extBut _ _ c1 x))) ⟨oe,e3.extBut _ _ hez hoe,hce⟩
 ·refine wpAny_bind (D1.item k { s with heap:=g1 } _ _ k1 s1' λx g2 tk2 px sx e2=>wpAny_pure ?_);have t2:IsPair g2 TO a b:=e2.extBut _ _ acs.symm (e1.extBut _ _ D.a2 hTO);refine wpAny_bind (wpAny_seqItems t2 rfl ?_);refine wpAny_bind (wpAny_updateSeq_pair t2 λg3 t3 e3=>?_);refine wpAny_bind (wpAny_letGo (wpAny_pure ?_));refine wpAny_bind (wpAny_bind (wpAny_onRaise ?_));show wpAny _ _ (Builtin.SmallTypes.nextOf (.ref j2) >>= _) _ _ _;have s2':S2 k g3:=D2.frame k _ _ s2 λc hc o e=>e3.extBut _ _ (fO hc D.c4) (e2.extBut _ _ (fO hc D.c8) (e1.extBut _ _ (fO hc D.c2) e));refine wpAny_bind (D2.done { s with heap:=g3,toks:=tk2 } _ _ s2' λg4 e x4 he=>?_);obtain⟨oe,hoe,hce⟩:=he;have hz4:IsZip g4 z TI TO .ellipsis:=x4 _ _ acr.symm (e3.extBut _ _ D.a2.symm (e2.extBut _ _ Xw.symm hz1));have hez:e≠z:=λx=>by subst x;rw[hz4] at hoe;cases hoe;simp at hce
  exact wpAny_setField_rec hz4 (by simp) λg5 _ e5=>q g5 e tk2 (λc o c1 c2 c3 c4 x=>e5.extBut _ _ c1 (x4 _ _ c4 (e3.extBut _ _ c2 (e2.extBut _ _ c3 (e1.extBut _ _ c1 x))))) ⟨oe,e5.extBut _ _ hez hoe,hce⟩
theorem xA{Q:Option Value->Shared->Prop}(D:Ap z TI TO j1 j2 f1 f2)(D1:Draws prog w A.in1 j1 f1 n1 P1 S1)(D2:Draws prog w A.in1 j2 f2 n2 P2 S2)(k1:k<n1)(k2:k<n2)
  (hz:IsZip s.heap z TI TO .none) (hTI:IsPair s.heap TI (.ref j1) (.ref j2)) (hTO:IsPair s.heap TO a b) (s1:S1 k s.heap) (s2:S2 k s.heap)
  (q:∀x y g tk,P1 k x->P2 k y->IsZip g z TI TO (rawInt s.heap.objs.size)->IsPair g TO x y->S1 (k+1) g->S2 (k+1) g->IsPair g s.heap.objs.size x y->g.objs.size=s.heap.objs.size+1->
   (∀c o,c≠z->c≠TO->c≠j1->c≠j2->s.heap.get? c=some o->g.get? c=some o)->Q (some (.ref s.heap.objs.size)) { s with heap:=g,toks:=tk }) :
  wpAny (model prog w) A (pyNext (.ref z)) Q E s:=by
 have hT:s.TypeIs (.ref z) "zip":=⟨_,hz,rfl⟩;unfold pyNext;exact wpAny_bind (wpAny_attempt (wpAny_callSpecial?_slot (name:=Str.ofString "__next__") hT F.slot_zip_next (wpAny_call_entry F.slot_zip_next hT F.entry_zip_next
  (Ph D D1 D2 k1 k2 hz hTI hTO s1 s2 λx y g tk u1 u2 u3 u4 u5 u6 u7 u8 u9=>wpAny_pure (q x y g tk u1 u2 u3 u4 u5 u6 u7 u8 u9)) (F.args_zip_next_1 _))))
theorem yE{Q:Option Value->Shared->Prop}(D:Ap z TI TO j1 j2 f1 f2)(D1:Draws prog w A.in1 j1 f1 n1 P1 S1)(D2:Draws prog w A.in1 j2 f2 n2 P2 S2)(hk:k=n1\/(k<n1/\k=n2))
  (hz:IsZip s.heap z TI TO .none) (hTI:IsPair s.heap TI (.ref j1) (.ref j2)) (hTO:IsPair s.heap TO a b) (s1:S1 k s.heap) (s2:S2 k s.heap)
  (q:∀g tk,(∀c o,c≠z->c≠TO->c≠j1->c≠j2->s.heap.get? c=some o->g.get? c=some o)->Q none { s with heap:=g,toks:=tk }):wpAny (model prog w) A (pyNext (.ref z)) Q E s:=by
 have hT:s.TypeIs (.ref z) "zip":=⟨_,hz,rfl⟩;unfold pyNext;refine wpAny_bind (wpAny_attempt (wpAny_callSpecial?_slot (name:=Str.ofString "__next__") hT F.slot_zip_next (wpAny_call_entry F.slot_zip_next hT F.entry_zip_next
  (Uu D D1 D2 hk hz hTI hTO s1 s2 λg e tk hkp he=>?_) (F.args_zip_next_1 _))))
 obtain⟨o,ho,hc⟩:=he;refine wpAny_bind (wpAny_isInstance (T:="StopIteration") (b:=true) ⟨o,ho,hc⟩ isSubtype_stop ?_);exact wpAny_pure (q _ _ hkp)
end
end ZT
namespace L2
open PySem PySem.Spec PyProof.Rows PySem.Builtin ZT
structure Apz(z TI TO j1 j2 a1 a2:Addr):Prop where
 t1:TI≠z
 t2:TO≠z
 t3:TI≠TO
 t4:j1≠j2
 b1:z ∉ [j1,a1]
 b2:z ∉ [j2,a2]
 b3:TO ∉ [j1,a1]
 b4:TO ∉ [j2,a2]
 b5:TI ∉ [j1,a1]
 b6:TI ∉ [j2,a2]
 b7:j2 ∉ [j1,a1]
 b8:j1 ∉ [j2,a2]
 c1:a1≠j1
 c2:a2≠j2
theorem Apz.ap{z TI TO j1 j2 a1 a2:Addr}(D:Apz z TI TO j1 j2 a1 a2):Ap z TI TO j1 j2 [j1,a1] [j2,a2]:=⟨D.t1,D.t2,D.t3,D.t4,by simp,by simp,D.b1,D.b2,D.b3,D.b4,D.b5,D.b6,D.b7,D.b8⟩
end L2
namespace Ev
open PySem PySem.Spec PyProof.Rows L2 PySem.Builtin
section
variable{X:Cx}{C:Cfg}{pos:Pos}{e e2:Expr}
def Es(x y:List D):List D:=(x.zip y).map λp=>.tup [p.1,p.2]
theorem CT{K:Fg}{F:Hp}:∀{ds:List D} {vs:List V},bI K F ds vs->∀{i:Nat} {d:D},ds[i]? = some d->∃v,vs[i]? = some v/\Rep K F d v
 | [],vs,_,i,d,h=>by simp at h
 | x::ds,vs,r,i,d,h=>by
  obtain⟨v,w,rfl,p,q⟩:=r;cases i with
  | zero=>simp at h;subst h;exact⟨v,rfl,p⟩
  | succ i=>obtain⟨u,h1,h2⟩:=CT q (i:=i) (by simpa using h);exact⟨u,by simpa using h1,h2⟩
end
open PySem PySem.Spec PyProof.Rows L2
def ae7(f:List D->Option (D×D))(c:Ev)(a:cJ):Ev:=λenv=>bindR (c env) λx aD=>bindR (a aD) λds dh=>match f (x::ds) with
 | some (d,_)=>.ok d dh
 | none=>.stuck
def JM(g:GV)(ux:cJ)(g2:GV)(c:dJ)(e:Ev):List D->Env->R (List D)
 | [],env=>.ok [] env
 | d::ds,env=>(match g d env with
  | none=>.stuck
  | some e1=>bindR (ux e1) λzy e2=>bindR (uw g2 c e zy e2) λys e3=>bindR (JM g ux g2 c e ds e3) λzs e4=>.ok (ys++zs) e4)
def wW(lo n:Nat)(it:cJ)(g:GV)(ux:cJ)(g2:GV)(c:dJ)(e:Ev):Ev:=λenv=>bindR (it env) λds aD=>if aD.length=lo then bindR (JM g ux g2 c e ds (aD++List.replicate (n - lo) none)) λys dh=>(if ys.length<=sizeLine then .ok (.lst ys) (dh.take lo) else .stuck) else .stuck
theorem aaN{C:Cfg}{lo n:Nat}{it ux:cJ}{g g2:GV}{c:dJ}{e:Ev}{σ:L2.St}{H:Hp}{Q:VK}(h:tN C (wW lo n it g ux g2 c e) σ H Q):ac5 n (tI C it) (tG C lo g) (tI C ux) (tG C lo g2) (tT C c) (tE C e) σ H Q:=by
 obtain⟨Pr,F,env,env',d,r,ev,q⟩:=h;obtain⟨ds,aD,e1,e2⟩:=aO ev;split at e2
 ·rename_i hlo;obtain⟨ys,dh,e3,e4⟩:=aO e2;split at e4
  ·rename_i hz;cases e4;refine⟨Pr,F,env,aD,ds,r,e1,λJ H1 F1 r1 s1 y1 a ha=>?_⟩;have hσ:σ.length=lo:=r1.len.symm.trans hlo;have hPa:Pr a=none:=r1.pr.free ha;refine⟨λi m σ' H'=>m=ds.length - i/\i<=ds.length/\∃F' m8 acc ws rest,Rel C (upd Pr a (.lst ws)) F' m8 σ' H'/\aP F1 F'/\bI C.K F' acc ws/\σ'.take lo=σ/\JM g ux g2 c e (ds.drop i) m8 = .ok rest dh/\acc++rest=ys,
    ⟨ds.length,rfl,Nat.zero_le _,F1,aD++List.replicate (n - lo) none,[],[],ys,?_,aP.refl _,rfl,?_,e3,rfl⟩,?_⟩
   ·rw[hσ];exact(r1.aside (o:=.lst []) ha).pad _
   ·unfold qG;rw[<-hσ,List.take_left]
   rintro i m σ' H' ⟨rfl,hi,F',m8,acc,ws,rest,r',s',p',t',l',hacc⟩;have hFa:F' a=none:=by
    cases ez:F' a with
    | none=>rfl
    | some w=>have:=r'.dj a w ez;rw[aU] at this;cases this
   by_cases hl:i<ds.length
   ·have hd:ds[i]? = some ds[i]:=List.getElem?_eq_getElem hl;have hdr:ds.drop i=ds[i]::ds.drop (i+1):=List.drop_eq_getElem_cons hl;have yy:=y1 i H' (s'.trans r'.fr);refine .inr ⟨(yy.2 _ hd).1,λσ2 H2=>∃F' m8 acc ws rest,Rel C (upd Pr a (.lst ws)) F' m8 σ2 H2/\aP F1 F'/\bI C.K F' acc ws/\σ2.take lo=σ/\JM g ux g2 c e (ds.drop (i+1)) m8 = .ok rest dh/\acc++rest=ys,
     λσ2 H2 h2=>⟨ds.length - (i+1),by omega,rfl,hl,h2⟩,λx H2 hy=>?_⟩
    obtain⟨F2,r2,s2,p2⟩:=oE.item r' s' y1 hd hy;rw[hdr] at l';unfold JM at l';cases eg:g ds[i] m8 with
    | none=>rw[eg] at l';cases l'
    | some e5=>
     rw[eg] at l';obtain⟨zy,e6,c1,l2⟩:=aO l';obtain⟨yI,e7,c2,l3⟩:=aO l2;obtain⟨zs,e8,c3,l4⟩:=aO l3;cases l4;refine⟨_,F2,m8,e5,ds[i],r2,p2,eg,λσ3 H3 F3 r3 s3 t3=>⟨_,F3,e5,e6,zy,r3,c1,λJ2 H4 F4 r4 s4 y4=>?_⟩⟩;have t3':σ3.take lo=σ:=t3.trans t';have Zy:aP F' F4:=(s2.trans s3).trans s4
     -- the second loop
     refine⟨λi2 m2 σ5 H5=>m2=zy.length - i2/\i2<=zy.length/\∃F5 m8 Aw Py yx,Rel C (upd Pr a (.lst Py)) F5 m8 σ5 H5/\aP F4 F5/\bI C.K F5 Aw Py/\σ5.take lo=σ/\uw g2 c e (zy.drop i2) m8 = .ok yx e7/\Aw++yx=acc++yI,
      ⟨zy.length,rfl,Nat.zero_le _,F4,e6,acc,ws,yI,r4,aP.refl _,bI.mono Zy _ _ p',t3',c2,rfl⟩,?_⟩
     rintro i2 m2 σ5 H5 ⟨rfl,hi2,F5,afa,Aw,Py,yx,r5,s5,p5,t5,l5,G3⟩;by_cases hl2:i2<zy.length
     ·have hd2:zy[i2]? = some zy[i2]:=List.getElem?_eq_getElem hl2;have agC:zy.drop i2=zy[i2]::zy.drop (i2+1):=List.drop_eq_getElem_cons hl2;have yy2:=y4 i2 H5 (s5.trans r5.fr);refine .inr ⟨(yy2.2 _ hd2).1,λσ6 H6=>∃F5 m8 Aw Py yx,Rel C (upd Pr a (.lst Py)) F5 m8 σ6 H6/\aP F4 F5/\bI C.K F5 Aw Py/\σ6.take lo=σ/\uw g2 c e (zy.drop (i2+1)) m8 = .ok yx e7/\Aw++yx=acc++yI,
       λσ6 H6 h6=>⟨zy.length - (i2+1),by omega,rfl,hl2,h6⟩,λy H6 hy2=>?_⟩
      obtain⟨F6,r6,s6,p6⟩:=oE.item r5 s5 y4 hd2 hy2;rw[agC] at l5;unfold uw at l5;cases eg2:g2 zy[i2] afa with
      | none=>rw[eg2] at l5;cases l5
      | some e9=>
       rw[eg2] at l5;obtain⟨b,e10,c4,l6⟩:=aO l5;refine⟨_,F6,afa,e9,zy[i2],r6,p6,eg2,λσ7 H7 F7 r7 s7 t7=>⟨_,F7,e9,e10,b,r7,c4,λH8 F8 r8 s8=>?_⟩⟩;have t7':σ7.take lo=σ:=t7.trans t5;have s58:aP F5 F8:=(s6.trans s7).trans s8;cases b with
       | false=>
        show if false=true then _ else _
        rw[if_neg Bool.false_ne_true];rw[if_neg Bool.false_ne_true] at l6;exact⟨F8,e10,Aw,Py,yx,r8,s5.trans s58,bI.mono s58 _ _ p5,t7',l6,G3⟩
       | true=>
        show if true=true then _ else _
        rw[if_pos rfl];rw[if_pos rfl] at l6;obtain⟨v,e11,c5,l7⟩:=aO l6;obtain⟨rs3,e12,c6,l8⟩:=aO l7;cases l8;refine⟨_,F8,e10,e11,v,r8,c5,λu H9 F9 r9 s9 p9=>?_⟩;have hlen:Aw.length+(rs3.length+1)=acc.length+yI.length:=by
         have:=congrArg List.length G3
         rwa [List.length_append,List.length_append,List.length_cons] at this
        have hlen2:acc.length+(yI.length+zs.length)=ys.length:=by
         have:=congrArg List.length hacc
         rwa [List.length_append,List.length_append] at this
        refine⟨Py,r9.pr _ _ aU,by rw[p5.length];omega,F9,e11,Aw++[v],Py++[u],rs3,?_,s5.trans (s58.trans s9),(bI.mono (s58.trans s9) _ _ p5).append (bI.one p9),t7',c6,by rw[List.append_assoc];exact G3⟩;have r10:=r9.turn (u:=.lst (Py++[u])) aU
        rwa [Kp] at r10
     ·have ei2:i2=zy.length:=by omega
      subst ei2;rw[List.drop_length] at l5;cases l5;rw[List.append_nil] at G3;refine .inl ⟨(y4 _ H5 (s5.trans r5.fr)).1 (List.getElem?_eq_none (Nat.le_refl _)) rfl,?_⟩;exact⟨F5,e7,Aw,Py,zs,r5,s'.trans (Zy.trans s5),p5,t5,c3,by rw[G3,List.append_assoc];exact hacc⟩
   ·have ei:i=ds.length:=by omega
    subst ei;rw[List.drop_length] at l';cases l';rw[List.append_nil] at hacc;subst hacc;refine .inl ⟨(y1 _ H' (s'.trans r'.fr)).1 (List.getElem?_eq_none (Nat.le_refl _)) rfl,?_⟩;have sP:aP Pr (upd Pr a (.lst ws)):=lE hPa;have r7:Rel C Pr F' (dh.take lo) σ H':=by
     have:=(r'.less sP).cut (σ0:=σ) (by rw[hσ];exact t') r1.fix
     rwa [hσ] at this
    refine q a H' F' r7 (s1.trans s') ⟨⟨hz,ws,r'.pr _ _ aU,p'⟩,hFa,hPa,λj e he hs=>?_⟩;have hj:j<σ.length:=(List.getElem?_eq_some_iff.mp hs).1;have he':dh[j]? = some (some (true,e)):=by rw[List.getElem?_take_of_lt (by rw[<-hσ];exact hj)] at he;exact he
    obtain⟨b,g1,_,_,g4⟩:=r'.own j e he';have:σ'[j]? = some (some (V.ref a)):=by rw[<-t',List.getElem?_take_of_lt (by rw[<-hσ];exact hj)] at hs;exact hs
    rw[this] at g1;cases g1;rw[aU] at g4;cases g4
  ·cases e4
 ·cases e2
section
variable{X:Cx}{C:Cfg}{pos:Pos}{n:Str}
theorem Qn{elt tg iter pq cH:Expr}{ifs:List Expr}{scope:Scope}(N':List Str){spos py:Pos}{it ux:cJ}{g g2:GV}{c:dJ}{e:Ev}(lo:Nat)(i:Nat)(ok:jN X scope N')(G:Good X C)(hi:Hw X C tg iter it)
  (bg:∀X',dX X scope N' X'->Hx X' C lo tg g) (bi:∀X',dX X scope N' X'->Hw X' C pq cH ux) (bg2:∀X',dX X scope N' X'->Hx X' C lo pq g2) (bc:∀X',dX X scope N' X'->Hv X' C ifs c) (be:∀X',dX X scope N' X'->PX X' C elt e)
  (hnd:jJ X.N=true:=by rfl) (hfx:C.fx i=none:=by rfl) (hy:X.N[i]? = some n:=by rfl) (hx:Loc X.env.scope n:=by first|exact Or.inl rfl|exact Or.inr rfl)
  (hsw:swapsWith (.ListComp elt [⟨tg,iter,[],0⟩,⟨pq,cH,ifs,0⟩] scope pos) (some (.Name n py)) spos.line X.env=pure true:=by rfl)
  (hf:X.fn n=true\/X.env.scope.names.lookup n=some .local:=by first|exact .inl rfl|exact .inr rfl)
  (hs2:∀(X':Cx) (x:Value),dX X scope N' X'->foldedSetIterable cH X'.env x=pure x:=by intro _ _ _;rfl) (hs:∀x,foldedSetIterable iter X.env x=pure x:=by intro _;rfl):Ay X C (.Assign [.Name n py] (.ListComp elt [⟨tg,iter,[],0⟩,⟨pq,cH,ifs,0⟩] scope pos) spos) (cT i (wW lo N'.length it g ux g2 c e)):=
 (Ng ok G.calm hi bg bi bg2 hs2 bc be (jP hnd) hy hx hsw hf hs).imp λD σ H h=>by
  obtain⟨Pr,F,env,r,f⟩:=h;obtain⟨d,aD,e1,f1⟩:=eZ f;have:tN C (wW lo N'.length it g ux g2 c e) σ H λv H1=>wV i v σ H1 D.nx:=⟨Pr,F,env,aD,d,r,e1,λv H1 F1 r1 s1 p1=>f1 _ H1 F1 (r1.Jp hfx p1) s1⟩;exact aaN this
def yl(i:Nat)(a:Ev):bG:=λenv=>match env[i]? with
 | some (some (true,.lst _))=>eF (a env) λd aD=>(match aD[i]?,d with
  | some (some (true,.lst xs)),.lst zs=>if xs.length+zs.length<=sizeLine then .nx (aD.set i (some (true,.lst (xs++zs)))) else .stuck
  | _,_=>.stuck)
 | _=>.stuck
theorem Qp{e:Expr}{a:Ev}{px apos cpos:Pos}(i:Nat)(G:Good X C)(he:PX X C e a)(hN:X.N[i]? = some n:=by rfl)(hv:rn X.env.scope n:=by first|exact Or.inl rfl|exact Or.inr (Or.inl rfl)|exact Or.inr (Or.inr rfl))
  (hs:swapsWith (.Call (.Attribute (.Name n px) "extend" apos) [e] [] cpos) none pos.line X.env=pure false:=by rfl)
  (hfew:((backTo cpos (starEach [e] X.env)).all (λx=>!x.1)&&(backToKw cpos (keywordEach [] X.env)).all (λx=>x.1.isSome)
   && decide (([e]:List Expr).length+([]:List Keyword).length+(if ([]:List Keyword).isEmpty then 0 else 1)<30))=true:=by rfl)
  (hbase:attributeBase (.Name n px) "extend" X.env (eval (.Name n px) X.env)=eval (.Name n px) X.env:=by rfl)
  (hline:(apos.endLine == cpos.line)=true:=by rfl) (hst:tQ e X.env:=by rfl) (hplain:(backTo cpos (starEach [] X.env)).any (·.1)=false:=by rfl)
  (hd:j9 n:=by decide) (hcd:rF n:=by decide):Ay X C (.Expr (.Call (.Attribute (.Name n px) "extend" apos) [e] [] cpos) pos) (yl i a):=by
 refine PS.imp (KR (Q4 PySem.F.plainAttrs_list PySem.F.slot_list_extend PySem.F.type_list_extend NZ (lN hN hv hd hcd) (iM he mV hst) hbase hfew hline hst hplain) hs) λD σ H h=>?_;obtain⟨Pr,F,env,r,f⟩:=h;unfold yl at f;split at f
 ·rename_i xs0 h0;obtain⟨d,aD,e1,f1⟩:=eZ f;obtain⟨a0,hv0,⟨z0,vs0,g0,_⟩,_⟩:=r.own i _ h0;refine⟨_,hv0,.inl ⟨rfl,vs0,jT.of g0⟩,Pr,F,env,aD,d,r,e1,λv H1 F1 r1 s1 p1=>?_⟩;split at f1
  ·rename_i xs zs h1;split at f1
   ·rename_i hz;obtain⟨a,g1,⟨z,vs,g2,g3⟩,g4,g5⟩:=r1.own i _ h1;rw[hv0] at g1;cases g1;obtain⟨_,b,ws,rfl,hb,hws⟩:=jj.lst r1.fr (.inl p1);refine⟨a0,b,vs,ws,rfl,rfl,g2,hb,by rw[g3.length,hws.length];exact hz,?_⟩;exact f1 σ _ F1 (r1.write h1 hv0 ⟨by rw[List.length_append];exact hz,vs++ws,aU,g3.append hws⟩) s1
   ·exact f1.elim
  ·exact f1.elim
 ·exact f.elim
end
end Ev
namespace SX
open PySem PySem.Spec PyProof.Rows L2 PySem.Builtin
def led(w:World):Bool:=!(w.params.followText "set-order")
theorem vY(t:SetTable)(n:Nat):(t.orStandIn n).led=t.led/\(t.plain=false->(t.orStandIn n).plain=false):=by
 unfold SetTable.orStandIn;split
 ·exact⟨rfl,id⟩
 ·exact⟨rfl,λ_=>rfl⟩
theorem rG(t:SetTable)(es:Array (Int×Value))(h:Int)(x:Value):(layNew t es h x).2.1.led=t.led/\(t.plain=false->(layNew t es h x).2.1.plain=false):=by
 unfold layNew;split
 ·exact vY _ _
 ·exact⟨rfl,λ_=>rfl⟩
theorem o4{mask finger moves:Nat}{l p:Bool}{hs:Array Int}{t:SetTable}{o:Array Nat}(h:SetTable.laid mask finger moves l p hs=some (t,o)):t.led=l/\t.plain=p:=by
 unfold SetTable.laid at h;cases h1:SetTable.layClean mask hs with
 | none=>rw[h1] at h;cases h
 | some ow=>rw[h1] at h;injection h with h;injection h with h _;subst h;exact⟨rfl,rfl⟩
theorem mH(t:SetTable)(es:Array (Int×Value))(n:Nat):(relayAll t es n).2.1.led=t.led/\(t.plain=false->(relayAll t es n).2.1.plain=false):=by
 unfold relayAll;split
 ·rename_i t' order e;obtain⟨h1,h2⟩:=o4 e;dsimp only;split
  ·exact⟨h1,λz=>h2.trans z⟩
  ·exact⟨rfl,λ_=>rfl⟩
 ·exact⟨rfl,λ_=>rfl⟩
section
variable{P:Program}{w:World}{A:Around}{E:Value->Shared->Prop}{s:Shared}{a:Addr}
theorem sU(b:Bool){n:String}{s₁:Shared}{Q:Unit->Shared->Prop}(h:Q () s₁):wpAny (model P w) A (match b with|true=>rule n|false=>pure ()) Q E s₁:=by
 cases b
 ·exact wpAny_pure h
 ·exact wpAny_rule h
theorem rE(v:Value){Q:Value->Shared->Prop}(h:Q (.ref s.heap.objs.size) { s with heap:=s.heap.push { cls:=.type "set",dict:=none,data:=.set #[] 0 (.fresh 0 0 (led w)) } }) :
  codeAny (model P w) A (.call (.builtin "set.__new__") ⟨[.type "set",v],[]⟩) (wants Q E) s:=by
 refine codeAny_of_tree ?_;show wpAny _ _ (checkBuiltinCall "set.__new__" ⟨[.type "set",v],[]⟩ >>= λ_=>again (.builtin "set.__new__" ⟨[.type "set",v],[]⟩)) _ _ s;refine wpAny_bind (wpAny_of_eq (PySem.F.newCall_set_1 v) (wpAny_pure ⟨plainId_quiet PySem.F.plain_set_new _,codeAny_builtin PySem.F.entry_set_new ?_⟩));rw[Around.under_plainId PySem.F.plain_set_new _];unfold Builtin.«set.__new__» Builtin.Frozenset.newClass;have hs:=sub_set_self;obtain⟨_,_,_,_,_⟩:=s;dsimp only
 wp_walk
 refine wpAny_askSetting (wpAny_pure ?_);dsimp only;simp only[newObj];exact wpAny_bind (wpAny_alloc (wpAny_pure (wpAny_pure h)))
def fresh(w:World):Obj:={ cls:=.type "set",dict:=none,data:=.set #[] 0 (.fresh 0 0 (led w)) }
end
theorem lg:Slot "set_iterator" "__next__" "set_iterator.__next__":=
 .of (owner:="set_iterator") (n:="__next__") (by rw[typeLookup_type,builtinLookup_eq_fast];kernel_rfl) (by decide +kernel) (by decide +kernel) (by decide +kernel) (by first|exact .inl (by decide +kernel)|exact .inr (by decide +kernel)) (by rw[isSubtype_type];kernel_rfl)
theorem Tp:entryFor table "set_iterator.__next__" = some Builtin.«set_iterator.__next__»:=entryFor_of_tree (by kernel_rfl)
theorem Gh:Manifest.owners.lookup (String.ofList ['r', 'o', 't', 'a', 'r', 'e', 't', 'i', '_', 't', 'e', 's'].reverse)=some Manifest.sig_set_iterator:=by kernel_rfl
theorem XN(a:Value):argsOk "set_iterator.__next__" ⟨[a],[]⟩:=by
 unfold argsOk;rw[signature?_of (id:="set_iterator.__next__") (n:=['_', '_', 't', 'x', 'e', 'n', '_', '_']) (o:=['r', 'o', 't', 'a', 'r', 'e', 't', 'i', '_', 't', 'e', 's']) (by kernel_rfl) Gh]
 kernel_rfl
theorem Ky:Slot "set_iterator" "__iter__" "set_iterator.__iter__":=
 .of (owner:="set_iterator") (n:="__iter__") (by rw[typeLookup_type,builtinLookup_eq_fast];kernel_rfl) (by decide +kernel) (by decide +kernel) (by decide +kernel) (by first|exact .inl (by decide +kernel)|exact .inr (by decide +kernel)) (by rw[isSubtype_type];kernel_rfl)
theorem qX:entryFor table "set.__iter__" = some Builtin.«frozenset.__iter__»:=
 entryFor_alias (id':="frozenset.__iter__") (by kernel_rfl) rfl (by decide +kernel) (by kernel_rfl)
theorem Tn:entryFor table "set_iterator.__iter__" = some Builtin.«dict_keyiterator.__iter__»:=
 entryFor_alias (id':="dict_keyiterator.__iter__") (by kernel_rfl) rfl (by decide +kernel) (by kernel_rfl)
theorem XM(a:Value):argsOk "set_iterator.__iter__" ⟨[a],[]⟩:=by
 unfold argsOk;rw[signature?_of (id:="set_iterator.__iter__") (n:=['_', '_', 'r', 'e', 't', 'i', '_', '_']) (o:=['r', 'o', 't', 'a', 'r', 'e', 't', 'i', '_', 't', 'e', 's']) (by kernel_rfl) Gh]
 kernel_rfl
def Er(first:Value)(i:Nat)(a:Addr)(n ep:Nat):Obj:={ cls:=.type "set_iterator",data:=.fields #[first,.int i 0,.ref a,.int n 0,.int ep 0] }
section
variable{P:Program}{w:World}{A:Around}{E:Value->Shared->Prop}{s:Shared}
theorem K4{I a:Addr}{first:Value}{i n ep:Nat}{o:Obj}{es:Array (Int×Value)}{t:SetTable}{Q:Value->Shared->Prop}(hI:s.heap.get? I=some (Er first i a n ep))(ho:s.heap.get? a=some o)(hd:o.data = .set es ep t)(hf:t.fits es.size=true)(hn:es.size=n)
  (h:wpAny (model P w) A (match first with
   | .int slot _=>(do match <-setNext a slot.toNat i ep with
     | some (x,next)=>(do setField (.ref I) 0 (rawInt next);setField (.ref I) 1 (rawInt (i+1));ret x)
     | none=>(do setField (.ref I) 2 .none;raiseNew (<-newExc (.type "StopIteration") [])))
   | v=>(do
        let some places <-seqItems? v|unsupported "internal:set_iterator"
        match places[i]? with
        | some (.int place _)=>(do let x <-setNextDrawn a place.toNat ep;setField (.ref I) 1 (rawInt (i+1));ret x)
        | some _=>unsupported "internal:set_iterator"
        | none=>(do setField (.ref I) 0 (rawInt 0);setField (.ref I) 2 .none;raiseNew (<-newExc (.type "StopIteration") [])))) (λfin s'=>∃v,fin = .done (.ret v)/\Q v s') E s) :
  wpAny (model P w) A (Builtin.«set_iterator.__next__» ⟨[.ref I],[]⟩) (λfin s'=>∃v,fin = .done (.ret v)/\Q v s') E s:=by
 unfold Builtin.«set_iterator.__next__» slotArgs;refine wpAny_bind (wpAny_pure ?_);refine wpAny_bind (wpAny_fieldsOf hI rfl ?_);dsimp only[Er];refine wpAny_bind (wpAny_setEntries_of ho hd hf ?_);rw[if_neg (by rw[hn];simp)];cases first<;>first|exact h|(simpa using h)
theorem KC{I a:Addr}{first:Value}{i n ep:Nat}{Q:Value->Shared->Prop}(hI:s.heap.get? I=some (Er first i a n ep))(h:Q (.ref I) s):wpAny (model P w) A (pyIter (.ref I)) Q E s:=by have hT:s.TypeIs (.ref I) "set_iterator":=⟨_,hI,rfl⟩;refine wpAny_pyIter_slot hT Ky (wpAny_call_entry Ky hT Tn ?_ (XM _));show wpAny _ _ (ret (.ref I)) _ _ s;exact wpAny_pure ⟨_,rfl,"set_iterator",_,hT,lg.lookup,h⟩
theorem stop{Q:Fin->Shared->Prop}(hh:A.handled=none)(q:∀g e,(∀b o,s.heap.get? b=some o->g.get? b=some o)->(∃o,g.get? e=some o/\o.cls = .type "StopIteration")->E (.ref e) { s with heap:=g }) :
  wpAny (model P w) A (do raiseNew (<-newExc (.type "StopIteration") [])) Q E s:=by
 refine wpAny_bind ?_;simp only[newExc,newTuple];refine wpAny_bind (wpAny_newObj_type ?_ (by size_fits));refine wpAny_bind (m:=firstArgMember _ _) (wpAny_of_eq (a:=Value.none) (by first|rfl|(simp only[firstArgMember];rfl)) ?_);refine wpAny_newObj_type ?_ (by size_fits);simp only[raiseNew];refine wpAny_bind (wpAny_handled ?_);rw[hh];refine wpAny_bind (wpAny_pure (wpAny_throw ?_));exact q _ _ (λb o e=>Heap.get?_push_of_some _ (Heap.get?_push_of_some _ e)) ⟨_,Heap.get?_push_size _ rfl,rfl⟩
theorem K3{I a:Addr}{first:Value}{i n ep:Nat}{Q:Option Value->Shared->Prop}(hI:s.heap.get? I=some (Er first i a n ep))
  (h:wpAny (model P w) A.in1 (Builtin.«set_iterator.__next__» ⟨[.ref I],[]⟩) (λfin s'=>∃v,fin = .done (.ret v)/\Q (some v) s') (λe s'=>∃b,e = .ref b/\s'.TypeIs (.ref b) "StopIteration"/\Q none s') s):wpAny (model P w) A (pyNext (.ref I)) Q E s:=by
 have hT:s.TypeIs (.ref I) "set_iterator":=⟨_,hI,rfl⟩;unfold pyNext;refine wpAny_bind (wpAny_attempt (wpAny_callSpecial?_slot (name:=Str.ofString "__next__") hT lg (wpAny_call_entry lg hT Tp ?_ (XN _))));refine wpAny_mono h (λfin s' x=>?_) λe s' x=>?_
 ·obtain⟨v,rfl,y⟩:=x;exact⟨v,rfl,wpAny_pure y⟩
 ·obtain⟨b,rfl,ty,y⟩:=x;refine wpAny_bind (wpAny_isInstance (T:="StopIteration") (b:=true) ty isSubtype_stop ?_);exact wpAny_pure y
structure Kg(P:Program)(w:World)(a:Addr)(o:Obj)(ep:Nat)(sl:Nat->Nat)(os:List Value):Prop where
 step:∀(A:Around) (E:Value->Shared->Prop) (s:Shared) (i:Nat) (v:Value) (Q:Option (Value×Nat)->Shared->Prop),s.heap.get? a=some o->os[i]? = some v->Q (some (v,sl (i+1))) s->wpAny (model P w) A (setNext a (sl i) i ep) Q E s
 stop:∀(A:Around) (E:Value->Shared->Prop) (s:Shared) (Q:Option (Value×Nat)->Shared->Prop),s.heap.get? a=some o->Q none s->wpAny (model P w) A (setNext a (sl os.length) os.length ep) Q E s
theorem mF{I a:Addr}{o:Obj}{es:Array (Int×Value)}{ep:Nat}{t:SetTable}{sl:Nat->Nat}{os:List Value}(hh:A.handled=none)(hia:a≠I)(hd:o.data = .set es ep t)(hf:t.fits es.size=true)(hn:es.size=os.length)(B:Kg P w a o ep sl os) :
  WalksS P w A I [I,a] [I] (λg g'=>g'=g) os.length (λi v=>os[i]? = some v) (λi s=>s.heap.get? I=some (Er (.int (sl i) 0) i a os.length ep)/\s.heap.get? a=some o) where
 sub:=λb z=>by simp at z;simp[z]
 grefl:=λ_=>rfl
 gtrans:=λ_ _ _ x y=>y.trans x
 frame:=λi s g tk st _ k=>⟨k I (by simp) _ st.1,k a (by simp) _ st.2⟩
 item:=λi s Q E hi st hQ=>by
  obtain⟨v,hv⟩:∃v,os[i]? = some v:=⟨os[i],by simp[hi]⟩;refine K3 st.1 (K4 st.1 st.2 hd hf hn ?_);dsimp only;refine wpAny_bind ?_;rw[Int.toNat_natCast];refine B.step _ _ s i v _ st.2 hv ?_;dsimp only;refine wpAny_bind (wpAny_setField_rec st.1 (by simp) λg1 h1 e1=>?_);refine wpAny_bind (wpAny_setField_rec h1 (by simp) λg2 h2 e2=>?_);have kp:∀b u,b≠I->s.heap.get? b=some u->g2.get? b=some u:=λb u hb z=>(e2.2 b hb).trans ((e1.2 b hb).trans z);refine wpAny_pure ⟨v,rfl,hQ v _ hv ⟨?_,kp a _ hia st.2⟩ ⟨λb u hb z=>kp b u (λq=>hb (by simp[q])) z,rfl,rfl,rfl,Nat.le_refl _⟩⟩;rw[h2];simp[Er,rawInt]
 done:=λs Q E st hQ=>by
  refine K3 st.1 (K4 st.1 st.2 hd hf hn ?_);dsimp only;refine wpAny_bind ?_;rw[Int.toNat_natCast];refine B.stop _ _ s _ st.2 ?_;dsimp only;refine wpAny_bind (wpAny_setField_rec st.1 (by simp) λg1 h1 e1=>?_);refine stop (s:={ s with heap:=g1 }) (by simpa using hh) λg e k he=>⟨e,rfl,he,?_⟩;exact hQ _ ⟨λb u hb z=>k b u ((e1.2 b (λq=>hb (by simp[q]))).trans z),rfl,rfl,rfl,Nat.le_refl _⟩
 self:=λi s Q E st hQ=>KC st.1 hQ
theorem oH{I a T:Addr}{o oT:Obj}{es:Array (Int×Value)}{ep:Nat}{t:SetTable}{ps:List Nat}{os:List Value}(hh:A.handled=none)(hia:a≠I)(hit:T≠I)(hd:o.data = .set es ep t)(hf:t.fits es.size=true)(hn:es.size=os.length)
  {k:Nat} (hT:oT.data = .seq (ps.map λ(i:Nat)=>rawInt i).toArray k) (hp:ps.length=os.length) (ho:∀(i p:Nat) (v:Value),ps[i]? = some p->os[i]? = some v->∃h,es[p]? = some (h,v)) :
  WalksS P w A I [I,a,T] [I] (λg g'=>g'=g) os.length (λi v=>os[i]? = some v) (λi s=>s.heap.get? I=some (Er (.ref T) i a os.length ep)/\s.heap.get? a=some o/\s.heap.get? T=some oT) where
 sub:=λb z=>by simp at z;simp[z]
 grefl:=λ_=>rfl
 gtrans:=λ_ _ _ x y=>y.trans x
 frame:=λi s g tk st _ k=>⟨k I (by simp) _ st.1,k a (by simp) _ st.2.1,k T (by simp) _ st.2.2⟩
 item:=λi s Q E hi st hQ=>by
  obtain⟨v,hv⟩:∃v,os[i]? = some v:=⟨os[i],by simp[hi]⟩;obtain⟨p,hpi⟩:∃p,ps[i]? = some p:=⟨ps[i]'(by omega),by simp[hp,hi]⟩;obtain⟨hs,hes⟩:=ho i p v hpi hv;refine K3 st.1 (K4 st.1 st.2.1 hd hf hn ?_);dsimp only;refine wpAny_bind (wpAny_seqItems st.2.2 hT ?_);dsimp only;have hx:(ps.map λ(i:Nat)=>rawInt i).toArray[i]? = some (rawInt p):=by simp[hpi]
  rw[hx];dsimp only[rawInt];refine wpAny_bind ?_;rw[Int.toNat_natCast];unfold setNextDrawn;refine wpAny_bind (wpAny_setState_of st.2.1 hd hf ?_);dsimp only;rw[if_neg (by simp),hes];refine wpAny_pure ?_;refine wpAny_bind (wpAny_setField_rec st.1 (by simp) λg1 h1 e1=>?_);have kp:∀b u,b≠I->s.heap.get? b=some u->g1.get? b=some u:=λb u hb z=>(e1.2 b hb).trans z;refine wpAny_pure ⟨v,rfl,hQ v _ hv ⟨?_,kp a _ hia st.2.1,kp T _ hit st.2.2⟩ ⟨λb u hb z=>kp b u (λq=>hb (by simp[q])) z,rfl,rfl,rfl,Nat.le_refl _⟩⟩;rw[h1];simp[Er]
 done:=λs Q E st hQ=>by
  refine K3 st.1 (K4 st.1 st.2.1 hd hf hn ?_);dsimp only;refine wpAny_bind (wpAny_seqItems st.2.2 hT ?_);dsimp only;have hx:(ps.map λ(i:Nat)=>rawInt i).toArray[os.length]? = none:=by simp[hp]
  rw[hx];dsimp only;refine wpAny_bind (wpAny_setField_rec st.1 (by simp) λg1 h1 e1=>?_);refine wpAny_bind (wpAny_setField_rec h1 (by simp) λg2 h2 e2=>?_);refine stop (s:={ s with heap:=g2 }) (by simpa using hh) λg e k he=>⟨e,rfl,he,?_⟩;exact hQ _ ⟨λb u hb z=>k b u ((e2.2 b (λq=>hb (by simp[q]))).trans ((e1.2 b (λq=>hb (by simp[q]))).trans z)),rfl,rfl,rfl,Nat.le_refl _⟩
 self:=λi s Q E st hQ=>KC st.1 hQ
end
theorem ue{α:Type}:∀{l:List α} {i:Nat} (h:i<l.length),(l[i]::l.eraseIdx i).Perm l
 | x::l,0,h=>by simp
 | x::l,i+1,h=>by
  have ih:=ue (l:=l) (i:=i) (by simpa using h);rw[List.getElem_cons_succ,List.eraseIdx_cons_succ];exact(List.Perm.swap _ _ _).trans (ih.cons x)
theorem KZ{α:Type}(next:Nat->Nat):∀(n k:Nat) (left:List α) (out:Array α),left.length=n->(pickOrder.go next n k left out).toList.Perm (out.toList++left)
 | 0,k,left,out,h=>by
  have:left=[]:=List.length_eq_zero_iff.mp h;subst this;simp[pickOrder.go]
 | n+1,k,left,out,h=>by
  have hl:next k % left.length<left.length:=Nat.mod_lt _ (by omega)
  have hx:left[next k % left.length]? = some left[next k % left.length]:=by simp[hl]
  unfold pickOrder.go;rw[hx];refine(KZ next n (k+1) _ _ (by rw[List.length_eraseIdx_of_lt hl];omega)).trans ?_;rw[Array.toList_push,List.append_assoc];refine List.Perm.append_left _ ?_;exact ue hl
theorem oW{α:Type}(next:Nat->Nat)(xs:Array α):(pickOrder next xs).toList.Perm xs.toList:=by
 unfold pickOrder
 simpa using KZ next xs.size 0 xs.toList #[] (by simp)
section
variable{P:Program}{w:World}{A:Around}{E:Value->Shared->Prop}{s:Shared}
theorem wp_choose{src:Source}{n:Nat}{Q:Nat->Shared->Prop}(hn:n≠0)(h:∀i d,i<n->Q i { s with drawn:=d }):wpAny (model P w) A (choose src n) Q E s:=by intro Γ p _;show Sem.wp _ _ (.choose src n .pure) _ _ _ _;rw[Sem.wp];exact⟨hn,h _ _ (Nat.mod_lt _ (Nat.pos_of_ne_zero hn))⟩
theorem mK{α:Type}:∀(n:Nat) (xs:List α) (s:Shared) (Q:List α->Shared->Prop),xs.length=n->(∀ys d,ys.Perm xs->Q ys { s with drawn:=d })->wpAny (model P w) A (drawOrder n xs) Q E s
 | 0,xs,s,Q,h,q=>by
  have:xs=[]:=List.length_eq_zero_iff.mp h;subst this;unfold drawOrder;refine wpAny_pure ?_;have:=q [] s.drawn .rfl;cases s;exact this
 | n+1,x::xs,s,Q,h,q=>by
  unfold drawOrder;refine wpAny_bind (wp_choose (by simp) λi d hi=>?_);have hx:(x::xs)[i]? = some ((x::xs)[i]):=by simp only[List.getElem?_eq_getElem hi]
  rw[hx];dsimp only;refine wpAny_bind (mK n _ { s with drawn:=d } _ (by rw[List.length_eraseIdx_of_lt hi];simpa using h) λys d' p=>wpAny_pure ?_);exact q _ d' ((p.cons _).trans (ue hi))
theorem byText{Q:Bool->Shared->Prop}(h:Q (!led w) s):wpAny (model P w) A setsByText Q E s:=by unfold setsByText;refine wpAny_bind (wpAny_askSetting (wpAny_pure ?_));rw[led,Bool.not_not] at h;exact h
theorem oU{a:Addr}{o:Obj}{es:Array (Int×Value)}{ep:Nat}{t:SetTable}(hd:o.data = .set es ep t)(hf:t.fits es.size=true)(hl:led w=false) :
  Kg P w a o ep (λ_=>0) ((pickOrder (w.params.setOrder a ep) es).toList.map (·.2)):=by
 have go:∀(A:Around) (E:Value->Shared->Prop) (s:Shared) (i:Nat) (Q:Option (Value×Nat)->Shared->Prop),s.heap.get? a=some o->Q (((pickOrder (w.params.setOrder a ep) es)[i]?).map λe=>(e.2,0)) s->wpAny (model P w) A (setNext a 0 i ep) Q E s:=by intro A E s i Q ho h;unfold setNext;refine wpAny_bind (wpAny_setState_of ho hd hf ?_);dsimp only;refine wpAny_bind (byText ?_);rw[hl];rw[if_pos (show(!false)=true from rfl),if_neg (by simp)];refine wpAny_bind ?_;unfold setWalk;refine wpAny_bind (wpAny_setState_of ho hd hf ?_);dsimp only;refine wpAny_bind (byText ?_);rw[hl,if_pos (show(!false)=true from rfl)];exact wpAny_bind (wpAny_askSetting (wpAny_pure (wpAny_pure h)))
 refine⟨λA E s i v Q ho hv h=>go A E s i Q ho ?_,λA E s Q ho h=>go A E s _ Q ho ?_⟩
 ·rw[List.getElem?_map,Array.getElem?_toList] at hv;obtain⟨e,he,rfl⟩:=Option.map_eq_some_iff.mp hv;rw[he];exact h
 ·have:(pickOrder (w.params.setOrder a ep) es)[((pickOrder (w.params.setOrder a ep) es).toList.map (·.2)).length]? = none:=by simp
  rw[this];exact h
theorem o7{r:Addr}{Q:Bool->Shared->Prop}(hT:s.TypeIs (.ref r) "set")(h:Q false s):wpAny (model P w) A (Builtin.List.listLengthHint (.ref r)) Q E s:=by
 unfold Builtin.List.listLengthHint;refine wpAny_bind (wpAny_specialOf hT PySem.F.slot_set_len.lookup ?_);generalize hid:("set.__len__" : String)=id0
 wp_delta
 rw[show splitId id0=some ("set","__len__") from by subst hid;decide +kernel];subst hid;refine wpAny_bind (wpAny_isInstance (T:="set") (b:=true) hT (by rw[isSubtype_type];kernel_rfl) ?_);refine wpAny_ite_split (λz=>absurd z (by decide)) (λ_=>?_);refine wpAny_ite_split (λ_=>?_) (λz=>absurd (by decide +kernel) z);exact wpAny_bind (wpAny_typeOf hT (wpAny_pure h))
theorem o5{os:List Value}{acc:Array Value}(h:ItemsOf (λi v=>os[i]? = some v) acc os.length):acc.toList=os:=by
 apply List.ext_getElem?;intro i;rw[Array.getElem?_toList];by_cases hi:i<acc.size
 ·have e:acc[i]? = some acc[i]:=by simp[hi]
  rw[e,h.2 i _ e]
 ·have h1:acc[i]? = none:=by simp;omega
  have h2:os[i]? = none:=by simp;rw[<-h.1];omega
  rw[h1,h2]
end
open PySem PySem.Spec PyProof.Rows L2 PySem.Builtin Ev
theorem _root_.L2.Inv.dr{X:Cx}{pins:List (Addr×Obj)}{σ:L2.St}{H:Hp}{s:Shared}(I:L2.Inv X pins σ H s)(d:Drawn):L2.Inv X pins σ H { s with drawn:=d }:=
 ⟨I.ok,I.os,I.bare,I.base,I.loc,I.cell,I.free,I.qQ,I.pin,I.hok,I.len⟩
end SX
namespace Ev
open PySem PySem.Spec PyProof.Rows L2 PySem.Builtin
section
variable{X:Cx}{C:Cfg}{pos:Pos}
structure PXL(X:Cx)(C:Cfg)(es:List Expr)(ev:cJ):Prop where
 go:Em X C es ev
theorem Dc:PXL X C [] ao:=⟨aB⟩
theorem lG{e:Expr}{es:List Expr}{a:Ev}{r:cJ}(ha:PX X C e a)(hr:PXL X C es r)(hs:starEach (e::es) X.env=(false,eval e X.env)::starEach es X.env:=by rfl):PXL X C (e::es) (aa a r):=⟨aj ha hr.go hs⟩
theorem JC{es:List Expr}{a:cJ}(h:PXL X C es a):Kf X C (.List es pos) (bZ a):=cZ h.go
end
end Ev
namespace HT
open PySem PySem.Spec PyProof PyProof.Rows PySem.Builtin
theorem S6{α β:Type}(f:α->Option β)(g:α->β):∀l:List α,(∀a∈l,f a=some (g a))->l.filterMap f=l.map g
 | [],_=>rfl
 | a::l,h=>by rw[List.filterMap_cons_some (h a List.mem_cons_self),List.map_cons,S6 f g l λb hb=>h b (List.mem_cons_of_mem _ hb)]
theorem yw(xs:Array Value):(List.range xs.size).filterMap (λ(k:Nat)=>xs[(((xs.size:Nat):Int) - 1+(k:Int)*(-1)).toNat]?)=xs.toList.reverse:=by
 have e:(List.range xs.size).filterMap (λ(k:Nat)=>xs[(((xs.size:Nat):Int) - 1+(k:Int)*(-1)).toNat]?)=(List.range xs.size).map λk=>xs.getD (xs.size - 1 - k) .none:=by
  apply S6;intro k hk;have hk:=List.mem_range.mp hk;have e1:(((xs.size:Nat):Int) - 1+(k:Int)*(-1)).toNat=xs.size - 1 - k:=by omega
  have h2:xs.size - 1 - k<xs.size:=by omega
  rw[e1];simp[h2]
 rw[e];apply List.ext_getElem
 ·simp
 ·intro i h1 h2;have hi:i<xs.size:=by simpa using h1
  have h3:xs.size - 1 - i<xs.size:=by omega
  simp[List.getElem_reverse,Array.getD,h3]
section
variable{prog:Program}{w:World}{A:Around}{E:Value->Shared->Prop}{s:Shared}
theorem vK{sl:Addr}{u:Tok}{n:Nat}{Q:Int×Int×Nat->Shared->Prop}(hs:s.heap.IsSliceOf sl .none .none (.int (-1) u))(h:Q ((n:Int) - 1, -1,n) s) :
  wpAny (model prog w) A (Builtin.Slice.sliceApplied (.ref sl) (pure (n:Int))) Q E s:=by
 obtain⟨os,hos,hcs,hds⟩:=id hs;unfold Builtin.Slice.sliceApplied Builtin.Slice.sliceFields;refine wpAny_bind (wpAny_bind (wpAny_field hos hds (x:=.none) rfl (wpAny_bind (wpAny_field hos hds (x:=.none) rfl (wpAny_bind (wpAny_field hos hds (x:=.int (-1) u) rfl (wpAny_pure ?_)))))));refine wpAny_bind (sV (v:=.int (-1) u) (o:=some (-1)) (.int (-1) u) ?_);show wpAny _ _ (if ((-1:Int) == 0)=true then _ else _) _ _ s;rw[if_neg (by decide)];refine wpAny_bind (slicePart_none (wpAny_bind (slicePart_none (wpAny_bind (wpAny_pure ?_)))));show wpAny _ _ (pure ((n:Int) - 1,(-1:Int),Builtin.Slice.slicePlaces ((n:Int) - 1) (-1) (-1))) _ _ s;have e:Builtin.Slice.slicePlaces ((n:Int) - 1) (-1) (-1)=n:=by
  unfold Builtin.Slice.slicePlaces;rw[if_neg (by decide)];split
  ·have:((n:Int) - 1 - -1 - 1) / (- (-1:Int))+1=n:=by
    rw[show(- (-1:Int))=1 from rfl,Int.ediv_one];omega
   rw[this];simp
  ·simp;omega
 rw[e];exact wpAny_pure h
theorem uP{t sl:Addr}{items:Array Value}{u:Tok}{Q:Value->Shared->Prop}(ht:IsTup s.heap t items)(hs:s.heap.IsSliceOf sl .none .none (.int (-1) u))(hz:items.size<=sizeLine)
  (h:Q (.ref s.heap.objs.size) { s with heap:=s.heap.push { cls:=.type "tuple",data:=.seq items.toList.reverse.toArray } }):wpAny (model prog w) A (getItem (.ref t) (.ref sl)) Q E s:=by
 obtain⟨os,hos,hcs,hds⟩:=id hs;have hTs:s.TypeIs (.ref sl) "slice":=⟨os,hos,hcs⟩;unfold getItem
 try with_reducible refine wpAny_holding ?_
 first|refine wpAny_bind (wpAny_pure ?_)|skip
 refine wpAny_bind (wpAny_sequenceKey ht.typeIs (by decide) ?_);refine wpAny_bind (wpAny_callSpecial?_slot (name:=Str.ofString "__getitem__") ht.typeIs PyProof.Rows.slot_tuple_getitem
  (wpAny_call_entry PyProof.Rows.slot_tuple_getitem ht.typeIs entry_tuple_getitem ?_ (args_tuple_getitem _ _)))
 show wpAny _ _ (Builtin.Tuple.tupleItemsOf (.ref t) >>= _) _ _ s;refine wpAny_bind (tupleItemsOf_ ht ?_);refine wpAny_bind (wpAny_typeOf hTs ?_);rw[if_pos (by decide)];refine wpAny_bind (vK hs ?_);show wpAny _ _ (if ((((items.size:Nat):Int) - 1) == 0&&(-1:Int) == 1&&items.size == items.size)=true then _ else _) _ _ s;rw[if_neg (by simp)];refine wpAny_bind ?_;unfold Builtin.Tuple.tupleExact;rw[yw];exact wpAny_newObj_type (wpAny_pure ⟨_,rfl,wpAny_pure h⟩) (by show items.toList.reverse.toArray.size<=sizeLine;simpa using hz)
end
end HT
namespace L2
open PySem PySem.Spec PyProof.Rows
section
variable{X:Cx}{e:Expr}{te:TE}
def ac1(K:PySem.W.Frag)(te ts:TE):TE:=λσ H Q=>te σ H λx H1=>ts σ H1 λy H2=>∃a xs,x = .ref a/\nG K H2 a xs/\y = .int (-1)/\∀l,H2 l=none->Q (.ref l) (upd H2 l (.tup xs.reverse))
theorem Pz:∀{xs:List V} {us:List Value},Vals xs us->Vals xs.reverse us.reverse:=by
 intro xs us h;have app:∀{xs:List V} {us:List Value} {ys:List V} {ws:List Value},Vals xs us->Vals ys ws->Vals (xs++ys) (us++ws):=by
  intro xs us ys ws h g
  induction h with
  | nil=>exact g
  | cons h1 _ ih=>exact .cons h1 ih
 induction h with
 | nil=>exact .nil
 | cons h1 _ ih=>rw[List.reverse_cons,List.reverse_cons];exact app ih (.cons h1 .nil)
theorem VP{st:Expr}{ts:TE}{p2 pos:Pos}(he:PE X e te)(hst:PE X st ts):PE X (.Subscript e (.Slice none none (some st) p2) pos) (ac1 X.K te ts):=by intro pins s σ H Q I h;refine Subscript_ (gG (he pins s σ H _ I h) λv s1 ⟨x,H1,I1,r1,q1⟩=>?_);refine wpAny_Slice ?_;rw[evalPart_none,evalPart_some];refine wpAny_pure (wpAny_pure (gG (hst pins s1 σ H1 _ I1 q1) λw s2 ⟨y,H2,I2,r2,q2⟩=>?_));obtain⟨a,xs,ex,hx,ey,q⟩:=q2;subst ex;subst ey;cases r1;obtain⟨t',rfl⟩:=r2;have I4:Inv X pins σ H2 { s2 with heap:=s2.heap.push { cls:=.type "slice",data:=.fields #[.none,.none,.int (-1) t'] } }:=I2.kept (t':=s2.toks) λb ob q=>Heap.get?_push_of_some _ q;obtain⟨its,r,ht,hz⟩:=I4.tuple hx;show wpAny (model X.prog X.w) X.A (subscriptTail e (.Slice none none (some st) p2) (.ref a) (.ref s2.heap.objs.size)) (EP X pins σ Q) X.xe { s2 with heap:=s2.heap.push { cls:=.type "slice",data:=.fields #[.none,.none,.int (-1) t'] } };refine tail_any (ops:=[.ref a,.ref s2.heap.objs.size]) ht.typeIs PyProof.Rows.slot_tuple_getitem.lookup ?_ (by with_unfolding_all rfl);have hlen:its.length=xs.length:=r.length.symm;refine HT.uP (u:=t') ht ⟨_,Heap.get?_push_size _ rfl,rfl,rfl⟩ (by rw[List.size_toArray,hlen];exact hz) ?_;refine⟨.ref _,_,I4.laid (t':=s2.toks) (λb o e=>Heap.get?_push_of_some _ e) (Nat.le_refl _) (o:=.tup xs.reverse) ⟨by rw[List.length_reverse];exact hz,its.reverse,Pz r,?_⟩,rfl,q _ (I4.hok.fresh (Nat.le_refl _))⟩;exact zT.new _ _
end
end L2
namespace Ev
open PySem PySem.Spec PyProof.Rows L2 PySem.Builtin
section
variable{X:Cx}{C:Cfg}{pos:Pos}{x:Expr}{a:Ev}
def wR:D->Option D
 | .tup xs=>some (.tup xs.reverse)
 | _=>none
theorem Ca{p2 p3 p4:Pos}{k:Nat}(G:Good X C)(ha:PX X C x a):PX X C (.Subscript x (.Slice none none (some (.UnaryOp .USub (.Constant (.int 1) k p4) p3)) p2) pos) (iI wR a):=by
 have h:=VP (p2:=p2) (pos:=pos) ha (Q0 (pos:=p3) HS (Js (i:=1) (j:=k) (pos:=p4)));rw[G.K] at h;refine h.imp λσ H Q hq=>?_;obtain⟨Pr,F,env,env',d,r,e,q⟩:=hq;obtain⟨z,aD,e1,e2⟩:=aO e;obtain⟨e3,rfl⟩:=dC e2;cases z with
 | tup xs=>
  cases e3;refine⟨Pr,F,env,env',.tup xs,r,e1,λv H1 F1 r1 s1 p1=>?_⟩;obtain⟨hz,b,vs,rfl,h1,_,h2⟩:=jj.tup (K:=C.K) r1.fr (.inl p1);refine⟨1,rfl,b,vs,rfl,h1,rfl,λl hl=>?_⟩;obtain⟨r2,s2⟩:=r1.new (o:=.tup vs.reverse) hl;exact q _ _ _ r2 (s1.trans s2) ⟨by rw[List.length_reverse];exact hz,l,_,rfl,nG.of aU,bI.mono s2 _ _ h2.reverse⟩
 | _=>cases e3
end
open PySem L2
theorem nr{α:Type}{a b:α}(h:a=b):a=b:=h
theorem bR{α β:Type}(a:α)(e:Env)(f:α->Env->R β):bindR (.ok a e) f=f a e:=nr rfl
theorem bO{α:Type}(a:α)(e:Env)(f:α->Env->Out):eF (.ok a e) f=f a e:=nr rfl
theorem lR{α:Type}(a:α)(e:Env):d9 (some a) e = .ok a e:=nr rfl
theorem lO(e:Env):Bm (some e) = .nx e:=nr rfl
def Ul{α:Type}(_:Env):R α:=.stuck
def Ql(o:Out)(b:bG):Out:=match o with
 | .nx e=>b e
 | .rt o d e=>.rt o d e
 | .bk e=>.bk e
 | .ct e=>.ct e
 | .stuck=>.stuck
theorem U0(a b:bG)(env:Env):aC a b env=Ql (a env) b:=nr rfl
theorem sNx(e:Env)(b:bG):Ql (.nx e) b=b e:=nr rfl
theorem sRt(o:Bool)(d:D)(e:Env)(b:bG):Ql (.rt o d e) b = .rt o d e:=nr rfl
theorem sBk(e:Env)(b:bG):Ql (.bk e) b = .bk e:=nr rfl
theorem sCt(e:Env)(b:bG):Ql (.ct e) b = .ct e:=nr rfl
def Lh{α:Type}(c:Bool)(a b:Env->α)(env:Env):α:=if c=true then a env else b env
theorem iT{α:Type}(a b:Env->α)(env:Env):Lh true a b env=a env:=nr rfl
theorem iF{α:Type}(a b:Env->α)(env:Env):Lh false a b env=b env:=nr rfl
def kIf{α:Type}(a b:Env->α)(c:Bool)(e:Env):α:=Lh c a b e
theorem aep{α:Type}(a b:Env->α)(c:Bool)(e:Env):kIf a b c e=Lh c a b e:=nr rfl
theorem Zr(t:dJ)(a b:bG)(env:Env):dB t a b env=eF (t env) (kIf a b):=nr rfl
theorem ack(t:dJ)(a b:Ev)(env:Env):agW t a b env=bindR (t env) (kIf a b):=nr rfl
def okT(b:Bool):dJ:=λe=>.ok b e
theorem adP(b:Bool)(e:Env):okT b e = .ok b e:=nr rfl
theorem Ti(a b:dJ)(env:Env):cX a b env=bindR (a env) (kIf b (okT false)):=nr rfl
theorem Xi(a b:dJ)(env:Env):sr a b env=bindR (a env) (kIf (okT true) b):=nr rfl
def blR{α:Type}(d:D)(f:Bool->R α):R α:=match d with
 | .bl b=>f b
 | _=>.stuck
theorem bB{α:Type}(b:Bool)(f:Bool->R α):blR (.bl b) f=f b:=nr rfl
def okB(b:Bool):Ev:=λe=>.ok (.bl b) e
theorem adQ(b:Bool)(e:Env):okB b e = .ok (.bl b) e:=nr rfl
def GK(a b:Ev)(d:D)(e:Env):R D:=blR d (JT a b e)
where JT (a b:Ev) (e:Env) (c:Bool):R D:=Lh c a b e
theorem Wu(a b:Ev)(d:D)(e:Env):GK a b d e=blR d (GK.JT a b e):=nr rfl
theorem RV(a b:Ev)(e:Env)(c:Bool):GK.JT a b e c=Lh c a b e:=nr rfl
theorem Xr(a b:Ev)(env:Env):YK a b env=bindR (a env) (GK b (okB false)):=by
 unfold YK
 congr 1
 funext d e
 cases d with
 | bl b=>cases b<;>rfl
 | _=>rfl
theorem aci(a b:Ev)(env:Env):Om a b env=bindR (a env) (GK (okB true) b):=by
 unfold Om
 congr 1
 funext d e
 cases d with
 | bl b=>cases b<;>rfl
 | _=>rfl
def RB(e:Env)(c:Bool):R D:=.ok (.bl (!c)) e
def ael(d:D)(e:Env):R D:=blR d (RB e)
theorem Wk(e:Env)(c:Bool):RB e c = .ok (.bl (!c)) e:=nr rfl
theorem aa2(d:D)(e:Env):ael d e=blR d (RB e):=nr rfl
theorem Xj(a:Ev)(env:Env):Bu a env=bindR (a env) ael:=by
 unfold Bu
 congr 1
def kB2(e:Env)(c:Bool):R Bool:=.ok c e
def kB(d:D)(e:Env):R Bool:=blR d (kB2 e)
theorem aew(e:Env)(c:Bool):kB2 e c = .ok c e:=nr rfl
theorem agl(d:D)(e:Env):kB d e=blR d (kB2 e):=nr rfl
theorem ae9(a:Ev)(env:Env):dw a env=bindR (a env) kB:=by
 unfold dw
 congr 1
def Jk{α:Type}(o:Option (Option (Bool×D)))(f:Bool->D->R α):R α:=match o with
 | some (some (o,d))=>f o d
 | _=>.stuck
theorem rS{α:Type}(o:Bool)(d:D)(f:Bool->D->R α):Jk (some (some (o,d))) f=f o d:=nr rfl
def kRd(env:Env)(_:Bool)(d:D):R D:=.ok d env
theorem aej(env:Env)(o:Bool)(d:D):kRd env o d = .ok d env:=nr rfl
theorem ach(i:Nat)(env:Env):aV i env=Jk env[i]? (kRd env):=by unfold aV Jk;rfl
def aec(i:Nat)(env:Env)(o:Bool)(d:D):R D:=.ok d (bif o then env.set i (some (false,d)) else env)
theorem aaT(i:Nat)(env:Env)(o:Bool)(d:D):aec i env o d = .ok d (bif o then env.set i (some (false,d)) else env):=nr rfl
theorem Xb(i:Nat)(env:Env):aq i env=Jk env[i]? (aec i env):=by
 unfold aq Jk;cases env[i]? with
 | none=>rfl
 | some o=>
  cases o with
  | none=>rfl
  | some p=>obtain⟨b,d⟩:=p;cases b<;>rfl
def JV(g:D->D->Option D)(y:D)(e:Env)(_:Bool)(x:D):R D:=d9 (g x y) e
def JW(g:D->D->Option D)(i:Nat)(y:D)(e:Env):R D:=Jk e[i]? (JV g y e)
def YD(g:D->D->Option D)(i:Nat)(b:Ev)(env:Env)(_:Bool)(_:D):R D:=bindR (b env) (JW g i)
theorem RW(g:D->D->Option D)(y:D)(e:Env)(o:Bool)(x:D):JV g y e o x=d9 (g x y) e:=nr rfl
theorem RX(g:D->D->Option D)(i:Nat)(y:D)(e:Env):JW g i y e=Jk e[i]? (JV g y e):=nr rfl
theorem Wv(g:D->D->Option D)(i:Nat)(b:Ev)(env:Env)(o:Bool)(d:D):YD g i b env o d=bindR (b env) (JW g i):=nr rfl
theorem Th(g:D->D->Option D)(i:Nat)(b:Ev)(env:Env):au g i b env=Jk env[i]? (YD g i b env):=by unfold au Jk;rfl
def ioR{α:Type}(o:Option (D×D))(f:D->D->R α):R α:=match o with
 | some (d,x)=>f d x
 | none=>.stuck
theorem oS{α:Type}(d x:D)(f:D->D->R α):ioR (some (d,x)) f=f d x:=nr rfl
def abe(i:Nat)(e:Env)(d x':D):R D:=.ok d (e.set i (some (true,x')))
def abg(f:List D->Option (D×D))(i:Nat)(x:D)(ds:List D)(e:Env):R D:=ioR (f (x::ds)) (abe i e)
def RJ(f:List D->Option (D×D))(i:Nat)(ds:List D)(e:Env)(o:Bool)(x:D):R D:=Lh o (abg f i x ds) Ul e
def abj(f:List D->Option (D×D))(i:Nat)(ds:List D)(e:Env):R D:=Jk e[i]? (RJ f i ds e)
def abl(f:List D->Option (D×D))(i:Nat)(a:cJ)(env:Env):R D:=bindR (a env) (abj f i)
def kIO(f:List D->Option (D×D))(i:Nat)(a:cJ)(env:Env)(o:Bool)(_:D):R D:=Lh o (abl f i a) Ul env
theorem abd(i:Nat)(e:Env)(d x':D):abe i e d x' = .ok d (e.set i (some (true,x'))):=nr rfl
theorem abf(f:List D->Option (D×D))(i:Nat)(x:D)(ds:List D)(e:Env):abg f i x ds e=ioR (f (x::ds)) (abe i e):=nr rfl
theorem abh(f:List D->Option (D×D))(i:Nat)(ds:List D)(e:Env)(o:Bool)(x:D):RJ f i ds e o x=Lh o (abg f i x ds) Ul e:=nr rfl
theorem abi(f:List D->Option (D×D))(i:Nat)(ds:List D)(e:Env):abj f i ds e=Jk e[i]? (RJ f i ds e):=nr rfl
theorem abk(f:List D->Option (D×D))(i:Nat)(a:cJ)(env:Env):abl f i a env=bindR (a env) (abj f i):=nr rfl
theorem aer(f:List D->Option (D×D))(i:Nat)(a:cJ)(env:Env)(o:Bool)(d:D):kIO f i a env o d=Lh o (abl f i a) Ul env:=nr rfl
theorem acn(f:List D->Option (D×D))(i:Nat)(a:cJ)(env:Env):cD f i a env=Jk env[i]? (kIO f i a env):=by
 unfold cD Jk kIO Lh;cases env[i]? with
 | none=>rfl
 | some o=>
  cases o with
  | none=>rfl
  | some p=>
   obtain⟨b,d⟩:=p;cases b with
   | false=>rfl
   | true=>
    show bindR (a env) _=bindR (a env) _
    congr 1
    funext ds e
    show _=Jk e[i]? (RJ f i ds e);unfold Jk RJ Lh;cases e[i]? with
    | none=>rfl
    | some o=>
     cases o with
     | none=>rfl
     | some p=>obtain⟨b,d⟩:=p;cases b<;>rfl
def RC(e:Env)(d _:D):R D:=.ok d e
def RD(f:List D->Option (D×D))(x:D)(ds:List D)(e:Env):R D:=ioR (f (x::ds)) (RC e)
def aeq(f:List D->Option (D×D))(a:cJ)(x:D)(e:Env):R D:=bindR (a e) (RD f x)
theorem Wl(e:Env)(d x:D):RC e d x = .ok d e:=nr rfl
theorem Wm(f:List D->Option (D×D))(x:D)(ds:List D)(e:Env):RD f x ds e=ioR (f (x::ds)) (RC e):=nr rfl
theorem abb(f:List D->Option (D×D))(a:cJ)(x:D)(e:Env):aeq f a x e=bindR (a e) (RD f x):=nr rfl
theorem Xo(f:List D->Option (D×D))(c:Ev)(a:cJ)(env:Env):ae7 f c a env=bindR (c env) (aeq f a):=nr rfl
def abM{α:Type}(d:D)(f:Int->R α):R α:=match d with
 | .int i=>f i
 | _=>.stuck
theorem nS{α:Type}(i:Int)(f:Int->R α):abM (.int i) f=f i:=nr rfl
def kP2(e:Env)(i:Int):R (Option Int):=.ok (some i) e
def kP(d:D)(e:Env):R (Option Int):=abM d (kP2 e)
theorem aek(e:Env)(i:Int):kP2 e i = .ok (some i) e:=nr rfl
theorem agi(d:D)(e:Env):kP d e=abM d (kP2 e):=nr rfl
theorem ae6(a:Ev)(env:Env):uV a env=bindR (a env) kP:=nr rfl
def obR{α:Type}(o:Option D)(f:Bool->R α):R α:=match o with
 | some (.bl k)=>f k
 | _=>.stuck
theorem obS{α:Type}(k:Bool)(f:Bool->R α):obR (some (.bl k)) f=f k:=nr rfl
def aby(g':D->D->Option D)(v t:D)(e:Env):R D:=d9 (g' v t) e
def abA(g':D->D->Option D)(c:Ev)(v:D)(e:Env):R D:=bindR (c e) (aby g' v)
def RT(g':D->D->Option D)(c:Ev)(v:D)(e:Env)(k:Bool):R D:=Lh k (abA g' c v) (okB false) e
def abC(g g':D->D->Option D)(c:Ev)(u v:D)(e:Env):R D:=obR (g u v) (RT g' c v e)
def kCh(g g':D->D->Option D)(b c:Ev)(u:D)(e:Env):R D:=bindR (b e) (abC g g' c u)
theorem abx(g':D->D->Option D)(v t:D)(e:Env):aby g' v t e=d9 (g' v t) e:=nr rfl
theorem abz(g':D->D->Option D)(c:Ev)(v:D)(e:Env):abA g' c v e=bindR (c e) (aby g' v):=nr rfl
theorem Wt(g':D->D->Option D)(c:Ev)(v:D)(e:Env)(k:Bool):RT g' c v e k=Lh k (abA g' c v) (okB false) e:=nr rfl
theorem abB(g g':D->D->Option D)(c:Ev)(u v:D)(e:Env):abC g g' c u v e=obR (g u v) (RT g' c v e):=nr rfl
theorem aeu(g g':D->D->Option D)(b c:Ev)(u:D)(e:Env):kCh g g' b c u e=bindR (b e) (abC g g' c u):=nr rfl
theorem Ot(g g':D->D->Option D)(a b c:Ev)(env:Env):Ls g g' a b c env=bindR (a env) (kCh g g' b c):=by
 unfold Ls
 congr 1
def p8(o:Out)(k:bG):Out:=match o with
 | .nx e=>k e
 | .ct e=>k e
 | .bk e=>.nx e
 | .rt o d e=>.rt o d e
 | .stuck=>.stuck
theorem kNx(e:Env)(b:bG):p8 (.nx e) b=b e:=nr rfl
theorem kRt(o:Bool)(d:D)(e:Env)(b:bG):p8 (.rt o d e) b = .rt o d e:=nr rfl
theorem kBk(e:Env)(b:bG):p8 (.bk e) b = .nx e:=nr rfl
theorem kCt(e:Env)(b:bG):p8 (.ct e) b=b e:=nr rfl
def gvK(o:Option Env)(b:bG):Out:=match o with
 | none=>.stuck
 | some e=>b e
theorem vS(e:Env)(b:bG):gvK (some e) b=b e:=nr rfl
def kFor(g:GV)(b:bG)(ds:List D)(e:Env):Out:=p8 (b e) (jb g b ds)
theorem JR(g:GV)(b:bG)(ds:List D)(e:Env):kFor g b ds e=p8 (b e) (jb g b ds):=nr rfl
theorem acd(g:GV)(b:bG)(env:Env):jb g b [] env = .nx env:=nr rfl
theorem wk(g:GV)(b:bG)(d:D)(ds:List D)(env:Env):jb g b (d::ds) env=gvK (g d env) (kFor g b ds):=by
 rw[jb];cases g d env with
 | none=>rfl
 | some e=>
  show(match b e with|.nx e2=>jb g b ds e2|.ct e2=>jb g b ds e2|.bk e2=>.nx e2|.rt o d e2=>.rt o d e2|.stuck=>.stuck)=p8 (b e) (jb g b ds);cases b e<;>rfl
def kWh(t:dJ)(b:bG)(n:Nat):bG:=λe=>p8 (b e) (Ci t b n)
theorem aeb(t:dJ)(b:bG)(n:Nat)(e:Env):kWh t b n e=p8 (b e) (Ci t b n):=nr rfl
def gvR{α:Type}(o:Option Env)(b:Env->R α):R α:=match o with
 | none=>.stuck
 | some e=>b e
theorem wS{α:Type}(e:Env)(b:Env->R α):gvR (some e) b=b e:=nr rfl
def aa5(y:D)(ys:List D)(e:Env):R (List D):=.ok (y::ys) e
def aa7(g:GV)(c:dJ)(el:Ev)(ds:List D)(y:D)(e:Env):R (List D):=bindR (uw g c el ds e) (aa5 y)
def aa9(g:GV)(c:dJ)(el:Ev)(ds:List D)(e:Env):R (List D):=bindR (el e) (aa7 g c el ds)
def kLc(g:GV)(c:dJ)(el:Ev)(ds:List D)(e:Env):R (List D):=bindR (c e) (kIf (aa9 g c el ds) (uw g c el ds))
theorem aa4(y:D)(ys:List D)(e:Env):aa5 y ys e = .ok (y::ys) e:=nr rfl
theorem aa6(g:GV)(c:dJ)(el:Ev)(ds:List D)(y:D)(e:Env):aa7 g c el ds y e=bindR (uw g c el ds e) (aa5 y):=nr rfl
theorem aa8(g:GV)(c:dJ)(el:Ev)(ds:List D)(e:Env):aa9 g c el ds e=bindR (el e) (aa7 g c el ds):=nr rfl
theorem aen(g:GV)(c:dJ)(el:Ev)(ds:List D)(e:Env):kLc g c el ds e=bindR (c e) (kIf (aa9 g c el ds) (uw g c el ds)):=nr rfl
theorem ad7(g:GV)(c:dJ)(e:Ev)(env:Env):uw g c e [] env = .ok [] env:=nr rfl
theorem ad8(g:GV)(c:dJ)(e:Ev)(d:D)(ds:List D)(env:Env):uw g c e (d::ds) env=gvR (g d env) (kLc g c e ds):=by rw[uw];cases g d env<;>rfl
def ZF(o:Out):Option D:=match o with
 | .rt false d _=>some d
 | .nx _=>some .non
 | _=>none
theorem ZC(n:Nat)(ev:bG)(ds:List D):bL n ev ds=ZF (ev (envOf n ds)):=nr rfl
theorem dRt(d:D)(e:Env):ZF (.rt false d e)=some d:=nr rfl
theorem dNx(e:Env):ZF (.nx e)=some .non:=nr rfl
def szR{α:Type}(n:Nat)(x:R α):R α:=if n<=sizeLine then x else .stuck
theorem zR{α:Type}{n:Nat}{x:R α}(h:n<=sizeLine):szR n x=x:=if_pos h
def aee(ds:List D)(e:Env):R D:=szR ds.length (.ok (.tup ds) e)
theorem aaU(ds:List D)(e:Env):aee ds e=szR ds.length (.ok (.tup ds) e):=nr rfl
theorem Xc(r:cJ)(env:Env):cI r env=bindR (r env) aee:=nr rfl
def aem(ds:List D)(e:Env):R D:=szR ds.length (.ok (.lst ds) e)
theorem aa3(ds:List D)(e:Env):aem ds e=szR ds.length (.ok (.lst ds) e):=nr rfl
theorem Xm(r:cJ)(env:Env):bZ r env=bindR (r env) aem:=nr rfl
def Um(o:Option (Option (Bool×D)))(f:List D->Out):Out:=match o with
 | some (some (true,.lst xs))=>f xs
 | _=>.stuck
theorem lS(xs:List D)(f:List D->Out):Um (some (some (true,.lst xs))) f=f xs:=nr rfl
def Zm(n:Nat)(x:Out):Out:=if n<=sizeLine then x else .stuck
theorem zO{n:Nat}{x:Out}(h:n<=sizeLine):Zm n x=x:=if_pos h
def R3(i:Nat)(d:D)(e:Env)(xs:List D):Out:=Zm (xs.length+1) (.nx (e.set i (some (true,.lst (xs++[d])))))
def R4(i:Nat)(d:D)(e:Env):Out:=Um e[i]? (R3 i d e)
def aey(i:Nat)(a:Ev)(env:Env)(_:List D):Out:=eF (a env) (R4 i)
theorem Wx(i:Nat)(d:D)(e:Env)(xs:List D):R3 i d e xs=Zm (xs.length+1) (.nx (e.set i (some (true,.lst (xs++[d]))))):=nr rfl
theorem Wy(i:Nat)(d:D)(e:Env):R4 i d e=Um e[i]? (R3 i d e):=nr rfl
theorem abF(i:Nat)(a:Ev)(env:Env)(xs:List D):aey i a env xs=eF (a env) (R4 i):=nr rfl
theorem U7(i:Nat)(a:Ev)(env:Env):fX i a env=Um env[i]? (aey i a env):=nr rfl
def ldO(d:D)(f:List D->Out):Out:=match d with
 | .lst xs=>f xs
 | _=>.stuck
theorem eS(xs:List D)(f:List D->Out):ldO (.lst xs) f=f xs:=nr rfl
def RK(i:Nat)(e:Env)(xs zs:List D):Out:=Zm (xs.length+zs.length) (.nx (e.set i (some (true,.lst (xs++zs)))))
def GJ(i:Nat)(d:D)(e:Env)(xs:List D):Out:=ldO d (RK i e xs)
def RM(i:Nat)(d:D)(e:Env):Out:=Um e[i]? (GJ i d e)
def abn(i:Nat)(a:Ev)(env:Env)(_:List D):Out:=eF (a env) (RM i)
theorem Wn(i:Nat)(e:Env)(xs zs:List D):RK i e xs zs=Zm (xs.length+zs.length) (.nx (e.set i (some (true,.lst (xs++zs))))):=nr rfl
theorem Wo(i:Nat)(d:D)(e:Env)(xs:List D):GJ i d e xs=ldO d (RK i e xs):=nr rfl
theorem Wq(i:Nat)(d:D)(e:Env):RM i d e=Um e[i]? (GJ i d e):=nr rfl
theorem abm(i:Nat)(a:Ev)(env:Env)(xs:List D):abn i a env xs=eF (a env) (RM i):=nr rfl
theorem U5(i:Nat)(a:Ev)(env:Env):yl i a env=Um env[i]? (abn i a env):=by
 unfold yl Um abn;cases env[i]? with
 | none=>rfl
 | some o=>
  cases o with
  | none=>rfl
  | some p=>
   obtain⟨b,d⟩:=p;cases b with
   | false=>rfl
   | true=>
    cases d with
    | lst xs=>
     show eF (a env) _=eF (a env) _
     congr 1
     funext d e
     show _=Um e[i]? (GJ i d e);unfold Um GJ;cases e[i]? with
     | none=>rfl
     | some o=>
      cases o with
      | none=>rfl
      | some p=>
       obtain⟨b,u⟩:=p;cases b with
       | false=>rfl
       | true=>
        cases u with
        | lst ys=>cases d<;>rfl
        | _=>rfl
    | _=>rfl
theorem W7{a b:List Nat}(h:a.length+b.length<=sizeLine):bJ (.str a) (.str b)=some (.str (a++b)):=if_pos h
theorem Lp{a b:List D}(h:a.length+b.length<=sizeLine):bJ (.tup a) (.tup b)=some (.tup (a++b)):=if_pos h
theorem W8{a b:List D}(h:a.length+b.length<=sizeLine):bJ (.lst a) (.lst b)=some (.lst (a++b)):=if_pos h
theorem W6{a b:List D}(h:a.length+b.length<=sizeLine):agS (.lst a) (.lst b)=some (.lst (a++b)):=if_pos h
theorem aeO(xs:List D)(lo hi:Option Int):gSl (.lst xs) lo hi=some (.lst (cutD xs lo hi)):=nr rfl
theorem aeP(xs:List D)(lo hi:Option Int):gSl (.arr xs) lo hi=some (.lst (cutD xs lo hi)):=nr rfl
theorem abT(x:List Nat)(lo hi:Option Int):abU (.str x) lo hi=some (.str (cutD x lo hi)):=nr rfl
theorem abZ(x:List Nat):ab0 (.str x)=some (.str x.reverse):=nr rfl
theorem WY(x:List D):wR (.tup x)=some (.tup x.reverse):=nr rfl
theorem aeB(xs:List D):WK (.lst xs)=some xs:=nr rfl
theorem aeC(xs:List D):WK (.arr xs)=some xs:=nr rfl
theorem aez(xs:List D):WK (.tup xs)=some xs:=nr rfl
theorem aeA(x:List Nat):WK (.str x)=some (z8 x):=nr rfl
theorem G7(xs:List D)(lo hi:Option Int):Sy (.tup xs) lo hi=some (.tup (cutD xs lo hi)):=by
 show(if HT.fL xs.length 0 lo=0/\HT.fL xs.length xs.length hi=xs.length then some (D.tup xs) else some (D.tup (cutD xs lo hi)))=_;split
 ·rename_i h;unfold cutD;rw[h.1,h.2];simp
 ·rfl
theorem Xz{α:Type}(xs:List α)(k:Nat):cutD xs none (some (k:Int))=xs.take k:=by
 unfold cutD;rw[HT.Vf];have:HT.fL xs.length 0 none=0:=rfl;rw[this,List.drop_zero,Nat.sub_zero];by_cases h:k<=xs.length
 ·rw[Nat.min_eq_left h]
 ·rw[Nat.min_eq_right (by omega),List.take_of_length_le (Nat.le_refl _),List.take_of_length_le (by omega)]
theorem Bs(xs:List D)(k:Int):bU (.tup xs) (.int k)=oA xs k:=nr rfl
theorem aeV(xs:List D)(k:Int):bU (.lst xs) (.int k)=oA xs k:=nr rfl
theorem aeU(x:List Nat)(k:Int):bU (.str x) (.int k)=(oA x k).map λc=>.str [c]:=nr rfl
theorem at0{α:Type}(x:α)(r:List α):oA (x::r) 0=some x:=lD (j:=0) rfl
theorem at1{α:Type}(x y:α)(r:List α):oA (x::y::r) 1=some y:=lD (j:=1) rfl
theorem at2{α:Type}(x y z:α)(r:List α):oA (x::y::z::r) 2=some z:=lD (j:=2) rfl
theorem at3{α:Type}(x y z u:α)(r:List α):oA (x::y::z::u::r) 3=some u:=lD (j:=3) rfl
theorem atN{α:Type}(xs:List α)(k:Nat):oA xs (k:Int)=xs[k]?:=by
 cases h:xs[k]? with
 | some x=>exact lD h
 | none=>
  have hl:xs.length<=k:=List.getElem?_eq_none_iff.mp h;unfold oA R8;rw[if_pos (Int.natCast_nonneg k),if_neg (by omega)]
  rfl
theorem aca(i j:Int):bJ (.int i) (.int j)=some (.int (i+j)):=nr rfl
theorem ab4(x:List Nat):f9 [.str x]=some (.int x.length):=nr rfl
theorem ab3(x:List D):f9 [.tup x]=some (.int x.length):=nr rfl
theorem ab5(x:List D):f9 [.lst x]=some (.int x.length):=nr rfl
theorem ab6(x:List D):f9 [.arr x]=some (.int x.length):=nr rfl
theorem Sx(x:List D):cG [.lst x]=some (.tup x):=nr rfl
theorem Sw(x:List D):cG [.tup x]=some (.tup x):=nr rfl
theorem W0(x:List D):qP [.tup x]=some (.lst x):=nr rfl
theorem W4(x:List D):qP [.lst x]=some (.lst x):=nr rfl
theorem W3(x:List Nat):qP [.str x]=some (.lst (signs x)):=nr rfl
theorem aeZ(a b:List Nat):lV (.str a) (.str b)=some (.bl (a == b)):=nr rfl
theorem aeQ(a b:List Nat):rJ (.str a) (.str b)=some (.bl (!(a == b))):=nr rfl
theorem ae0(a b:Int):lV (.int a) (.int b)=some (.bl (a == b)):=nr rfl
theorem YH(a b:Int):rJ (.int a) (.int b)=some (.bl (!(a == b))):=nr rfl
theorem aeT(a b:Int):gLe (.int a) (.int b)=some (.bl (decide (a<=b))):=nr rfl
theorem aeS(a b:Int):gLt (.int a) (.int b)=some (.bl (decide (a<b))):=nr rfl
theorem aeX(a b:Int):gGt (.int a) (.int b)=some (.bl (decide (b<a))):=nr rfl
theorem aeY(a b:Int):gGe (.int a) (.int b)=some (.bl (decide (b<=a))):=nr rfl
theorem aeR(a b:List Nat):gLt (.str a) (.str b)=some (.bl (decide (a<b))):=nr rfl
theorem abS(a b:Int):qM (.int a) (.int b)=some (.int (a - b)):=nr rfl
theorem aeW(c:Nat)(z:List Nat):gIn (.str [c]) (.str z)=some (.bl (decide (c∈z))):=nr rfl
theorem acC{α:Type}(p:α->Bool):∀l:List α,nD (l.map λa=>D.bl (p a))=some (l.map p)
 | []=>rfl
 | a::l=>by
  rw[List.map_cons];unfold nD;rw[acC p l]
  rfl
theorem SJ{α:Type}(p:α->Bool)(l:List α):xE [.lst (l.map λa=>D.bl (p a))]=some (.bl (l.all p)):=by show(nD _).map _=_;rw[acC];simp[List.all_map]
theorem YJ{α:Type}(p:α->Bool)(l:List α):Ak [.lst (l.map λa=>D.bl (p a))]=some (.bl (l.any p)):=by show(nD _).map _=_;rw[acC];simp[List.any_map]
theorem ab7(T:String)(d:D):Oh T d=some (.bl (o6 d T)):=nr rfl
theorem Zo(n:Nat):fM 0 1 n=(List.range n).map λ(i:Nat)=>D.int (i:Int):=by
 unfold fM;apply List.map_congr_left;intro i _
 congr 1
 omega
theorem CQ{n:Nat}(h:n<2^62):vU [.int (n:Int)]=some ((List.range n).map λ(i:Nat)=>D.int (i:Int)):=by
 have hf:jF (n:Int)=true:=by unfold jF;simp only[Bool.and_eq_true,decide_eq_true_eq];omega
 show(if jF (n:Int)=true then some (fM 0 1 (n:Int).toNat) else none)=_;rw[if_pos hf,Int.toNat_natCast,Zo]
theorem agN(n:Nat)(gs:Mp)(xs:List D)(env:Env)(h:xs.length=n):eE n gs (.tup xs) env=gs xs env:=if_pos h
def gvB(o:Option Env)(f:Env->Option Env):Option Env:=o.bind f
theorem gB(e:Env)(f:Env->Option Env):gvB (some e) f=f e:=nr rfl
theorem Sv(g:GV)(gs:Mp)(d:D)(ds:List D)(env:Env):aW g gs (d::ds) env=gvB (g d env) (gs ds):=nr rfl
theorem WT(env:Env):fG [] env=some env:=nr rfl
def aei(d:D)(e:Env):Out:=.rt false d e
theorem aaZ(d:D)(e:Env):aei d e = .rt false d e:=nr rfl
theorem U3(a:Ev)(env:Env):aY a env=eF (a env) aei:=nr rfl
theorem Qe(env:Env):Zq env = .rt false .non env:=nr rfl
def aex(g:GV)(d:D)(e:Env):Out:=Bm (g d e)
theorem abE(g:GV)(d:D)(e:Env):aex g d e=Bm (g d e):=nr rfl
theorem U6(a:Ev)(g:GV)(env:Env):aK a g env=eF (a env) (aex g):=nr rfl
def kOwn(i:Nat)(d:D)(e:Env):Out:=.nx (e.set i (some (true,d)))
theorem aa0(i:Nat)(d:D)(e:Env):kOwn i d e = .nx (e.set i (some (true,d))):=nr rfl
theorem Kw(i:Nat)(a:Ev)(env:Env):cT i a env=eF (a env) (kOwn i):=nr rfl
theorem Qf(env:Env):bK env = .nx env:=nr rfl
theorem U4(it:cJ)(g:GV)(b:bG)(env:Env):dI it g b env=eF (it env) (jb g b):=nr rfl
theorem ae8(d:D)(env:Env):aQ d env = .ok d env:=nr rfl
theorem Te(env:Env):zp env = .ok (.dct []) env:=nr rfl
theorem Xl(env:Env):ao env = .ok [] env:=nr rfl
theorem S9(env:Env):cu env = .ok true env:=nr rfl
theorem Xk(env:Env):lH env = .ok none env:=nr rfl
def JS(d:D)(ds:List D)(e:Env):R (List D):=.ok (d::ds) e
def YC(r:cJ)(d:D)(e:Env):R (List D):=bindR (r e) (JS d)
theorem RQ(d:D)(ds:List D)(e:Env):JS d ds e = .ok (d::ds) e:=nr rfl
theorem Ws(r:cJ)(d:D)(e:Env):YC r d e=bindR (r e) (JS d):=nr rfl
theorem Tf(a:Ev)(r:cJ)(env:Env):aa a r env=bindR (a env) (YC r):=nr rfl
def RZ(g:D->D->Option D)(x y:D)(e:Env):R D:=d9 (g x y) e
def aev(g:D->D->Option D)(b:Ev)(x:D)(e:Env):R D:=bindR (b e) (RZ g x)
theorem Ww(g:D->D->Option D)(x y:D)(e:Env):RZ g x y e=d9 (g x y) e:=nr rfl
theorem abD(g:D->D->Option D)(b:Ev)(x:D)(e:Env):aev g b x e=bindR (b e) (RZ g x):=nr rfl
theorem Xq(g:D->D->Option D)(a b:Ev)(env:Env):aH g a b env=bindR (a env) (aev g b):=nr rfl
def kUn{α β:Type}(g:α->Option β)(x:α)(e:Env):R β:=d9 (g x) e
theorem aed{α β:Type}(g:α->Option β)(x:α)(e:Env):kUn g x e=d9 (g x) e:=nr rfl
theorem acf(g:D->Option D)(a:Ev)(env:Env):iI g a env=bindR (a env) (kUn g):=nr rfl
theorem Tg(g:List D->Option D)(a:cJ)(env:Env):az g a env=bindR (a env) (kUn g):=nr rfl
def Yz(b:Bool)(e:Env):R Bool:=.ok (!b) e
theorem Wj(b:Bool)(e:Env):Yz b e = .ok (!b) e:=nr rfl
theorem Tc(a:dJ)(env:Env):zj a env=bindR (a env) Yz:=nr rfl
def aaW(s:D->Option Int->Option Int->Option D)(d:D)(l u:Option Int)(e:Env):R D:=d9 (s d l u) e
def aaY(s:D->Option Int->Option Int->Option D)(hi:xR)(d:D)(l:Option Int)(e:Env):R D:=bindR (hi e) (aaW s d l)
def kSl(s:D->Option Int->Option Int->Option D)(lo hi:xR)(d:D)(e:Env):R D:=bindR (lo e) (aaY s hi d)
theorem aaV(s:D->Option Int->Option Int->Option D)(d:D)(l u:Option Int)(e:Env):aaW s d l u e=d9 (s d l u) e:=nr rfl
theorem aaX(s:D->Option Int->Option Int->Option D)(hi:xR)(d:D)(l:Option Int)(e:Env):aaY s hi d l e=bindR (hi e) (aaW s d l):=nr rfl
theorem aeg(s:D->Option Int->Option Int->Option D)(lo hi:xR)(d:D)(e:Env):kSl s lo hi d e=bindR (lo e) (aaY s hi d):=nr rfl
theorem acg(a:Ev)(lo hi:xR)(env:Env):uc a lo hi env=bindR (a env) (kSl gSl lo hi):=nr rfl
theorem Xe(a:Ev)(lo hi:xR)(env:Env):qT a lo hi env=bindR (a env) (kSl abU lo hi):=nr rfl
theorem Xd(a:Ev)(lo hi:xR)(env:Env):ae5 a lo hi env=bindR (a env) (kSl Sy lo hi):=nr rfl
theorem Xh(a:Ev)(env:Env):pg a env=bindR (a env) (kUn ab0):=nr rfl
theorem acj(a:Ev)(env:Env):d8 a env=bindR (a env) (kUn WK):=nr rfl
theorem Xg(a:cJ)(env:Env):dz a env=bindR (a env) (kUn vU):=nr rfl
theorem Su(i:Nat)(d:D)(env:Env):ak i d env=some (env.set i (some (false,d))):=nr rfl
theorem gt0{α:Type}(a:α)(l:List α):(a::l)[0]? = some a:=nr rfl
theorem gtS{α:Type}(a:α)(l:List α)(i:Nat):(a::l)[i+1]? = l[i]?:=nr rfl
theorem st0{α:Type}(a b:α)(l:List α):(a::l).set 0 b=b::l:=nr rfl
theorem stS{α:Type}(a b:α)(l:List α)(i:Nat):(a::l).set (i+1) b=a::l.set i b:=nr rfl
theorem cdT{α:Type}(a b:α):(bif true then a else b)=a:=nr rfl
theorem cdF{α:Type}(a b:α):(bif false then a else b)=b:=nr rfl
theorem Rt{α:Type}{g:GV}{c:dJ}{e:Ev}(enc:α->D)(ext:α->Env)(p:α->Bool)(out:α->D)(env:Env)(k:Nat):∀(l:List α) (vs:Env),vs.length=k->
  (∀a∈l,(ext a).length=k/\(∀vs:Env,vs.length=k->g (enc a) (env++vs)=some (env++ext a))/\c (env++ext a) = .ok (p a) (env++ext a)/\(p a=true->e (env++ext a) = .ok (out a) (env++ext a)))->
  ∃vs',vs'.length=k/\uw g c e (l.map enc) (env++vs) = .ok ((l.filter p).map out) (env++vs')
 | [],vs,hv,_=>⟨vs,hv,rfl⟩
 | a::l,vs,hv,h=>by
  obtain⟨h1,h2,h3,h4⟩:=h a List.mem_cons_self;obtain⟨vs',h5,h6⟩:=Rt enc ext p out env k l (ext a) h1 λb hb=>h b (List.mem_cons_of_mem _ hb);refine⟨vs',h5,?_⟩;rw[List.map_cons];unfold uw;rw[h2 vs hv];show bindR (c (env++ext a)) _=_;rw[h3,bR];cases hp:p a with
  | true=>rw[if_pos rfl,h4 hp,bR,h6,bR,List.filter_cons_of_pos hp,List.map_cons]
  | false=>rw[if_neg Bool.false_ne_true,h6,List.filter_cons_of_neg (by rw[hp];exact Bool.false_ne_true)]
theorem zm{α:Type}{lo n:Nat}{it:cJ}{g:GV}{c:dJ}{e:Ev}{env aD:Env}(l:List α)(enc:α->D)(ext:α->Env)(p:α->Bool)(out:α->D)(hit:it env = .ok (l.map enc) aD)(hlo:aD.length=lo)
  (h:∀a∈l,(ext a).length=n - lo/\(∀vs:Env,vs.length=n - lo->g (enc a) (aD++vs)=some (aD++ext a))/\c (aD++ext a) = .ok (p a) (aD++ext a)/\(p a=true->e (aD++ext a) = .ok (out a) (aD++ext a)))
  (hz:l.length<=sizeLine):dR lo n it g c e env = .ok (.lst ((l.filter p).map out)) aD:=by
 obtain⟨vs',h5,h6⟩:=Rt enc ext p out aD (n - lo) l (List.replicate (n - lo) none) List.length_replicate h;have:=uW hit hlo h6 (Nat.le_trans (by rw[List.length_map];exact List.length_filter_le _ _) hz);rw[this,<-hlo,List.take_left]
theorem ud{α:Type}{lo n:Nat}{it:cJ}{e:Ev}{env aD:Env}(l:List α)(enc:α->D)(out:α->D)(hit:it env = .ok (l.map enc) aD)(hlo:aD.length=lo)(hn:n=lo+1)
  (h:∀a∈l,e (aD++[some (false,enc a)]) = .ok (out a) (aD++[some (false,enc a)])) (hz:l.length<=sizeLine):dR lo n it (ak lo) cu e env = .ok (.lst (l.map out)) aD:=by
 subst hn hlo;have:=zm (lo:=aD.length) (n:=aD.length+1) (it:=it) (g:=ak aD.length) (c:=cu) (e:=e) (env:=env) l enc (λa=>[some (false,enc a)]) (λ_=>true) out hit rfl (λa ha=>⟨by simp,λvs hv=>?_,rfl,λ_=>h a ha⟩) hz
 ·rw[this,List.filter_eq_self.mpr (λ_ _=>rfl)]
 ·have hv:vs.length=1:=by omega
  obtain⟨v,rfl⟩:=List.length_eq_one_iff.mp hv;unfold ak;rw[List.set_append_right _ _ (Nat.le_refl _),Nat.sub_self]
  rfl
theorem DR{α:Type}{lo n:Nat}{it:cJ}{c:dJ}{e:Ev}{env aD:Env}(l:List α)(enc:α->D)(p:α->Bool)(out:α->D)(hit:it env = .ok (l.map enc) aD)(hlo:aD.length=lo)(hn:n=lo+1)
  (hc:∀a∈l,c (aD++[some (false,enc a)]) = .ok (p a) (aD++[some (false,enc a)]))
  (h:∀a∈l,p a=true->e (aD++[some (false,enc a)]) = .ok (out a) (aD++[some (false,enc a)])) (hz:l.length<=sizeLine):dR lo n it (ak lo) c e env = .ok (.lst ((l.filter p).map out)) aD:=by
 subst hn hlo;refine zm (lo:=aD.length) (n:=aD.length+1) l enc (λa=>[some (false,enc a)]) p out hit rfl (λa ha=>⟨by simp,λvs hv=>?_,hc a ha,λhp=>h a ha hp⟩) hz;have hv:vs.length=1:=by omega
 obtain⟨v,rfl⟩:=List.length_eq_one_iff.mp hv;unfold ak;rw[List.set_append_right _ _ (Nat.le_refl _),Nat.sub_self]
 rfl
open PySem PySem.Spec PyProof.Rows L2
section
variable{X:Cx}{C:Cfg}
theorem nc0:((0:Nat):Int)=0:=nr rfl
theorem nc1:((1:Nat):Int)=1:=nr rfl
theorem nc2:((2:Nat):Int)=2:=nr rfl
theorem nc3:((3:Nat):Int)=3:=nr rfl
theorem nc4:((4:Nat):Int)=4:=nr rfl
theorem nc5:((5:Nat):Int)=5:=nr rfl
theorem nc6:((6:Nat):Int)=6:=nr rfl
theorem nc7:((7:Nat):Int)=7:=nr rfl
theorem nc8:((8:Nat):Int)=8:=nr rfl
end
def Qt(o:Out):Option (D×D):=match o with
 | .rt false d env=>(match env[0]? with
  | some (some (true,x'))=>some (d,x')
  | _=>none)
 | .nx env=>(match env[0]? with
  | some (some (true,x'))=>some (.non,x')
  | _=>none)
 | _=>none
theorem Vh(n:Nat)(ev:bG)(x:D)(r:List D):eO n ev (x::r)=Qt (ev (uY n x r)):=nr rfl
theorem agq(d x:D)(e:Env):Qt (.rt false d (some (true,x)::e))=some (d,x):=nr rfl
theorem agr(x:D)(e:Env):Qt (.nx (some (true,x)::e))=some (.non,x):=nr rfl
def adm(o:Out):Option D:=match o with
 | .rt true d _=>some d
 | _=>none
theorem ZD(n:Nat)(ev:bG)(ds:List D):runN n ev ds=adm (ev (envOf n ds)):=nr rfl
theorem nRt(d:D)(e:Env):adm (.rt true d e)=some d:=nr rfl
def Yy(d:D)(e:Env):Out:=.rt true d e
theorem Wi(d:D)(e:Env):Yy d e = .rt true d e:=nr rfl
theorem IK(a:Ev)(env:Env):qp a env=eF (a env) Yy:=nr rfl
def Vj(o:Option (Option (Bool×D)))(f:Bool->D->Out):Out:=match o with
 | some (some (o,d))=>f o d
 | _=>.stuck
theorem pS(o:Bool)(d:D)(f:Bool->D->Out):Vj (some (some (o,d))) f=f o d:=nr rfl
def dcO(o:Bool)(d:D)(f:List (D×D)->Out):Out:=match o,d with
 | true,.dct kvs=>f kvs
 | _,_=>.stuck
theorem cS(kvs:List (D×D))(f:List (D×D)->Out):dcO true (.dct kvs) f=f kvs:=nr rfl
def kyO(d:D)(f:Key->Out):Out:=match qj d with
 | some q=>f q
 | none=>.stuck
theorem aef(z:List Nat)(f:Key->Out):kyO (.str z) f=f (.inr (strOf z)):=nr rfl
theorem aeo(i:Int)(f:Key->Out):kyO (.int i) f=f (.inl i):=nr rfl
def abq(i:Nat)(d kd:D)(e:Env)(kvs:List (D×D))(q:Key):Out:=Zm (kvs.length+1) (.nx (e.set i (some (true,.dct (putD kvs kd q d)))))
def Wr(i:Nat)(d kd:D)(e:Env)(kvs:List (D×D)):Out:=kyO kd (abq i d kd e kvs)
def RN(i:Nat)(d kd:D)(e:Env)(o:Bool)(x:D):Out:=dcO o x (Wr i d kd e)
def abv(i:Nat)(d kd:D)(e:Env):Out:=Vj e[i]? (RN i d kd e)
def RP(i:Nat)(k:Ev)(d:D)(e:Env)(_:Bool)(_:D):Out:=eF (k e) (abv i d)
def kDp(i:Nat)(k:Ev)(d:D)(e:Env):Out:=Vj e[i]? (RP i k d e)
theorem abp(i:Nat)(d kd:D)(e:Env)(kvs:List (D×D))(q:Key):abq i d kd e kvs q=Zm (kvs.length+1) (.nx (e.set i (some (true,.dct (putD kvs kd q d))))):=nr rfl
theorem abr(i:Nat)(d kd:D)(e:Env)(kvs:List (D×D)):Wr i d kd e kvs=kyO kd (abq i d kd e kvs):=nr rfl
theorem abt(i:Nat)(d kd:D)(e:Env)(o:Bool)(x:D):RN i d kd e o x=dcO o x (Wr i d kd e):=nr rfl
theorem abu(i:Nat)(d kd:D)(e:Env):abv i d kd e=Vj e[i]? (RN i d kd e):=nr rfl
theorem abw(i:Nat)(k:Ev)(d:D)(e:Env)(o:Bool)(x:D):RP i k d e o x=eF (k e) (abv i d):=nr rfl
theorem aet(i:Nat)(k:Ev)(d:D)(e:Env):kDp i k d e=Vj e[i]? (RP i k d e):=nr rfl
theorem Qg(i:Nat)(k a:Ev)(env:Env):nH i k a env=eF (a env) (kDp i k):=by
 unfold nH
 congr 1
 funext d e1
 show _=Vj e1[i]? (RP i k d e1);unfold Vj RP;cases e1[i]? with
 | none=>rfl
 | some o=>
  cases o with
  | none=>rfl
  | some p=>
   obtain⟨b,x⟩:=p;show eF (k e1) _=eF (k e1) _
   congr 1
   funext kd e2
   show _=Vj e2[i]? (RN i d kd e2);unfold Vj RN dcO Wr;cases e2[i]? with
   | none=>rfl
   | some o=>
    cases o with
    | none=>rfl
    | some p=>
     obtain⟨b,u⟩:=p;cases b with
     | false=>rfl
     | true=>
      cases u with
      | dct kvs=>
       show _=kyO kd _;unfold kyO;cases qj kd<;>rfl
      | _=>rfl
section
variable{X:Cx}{C:Cfg}{pos:Pos}{x:Expr}{a:Ev}
def Og:D->Option Int->Option Int->Option D
 | .str z,lo,hi=>some (.str (cutD z lo hi))
 | .tup xs,lo,hi=>some (.tup (cutD xs lo hi))
 | .lst xs,lo,hi=>some (.lst (cutD xs lo hi))
 | .arr xs,lo,hi=>some (.lst (cutD xs lo hi))
 | _,_,_=>none
def Hg(a:Ev)(lo hi:xR):Ev:=λenv=>bindR (a env) λd aD=>bindR (lo aD) λl dh=>bindR (hi dh) λu Al=>d9 (Og d l u) Al
theorem Pu{lo hi:Option Expr}{el eh:xR}{p2:Pos}(G:Good X C)(ha:PX X C x a)(hl:Ue X C lo el)(hh:Ue X C hi eh):PX X C (.Subscript x (.Slice lo hi none p2) pos) (Hg a el eh):=by
 have h:=yO (pos:=pos) (p2:=p2) (Mi.or (Mi.or Kz IW) (Mi.or (Mi.or IW Qh) Qi)) ha hl hh;rw[G.K] at h;refine h.imp λσ H Q hq=>?_;obtain⟨Pr,F,env,env',d,r,e,q⟩:=hq;obtain⟨x,aD,e1,e2⟩:=aO e;obtain⟨l,dh,e3,e4⟩:=aO e2;obtain⟨u,Al,e5,e6⟩:=aO e4;obtain⟨e7,rfl⟩:=dC e6;refine⟨Pr,F,env,aD,x,r,e1,λv H1 F1 r1 s1 p1=>⟨Pr,F1,aD,dh,l,r1,e3,λH2 F2 r2 s2=>⟨Pr,F2,dh,env',u,r2,e5,λH3 F3 r3 s3=>?_⟩⟩⟩;have p3:=Rep.mono (s2.trans s3) _ _ p1;have q3:∀v H' F',Rel C Pr F' env' σ H'->aP F3 F'->Rep C.K F' d v->Q v H':=λv H' F' r' s' p'=>q v H' F' r' (((s1.trans s2).trans s3).trans s') p';cases x with
 | str z=>
  cases e7;obtain⟨rfl,hz⟩:=p1;exact .inr (.inr ⟨z,rfl,hz,q3 _ H3 F3 r3 (aP.refl _) ⟨rfl,Nat.le_trans (Hl _ _ _) hz⟩⟩)
 | tup xs=>
  exact .inr (.inl (Zv r3 p3 (by rw[G7];exact e7) q3))
 | lst xs=>exact .inl (Qj r3 (.inl p3) e7 q3)
 | arr xs=>exact .inl (Qj r3 (.inl p3) e7 q3)
 | _=>cases e7
theorem abW(z:List Nat)(lo hi:Option Int):Og (.str z) lo hi=some (.str (cutD z lo hi)):=nr rfl
theorem abV(z:List D)(lo hi:Option Int):Og (.tup z) lo hi=some (.tup (cutD z lo hi)):=nr rfl
theorem abX(z:List D)(lo hi:Option Int):Og (.lst z) lo hi=some (.lst (cutD z lo hi)):=nr rfl
theorem abY(z:List D)(lo hi:Option Int):Og (.arr z) lo hi=some (.lst (cutD z lo hi)):=nr rfl
theorem Xf(a:Ev)(lo hi:xR)(env:Env):Hg a lo hi env=bindR (a env) (kSl Og lo hi):=nr rfl
end
namespace S
structure SX(X:Cx)(C:Cfg)(e:Expr)(ev:Ev):Prop where
 u:Ev.PX X C e ev
structure O7(X:Cx)(C:Cfg)(e:Expr)(ev:Ev):Prop where
 u:Ev.zV X C e ev
structure X3(X:Cx)(C:Cfg)(e:Expr)(ev:Ev):Prop where
 u:Ev.Kf X C e ev
structure Pb(X:Cx)(C:Cfg)(e:Expr)(ev:dJ):Prop where
 u:Ev.Ml X C e ev
structure SXW(X:Cx)(C:Cfg)(e:Expr)(ev:dJ):Prop where
 u:Ev.Ut X C e ev
structure Pg(X:Cx)(C:Cfg)(e:List Expr)(ev:cJ):Prop where
 u:Ev.Em X C e ev
structure zU(X:Cx)(C:Cfg)(e:List Expr)(ev:cJ):Prop where
 u:Ev.uv X C e ev
structure SXL(X:Cx)(C:Cfg)(e:List Expr)(ev:cJ):Prop where
 u:Ev.PXL X C e ev
structure Mj(X:Cx)(C:Cfg)(e:Stmt)(ev:bG):Prop where
 u:Ev.Ay X C e ev
structure fP(X:Cx)(C:Cfg)(e:List Stmt)(ev:bG):Prop where
 u:Ev.ur X C e ev
structure Uc(X:Cx)(C:Cfg)(e:List Expr)(ev:dJ):Prop where
 u:Ev.Hv X C e ev
structure YZ(X:Cx)(C:Cfg)(e:Option Expr)(ev:xR):Prop where
 u:Ev.Ue X C e ev
structure Uq(X:Cx)(C:Cfg)(tg e:Expr)(ev:cJ):Prop where
 u:Ev.Hw X C tg e ev
structure Ur(X:Cx)(C:Cfg)(lo:Nat)(e:Expr)(ev:GV):Prop where
 u:Ev.Hx X C lo e ev
structure X4(X:Cx)(C:Cfg)(lo:Nat)(e:List Expr)(ev:Mp):Prop where
 u:Ev.O9 X C lo e ev
section
variable{X:Cx}{C:Cfg}{pos p px:Pos}{x y z:Expr}{a b c:Ev}{t u:dJ}{i:Nat}{n:Str}{e:Expr}{es:List Expr}{ea:cJ}
theorem aj{e:Expr}{es:List Expr}{a:Ev}{r:cJ}(ha:SX X C e a)(hr:Pg X C es r)(hs:starEach (e::es) X.env=(false,eval e X.env)::starEach es X.env:=by rfl):Pg X C (e::es) (aa a r):=⟨Ev.aj ha.u hr.u hs⟩
theorem aJ(i:Nat)(hN:X.N[i]? = some n:=by rfl)(hv:rn X.env.scope n:=by first|exact Or.inl rfl|exact Or.inr (Or.inl rfl)|exact Or.inr (Or.inr rfl))(hd:j9 n:=by decide)(hcd:rF n:=by decide):SX X C (.Name n pos) (aq i):=⟨Ev.aJ i hN hv hd hcd⟩
theorem aB  : Pg X C [] ao:=⟨Ev.aB ⟩
theorem bf{e:Expr}{ev:Ev}(h:SX X C e ev):O7 X C e ev:=⟨Ev.PX.b h.u⟩
theorem aM{i:Int}{j:Nat}:SX X C (.Constant (.int i) j pos) (aQ (.int i)):=⟨Ev.aM ⟩
theorem aA{st:Stmt}{rest:List Stmt}{a b:bG}(h1:Mj X C st a)(h2:fP X C rest b):fP X C (st::rest) (aC a b):=⟨Ev.aA h1.u h2.u⟩
theorem aF{st:Stmt}{a:bG}(h1:Mj X C st a):fP X C [st] a:=⟨Ev.aF h1.u⟩
theorem bu{lo:Nat}(i:Nat)(hnd:jJ X.N=true:=by rfl)(hlo:Nat.ble lo i=true:=by rfl)(hfx:C.fx i=none:=by rfl)(hi:X.N[i]? = some n:=by rfl)(hx:Loc X.env.scope n:=by first|exact Or.inl rfl|exact Or.inr rfl)(hf:X.fn n=true\/X.env.scope.names.lookup n=some .local:=by first|exact .inl rfl|exact .inr rfl):Ur X C lo (.Name n pos) (ak i):=⟨Ev.bu i hnd hlo hfx hi hx hf⟩
theorem bV(z:List Nat){x:Str}{j:Nat}(hz:x=strOf z)(hl:z.length<=sizeLine:=by decide):SX X C (.Constant (.str x) j pos) (aQ (.str z)):=⟨Ev.bV z hz hl⟩
theorem cQ(i:Nat)(hN:X.N[i]? = some n:=by rfl)(hv:rn X.env.scope n:=by first|exact Or.inl rfl|exact Or.inr (Or.inl rfl)|exact Or.inr (Or.inr rfl))(hd:j9 n:=by decide)(hcd:rF n:=by decide):O7 X C (.Name n pos) (aV i):=⟨Ev.cQ i hN hv hd hcd⟩
theorem bT{pos':Pos}(i:Nat)(he:SX X C e a)(hnd:jJ X.N=true:=by rfl)(hfx:C.fx i=none:=by rfl)(hi:X.N[i]? = some n:=by rfl)(hx:Loc X.env.scope n:=by first|exact Or.inl rfl|exact Or.inr rfl)(hs:swapsWith e (some (.Name n pos')) pos.line X.env=pure false:=by rfl)(hf:X.fn n=true\/X.env.scope.names.lookup n=some .local:=by first|exact .inl rfl|exact .inr rfl):Mj X C (.Assign [.Name n pos'] e pos) (aK a (ak i)):=⟨Ev.bT i he.u hnd hfx hi hx hs hf⟩
theorem bh{e:Expr}{a:Ev}(h:SX X C e a):Mj X C (.Return (some e) pos) (aY a):=⟨Ev.bh h.u⟩
theorem bj{e:Expr}{a:Ev}(h:O7 X C e a)(hs:tQ e X.env:=by rfl):zU X C [e] (aa a ao):=⟨Ev.bj h.u hs⟩
theorem cA{k k':Nat}{m:Nat}{ps:List Str}{g:List D->Option D}(O:Own X.prog X.w X.K X.mg X.base n k ps (oR X.K m g))(G:Good X C)(hr:ju k' X.A)(hk:Nat.ble k k'=true)(ha:Pg X C (e::es) ea)(hn:∀env ds env',ea env = .ok ds env'->ds.length=m)(hg:Gl X n:=by rfl)(hdb:j9 n:=by decide)(he:starEach (e::es) X.env=(false,eval e X.env)::starEach es X.env:=by rfl)(hpl:(backTo pos (starEach es X.env)).any (·.1)=false:=by rfl):SX X C (.Call (.Name n p) (e::es) [] pos) (az g ea):=⟨Ev.cA O G hr hk ha.u hn hg hdb he hpl⟩
theorem fj{es:List Expr}{r:cJ}{k:Nat}(h:Pg X C es r):SX X C (.Tuple es k pos) (cI r):=⟨Ev.fj h.u⟩
theorem bz{lo:Nat}{e:Expr}{es:List Expr}{g:GV}{gs:Mp}(h1:Ur X C lo e g)(h2:X4 X C lo es gs)(hs:(assignEach (e::es) X.env).map (·.2)=assign e X.env::(assignEach es X.env).map (·.2):=by rfl):X4 X C lo (e::es) (aW g gs):=⟨Ev.bz h1.u h2.u hs⟩
theorem dg{e:Expr}{ev:Ev}(h:X3 X C e ev):SX X C e ev:=⟨Ev.Kf.px h.u⟩
theorem bY(i:Nat)(G:Good X C)(hb:O7 X C y b)(hN:X.N[i]? = some n:=by rfl)(hv:rn X.env.scope n:=by first|exact Or.inl rfl|exact Or.inr (Or.inl rfl)|exact Or.inr (Or.inr rfl))(hs:pW y:=by intro _ _;rfl)(hd:j9 n:=by decide)(hcd:rF n:=by decide):SX X C (.Subscript (.Name n px) y pos) (au bU i b):=⟨Ev.bY i G hb.u hN hv hs hd hcd⟩
theorem jV{k k':Nat}{m:Nat}{ps:List Str}{g:List D->Option (D×D)}{v:Str}{pv:Pos}(i:Nat)(O:Own X.prog X.w X.K X.mg X.base n k ps (uG X.K m g))(G:Good X C)(hr:ju k' X.A)(hk:Nat.ble k k'=true)(ha:Pg X C es ea)(hn:∀env ds env',ea env = .ok ds env'->ds.length+1=m)(hN:X.N[i]? = some v:=by rfl)(hv:rn X.env.scope v:=by first|exact Or.inl rfl|exact Or.inr (Or.inl rfl)|exact Or.inr (Or.inr rfl))(hg:Gl X n:=by rfl)(hdb:j9 n:=by decide)(he:starEach (.Name v pv::es) X.env=(false,eval (.Name v pv) X.env)::starEach es X.env:=by rfl)(hpl:(backTo pos (starEach es X.env)).any (·.1)=false:=by rfl)(hd:j9 v:=by decide)(hcd:rF v:=by decide):SX X C (.Call (.Name n p) (.Name v pv::es) [] pos) (cD g i ea):=⟨Ev.jV i O G hr hk ha.u hn hN hv hg hdb he hpl hd hcd⟩
theorem iK{op:Operator}{g:D->D->Option D}(o:Bi X C op g)(ha:SX X C x a)(hb:O7 X C y b):SX X C (.BinOp x op y pos) (aH g a b):=⟨Ev.iK o ha.u hb.u⟩
theorem lG{e:Expr}{es:List Expr}{a:Ev}{r:cJ}(ha:SX X C e a)(hr:SXL X C es r)(hs:starEach (e::es) X.env=(false,eval e X.env)::starEach es X.env:=by rfl):SXL X C (e::es) (aa a r):=⟨Ev.lG ha.u hr.u hs⟩
theorem eG{op:Operator}{g:D->D->Option D}(i:Nat)(o:Bi X C op g)(hb:O7 X C y b)(hN:X.N[i]? = some n:=by rfl)(hv:rn X.env.scope n:=by first|exact Or.inl rfl|exact Or.inr (Or.inl rfl)|exact Or.inr (Or.inr rfl))(hd:j9 n:=by decide)(hcd:rF n:=by decide):SX X C (.BinOp (.Name n px) op y pos) (au g i b):=⟨Ev.eG i o hb.u hN hv hd hcd⟩
theorem dF{c:Expr}{a b:List Stmt}{t:dJ}{ea eb:bG}(hc:Pb X C c t)(ha:fP X C a ea)(hb:fP X C b eb):Mj X C (.If c a b pos) (dB t ea eb):=⟨Ev.dF hc.u ha.u hb.u⟩
theorem cZ{es:List Expr}{r:cJ}(h:Pg X C es r):X3 X C (.List es pos) (bZ r):=⟨Ev.cZ h.u⟩
theorem cj  : fP X C [] bK:=⟨Ev.cj ⟩
theorem iz{tg:Expr}(G:Good X C)(h:SX X C x a):Uq X C tg x (d8 a):=⟨Ev.iz G h.u⟩
theorem uJ{b:Bool}{j:Nat}:SX X C (.Constant (.bool b) j pos) (aQ (.bl b)):=⟨Ev.uJ ⟩
theorem qi{elt tg iter:Expr}{ifs:List Expr}{scope:Scope}(N':List Str){it:cJ}{g:GV}{cc:dJ}{ee:Ev}(lo:Nat)(ok:jN X scope N')(G:Good X C)(hi:Uq X C tg iter it)(bg:∀X',dX X scope N' X'->Ur X' C lo tg g)(bc:∀X',dX X scope N' X'->Uc X' C ifs cc)(be:∀X',dX X scope N' X'->SX X' C elt ee)(hs:∀x,foldedSetIterable iter X.env x=pure x:=by intro _;rfl):X3 X C (.ListComp elt [⟨tg,iter,ifs,0⟩] scope pos) (dR lo N'.length it g cc ee):=⟨Ev.qi N' lo ok G hi.u (λX1 h1=>(bg X1 h1).u) (λX1 h1=>(bc X1 h1).u) (λX1 h1=>(be X1 h1).u) hs⟩
theorem jW(G:Good X C)(hm:X.mg "len" = none)(ha:zU X C [e] ea)(hg:Gl X "len":=by rfl)(he:tQ e X.env:=by rfl):SX X C (.Call (.Name "len" p) [e] [] pos) (az f9 ea):=⟨Ev.jW G hm ha.u hg he⟩
theorem fY{e:Expr}{a:Ev}(h:SX X C e a)(he:∀whole,isTrue e X.env whole=(do let v <-whole;standAt e.pos;holding [v] (truthy v)):=by intro _;rfl):Pb X C e (dw a):=⟨Ev.fY h.u he⟩
theorem fZ{lo:Nat}:X4 X C lo [] fG:=⟨Ev.fZ ⟩
theorem nC{lo:Nat}{k:Nat}{gs:Mp}{m:Nat}(G:Good X C)(h:X4 X C lo es gs)(hn:(assignEach es X.env).length=m:=by rfl)(hst:(assignEach es X.env).findIdx? (·.1)=none:=by rfl):Ur X C lo (.Tuple es k pos) (eE m gs):=⟨Ev.nC G h.u hn hst⟩
theorem fc{X:Cx}{C:Cfg}:Uc X C [] cu:=⟨Ev.fc ⟩
theorem j8{tg iter:Expr}{body:List Stmt}{it:cJ}{g:GV}{bs:bG}(G:Good X C)(hi:Uq X C tg iter it)(hg:Ur X C 0 tg g)(hb:fP X C body bs)(hp:PassesOwn (model X.prog X.w) X.A X.env X.xe:=by exact PassesOwn.never)(hs:∀x,foldedSetIterable iter X.env x=pure x:=by intro _;rfl):Mj X C (.For tg iter body [] pos) (dI it g bs):=⟨Ev.j8 G hi.u hg.u hb.u hp hs⟩
theorem j7{op:CmpOp}{g:D->D->Option D}(o:Cm X C op g)(ha:SX X C x a)(hb:O7 X C y b)(hm:behindInMarks op y=false:=by rfl):Pb X C (.Compare x [op] [y] pos) (dw (aH g a b)):=⟨Ev.j7 o ha.u hb.u hm⟩
theorem nq{pos':Pos}(i:Nat)(he:X3 X C e a)(hnd:jJ X.N=true:=by rfl)(hfx:C.fx i=none:=by rfl)(hi:X.N[i]? = some n:=by rfl)(hx:Loc X.env.scope n:=by first|exact Or.inl rfl|exact Or.inr rfl)(hs:swapsWith e (some (.Name n pos')) pos.line X.env=pure false:=by rfl)(hf:X.fn n=true\/X.env.scope.names.lookup n=some .local:=by first|exact .inl rfl|exact .inr rfl):Mj X C (.Assign [.Name n pos'] e pos) (cT i a):=⟨Ev.nq i he.u hnd hfx hi hx hs hf⟩
theorem gQ(G:Good X C)(hm:X.mg "tuple" = none)(ha:zU X C [e] ea)(hg:Gl X "tuple":=by rfl)(he:tQ e X.env:=by rfl):SX X C (.Call (.Name "tuple" p) [e] [] pos) (az cG ea):=⟨Ev.gQ G hm ha.u hg he⟩
theorem rP(G:Good X C)(ha:SX X C x a)(hb:O7 X C y b)(hs:pW y:=by intro _ _;rfl):SX X C (.Subscript x y pos) (aH bU a b):=⟨Ev.rP G ha.u hb.u hs⟩
theorem iH{op:CmpOp}{g:D->D->Option D}(i:Nat)(o:Cm X C op g)(hb:O7 X C y b)(hN:X.N[i]? = some n:=by rfl)(hv:rn X.env.scope n:=by first|exact Or.inl rfl|exact Or.inr (Or.inl rfl)|exact Or.inr (Or.inr rfl))(hm:behindInMarks op y=false:=by rfl)(hd:j9 n:=by decide)(hcd:rF n:=by decide):Pb X C (.Compare (.Name n px) [op] [y] pos) (dw (au g i b)):=⟨Ev.iH i o hb.u hN hv hm hd hcd⟩
theorem mq{tg e:Expr}{a:Ev}{g:GV}(he:SX X C e a)(hg:Ur X C 0 tg g)(hs:swapsWithSole [tg] e pos.line X.env=pure false:=by rfl)(hw:swappedStores [tg] e X.env=pure none:=by rfl)(h1:(assignEach [tg] X.env).map (·.2)=[assign tg X.env]:=by rfl):Mj X C (.Assign [tg] e pos) (aK a g):=⟨Ev.mq he.u hg.u hs hw h1⟩
theorem jA{e:Expr}{a:Ev}(h:SX X C e a):YZ X C (some e) (uV a):=⟨Ev.jA h.u⟩
theorem xJ{x:Expr}{a:dJ}(h:Pb X C x a):Pb X C (.UnaryOp .Not x pos) (zj a):=⟨Ev.xJ h.u⟩
theorem pX{e:Expr}{a:dJ}(h:SXW X C e a):Pb X C e a:=⟨Ev.Ut.pt h.u⟩
theorem kO{tg:Expr}(hm:X.mg "range" = none)(ha:Pg X C [e] ea)(hl:∀env ds env',ea env = .ok ds env'->ds.length=1)(hg:Gl X "range":=by rfl)(hs:starEach [e] X.env=[(false,eval e X.env)]:=by rfl):Uq X C tg (.Call (.Name "range" p) [e] [] pos) (dz ea):=⟨Ev.kO hm ha.u hl hg hs⟩
theorem sS{op:CmpOp}{g:D->D->Option D}(i:Nat)(o:Cm X C op g)(hb:O7 X C y b)(hN:X.N[i]? = some n:=by rfl)(hv:rn X.env.scope n:=by first|exact Or.inl rfl|exact Or.inr (Or.inl rfl)|exact Or.inr (Or.inr rfl))(hm:behindInMarks op y=false:=by rfl)(hd:j9 n:=by decide)(hcd:rF n:=by decide):SX X C (.Compare (.Name n px) [op] [y] pos) (au g i b):=⟨Ev.sS i o hb.u hN hv hm hd hcd⟩
theorem yH{j:Nat}:SX X C (.Constant .none j pos) (aQ .non):=⟨Ev.yH ⟩
theorem vW{e:Expr}{es:List Expr}{a:Ev}{r:cJ}(ha:SX X C e a)(hr:zU X C es r)(hs:starEach (e::es) X.env=(false,eval e X.env)::starEach es X.env:=by rfl):zU X C (e::es) (aa a r):=⟨Ev.vW ha.u hr.u hs⟩
theorem yG{op:BoolOp}{x:Expr}{a:Ev}(h:SX X C x a):SX X C (.BoolOp op [x] pos) a:=⟨Ev.yG h.u⟩
theorem rW{apos cpos:Pos}(i:Nat)(G:Good X C)(he:SX X C e a)(hN:X.N[i]? = some n:=by rfl)(hv:rn X.env.scope n:=by first|exact Or.inl rfl|exact Or.inr (Or.inl rfl)|exact Or.inr (Or.inr rfl))(hs:swapsWith (.Call (.Attribute (.Name n px) "append" apos) [e] [] cpos) none pos.line X.env=pure false:=by rfl) (hfew:((backTo cpos (starEach [e] X.env)).all (λx=>!x.1)&&(backToKw cpos (keywordEach [] X.env)).all (λx=>x.1.isSome)
   && decide (([e]:List Expr).length+([]:List Keyword).length+(if ([]:List Keyword).isEmpty then 0 else 1)<30))=true:=by rfl) (hbase:attributeBase (.Name n px) "append" X.env (eval (.Name n px) X.env)=eval (.Name n px) X.env:=by rfl) (hline:(apos.endLine == cpos.line)=true:=by rfl) (hst:tQ e X.env:=by rfl) (hplain:(backTo cpos (starEach [] X.env)).any (·.1)=false:=by rfl) (hd:j9 n:=by decide) (hcd:rF n:=by decide):Mj X C (.Expr (.Call (.Attribute (.Name n px) "append" apos) [e] [] cpos) pos) (fX i a):=⟨Ev.rW i G he.u hN hv hs hfew hbase hline hst hplain hd hcd⟩
theorem lF  : YZ X C none lH:=⟨Ev.lF ⟩
theorem pI{x y:Expr}{rest:List Expr}{a b:dJ}(ha:Pb X C x a)(hb:SXW X C (.BoolOp .Or (y::rest) pos) b):SXW X C (.BoolOp .Or (x::y::rest) pos) (sr a b):=⟨Ev.pI ha.u hb.u⟩
theorem Ey(G:Good X C)(hm:X.mg "all" = none)(ha:zU X C [e] ea)(hg:Gl X "all":=by rfl)(he:tQ e X.env:=by rfl):SX X C (.Call (.Name "all" p) [e] [] pos) (az xE ea):=⟨Ev.Ey G hm ha.u hg he⟩
theorem rz{x:Expr}{a:dJ}(h:Pb X C x a):SXW X C (.BoolOp .Or [x] pos) a:=⟨Ev.rz h.u⟩
theorem yJ{T:String}{xT:Str}{e:Expr}{a:Ev}{p q pos:Pos}(hg:Gl X "isinstance")(hm:X.mg "isinstance" = none)(hgT:Gl X xT)(hmT:X.mg xT=none)(hvT:bootBuiltins xT=some (.type T))(hk:∀d:D,PySem.W.kitOne X.K (.type (Uk d)) (.type T)=some (o6 d T))(hK:X.K=C.K)(ha:SX X C e a)(hn:xT ≠ "__name__":=by decide)(hd:j9 xT:=by decide)(he:starEach [e,.Name xT q] X.env=(false,eval e X.env)::starEach [.Name xT q] X.env:=by rfl):SX X C (.Call (.Name "isinstance" p) [e,.Name xT q] [] pos) (iI (Oh T) a):=⟨Ev.yJ hg hm hgT hmT hvT hk hK ha.u hn hd he⟩
theorem jB{X:Cx}{C:Cfg}{c:Expr}{t:dJ}(h:Pb X C c t):Uc X C [c] t:=⟨Ev.jB h.u⟩
theorem Gq{k k':Nat}{m:Nat}{ps:List Str}{g:List D->Option D}(O:Own X.prog X.w X.K X.mg X.base n k ps (Yj X.K m g))(G:Good X C)(hr:ju k' X.A)(hk:Nat.ble k k'=true)(ha:Pg X C (e::es) ea)(hn:∀env ds env',ea env = .ok ds env'->ds.length=m)(hg:Gl X n:=by rfl)(hdb:j9 n:=by decide)(he:starEach (e::es) X.env=(false,eval e X.env)::starEach es X.env:=by rfl)(hpl:(backTo pos (starEach es X.env)).any (·.1)=false:=by rfl):X3 X C (.Call (.Name n p) (e::es) [] pos) (az g ea):=⟨Ev.Gq O G hr hk ha.u hn hg hdb he hpl⟩
theorem mj{x y:Expr}{rest:List Expr}{a b:dJ}(ha:Pb X C x a)(hb:SXW X C (.BoolOp .And (y::rest) pos) b):SXW X C (.BoolOp .And (x::y::rest) pos) (cX a b):=⟨Ev.mj ha.u hb.u⟩
theorem rA{x:Str}{v:V}{u:Value}(d:D)(hg:Gl X x)(hm:X.mg x=some u)(rv:RelV v u)(hr:∀F,Rep C.K F d v)(hd:j9 x:=by decide):SX X C (.Name x pos) (aQ d):=⟨Ev.rA d hg hm rv hr hd⟩
theorem vA{o:Expr}{apos cpos:Pos}(G:Good X C)(ho:SX X C o a)(he:O7 X C e b)(hbase:attributeBase o "join" X.env (eval o X.env)=eval o X.env:=by rfl)(hs:tQ e X.env:=by rfl) (hfew:((backTo cpos (starEach [e] X.env)).all (λx=>!x.1)&&(backToKw cpos (keywordEach [] X.env)).all (λx=>x.1.isSome)
   && decide ([e].length+([]:List Keyword).length+(if ([]:List Keyword).isEmpty then 0 else 1)<30))=true:=by rfl) (hline:(apos.endLine == cpos.line)=true:=by rfl) (hplain:(backTo cpos (starEach [] X.env)).any (·.1)=false:=by rfl):SX X C (.Call (.Attribute o "join" apos) [e] [] cpos) (aH m5 a b):=⟨Ev.vA G ho.u he.u hbase hs hfew hline hplain⟩
theorem Px{lo hi:Option Expr}{el eh:xR}{p2:Pos}(G:Good X C)(ha:SX X C x a)(hl:YZ X C lo el)(hh:YZ X C hi eh):SX X C (.Subscript x (.Slice lo hi none p2) pos) (uc a el eh):=⟨Ev.Px G ha.u hl.u hh.u⟩
theorem mO{x:Expr}{a:dJ}(h:Pb X C x a):SXW X C (.BoolOp .And [x] pos) a:=⟨Ev.mO h.u⟩
theorem uA(ha:SX X C x a):SX X C (.UnaryOp .USub x pos) (iI oh a):=⟨Ev.uA ha.u⟩
theorem Ex{op:CmpOp}{g:D->D->Option D}(o:Cm X C op g)(ha:SX X C x a)(hb:O7 X C y b)(hm:behindInMarks op y=false:=by rfl):SX X C (.Compare x [op] [y] pos) (aH g a b):=⟨Ev.Ex o ha.u hb.u hm⟩
theorem Dc  : SXL X C [] ao:=⟨Ev.Dc ⟩
theorem JC{es:List Expr}{a:cJ}(h:SXL X C es a):X3 X C (.List es pos) (bZ a):=⟨Ev.JC h.u⟩
theorem uB(i:Nat)(G:Good X C)(hb:O7 X C y b)(hN:X.N[i]? = some n:=by rfl)(hv:rn X.env.scope n:=by first|exact Or.inl rfl|exact Or.inr (Or.inl rfl)|exact Or.inr (Or.inr rfl))(hs:Ug y:=by intro _ _;rfl)(hd:j9 n:=by decide)(hcd:rF n:=by decide):SX X C (.Subscript (.Name n px) y pos) (au iZ i b):=⟨Ev.uB i G hb.u hN hv hs hd hcd⟩
theorem Az{p2 p3 p4:Pos}{k:Nat}(ha:SX X C x a):SX X C (.Subscript x (.Slice none none (some (.UnaryOp .USub (.Constant (.int 1) k p4) p3)) p2) pos) (pg a):=⟨Ev.Az ha.u⟩
theorem yF  : X3 X C (.Dict [] [] pos) zp:=⟨Ev.yF ⟩
theorem uz(G:Good X C)(hm:X.mg "sorted" = none)(ha:zU X C [e] ea)(hg:Gl X "sorted":=by rfl)(he:tQ e X.env:=by rfl):SX X C (.Call (.Name "sorted" p) [e] [] pos) (az iQ ea):=⟨Ev.uz G hm ha.u hg he⟩
theorem Gb{x y:Expr}{rest:List Expr}{a b:Ev}(ha:SX X C x a)(hb:SX X C (.BoolOp .Or (y::rest) pos) b):SX X C (.BoolOp .Or (x::y::rest) pos) (Om a b):=⟨Ev.Gb ha.u hb.u⟩
theorem Ew{lo hi:Option Expr}{el eh:xR}{p2:Pos}(ha:SX X C x a)(hl:YZ X C lo el)(hh:YZ X C hi eh):SX X C (.Subscript x (.Slice lo hi none p2) pos) (qT a el eh):=⟨Ev.Ew ha.u hl.u hh.u⟩
theorem Ce(G:Good X C)(hm:X.mg "list" = none)(ha:zU X C [e] ea)(hg:Gl X "list":=by rfl)(he:tQ e X.env:=by rfl):SX X C (.Call (.Name "list" p) [e] [] pos) (az qP ea):=⟨Ev.Ce G hm ha.u hg he⟩
theorem M4{elt tg iter:Expr}{ifs:List Expr}{scope:Scope}(N':List Str){spos py:Pos}{it:cJ}{g:GV}{cc:dJ}{ee:Ev}(lo:Nat)(i:Nat)(ok:jN X scope N')(G:Good X C)(hi:Uq X C tg iter it)(bg:∀X',dX X scope N' X'->Ur X' C lo tg g)(bc:∀X',dX X scope N' X'->Uc X' C ifs cc)(be:∀X',dX X scope N' X'->SX X' C elt ee)(hnd:jJ X.N=true:=by rfl)(hfx:C.fx i=none:=by rfl)(hy:X.N[i]? = some n:=by rfl)(hx:Loc X.env.scope n:=by first|exact Or.inl rfl|exact Or.inr rfl)(hsw:swapsWith (.ListComp elt [⟨tg,iter,ifs,0⟩] scope pos) (some (.Name n py)) spos.line X.env=pure true:=by rfl)(hf:X.fn n=true\/X.env.scope.names.lookup n=some .local:=by first|exact .inl rfl|exact .inr rfl)(hs:∀x,foldedSetIterable iter X.env x=pure x:=by intro _;rfl):Mj X C (.Assign [.Name n py] (.ListComp elt [⟨tg,iter,ifs,0⟩] scope pos) spos) (cT i (dR lo N'.length it g cc ee)):=⟨Ev.M4 N' lo i ok G hi.u (λX1 h1=>(bg X1 h1).u) (λX1 h1=>(bc X1 h1).u) (λX1 h1=>(be X1 h1).u) hnd hfx hy hx hsw hf hs⟩
theorem Dy{tg e2:Expr}(hm:X.mg "range" = none)(ha:Pg X C [e,e2] ea)(hl:∀env ds env',ea env = .ok ds env'->ds.length=2)(hg:Gl X "range":=by rfl)(hs:starEach [e,e2] X.env=[(false,eval e X.env),(false,eval e2 X.env)]:=by rfl)(hs2:starEach [e2] X.env=[(false,eval e2 X.env)]:=by rfl):Uq X C tg (.Call (.Name "range" p) [e,e2] [] pos) (dz ea):=⟨Ev.Dy hm ha.u hl hg hs hs2⟩
theorem xW{e2:Expr}(G:Good X C)(hm:X.mg "divmod" = none)(ha:zU X C [e,e2] ea)(hg:Gl X "divmod":=by rfl)(he:starEach [e,e2] X.env=(false,eval e X.env)::starEach [e2] X.env:=by rfl)(hpl:(backTo pos (starEach [e2] X.env)).any (·.1)=false:=by rfl):SX X C (.Call (.Name "divmod" p) [e,e2] [] pos) (az my ea):=⟨Ev.xW G hm ha.u hg he hpl⟩
theorem tU{e:Expr}{a:Ev}(h:X3 X C e a):Mj X C (.Return (some e) pos) (qp a):=⟨Ev.tU h.u⟩
theorem abR{lo:Nat}{ix:Expr}{ev:Ev}(i:Nat)(h:SX X C ix ev)(hN:X.N[i]? = some n:=by rfl)(hv:rn X.env.scope n:=by first|exact Or.inl rfl|exact Or.inr (Or.inl rfl)|exact Or.inr (Or.inr rfl)) (ha:∀v,assign (.Subscript (.Name n px) ix pos) X.env v=(do
   let ov <-holding [v] (eval (.Name n px) X.env)
   let iv <-holding [v,ov] (eval ix X.env)
   standAt pos
   holding [v,ov,iv] (setItem ov iv v)
   release [v,ov,iv] []):=by intro _;rfl) (hd:j9 n:=by decide) (hcd:rF n:=by decide):Ur X C lo (.Subscript (.Name n px) ix pos) (J0 i ev):=⟨Ev.abR i h.u hN hv ha hd hcd⟩
theorem Cg{p:Pos}{e:Expr}{ea:cJ}(G:Good X C)(hm:X.mg "dict" = none)(ha:zU X C [e] ea)(hg:Gl X "dict":=by rfl)(he:tQ e X.env:=by rfl):SX X C (.Call (.Name "dict" p) [e] [] pos) (az qb ea):=⟨Ev.Cg G hm ha.u hg he⟩
theorem Ji{k:Expr}{ek:Ev}{pos':Pos}(i:Nat)(G:Good X C)(hk:SX X C k ek)(he:SX X C e a)(hN:X.N[i]? = some n:=by rfl)(hv:rn X.env.scope n:=by first|exact Or.inl rfl|exact Or.inr (Or.inl rfl)|exact Or.inr (Or.inr rfl))(hs:swapsWith e (some (.Subscript (.Name n px) k pos')) pos.line X.env=pure false:=by rfl)(hd:j9 n:=by decide)(hcd:rF n:=by decide):Mj X C (.Assign [.Subscript (.Name n px) k pos'] e pos) (nH i ek a):=⟨Ev.Ji i G hk.u he.u hN hv hs hd hcd⟩
theorem JX{elts:List Expr}{k:Nat}{tp p:Pos}{ea:cJ}(hm:X.mg "enumerate" = none)(ha:Pg X C [e] ea)(hg:Gl X "enumerate":=by rfl)(hs:starEach [e] X.env=[(false,eval e X.env)]:=by rfl):Uq X C (.Tuple elts k tp) (.Call (.Name "enumerate" p) [e] [] pos) (DW ea):=⟨Ev.JX hm ha.u hg hs⟩
theorem Pu{lo hi:Option Expr}{el eh:xR}{p2:Pos}(G:Good X C)(ha:SX X C x a)(hl:YZ X C lo el)(hh:YZ X C hi eh):SX X C (.Subscript x (.Slice lo hi none p2) pos) (Hg a el eh):=⟨Ev.Pu G ha.u hl.u hh.u⟩
theorem Ca{p2 p3 p4:Pos}{k:Nat}(G:Good X C)(ha:SX X C x a):SX X C (.Subscript x (.Slice none none (some (.UnaryOp .USub (.Constant (.int 1) k p4) p3)) p2) pos) (iI wR a):=⟨Ev.Ca G ha.u⟩
theorem Ko(G:Good X C)(hm:X.mg "any" = none)(ha:zU X C [e] ea)(hg:Gl X "any":=by rfl)(he:tQ e X.env:=by rfl):SX X C (.Call (.Name "any" p) [e] [] pos) (az Ak ea):=⟨Ev.Ko G hm ha.u hg he⟩
theorem Qp{e:Expr}{a:Ev}{px apos cpos:Pos}(i:Nat)(G:Good X C)(he:SX X C e a)(hN:X.N[i]? = some n:=by rfl)(hv:rn X.env.scope n:=by first|exact Or.inl rfl|exact Or.inr (Or.inl rfl)|exact Or.inr (Or.inr rfl))(hs:swapsWith (.Call (.Attribute (.Name n px) "extend" apos) [e] [] cpos) none pos.line X.env=pure false:=by rfl) (hfew:((backTo cpos (starEach [e] X.env)).all (λx=>!x.1)&&(backToKw cpos (keywordEach [] X.env)).all (λx=>x.1.isSome)
   && decide (([e]:List Expr).length+([]:List Keyword).length+(if ([]:List Keyword).isEmpty then 0 else 1)<30))=true:=by rfl) (hbase:attributeBase (.Name n px) "extend" X.env (eval (.Name n px) X.env)=eval (.Name n px) X.env:=by rfl) (hline:(apos.endLine == cpos.line)=true:=by rfl) (hst:tQ e X.env:=by rfl) (hplain:(backTo cpos (starEach [] X.env)).any (·.1)=false:=by rfl) (hd:j9 n:=by decide) (hcd:rF n:=by decide):Mj X C (.Expr (.Call (.Attribute (.Name n px) "extend" apos) [e] [] cpos) pos) (yl i a):=⟨Ev.Qp i G he.u hN hv hs hfew hbase hline hst hplain hd hcd⟩
theorem Qn{elt tg iter pq cH:Expr}{ifs:List Expr}{scope:Scope}(N':List Str){spos py:Pos}{it ux:cJ}{g g2:GV}{c:dJ}{e:Ev}(lo:Nat)(i:Nat)(ok:jN X scope N')(G:Good X C)(hi:Uq X C tg iter it)(bg:∀X',dX X scope N' X'->Ur X' C lo tg g)(bi:∀X',dX X scope N' X'->Uq X' C pq cH ux)(bg2:∀X',dX X scope N' X'->Ur X' C lo pq g2)(bc:∀X',dX X scope N' X'->Uc X' C ifs c)(be:∀X',dX X scope N' X'->SX X' C elt e)(hnd:jJ X.N=true:=by rfl)(hfx:C.fx i=none:=by rfl)(hy:X.N[i]? = some n:=by rfl)(hx:Loc X.env.scope n:=by first|exact Or.inl rfl|exact Or.inr rfl)(hsw:swapsWith (.ListComp elt [⟨tg,iter,[],0⟩,⟨pq,cH,ifs,0⟩] scope pos) (some (.Name n py)) spos.line X.env=pure true:=by rfl)(hf:X.fn n=true\/X.env.scope.names.lookup n=some .local:=by first|exact .inl rfl|exact .inr rfl)(hs2:∀(X':Cx) (x:Value),dX X scope N' X'->foldedSetIterable cH X'.env x=pure x:=by intro _ _ _;rfl)(hs:∀x,foldedSetIterable iter X.env x=pure x:=by intro _;rfl):Mj X C (.Assign [.Name n py] (.ListComp elt [⟨tg,iter,[],0⟩,⟨pq,cH,ifs,0⟩] scope pos) spos) (cT i (wW lo N'.length it g ux g2 c e)):=⟨Ev.Qn N' lo i ok G hi.u (λX1 h1=>(bg X1 h1).u) (λX1 h1=>(bi X1 h1).u) (λX1 h1=>(bg2 X1 h1).u) (λX1 h1=>(bc X1 h1).u) (λX1 h1=>(be X1 h1).u) hnd hfx hy hx hsw hf hs2 hs⟩
theorem Jo{x:Expr}{a:Ev}(ha:SX X C x a):SX X C (.UnaryOp .Not x pos) (Bu a):=⟨Ev.Jo ha.u⟩
end
end S
open PySem PySem.Spec PyProof.Rows L2 PySem.Builtin
section
variable{X:Cx}{C:Cfg}{pos:Pos}{e:Expr}
def Tj(xs:List D):List D:=xs.zipIdx.map λp=>.tup [.int (p.2:Nat),p.1]
def Xp(a:cJ):cJ:=λenv=>bindR (a env) λds aD=>match ds with
 | [.str x]=>.ok (qU x) aD
 | [.tup xs]=>.ok (Tj xs) aD
 | _=>.stuck
end
end Ev
namespace L2
open PySem PySem.Spec PyProof.Rows PySem.Builtin
def O8(l:Addr)(n:Nat):HO:=.ext λh=>∃t u v,IsRange h l 0 (n:Int) 1 t u v
section
variable{X:Cx}
def CW:List V->Hp->VK->Prop:=λxs H Q=>∃n:Nat,xs=[.int n]/\∀l,H l=none->Q (.ref l) (upd H l (O8 l n))
def Qx:List V->Hp->VK->Prop:=λxs H Q=>∃(p:Addr) (n:Nat),xs=[.ref p]/\H p=some (O8 p n)/\n<=sizeLine/\∀l,H l=none->Q (.ref l) (upd H l (.lst ((List.range n).map λi=>V.int (i:Nat))))
theorem wZ:ji X (.type "range") CW:=by intro pins s σ H xs us Q I r h;obtain⟨n,rfl,q⟩:=h;obtain⟨u,rfl,⟨t,rfl⟩⟩:=vals1 r;refine call_range_1 ?_;refine⟨.ref s.heap.objs.size,_,I.laid (t':=s.toks+1+1) (λb o e=>Heap.get?_push_of_some _ e) (Nat.le_refl _) (o:=O8 s.heap.objs.size n) ⟨⟨_,_,_,IsRange.new ..⟩,⟨_,IsRange.new ..⟩,λh1 h2 y kk=>?_⟩,rfl,q _ (I.hok.fresh (Nat.le_refl _))⟩;obtain⟨t,u,v,e⟩:=y;exact⟨t,u,v,kk _ e⟩
theorem Br:∀(n k:Nat) (vs:List Value),vs.length=n->(∀(j:Nat) (v:Value),vs[j]? = some v->∃t,v=Value.int (((k+j:Nat)):Int) t)->Vals ((List.range' k n).map λi=>V.int (i:Nat)) vs
 | 0,k,vs,hl,_=>by rw[List.eq_nil_of_length_eq_zero hl];exact .nil
 | n+1,k,vs,hl,hv=>by
  cases vs with
  | nil=>simp at hl
  | cons v vs=>
   rw[List.range'_succ,List.map_cons];refine .cons ?_ (Br n (k+1) vs (by simpa using hl) λj w hw=>?_)
   ·obtain⟨t,rfl⟩:=hv 0 v rfl;exact⟨t,by simp⟩
   ·obtain⟨t,rfl⟩:=hv (j+1) w (by simpa using hw);exact⟨t,by congr 2;omega⟩
theorem Kc(hc:X.calm=true):ji X (.type "list") Qx:=by
 intro pins s σ H xs us Q I r h;obtain⟨p,n,rfl,hp,hz,q⟩:=h;obtain⟨u,rfl,rx⟩:=vals1 r;cases rx;obtain⟨t,u,v,e⟩:∃t u v,IsRange s.heap p 0 (n:Int) 1 t u v:=(I.hok p _ hp).1;have hzz:n<=2^24:=hz;have hb:(n:Int)<2^62:=by omega
 have hrs:Builtin.Range.rangeSize 0 (n:Int) 1=(n:Int):=by rw[rangeSize_one];split<;>omega
 refine call_list_range (I.ok.hd hc) e (small_one (by decide) (by decide) (by omega) hb) hrs hzz λh' tk acc' c' kp e2 hacc=>?_;refine⟨.ref s.heap.objs.size,_,I.laid kp (Nat.le_refl _) (show gP X.prog X.w _ h' _ (.lst ((List.range n).map λi=>V.int (i:Nat))) from⟨?_,acc'.toList,c',?_,by simpa using e2⟩),rfl,q _ (I.hok.fresh (Nat.le_refl _))⟩
 ·rw[List.length_map,List.length_range];exact hz
 ·obtain⟨hsz,hit⟩:=hacc;rw[List.range_eq_range'];refine Br n 0 _ (by simpa using hsz) λj v hv=>?_;obtain⟨t,rfl⟩:=hit j v (by simpa using hv);exact⟨t,by congr 1;omega⟩
end
end L2
namespace Ev
open PySem PySem.Spec PyProof.Rows L2 PySem.Builtin
section
variable{X:Cx}{C:Cfg}{pos p p2 pos2:Pos}{e:Expr}{a:Ev}
def zf:D->Option D
 | .int i=>if 0<=i/\i.toNat<=sizeLine then some (.lst ((List.range i.toNat).map λ(k:Nat)=>.int (k:Int))) else none
 | _=>none
theorem Be{K:Fg}{F:Hp}:∀l:List Nat,bI K F (l.map λ(k:Nat)=>D.int (k:Int)) (l.map λi=>V.int (i:Nat))
 | []=>rfl
 | k::l=>⟨_,_,rfl,rfl,Be l⟩
theorem JD(G:Good X C)(h1:X.mg "list" = none)(h2:X.mg "range" = none)(ha:PX X C e a)(g1:Gl X "list":=by rfl)(g2:Gl X "range":=by rfl)
  (he:tQ e X.env:=by rfl)
  (he2:starEach [.Call (.Name "range" p2) [e] [] pos2] X.env=(false,eval (.Call (.Name "range" p2) [e] [] pos2) X.env)::starEach [] X.env:=by rfl) :
  Kf X C (.Call (.Name "list" p) [.Call (.Name "range" p2) [e] [] pos2] [] pos) (iI zf a):=by
 have i1:PE X (.Call (.Name "range" p2) [e] [] pos2) _:=oX (T:="range") L2.wZ g2 h2 (by decide +kernel) (iM ha mV he) (by decide) (by decide) he rfl;have i2:PE X (.Call (.Name "list" p) [.Call (.Name "range" p2) [e] [] pos2] [] pos) _:=oX (T:="list") (L2.Kc G.calm) g1 h1 (by decide +kernel) (iM i1 mV he2) (by decide) (by decide) he2 rfl;refine i2.imp λσ H Q hq=>?_;obtain⟨Pr,F,env,env',d,r,e0,q⟩:=hq;obtain⟨x,aD,e1,e2⟩:=aO e0;obtain⟨e3,rfl⟩:=dC e2;refine⟨Pr,F,env,env',x,r,e1,λv H1 F1 r1 s1 p1=>?_⟩;cases x with
 | int i=>
  unfold zf at e3;simp only at e3;split at e3
  ·rename_i hi;cases e3;obtain⟨n,rfl⟩:∃n:Nat,i=(n:Int):=⟨i.toNat,by omega⟩;rw[Int.toNat_natCast] at hi q;cases p1;show CW [.int n] H1 λx H2=>Qx [x] H2 Q;refine⟨n,rfl,λl hl=>?_⟩;have r2:=r1.fresh (o:=O8 l n) hl;refine⟨l,n,rfl,aU,hi.2,λl2 hl2=>?_⟩;exact q l2 _ F1 (r2.fresh hl2) s1 (Uh.of r2 hl2 ⟨by rw[List.length_map,List.length_range];exact hi.2,_,aU,Be _⟩)
  ·cases e3
 | _=>cases e3
theorem W5{n:Nat}(h:n<=sizeLine):zf (.int (n:Int))=some (.lst ((List.range n).map λ(k:Nat)=>.int (k:Int))):=by show(if _ then _ else _)=_;rw[if_pos ⟨by omega,by rw[Int.toNat_natCast];exact h⟩,Int.toNat_natCast]
end
end Ev
namespace L2
open PySem PySem.Spec PyProof.Rows PySem.Builtin ZT
def Y5(K:PySem.W.Frag)(a1 a2:Addr):It:=
 ⟨λi H=>∃xs ys x y,jT K H a1 xs/\jT K H a2 ys/\xs[i]? = some x/\ys[i]? = some y,
 λi H v H'=>∃p x y,(∀xs,jT K H a1 xs->xs[i]? = some x)/\(∀ys,jT K H a2 ys->ys[i]? = some y)/\H p=none/\H'=upd H p (.tup [x,y])/\v = .ref p,
 λi H=>∃xs ys,jT K H a1 xs/\jT K H a2 ys/\(i=xs.length\/(i<xs.length/\i=ys.length))⟩
theorem HX{P:Program}{w:World}{K:PySem.W.Frag}{elts:List Expr}{kk:Nat}{pos:Pos}(z TI TO j1 j2 a1 a2:Addr)(D:Apz z TI TO j1 j2 a1 a2) :
  Turn P w K (.Tuple elts kk pos) (Y5 K a1 a2) [z,TI,TO,j1,j2] z (λi h=>IsZip h z TI TO .none/\IsPair h TI (.ref j1) (.ref j2)/\(∃a b,IsPair h TO a b)/\h.IsListIter j1 a1 i/\h.IsListIter j2 a2 i) where
 mem:=by simp
 obj:=λi h st b hb=>by
  obtain⟨hz,hTI,⟨a,c,hTO⟩,⟨o1,e1,_,d1⟩,o2,e2,_,d2⟩:=st;simp only[List.mem_cons,List.not_mem_nil,or_false] at hb;rcases hb with rfl|rfl|rfl|rfl|rfl
  ·exact⟨_,hz,λv q=>by cases q⟩
  ·exact⟨_,hTI,λv q=>by cases q⟩
  ·exact⟨_,hTO,λv q=>by cases q⟩
  ·exact⟨o1,e1,λv q=>by rw[d1] at q;cases q⟩
  ·exact⟨o2,e2,λv q=>by rw[d2] at q;cases q⟩
 keep:=λi h h' st k=>by
  obtain⟨hz,hTI,⟨a,c,hTO⟩,⟨o1,e1,r1⟩,o2,e2,r2⟩:=st;exact⟨k z (by simp) _ hz,k TI (by simp) _ hTI,⟨a,c,k TO (by simp) _ hTO⟩,⟨o1,k j1 (by simp) _ e1,r1⟩,o2,k j2 (by simp) _ e2,r2⟩
 item:=by
  intro X hP hw hK hc i pins s σ H E I hf st hg;subst hP hw hK;obtain⟨hz,hTI,⟨a,b,hTO⟩,i1,i2⟩:=st;obtain⟨xs,ys,x,y,hx,hy,gx,gy⟩:=hg;obtain⟨us,ru,pu,zu⟩:=I.list hx;obtain⟨vs,rv,pv,zv⟩:=I.list hy;obtain⟨u,hu,rxu⟩:=ru.get gx;obtain⟨v,hv,ryv⟩:=rv.get gy;have lu:i<us.toArray.size:=by rw[List.size_toArray];exact(List.getElem?_eq_some_iff.mp hu).1
  have lv:i<vs.toArray.size:=by rw[List.size_toArray];exact(List.getElem?_eq_some_iff.mp hv).1
  have D1:Draws X.prog X.w X.A.in1 j1 [j1,a1] _ _ _:=Draws.list (A:=X.A.in1) (show X.A.in1.handled=none from I.ok.hd hc) j1 a1 D.c1 us.toArray;have D2:Draws X.prog X.w X.A.in1 j2 [j2,a2] _ _ _:=Draws.list (A:=X.A.in1) (show X.A.in1.handled=none from I.ok.hd hc) j2 a2 D.c2 vs.toArray;refine xA (A:=X.A) D.ap D1 D2 lu lv hz hTI hTO ⟨i1,pu.isList⟩ ⟨i2,pv.isList⟩ λx' y' g tk px py hz' agI s1 s2 hT hsz hk=>?_;have ex:x'=u:=by have:us.toArray[i]? = some x':=px;rw[List.getElem?_toArray,hu] at this;exact(Option.some.inj this).symm
  have ey:y'=v:=by have:vs.toArray[i]? = some y':=py;rw[List.getElem?_toArray,hv] at this;exact(Option.some.inj this).symm
  subst ex ey;refine⟨_,rfl,?_⟩;refine wpAny_letOwnedTupleGo_zip (s:={ s with heap:=g,toks:=tk }) hz' λg' hz'' e'=>?_;have rZ:∀b o,b≠z->g.get? b=some o->g'.get? b=some o:=λb o hb q=>(e'.2 b hb).trans q;have lts:∀b ∈ [z,TI,TO,j1,j2],b<s.heap.objs.size:=λb hb=>by
   simp only[List.mem_cons,List.not_mem_nil,or_false] at hb;rcases hb with rfl|rfl|rfl|rfl|rfl
   ·exact Heap.lt_size hz
   ·exact Heap.lt_size hTI
   ·exact Heap.lt_size hTO
   ·obtain⟨_,q,_⟩:=i1;exact Heap.lt_size q
   ·obtain⟨_,q,_⟩:=i2;exact Heap.lt_size q
  have nT:H s.heap.objs.size=none:=I.hok.fresh (Nat.le_refl _);refine⟨.ref s.heap.objs.size,upd H s.heap.objs.size (.tup [x,y]),I.drawn (t':=tk) (ch:=[z,TI,TO,j1,j2]) hf (λb o hb q=>?_) (Nat.le_refl _) ?_,rfl,⟨_,x,y,λzs hq=>by rw[I.yZ hq hx];exact gx,λzs hq=>by rw[I.yZ hq hy];exact gy,nT,rfl,rfl⟩,⟨hz'',?_,⟨_,_,rZ TO _ D.t2 agI⟩,?_,?_⟩,λb hb=>?_⟩
  ·have n1:b≠z:=λq=>hb (by simp[q]);exact rZ b o n1 (hk b o n1 (λq=>hb (by simp[q])) (λq=>hb (by simp[q])) (λq=>hb (by simp[q])) q)
  ·exact⟨by show 2<=sizeLine;decide,[x',y'],.cons rxu (.cons ryv .nil),_,rZ _ _ (Nat.ne_of_gt (lts z (by simp))) hT,rfl,⟨_,rfl⟩,rfl⟩
  ·exact rZ TI _ D.t1 (hk TI _ D.t1 D.t3 (λq=>D.b5 (by simp[q])) (λq=>D.b6 (by simp[q])) hTI)
  ·obtain⟨o,q,r⟩:=s1.1;exact⟨o,rZ j1 o (λq=>D.b1 (by simp[q])) q,r⟩
  ·obtain⟨o,q,r⟩:=s2.1;exact⟨o,rZ j2 o (λq=>D.b2 (by simp[q])) q,r⟩
  ·rw[bM (Nat.ne_of_lt (lts b hb))];exact(hf b hb).1
 done:=by intro X hP hw hK hc i pins s σ H E I hf st hg;subst hP hw hK;obtain⟨hz,hTI,⟨a,b,hTO⟩,i1,i2⟩:=st;obtain⟨xs,ys,hx,hy,hi⟩:=hg;obtain⟨us,ru,pu,zu⟩:=I.list hx;obtain⟨vs,rv,pv,zv⟩:=I.list hy;have l1:=ru.length;have l2:=rv.length;have D1:Draws X.prog X.w X.A.in1 j1 [j1,a1] _ _ _:=Draws.list (A:=X.A.in1) (show X.A.in1.handled=none from I.ok.hd hc) j1 a1 D.c1 us.toArray;have D2:Draws X.prog X.w X.A.in1 j2 [j2,a2] _ _ _:=Draws.list (A:=X.A.in1) (show X.A.in1.handled=none from I.ok.hd hc) j2 a2 D.c2 vs.toArray;refine yE (A:=X.A) (k:=i) D.ap D1 D2 (by rw[List.size_toArray,List.size_toArray];omega) hz hTI hTO ⟨i1,pu.isList⟩ ⟨i2,pv.isList⟩ λg tk hk=>⟨rfl,I.Kq (t':=tk) (ch:=[z,TI,TO,j1,j2]) hf λb o hb e=>?_⟩;exact hk b o (λq=>hb (by simp[q])) (λq=>hb (by simp[q])) (λq=>hb (by simp[q])) (λq=>hb (by simp[q])) e
 self:=λA i s Q E st h=>wpAny_pyIter_zip st.1 h
end L2
namespace ZT
open PySem PySem.Spec PyProof.Rows L2 PySem.Builtin
abbrev WR(h:Heap)(l1:Addr):Heap:=h.push { cls:=.type "list_iterator",data:=.fields #[.ref l1,.int 0 0] }
abbrev WQ(h:Heap)(l1 l2:Addr):Heap:=(WR h l1).push { cls:=.type "list_iterator",data:=.fields #[.ref l2,.int 0 0] }
abbrev WN(h:Heap)(l1 l2:Addr):Heap:=(WQ h l1 l2).push { cls:=.type "tuple",data:=.seq #[.ref h.objs.size,.ref (WR h l1).objs.size] }
abbrev WM(h:Heap)(l1 l2:Addr):Heap:=(WN h l1 l2).push { cls:=.type "tuple",data:=.seq #[.none,.none] }
abbrev JZ(h:Heap)(l1 l2:Addr):Heap:=(WM h l1 l2).push { cls:=.type "zip",data:=.fields #[.none,.bool false,.bool false,.ref (WQ h l1 l2).objs.size,.ref (WN h l1 l2).objs.size] }
theorem aaE(l1 l2:Addr)(xs ys:Array Value):Meets (Builtin.«zip.__new__» ⟨[.type "zip",.ref l1,.ref l2],[]⟩) (λ_ R s=>s.heap.IsList l1 xs/\s.heap.IsList l2 ys/\
   R (.ok (.ret (.ref (WM s.heap l1 l2).objs.size))) { s with heap:=JZ s.heap l1 l2 }):=
 .of_wp λprog w A R s h=>by
  obtain⟨hp,g,d,tk,os⟩:=s;obtain⟨hl1,hl2,h⟩:=h;have hsub:=sub_zip;have hL1:Heap.IsList (Shared.heap ⟨hp,g,d,tk,os⟩) l1 xs:=hl1;have hL2:Heap.IsList (Shared.heap ⟨hp.push { cls:=.type "list_iterator",data:=.fields #[.ref l1,.int 0 0] },g,d,tk,os⟩) l2 ys:=Heap.IsList.push hl2 _
  wp_walk using wpAny_pyIter_list hL1,wpAny_pyIter_list hL2
  exact⟨_,rfl,h⟩
section
variable{prog:Program}{w:World}{A:Around}{E:Value->Shared->Prop}{s:Shared}
theorem Tz{l1 l2:Addr}{xs ys:Array Value}{Q:Value->Shared->Prop}(hl1:s.heap.IsList l1 xs)(hl2:s.heap.IsList l2 ys)
  (h:∀g,IsZip g (s.heap.objs.size+4) (s.heap.objs.size+2) (s.heap.objs.size+3) .none->IsPair g (s.heap.objs.size+2) (.ref s.heap.objs.size) (.ref (s.heap.objs.size+1))->
   IsPair g (s.heap.objs.size+3) .none .none->g.IsListIter s.heap.objs.size l1 0->g.IsListIter (s.heap.objs.size+1) l2 0->g.objs.size=s.heap.objs.size+5->
   (∀c o,s.heap.get? c=some o->g.get? c=some o)->Q (.ref (s.heap.objs.size+4)) { s with heap:=g }) :
  wpAny (model prog w) A (call (.type "zip") [.ref l1,.ref l2]) Q E s:=by
 refine callType_new F.called_zip (by decide) (F.typeCall_zip_2 _ _) (F.newCall_zip_2 _ _) (λobj=>F.args_object_init_3 obj _ _) F.entry_zip_new (aaE l1 l2 xs ys) ⟨hl1,hl2,?_⟩;have z1:(WR s.heap l1).objs.size=s.heap.objs.size+1:=Heap.size_push ..;have z2:(WQ s.heap l1 l2).objs.size=s.heap.objs.size+2:=by rw[Heap.size_push,z1]
 have z3:(WN s.heap l1 l2).objs.size=s.heap.objs.size+3:=by rw[Heap.size_push,z2]
 have z4:(WM s.heap l1 l2).objs.size=s.heap.objs.size+4:=by rw[Heap.size_push,z3]
 have z5:(JZ s.heap l1 l2).objs.size=s.heap.objs.size+5:=by rw[Heap.size_push,z4]
 have g5:(JZ s.heap l1 l2).get? (WM s.heap l1 l2).objs.size=some _:=Heap.get?_push_size _ rfl;have g4:(JZ s.heap l1 l2).get? (WN s.heap l1 l2).objs.size=some _:=Heap.get?_push_of_some _ (Heap.get?_push_size _ rfl);have g3:(JZ s.heap l1 l2).get? (WQ s.heap l1 l2).objs.size=some _:=Heap.get?_push_of_some _ (Heap.get?_push_of_some _ (Heap.get?_push_size _ rfl));have g2:(JZ s.heap l1 l2).get? (WR s.heap l1).objs.size=some _:=Heap.get?_push_of_some _ (Heap.get?_push_of_some _ (Heap.get?_push_of_some _ (Heap.get?_push_size _ rfl)));have g1:(JZ s.heap l1 l2).get? s.heap.objs.size=some _:=Heap.get?_push_of_some _ (Heap.get?_push_of_some _ (Heap.get?_push_of_some _ (Heap.get?_push_of_some _ (Heap.get?_push_size _ rfl))));show _/\_;rw[z2,z3,z4] at g5;rw[z1,z2] at g3;rw[z3] at g4;rw[z1] at g2;rw[z4];exact⟨⟨_,g5,rfl⟩,h _ g5 g3 g4 ⟨_,g1,rfl,rfl⟩ ⟨_,g2,rfl,rfl⟩ z5 λc o x=>Heap.get?_push_of_some _ (Heap.get?_push_of_some _ (Heap.get?_push_of_some _ (Heap.get?_push_of_some _ (Heap.get?_push_of_some _ x))))⟩
end
end ZT
namespace L2
open PySem PySem.Spec PyProof.Rows PySem.Builtin ZT
section
variable{X:Cx}
def abO(K:PySem.W.Frag)(ta:TA):TI:=λσ H R=>ta σ H λvs H1=>∃a1 a2,vs=[.ref a1,.ref a2]/\(∃xs,jT K H1 a1 xs)/\(∃ys,jT K H1 a2 ys)/\R (Y5 K a1 a2) H1
theorem Ni{elts:List Expr}{k:Nat}{tp:Pos}{a b:Expr}{ta:TA}{p pos:Pos}(hg:Gl X "zip")(hm:X.mg "zip" = none)(ha:PA X [a,b] ta)(hs:starEach [a,b] X.env=(false,eval a X.env)::starEach [b] X.env:=by rfl)(hs2:starEach [b] X.env=[(false,eval b X.env)]:=by rfl):PI X (.Tuple elts k tp) (.Call (.Name "zip" p) [a,b] [] pos) (abO X.K ta):=by
 intro pins s σ H R I h;refine Call_ (tZ I hg hm PyProof.Rows.boot_zip (PyProof.Rows.callWith_type1 (gG (ha pos pins s σ H _ I h) λus s1 ⟨vs,H1,I1,r1,q1⟩=>?_) hs (by rw[hs2];rfl)));obtain⟨a1,a2,e,⟨xs,hx⟩,⟨ys,hy⟩,q⟩:=q1;subst e;cases r1 with
 | cons r rr=>
  cases rr with
  | cons r' rr'=>
   cases rr';cases r;cases r';obtain⟨u1,ru1,p1,z1⟩:=I1.list hx;obtain⟨u2,ru2,p2,z2⟩:=I1.list hy;have lt1:a1<s1.heap.objs.size:=by obtain⟨_,e,_⟩:=p1.isList;exact Heap.lt_size e
   have Rp:a2<s1.heap.objs.size:=by obtain⟨_,e,_⟩:=p2.isList;exact Heap.lt_size e
   refine Tz p1.isList p2.isList λg hz hTI hTO i1 i2 hsz hk=>?_;refine wpAny_pyIter_zip hz ?_;have I2:Inv X pins σ H1 { s1 with heap:=g }:=I1.kept (t':=s1.toks) hk;have own:∀b,s1.heap.objs.size<=b->pY X pins H1 b:=λb hb=>I1.SQ hb (I1.hok.fresh hb);generalize hn:s1.heap.objs.size=n at *;have ne:∀{c d:Nat},c<d->(c:Addr)≠d:=λh e=>Nat.lt_irrefl _ (by subst e;exact h);have ne':∀{c d:Nat},d<c->(c:Addr)≠d:=λh e=>Nat.lt_irrefl _ (by subst e;exact h);have D:Apz (n+4) (n+2) (n+3) n (n+1) a1 a2:={
    t1:=ne (by omega),t2:=ne (by omega),t3:=ne (by omega),t4:=ne (by omega)
    b1:=by simp only[List.mem_cons,List.not_mem_nil,or_false,not_or];exact⟨ne' (by omega),ne' (Nat.lt_of_lt_of_le lt1 (by omega))⟩
    b2:=by simp only[List.mem_cons,List.not_mem_nil,or_false,not_or];exact⟨ne' (by omega),ne' (Nat.lt_of_lt_of_le Rp (by omega))⟩
    b3:=by simp only[List.mem_cons,List.not_mem_nil,or_false,not_or];exact⟨ne' (by omega),ne' (Nat.lt_of_lt_of_le lt1 (by omega))⟩
    b4:=by simp only[List.mem_cons,List.not_mem_nil,or_false,not_or];exact⟨ne' (by omega),ne' (Nat.lt_of_lt_of_le Rp (by omega))⟩
    b5:=by simp only[List.mem_cons,List.not_mem_nil,or_false,not_or];exact⟨ne' (by omega),ne' (Nat.lt_of_lt_of_le lt1 (by omega))⟩
    b6:=by simp only[List.mem_cons,List.not_mem_nil,or_false,not_or];exact⟨ne' (by omega),ne' (Nat.lt_of_lt_of_le Rp (by omega))⟩
    b7:=by simp only[List.mem_cons,List.not_mem_nil,or_false,not_or];exact⟨ne' (by omega),ne' (Nat.lt_of_lt_of_le lt1 (by omega))⟩
    b8:=by simp only[List.mem_cons,List.not_mem_nil,or_false,not_or];exact⟨ne (by omega),ne' Rp⟩
    c1:=ne lt1,c2:=ne (Nat.lt_of_lt_of_le Rp (by omega)) }
   refine⟨n+4,[n+4,n+2,n+3,n,n+1],_,_,H1,rfl,I2,HX _ _ _ _ _ a1 a2 D,⟨hz,hTI,⟨_,_,hTO⟩,i1,i2⟩,λb hb=>own b ?_,q⟩;simp only[List.mem_cons,List.not_mem_nil,or_false] at hb;rcases hb with rfl|rfl|rfl|rfl|rfl
   ·exact Nat.le_add_right _ _
   ·exact Nat.le_add_right _ _
   ·exact Nat.le_add_right _ _
   ·exact Nat.le_refl _
   ·exact Nat.le_add_right _ _
end
end L2
namespace Ev
open PySem PySem.Spec PyProof.Rows L2 PySem.Builtin
section
variable{X:Cx}{C:Cfg}{pos:Pos}{e e2:Expr}
def uT(a:cJ):cJ:=λenv=>bindR (a env) λds aD=>match ds with
 | [.lst x,.lst y]=>.ok (Es x y) aD
 | _=>.stuck
theorem Dw{elts:List Expr}{k:Nat}{tp p:Pos}{ea:cJ}(G:Good X C)(hm:X.mg "zip" = none)(ha:Em X C [e,e2] ea)(hg:Gl X "zip":=by rfl)(hs:starEach [e,e2] X.env=(false,eval e X.env)::starEach [e2] X.env:=by rfl)(hs2:starEach [e2] X.env=[(false,eval e2 X.env)]:=by rfl):Hw X C (.Tuple elts k tp) (.Call (.Name "zip" p) [e,e2] [] pos) (uT ea):=by
 have h:=Ni (elts:=elts) (k:=k) (tp:=tp) (p:=p) (pos:=pos) hg hm ha hs hs2;rw[G.K] at h;refine h.imp λσ H R hq=>?_;obtain⟨Pr,F,env,env',ds,r,e,q⟩:=hq;obtain⟨as,aD,e1,e2⟩:=aO e;refine⟨Pr,F,env,aD,as,r,e1,λvs H1 F1 r1 s1 p1=>?_⟩;split at e2
 ·rename_i xs ys;cases e2;obtain⟨v,w,rfl,p2,v2,w2,rfl,p3,p4⟩:=p1;cases p4;obtain⟨z1,a1,us,rfl,h1,h2⟩:=p2;obtain⟨z2,a2,ws,rfl,h3,h4⟩:=p3;have l1:=h2.length;have l2:=h4.length;refine⟨a1,a2,rfl,⟨us,jT.of (r1.fr _ _ h1)⟩,⟨ws,jT.of (r1.fr _ _ h3)⟩,q _ H1 F1 r1 s1 λi H2 s2=>⟨λ_ ei=>⟨us,ws,jT.of (s2 _ _ h1),jT.of (s2 _ _ h3),?_⟩,λd hd=>?_⟩⟩
  ·have:(Es xs ys).length=min xs.length ys.length:=by unfold Es;rw[List.length_map,List.length_zip]
   omega
  ·unfold Es at hd;rw[List.getElem?_map] at hd;obtain⟨⟨c,j⟩,hc,rfl⟩:=Option.map_eq_some_iff.mp hd;obtain⟨g1,g2⟩:=List.getElem?_zip_eq_some.mp hc;obtain⟨v1,k1,k2⟩:=CT h2 g1;obtain⟨v2,k3,k4⟩:=CT h4 g2;refine⟨⟨us,ws,v1,v2,jT.of (s2 _ _ h1),jT.of (s2 _ _ h3),k1,k3⟩,λy H3 hy=>.inr ?_⟩;obtain⟨p,x',y',m1,m2,m3,rfl,rfl⟩:=hy;have n1:=m1 us (jT.of (s2 _ _ h1));have n2:=m2 ws (jT.of (s2 _ _ h3));rw[k1] at n1;rw[k3] at n2;cases n1;cases n2;exact⟨p,_,_,m3,rfl,rfl,rfl,by show 2<=sizeLine;decide,_,_,rfl,k2,_,_,rfl,k4,rfl⟩
 ·cases e2
end
namespace S
section
variable{X:Cx}{C:Cfg}{pos p p2 pos2:Pos}{e:Expr}{a:Ev}{e2:Expr}
theorem JD(G:Good X C)(h1:X.mg "list" = none)(h2:X.mg "range" = none)(ha:SX X C e a)(g1:Gl X "list":=by rfl)(g2:Gl X "range":=by rfl)(he:tQ e X.env:=by rfl)(he2:starEach [.Call (.Name "range" p2) [e] [] pos2] X.env=(false,eval (.Call (.Name "range" p2) [e] [] pos2) X.env)::starEach [] X.env:=by rfl):X3 X C (.Call (.Name "list" p) [.Call (.Name "range" p2) [e] [] pos2] [] pos) (iI zf a):=⟨Ev.JD G h1 h2 ha.u g1 g2 he he2⟩
theorem Dw{elts:List Expr}{k:Nat}{tp p:Pos}{ea:cJ}(G:Good X C)(hm:X.mg "zip" = none)(ha:Pg X C [e,e2] ea)(hg:Gl X "zip":=by rfl)(hs:starEach [e,e2] X.env=(false,eval e X.env)::starEach [e2] X.env:=by rfl)(hs2:starEach [e2] X.env=[(false,eval e2 X.env)]:=by rfl):Uq X C (.Tuple elts k tp) (.Call (.Name "zip" p) [e,e2] [] pos) (uT ea):=⟨Ev.Dw G hm ha.u hg hs hs2⟩
end
end S
open PySem L2
section
variable{α β:Type}{g g2:GV}{ux:cJ}{c:dJ}{e:Ev}(enc:α->D)(ea:α->Env)(l2:α->List β)(Am:α->β->D)(eb:α->β->Env)(p:α->β->Bool)(out:α->β->D)(env:Env)(m k:Nat)
theorem ad6(a:α)(hc:∀b∈l2 a,(eb a b).length=k/\(∀v:Env,v.length=k->g2 (Am a b) (env++(ea a++v))=some (env++(ea a++eb a b)))/\c (env++(ea a++eb a b)) = .ok (p a b) (env++(ea a++eb a b))/\(p a b=true->e (env++(ea a++eb a b)) = .ok (out a b) (env++(ea a++eb a b))))(v:Env)(hv:v.length=k) :
  ∃v',v'.length=k/\uw g2 c e ((l2 a).map (Am a)) (env++(ea a++v)) = .ok (((l2 a).filter (p a)).map (out a)) (env++(ea a++v')):=by
 have:=Rt (g:=g2) (c:=c) (e:=e) (Am a) (eb a) (p a) (out a) (env++ea a) k (l2 a) v hv (λb hb=>by
  obtain⟨h1,h2,h3,h4⟩:=hc b hb;simp only[List.append_assoc];exact⟨h1,h2,h3,h4⟩)
 simpa only[List.append_assoc] using this
theorem Ru:∀(l:List α),(∀a∈l,(ea a).length=m/\(∀u v:Env,u.length=m->v.length=k->g (enc a) (env++(u++v))=some (env++(ea a++v)))/\(∀v:Env,v.length=k->ux (env++(ea a++v)) = .ok ((l2 a).map (Am a)) (env++(ea a++v)))/\
   ∀b∈l2 a,(eb a b).length=k/\(∀v:Env,v.length=k->g2 (Am a b) (env++(ea a++v))=some (env++(ea a++eb a b)))/\c (env++(ea a++eb a b)) = .ok (p a b) (env++(ea a++eb a b))/\(p a b=true->e (env++(ea a++eb a b)) = .ok (out a b) (env++(ea a++eb a b))))->
  ∀(u v:Env),u.length=m->v.length=k->∃u' v',u'.length=m/\v'.length=k/\JM g ux g2 c e (l.map enc) (env++(u++v)) = .ok (l.flatMap λa=>((l2 a).filter (p a)).map (out a)) (env++(u'++v'))
 | [],_,u,v,hu,hv=>⟨u,v,hu,hv,rfl⟩
 | a::l,h,u,v,hu,hv=>by
  obtain⟨h1,h2,h3,h4⟩:=h a List.mem_cons_self;obtain⟨v1,hv1,e1⟩:=ad6 (g2:=g2) (c:=c) (e:=e) ea l2 Am eb p out env k a h4 v hv;obtain⟨u',v',hu',hv',e2⟩:=Ru l (λa ha=>h a (List.mem_cons_of_mem _ ha)) (ea a) v1 h1 hv1;refine⟨u',v',hu',hv',?_⟩;rw[List.map_cons];unfold JM;rw[h2 u v hu hv];show bindR (ux (env++(ea a++v))) _=_;rw[h3 v hv,bR,e1,bR,e2,bR,List.flatMap_cons]
end
theorem Xn{α β:Type}{lo n:Nat}{it ux:cJ}{g g2:GV}{c:dJ}{e:Ev}{env aD:Env}(m k:Nat)(l:List α)(enc:α->D)(ea:α->Env)(l2:α->List β)(Am:α->β->D)(eb:α->β->Env)(p:α->β->Bool)(out:α->β->D)
  (hit:it env = .ok (l.map enc) aD) (hlo:aD.length=lo) (hn:n=lo+(m+k))
  (h:∀a∈l,(ea a).length=m/\(∀u v:Env,u.length=m->v.length=k->g (enc a) (aD++(u++v))=some (aD++(ea a++v)))/\(∀v:Env,v.length=k->ux (aD++(ea a++v)) = .ok ((l2 a).map (Am a)) (aD++(ea a++v)))/\
   ∀b∈l2 a,(eb a b).length=k/\(∀v:Env,v.length=k->g2 (Am a b) (aD++(ea a++v))=some (aD++(ea a++eb a b)))/\c (aD++(ea a++eb a b)) = .ok (p a b) (aD++(ea a++eb a b))/\(p a b=true->e (aD++(ea a++eb a b)) = .ok (out a b) (aD++(ea a++eb a b))))
  (hz:(l.flatMap λa=>((l2 a).filter (p a)).map (out a)).length<=sizeLine):wW lo n it g ux g2 c e env = .ok (.lst (l.flatMap λa=>((l2 a).filter (p a)).map (out a))) aD:=by
 obtain⟨u',v',hu',hv',e1⟩:=Ru (g:=g) (g2:=g2) (ux:=ux) (c:=c) (e:=e) enc ea l2 Am eb p out aD m k l h (List.replicate m none) (List.replicate k none) List.length_replicate List.length_replicate;have er:List.replicate m (none:Option (Bool×D))++List.replicate k none=List.replicate (n - lo) none:=by rw[hn,Nat.add_sub_cancel_left,List.replicate_append_replicate]
 rw[er] at e1;unfold wW;rw[hit];show(if aD.length=lo then _ else _)=_;rw[if_pos hlo,e1,bR,if_pos hz,<-hlo,List.take_left]
theorem GX(i:Nat):∀r:List Nat,Lg (.int (i:Int)) (r.map λ(k:Nat)=>D.int (k:Int))=some (decide (i∈r))
 | []=>rfl
 | k::r=>by
  rw[List.map_cons];unfold Lg;rw[GX i r];show some (((k:Int) == (i:Int))||decide (i∈r))=_
  congr 1
  rw[Bool.eq_iff_iff];simp only[Bool.or_eq_true,beq_iff_eq,decide_eq_true_eq,List.mem_cons];constructor
  ·rintro(h|h)
   ·exact .inl (by omega)
   ·exact .inr h
  ·rintro(h|h)
   ·exact .inl (by omega)
   ·exact .inr h
theorem wU(i:Nat)(r:List Nat):qO (.int (i:Int)) (.tup (r.map λ(k:Nat)=>D.int (k:Int)))=some (.bl (!decide (i∈r))):=by
 unfold qO xO;show(Option.map (λb=>D.bl (!b)) (Lg (.int (i:Int)) (r.map λ(k:Nat)=>D.int (k:Int)))).or _=_;rw[GX]
 rfl
def aR(r:List Nat):D:=.tup (r.map λ(k:Nat)=>D.int (k:Int))
def aes(ds:List D)(e:Env):R (List D):=match ds with
 | [.str x]=>.ok (qU x) e
 | [.tup xs]=>.ok (Tj xs) e
 | _=>.stuck
theorem abo(xs:List D)(e:Env):aes [.tup xs] e = .ok (Tj xs) e:=nr rfl
theorem Oq(a:cJ)(env:Env):Xp a env=bindR (a env) aes:=nr rfl
def aea(ds:List D)(e:Env):R (List D):=match ds with
 | [.lst x,.lst y]=>.ok (Es x y) e
 | _=>.stuck
theorem aaS(x y:List D)(e:Env):aea [.lst x,.lst y] e = .ok (Es x y) e:=nr rfl
theorem Ol(a:cJ)(env:Env):uT a env=bindR (a env) aea:=nr rfl
theorem ab1:oh (.int 1)=some (.int (-1)):=nr rfl
open PySem PySem.Spec PySem.W PySem.Calls PyProof.Rows L2
def FA(K:Fg)(x:Str)(st:Stmt):Prop:=∃(f:Addr) (oc kV doc pm cdv ct:Value) (od an:Option Addr) (osl:Array (Option Value)),PySem.W.nsIn K mainGlobals x=some (some (.ref f))/\
 K.lookup f=some ⟨oc,od,.func (PySem.W.fnOf x x (lC st) (gj st) (aN st) .none kV doc pm an cdv ct),osl⟩/\PySem.W.codeIn K cdv x=true/\PySem.W.keepIn K (.ref f)=true
theorem FA.mk{K:Fg}{x:Str}{st:Stmt}{f:Addr}{oc kV doc pm cdv ct:Value}{od an:Option Addr}{osl:Array (Option Value)}(a:PySem.W.nsIn K mainGlobals x=some (some (.ref f)))
  (l:K.lookup f=some ⟨oc,od,.func (PySem.W.fnOf x x (lC st) (gj st) (aN st) .none kV doc pm an cdv ct),osl⟩) (c:PySem.W.codeIn K cdv x=true) (k:PySem.W.keepIn K (.ref f)=true):FA K x st:=
 ⟨f,oc,kV,doc,pm,cdv,ct,od,an,osl,a,l,c,k⟩
theorem FA.at{K:Fg}{h:Heap}{mg:Str->Option Value}{x:Str}{st:Stmt}{ps:List Str}(X:K.In h)(G:h.Ns mainGlobals mg)(F:FA K x st)
  (b:∀{kV doc pm:Value} {an:Option Addr} {cdv ct:Value} (us:List Value),us.length=ps.length->bindArgs (PySem.W.fnOf x x (lC st) (gj st) (aN st) .none kV doc pm an cdv ct) ⟨us,[]⟩=pure (ps.zip us)):cU K mg x st ps:=by
 obtain⟨f,oc,kV,doc,pm,cdv,ct,od,an,osl,a,l,c,k⟩:=F;exact funAt X G a l c k (λ_ _ _ _ _ _ us hl=>b us hl)
theorem FA.law{P:Program}{w:World}{K:Fg}{h:Heap}{mg:Str->Option Value}{fa:Addr}{x y:Str}{st:Stmt}{k:Nat}{g:List D->Option D}(X:K.In h)(G:h.Ns mainGlobals mg)(hfa:mg x=some (.ref fa))(F:FA K x st)
  (b:∀{kV doc pm:Value} {an:Option Addr} {cdv ct:Value} (s:Shared) (v:Value),BindsTo s (PySem.W.fnOf x x (lC st) (gj st) (aN st) .none kV doc pm an cdv ct) ⟨[v],[]⟩ [(y,v)])
  (q:∀{fd:FuncData} (base:Heap),Ui K x x st fa fd->ph P w K mg base Ep k fa fd [y] (oR K 1 g)) :
  ∃fd:FuncData,(∀(s:Shared) (v:Value),BindsTo s fd ⟨[v],[]⟩ [(y,v)])/\∀base:Heap,K.In base->base.Ns mainGlobals mg->ph P w K mg base Ep k fa fd [y] (oR K 1 g):=by
 obtain⟨f,oc,kV,doc,pm,cdv,ct,od,an,osl,a,l,c,k⟩:=F;have e:=hfa.symm.trans (PySem.W.mg_of X G a);cases e;exact⟨_,b,λbase _ _=>q base (J4 (st:=st) l c k)⟩
end Ev
namespace SI
open PySem PySem.Spec PyProof.Rows L2 PySem.Builtin
def Us(xs:Array Nat):Prop:=∀i j,i<j->j<xs.size->xs.getD i 0<xs.getD j 0
theorem G5{xs:Array Nat}{i:Nat}(a b:Nat)(h:i<xs.size):xs.getD i a=xs.getD i b:=by simp[Array.getD,h]
theorem zF{xs:Array Nat}{j:Nat}(R:Us xs):∀(fuel lo hi:Nat),lo<=hi->hi<=xs.size->hi - lo<=fuel->(∀i,i<lo->xs.getD i 0<j)->(∀i,hi<=i->i<xs.size->j<=xs.getD i 0)->
  SetTable.below.go xs j fuel lo hi<=xs.size/\(∀i,i<SetTable.below.go xs j fuel lo hi->xs.getD i 0<j)/\∀i,SetTable.below.go xs j fuel lo hi<=i->i<xs.size->j<=xs.getD i 0
 | 0,lo,hi,h1,h2,h3,h4,h5=>by
  unfold SetTable.below.go;exact⟨by omega,h4,λi a b=>h5 i (by omega) b⟩
 | fuel+1,lo,hi,h1,h2,h3,h4,h5=>by
  unfold SetTable.below.go;split
  ·rename_i hl;dsimp only;split
   ·rename_i hm;rw[G5 j 0 (by omega)] at hm;refine zF R fuel _ _ (by omega) h2 (by omega) (λi hq=>?_) h5;by_cases c:i=(lo+hi) / 2
    ·rw[c];exact hm
    ·exact Nat.lt_trans (R i _ (by omega) (by omega)) hm
   ·rename_i hm;rw[G5 j 0 (by omega)] at hm;refine zF R fuel _ _ (by omega) (by omega) (by omega) h4 (λi hq hs=>?_);by_cases c:i=(lo+hi) / 2
    ·rw[c];omega
    ·have:=R ((lo+hi) / 2) i (by omega) hs;omega
  ·exact⟨by omega,h4,λi a b=>h5 i (by omega) b⟩
theorem zE{xs:Array Nat}(R:Us xs)(j:Nat):SetTable.below xs j<=xs.size/\(∀i,i<SetTable.below xs j->xs.getD i 0<j)/\∀i,SetTable.below xs j<=i->i<xs.size->j<=xs.getD i 0:=
 zF R xs.size 0 xs.size (Nat.zero_le _) (Nat.le_refl _) (Nat.le_refl _) (λi h=>absurd h (Nat.not_lt_zero _)) λi h hs=>absurd hs (Nat.not_lt.mpr h)
theorem below_at{xs:Array Nat}(R:Us xs){j p:Nat}(hp:p<=xs.size)(h1:∀i,i<p->xs.getD i 0<j)(h2:p<xs.size->j<=xs.getD p 0):SetTable.below xs j=p:=by
 obtain⟨b1,b2,b3⟩:=zE R j;rcases Nat.lt_trichotomy (SetTable.below xs j) p with h|h|h
 ·have:=h1 _ h;have:=b3 _ (Nat.le_refl _) (by omega);omega
 ·exact h
 ·have:=b2 p h;have:=h2 (by omega);omega
theorem Aj{α:Type}(xs:Array α)(p:Nat)(x:α)(h:p<=xs.size):(SetTable.insertAt xs p x).size=xs.size+1:=by unfold SetTable.insertAt;simp;omega
theorem uO(xs:Array Nat)(p x:Nat)(h:p<=xs.size)(i:Nat)(hi:i<xs.size+1):(SetTable.insertAt xs p x).getD i 0=if i<p then xs.getD i 0 else if i=p then x else xs.getD (i - 1) 0:=by
 have e:(SetTable.insertAt xs p x).getD i 0=((xs.toList.take p++[x])++xs.toList.drop p).getD i 0:=by
  have:(SetTable.insertAt xs p x).toList=(xs.toList.take p++[x])++xs.toList.drop p:=by unfold SetTable.insertAt;simp[Array.toList_extract,List.extract];exact List.take_of_length_le (by rw[List.length_drop,Array.length_toList];exact Nat.le_refl _)
  rw[<-this,Array.getD_eq_getD_getElem?,List.getD_eq_getElem?_getD,Array.getElem?_toList]
 rw[e,List.getD_eq_getElem?_getD];have hl:(xs.toList.take p).length=p:=by simp;omega
 by_cases c:i<p
 ·rw[if_pos c,List.append_assoc,List.getElem?_append_left (by omega),List.getElem?_take_of_lt c,Array.getElem?_toList,Array.getD_eq_getD_getElem?]
 ·rw[if_neg c];by_cases c2:i=p
  ·rw[if_pos c2,List.append_assoc,List.getElem?_append_right (by omega),hl,c2,Nat.sub_self]
   rfl
  ·rw[if_neg c2,List.getElem?_append_right (by rw[List.length_append,hl,List.length_singleton];omega),List.length_append,hl,List.length_singleton,List.getElem?_drop,Array.getElem?_toList,Array.getD_eq_getD_getElem?,show p+(i - (p+1))=i - 1 by omega]
theorem Us.insert{xs:Array Nat}(R:Us xs){j:Nat}(hj:∀i,i<xs.size->xs.getD i 0≠j):Us (SetTable.insertAt xs (SetTable.below xs j) j):=by
 obtain⟨b1,b2,b3⟩:=zE R j;generalize SetTable.below xs j=p at *;intro a b hab hb;rw[Aj _ _ _ b1] at hb;rw[uO _ _ _ b1 a (by omega),uO _ _ _ b1 b (by omega)];by_cases ca:a<p
 ·rw[if_pos ca];by_cases cb:b<p
  ·rw[if_pos cb];exact R a b hab (by omega)
  ·rw[if_neg cb];by_cases cb2:b=p
   ·rw[if_pos cb2];exact b2 a ca
   ·rw[if_neg cb2];exact R a (b - 1) (by omega) (by omega)
 ·rw[if_neg ca,if_neg (show ¬b<p by omega),if_neg (show b≠p by omega)];by_cases ca2:a=p
  ·rw[if_pos ca2];have h1:=b3 (b - 1) (by omega) (by omega);have h2:=hj (b - 1) (by omega);omega
  ·rw[if_neg ca2];exact R (a - 1) (b - 1) (by omega) (by omega)
theorem yK{t:SetTable}{hashAt:Nat->Int}{h:Int}(hd:t.dummies = #[]):∀(n:Nat) (p:SetTable.Probe) (j:Nat) (d:Option Nat),p.dummy=none->SetTable.probe.go t hashAt h n p=some (.empty j d)->d=none/\t.slot j = .empty
 | 0,p,j,d,_,e=>by unfold SetTable.probe.go at e;cases e
 | n+1,p,j,d,hp,e=>by
  unfold SetTable.probe.go at e;cases hs:t.slot p.j with
  | empty=>
   rw[hs] at e;cases e;exact⟨hp,hs⟩
  | dummy=>
   exfalso;unfold SetTable.slot at hs;dsimp only at hs;split at hs
   ·cases hs
   ·split at hs
    ·rename_i h2;rw[hd] at h2;unfold SetTable.has at h2;simp at h2
    ·cases hs
  | live i=>
   rw[hs] at e;dsimp only at e;split at e
   ·cases e
   ·refine yK hd n _ j d ?_ e;unfold SetTable.advance;split
    ·exact hp
    ·exact hp
theorem W9{t:SetTable}{h:Int}(hd:t.dummies = #[]){j:Nat}{b:Bool}(e:t.freeSlot h=some (j,b)):b=false/\t.place[SetTable.below t.place j]? ≠ some j:=by
 unfold SetTable.freeSlot at e;split at e
 ·rename_i j' d hp;obtain⟨rfl,hs⟩:=yK hd _ _ _ _ rfl hp;cases e;refine⟨rfl,λz=>?_⟩
  change t.place[SetTable.below t.place j']? = some j' at z
  unfold SetTable.slot at hs;dsimp only at hs;rw[z] at hs;simp at hs
 ·cases e
structure Pl(t:SetTable):Prop where
 dm:t.dummies = #[]
 ri:Us t.place
theorem Pl.put{t:SetTable}(p:Pl t){j:Nat}(h:t.place[SetTable.below t.place j]? ≠ some j):Pl (t.put j).1:=by
 refine⟨?_,?_⟩
 ·show(if SetTable.has t.dummies j then _ else t.dummies) = #[];rw[p.dm];unfold SetTable.has;simp
 ·show Us (SetTable.insertAt t.place (SetTable.below t.place j) j);refine p.ri.insert λi hi z=>h ?_;obtain⟨b1,b2,b3⟩:=zE p.ri j;have:SetTable.below t.place j=i:=by
   rcases Nat.lt_trichotomy (SetTable.below t.place j) i with c|c|c
   ·have h1:=b3 _ (Nat.le_refl _) (by omega);have h2:=p.ri _ i c hi;omega
   ·exact c
   ·have:=b2 i c;omega
  rw[this];rw[Array.getD_eq_getD_getElem?] at z;rw[Array.getElem?_eq_getElem hi] at z ⊢
  simpa using z
theorem M6(n:Nat):Us (Array.range n):=by
 intro i j h1 h2;simp at h2;have h3:i<n:=by omega
 simp[Array.getD,h2,h3,h1]
theorem Pl.stand{t:SetTable}(n:Nat):Pl (t.standIn n):=⟨rfl,M6 n⟩
theorem Pl.V4{t:SetTable}(p:Pl t)(n:Nat):Pl (t.orStandIn n):=by
 unfold SetTable.orStandIn;split
 ·exact p
 ·exact Pl.stand n
theorem Pl.lay{t:SetTable}(p:Pl t)(es:Array (Int×Value))(h:Int)(x:Value):Pl (layNew t es h x).2.1:=by
 unfold layNew;split
 ·rename_i sl wd e;exact(p.put (W9 p.dm e).2).V4 _
 ·exact Pl.stand _
theorem Qq{l:List Nat}(h:l.Pairwise (·< ·)):Us l.toArray:=by
 intro i j h1 h2;simp at h2;have h3:i<l.length:=by omega
 have:=List.pairwise_iff_getElem.mp h i j h3 h2 h1
 simpa[Array.getD,h2,h3] using this
theorem Pl.adn{t:SetTable}(es:Array (Int×Value))(n:Nat):Pl (relayAll t es n).2.1:=by
 unfold relayAll;split
 ·rename_i t' order e;dsimp only;split
  ·unfold SetTable.relaid SetTable.laid at e;cases h1:SetTable.layClean (SetTable.sizeAbove n - 1) (es.map (·.1)) with
   | none=>rw[h1] at e;cases e
   | some ow=>
    rw[h1] at e;injection e with e
    injection e with e _
    subst e;refine⟨rfl,Qq ?_⟩;generalize SetTable.sizeAbove n - 1+1=m;have:∀l:List Nat,l.Pairwise (·< ·)->((l.filterMap λj=>(ow.getD j none).map (j,·)).map (·.1)).Pairwise (·< ·):=by
     intro l hl;have e2:(l.filterMap λj=>(ow.getD j none).map (j,·)).map (·.1)=l.filter λj=>(ow.getD j none).isSome:=by
      clear hl
      induction l with
      | nil=>rfl
      | cons a l ih=>
       rw[List.filterMap_cons,List.filter_cons];cases ow.getD a none with
       | none=>simpa using ih
       | some v=>exact congrArg (a :: ·) ih
     rw[e2];exact hl.filter _
    exact this _ List.pairwise_lt_range
  ·exact Pl.stand _
 ·exact Pl.stand _
open SX (led vY rG o4 mH sU rE fresh o7 o5 mK byText qX lg Er oH mF oU oW)
def wF(ys:List Int)(x:Int):List Int:=if x∈ys then ys else ys++[x]
def Ba(zs:List Int):List Int:=zs.foldl wF []
theorem T6(ys:List Int)(x:Int):(wF ys x).length<=ys.length+1:=by
 unfold wF;split
 ·omega
 ·simp
theorem PB(zs:List Int):∀ys:List Int,(zs.foldl wF ys).length<=ys.length+zs.length:=by
 induction zs with
 | nil=>intro ys;exact Nat.le_refl _
 | cons z zs ih=>intro ys;rw[List.foldl_cons,List.length_cons];have:=ih (wF ys z);have:=T6 ys z;omega
structure TOk(P:Program)(w:World)(es:Array (Int×Value))(t:SetTable)(ys:List Int):Prop where
 el:ElemsOf (intKind P w) es.toList
 tx:∃ss:List Int,IntsAre (es.toList.map (·.2)) ss/\ss.Perm ys
 fit:t.fits es.size=true
 ld:t.led=led w
 pl:Pl t
def pU(P:Program)(w:World)(h:Heap)(a:Addr)(ys:List Int):Prop:=
 ∃o es ep t,h.get? a=some o/\o.ExactSet/\o.data = .set es ep t/\TOk P w es t ys
theorem pU.keep{P:Program}{w:World}{h h':Heap}{a:Addr}{ys:List Int}(x:pU P w h a ys)(k:∀o,h.get? a=some o->h'.get? a=some o):pU P w h' a ys:=
 let ⟨o,es,ep,t,e,r⟩:=x;⟨o,es,ep,t,k o e,r⟩
theorem GQ{vs:List Value}{ss:List Int}(h:IntsAre vs ss):vs.length=ss.length:=by
 induction h with
 | nil=>rfl
 | cons _ _ _ ih=>simp[ih]
theorem Sg{vs:List Value}{ss:List Int}(h:IntsAre vs ss):∀v∈vs,∃x t,v = .int x t/\x∈ss:=by
 induction h with
 | nil=>intro v hv;cases hv
 | cons y t _ ih=>
  intro v hv;rcases List.mem_cons.mp hv with rfl|hv
  ·exact⟨y,t,rfl,List.mem_cons_self⟩
  ·obtain⟨x,t,e,m⟩:=ih v hv;exact⟨x,t,e,List.mem_cons_of_mem _ m⟩
theorem Ob{vs:List Value}{ss:List Int}(h:IntsAre vs ss):∀x∈ss,∃t,Value.int x t∈vs:=by
 induction h with
 | nil=>intro x hx;cases hx
 | cons y t _ ih=>
  intro x hx;rcases List.mem_cons.mp hx with rfl|hx
  ·exact⟨t,List.mem_cons_self⟩
  ·obtain⟨t,m⟩:=ih x hx;exact⟨t,List.mem_cons_of_mem _ m⟩
theorem ints_app{vs us:List Value}{ss rs:List Int}(h:IntsAre vs ss)(g:IntsAre us rs):IntsAre (vs++us) (ss++rs):=by
 induction h with
 | nil=>exact g
 | cons y t _ ih=>exact .cons y t ih
theorem rH{vs us:List Value}(p:us.Perm vs):∀{ss:List Int},IntsAre vs ss->∃rs,IntsAre us rs/\rs.Perm ss:=by
 induction p with
 | nil=>intro ss h;exact⟨ss,h,.rfl⟩
 | cons x _ ih=>
  intro ss h;cases h with
  | cons y t h=>
   obtain⟨rs,h1,h2⟩:=ih h;exact⟨y::rs,.cons y t h1,h2.cons y⟩
 | swap x y l=>
  intro ss h;cases h with
  | cons a t h=>cases h with
   | cons b u h=>exact⟨b::a::_,.cons b u (.cons a t h),.swap _ _ _⟩
 | trans _ _ ih1 ih2=>
  intro ss h;obtain⟨rs,h1,h2⟩:=ih2 h;obtain⟨qs,h3,h4⟩:=ih1 h1;exact⟨qs,h3,h4.trans h2⟩
theorem TOk.size{P:Program}{w:World}{es:Array (Int×Value)}{t:SetTable}{ys:List Int}(x:TOk P w es t ys):es.size=ys.length:=by obtain⟨ss,h1,h2⟩:=x.tx;rw[<-h2.length_eq,<-GQ h1,List.length_map,Array.length_toList]
section
variable{P:Program}{w:World}{A:Around}{E:Value->Shared->Prop}{s:Shared}{a:Addr}
theorem store{o:Obj}{es es':Array (Int×Value)}{ep:Nat}{t t':SetTable}{ys:List Int}{Q:Unit->Shared->Prop}(ho:s.heap.get? a=some o)(hx:o.ExactSet)(hd:o.data = .set es ep t)(k:TOk P w es' t' ys)(hz:ys.length<scanBound)
  (h:∀g o',Heap.SameBut a s.heap g->g.get? a=some o'->o'.ExactSet->o'.data = .set es' (ep+1) t'->Q () { s with heap:=g }):wpAny (model P w) A (storeSet a es' t') Q E s:=by
 have hb:es'.size<scanBound:=by rw[k.size];exact hz
 refine wpAny_storeSet_of ho hd ?_ (fits_of_scanBound hb);have e:=Heap.get?_update_self (Obj.putSet es' t') ho (by rw[putSet_of es' t' hd];rfl);rw[putSet_of es' t' hd] at e;exact h _ _ (Heap.SameBut.update s.heap a _) e hx rfl
theorem O6{k:Int}{tk:Tok}{o:Obj}{es:Array (Int×Value)}{ep:Nat}{t:SetTable}{ys:List Int}{Q:Bool->Shared->Prop}(ho:s.heap.get? a=some o)(hx:o.ExactSet)(hd:o.data = .set es ep t)(x:TOk P w es t ys)(hz:ys.length+1<scanBound)
  (h:∀g b,Heap.SameBut a s.heap g->pU P w g a (wF ys k)->Q b { s with heap:=g }):wpAny (model P w) A (setAddHashed a (.int k tk) ((intKind P w).hash k)) Q E s:=by
 have hk:(intKind P w).is k (.int k tk)=true:=intKind_is P w k tk;have hsc:(Value.int k tk).scannable=true:=rfl;have hb:es.size<scanBound:=by rw[x.size];omega
 unfold setAddHashed setAddHashedIn;refine wpAny_holding (wpAny_bind (wpAny_setState_of ho hd x.fit ?_));dsimp only;rw[if_pos (byScan_of hsc hb x.el)];unfold setAddByScan;refine wpAny_bind (wpAny_bind (wpAny_rule (wpAny_bind (wpAny_setScan_of hk ho hd x.fit x.el ?_))));obtain⟨ss,s1,s2⟩:=x.tx;cases hr:es.toList.findIdx? (λe=>(intKind P w).is k e.2) with
 | some j=>
  dsimp only;obtain⟨hj,hpj,_⟩:=List.findIdx?_eq_some_iff_getElem.mp hr;refine wpAny_pure (wpAny_pure ?_);have hm:k∈ys:=by obtain⟨y,u,e1,e2⟩:=Sg s1 (es.toList[j].2) (List.mem_map.mpr ⟨_,List.getElem_mem hj,rfl⟩);rw[e1] at hpj;have:k=y:=(intKind P w).inj _ _ _ hpj (intKind_is P w y u);subst this;exact s2.mem_iff.mp e2
  have:=h s.heap false (Heap.SameBut.refl a s.heap) (by rw[wF,if_pos hm];exact⟨o,es,ep,t,ho,hx,hd,x⟩);cases s;exact this
 | none=>
  dsimp only;have hm:k ∉ ys:=λz=>by
   obtain⟨u,hu⟩:=Ob s1 k (s2.mem_iff.mpr z);obtain⟨e,he,e2⟩:=List.mem_map.mp hu;have:=List.findIdx?_eq_none_iff.mp hr e he;rw[e2,intKind_is] at this;cases this
  have hp:=layNew_perm t es ((intKind P w).hash k) (.int k tk);have hf:=layNew_fits t es ((intKind P w).hash k) (.int k tk);have hl:=rG t es ((intKind P w).hash k) (.int k tk);have hpp:=x.pl.lay es ((intKind P w).hash k) (.int k tk);generalize layNew t es ((intKind P w).hash k) (.int k tk)=L at hp hf hl hpp ⊢;obtain⟨e1,t1,wd,gv⟩:=L;dsimp only at hp hf hl hpp ⊢;rw[Array.toList_push] at hp;have hel:ElemsOf (intKind P w) e1.toList:=(x.el.push hk hsc).perm hp;have htx:∃ss:List Int,IntsAre (e1.toList.map (·.2)) ss/\ss.Perm (ys++[k]):=by have h1:=ints_app s1 (.cons k tk .nil);obtain⟨rs,h2,h3⟩:=rH (hp.map (·.2)) (by rw[List.map_append];exact h1);exact⟨rs,h2,h3.trans (s2.append_right [k])⟩
  have hxy:wF ys k=ys++[k]:=by rw[wF,if_neg hm]
  have hyz:(ys++[k]).length<scanBound:=by rw[List.length_append];exact hz
  refine wpAny_bind (sU _ ?_)
  /- the table that is laid down -/
  have hend:∀t2:SetTable,t2.fits e1.size=true->t2.led=led w->Pl t2->wpAny (model P w) A (do
    storeSet a e1 t2
    if (!wd&&t2.tooFull)=true then do
      (match (relayAll t2 e1 (SetTable.grown e1.size)).2.2 with|true=>rule "set.scan.the-table-gave-way" | false=>pure ())
      storeSet a (relayAll t2 e1 (SetTable.grown e1.size)).1 (relayAll t2 e1 (SetTable.grown e1.size)).2.1
      pure (some true)
     else pure (some true)) (λr s'=>wpAny (model P w) A (match r with|some added=>pure added|none=>setAddHashedIn a (.int k tk) ((intKind P w).hash k) 99999) Q E s') E s:=by
   intro t2 f2 l2 p2;have k2:TOk P w e1 t2 (ys++[k]):=⟨hel,htx,f2,l2,p2⟩;refine wpAny_bind (store ho hx hd k2 hyz λg o1 sb go gx gd=>?_);split
   ·have rp:=relayAll_perm t2 e1 (SetTable.grown e1.size);have rf:=relayAll_fits t2 e1 (SetTable.grown e1.size);have rl:=mH t2 e1 (SetTable.grown e1.size);have rq:=Pl.adn (t:=t2) e1 (SetTable.grown e1.size);generalize relayAll t2 e1 (SetTable.grown e1.size)=L at rp rf rl rq ⊢;obtain⟨e3,t3,gv3⟩:=L;dsimp only at rp rf rl rq ⊢;obtain⟨r1,q1,q2⟩:=htx;obtain⟨rs,h2,h3⟩:=rH (rp.map (·.2)) q1;have k3:TOk P w e3 t3 (ys++[k]):=⟨hel.perm rp,⟨rs,h2,h3.trans q2⟩,rf,rl.1.trans l2,rq⟩;refine wpAny_bind (sU _ ?_);refine wpAny_bind (store (s:={ s with heap:=g }) go gx gd k3 hyz λg2 o2 sb2 go2 gx2 gd2=>?_);refine wpAny_pure (wpAny_pure ?_);exact h g2 true (sb.trans sb2) (by rw[hxy];exact⟨o2,_,_,_,go2,gx2,gd2,k3⟩)
   ·refine wpAny_pure (wpAny_pure ?_);exact h g true sb (by rw[hxy];exact⟨o1,_,_,_,go,gx,gd,k2⟩)
  split
  ·rename_i hpl;refine wpAny_bind ?_;rw[hashByValue_scannable 8 hsc];refine wpAny_pure ?_;exact hend _ (by split;exact hf;exact SetTable.fits_plain_off hf) (by split<;>exact hl.1.trans x.ld) (by split;exact hpp;exact⟨hpp.dm,hpp.ri⟩)
  ·rename_i hpl;refine wpAny_bind (wpAny_pure ?_);simp only[↓reduceIte];exact hend _ hf (hl.1.trans x.ld) hpp
def seen(val:Nat->Int)(i:Nat):List Int:=((List.range i).map val).foldl wF []
theorem MP(val:Nat->Int)(i:Nat):seen val (i+1)=wF (seen val i) (val i):=by
 unfold seen;rw[List.range_succ,List.map_append,List.foldl_append]
 rfl
theorem Qm(val:Nat->Int)(i:Nat):(seen val i).length<=i:=by
 have:=PB ((List.range i).map val) []
 simpa[seen] using this
theorem fill{R:Result->Shared->Prop}{I:Addr}{fp wr:List Addr}{G:Array GenState->Array GenState->Prop}{n:Nat}{Pi:Nat->Value->Prop}{St:Nat->Shared->Prop}(W:WalksS P w A.in1 I fp wr G n Pi St){a:Addr}(ha:a ∉ fp){val:Nat->Int}
  (hv:∀i v,Pi i v->∃t,v = .int (val i) t) (hb:n+1<scanBound) (d:Nat):∀(i:Nat) (s:Shared),i+d=n->St i s->pU P w s.heap a (seen val i)->(∀s',Moved (a::wr) G s s'->pU P w s'.heap a (seen val n)->R (.ok (.ret .none)) s')->
  codeAny (model P w) A (.builtin "set.update.loop" ⟨[.ref a,.ref I],[]⟩) R s:=by
 have hw:a ∉ wr:=λz=>ha (W.sub _ z);have up:∀b∈wr,b∈a::wr:=λb z=>List.mem_cons_of_mem _ z
 induction d with
 | zero=>
  intro i s e st x hR;obtain rfl:i=n:=e;refine codeAny_builtin PyProof.Rows.F.entry_set_update_loop ?_;rw[Around.under_plainId PyProof.Rows.F.plain_set_update_loop _];show wpAny _ _ (pyNext (.ref I) >>= _) _ _ _;refine wpAny_bind (W.done s _ _ st λs' m=>?_);show wpAny _ _ (ret .none) _ _ _;exact wpAny_pure (hR s' (m.mono up) (x.keep λo z=>m.heap a o hw z))
 | succ d ih=>
  intro i s e st x hR;refine codeAny_builtin PyProof.Rows.F.entry_set_update_loop ?_;rw[Around.under_plainId PyProof.Rows.F.plain_set_update_loop _];show wpAny _ _ (pyNext (.ref I) >>= _) _ _ _;refine wpAny_bind (W.item i s _ _ (by omega) st λv s' pv st' m=>?_);obtain⟨t,rfl⟩:=hv i v pv;show wpAny _ _ (holding _ (setAdd a _) >>= _) _ _ _;unfold setAdd;refine wpAny_bind (wpAny_holding (wpAny_holding (wpAny_bind ((intKind P w).pyHash (intKind_is P w (val i) t) ?_))));obtain⟨o,es,ep,tb,ho,hx,hd,k⟩:=x.keep λo z=>m.heap a o hw z;refine O6 (s:={ s' with toks:=s'.toks+1 }) ho hx hd k (by have:=Qm val i;omega) λg b sb y=>?_;rw[<-MP] at y;refine wpAny_pure ⟨plainId_quiet PyProof.Rows.F.plain_set_update_loop _,ih (i+1) _ (by omega) (W.frame _ s' _ _ st' (Nat.le_succ _) λc hc u z=>?_) y λs2 m2 x2=>?_⟩
  ·exact(sb.2 c (λq=>ha (q ▸ hc))).trans z
  ·refine hR s2 (Moved.trans W.gtrans ((m.mono up).then_heap (Nat.le_succ _) λc u hc z=>?_) m2) x2;exact(sb.2 c (λq=>hc (q ▸ List.mem_cons_self))).trans z
theorem SN(h:Heap){a:Addr}(e:h.get? a=some (fresh w)):pU P w h a []:=
 ⟨_, #[],0,_,e,⟨rfl,rfl,rfl⟩,rfl,⟨λ_ z=>by simp at z,⟨[],.nil,.rfl⟩,rfl,rfl,⟨rfl,λi j _ h=>absurd h (Nat.not_lt_zero _)⟩⟩⟩
theorem MN{a:Addr}{o:Obj}{es:Array (Int×Value)}{ep:Nat}{t:SetTable}(hd:o.data = .set es ep t)(hf:t.fits es.size=true)(hw:led w=true)(hl:t.led=led w)(pl:Pl t)(hz:¬(!t.plain&&decide (es.size > 1))=true) :
  SX.Kg P w a o ep (λi=>if i=0 then 0 else t.place.getD (i - 1) 0+1) (es.toList.map (·.2)):=by
 have hp:t.place.size=es.size:=by simp only[SetTable.fits,Bool.and_eq_true,beq_iff_eq] at hf;exact hf.1
 have go:∀(A:Around) (E:Value->Shared->Prop) (s:Shared) (j i:Nat) (Q:Option (Value×Nat)->Shared->Prop),s.heap.get? a=some o->
   Q (match es[SetTable.below t.place j]?,t.place[SetTable.below t.place j]? with|some (_,x),some k=>some (x,k+1)|_,_=>none) s->wpAny (model P w) A (setNext a j i ep) Q E s:=by
  intro A E s j i Q ho h;unfold setNext;refine wpAny_bind (wpAny_setState_of ho hd hf ?_);dsimp only;refine wpAny_bind (byText ?_);rw[hw,if_neg (by simp)];show wpAny _ _ (if (!t.plain&&decide (es.size > 1))=true then _ else _) _ _ _;rw[if_neg hz];refine wpAny_bind ?_;show wpAny _ _ (if (!t.led && !es.isEmpty)=true then _ else _) _ _ _;rw[if_neg (by rw[hl,hw];simp)];exact wpAny_pure (wpAny_pure h)
 have hb:∀i,i<=es.size->SetTable.below t.place (if i=0 then 0 else t.place.getD (i - 1) 0+1)=i:=by
  intro i hi;by_cases c:i=0
  ·subst c;exact below_at pl.ri (Nat.zero_le _) (λq h=>absurd h (Nat.not_lt_zero _)) λ_=>Nat.zero_le _
  ·rw[if_neg c];refine below_at pl.ri (by omega) (λq h=>?_) λh=>?_
   ·by_cases c2:q=i - 1
    ·rw[c2];exact Nat.lt_succ_self _
    ·exact Nat.lt_succ_of_lt (pl.ri q (i - 1) (by omega) (by omega))
   ·exact pl.ri (i - 1) i (by omega) h
 refine⟨λA E s i v Q ho hv h=>go A E s _ i Q ho ?_,λA E s Q ho h=>go A E s _ _ Q ho ?_⟩
 ·rw[List.getElem?_map,Array.getElem?_toList] at hv;obtain⟨e,he,rfl⟩:=Option.map_eq_some_iff.mp hv;have hi:i<es.size:=by
   rcases Nat.lt_or_ge i es.size with c|c
   ·exact c
   ·rw[Array.getElem?_eq_none c] at he;cases he
  have hpl:t.place[i]? = some (t.place.getD i 0):=by rw[Array.getElem?_eq_getElem (by omega)];simp[Array.getD,show i<t.place.size by omega]
  rw[hb i (by omega),he,hpl]
  simpa using h
 ·have hlen:(es.toList.map (·.2)).length=es.size:=by simp
  rw[hlen,hb es.size (Nat.le_refl _),Array.getElem?_eq_none (Nat.le_refl _)];exact h
theorem R9{a:Addr}{ys:List Int}{Q:Value->Shared->Prop}(x:pU P w s.heap a ys)(hz:ys.length<64)
  (h:∀(g:Heap) (d:Drawn) (I:Addr) (fp:List Addr) (os:List Value) (St:Nat->Shared->Prop),(∀A':Around,A'.handled=none->WalksS P w A' I fp [I] (λg g'=>g'=g) os.length (λi v=>os[i]? = some v) St)->St 0 { s with heap:=g,drawn:=d }->
   (∀b∈fp,b=a\/s.heap.objs.size<=b)->s.heap.objs.size<=I->os.length=ys.length->(∃ss,IntsAre os ss/\ss.Perm ys)->(∀b o,s.heap.get? b=some o->g.get? b=some o)->Q (.ref I) { s with heap:=g,drawn:=d }) :
  wpAny (model P w) A (pyIter (.ref a)) Q E s:=by
 obtain⟨o,es,ep,t,ho,hx,hd,k⟩:=x;have hT:s.TypeIs (.ref a) "set":=⟨o,ho,hx.1⟩;have hlt:a<s.heap.objs.size:=Heap.lt_size ho;have hn:es.size=ys.length:=k.size;obtain⟨ss,s1,s2⟩:=k.tx;refine wpAny_pyIter_slot hT PySem.F.slot_set_iter (wpAny_call_entry PySem.F.slot_set_iter hT qX ?_ (PySem.F.args_set_iter_1 _));unfold Builtin.«frozenset.__iter__» Builtin.Frozenset.slot0 slotArgs;simp only[List.isEmpty_nil,Bool.not_true,Bool.false_eq_true, ↓reduceIte,bind_assoc,List.length_nil,bne_self_eq_false];unfold Builtin.Frozenset.addrOf Builtin.Frozenset.sizeOf;refine wpAny_bind (wpAny_pure ?_);dsimp only;refine wpAny_bind (wpAny_pure ?_);refine wpAny_bind (wpAny_bind (wpAny_setEntries_of ho hd k.fit (wpAny_pure ?_)));refine wpAny_bind ?_;unfold setDrawn;refine wpAny_bind (wpAny_setState_of ho hd k.fit ?_);dsimp only;refine wpAny_bind (byText (wpAny_pure ?_));show wpAny _ _ (if (!(!led w)&&(!t.plain&&decide (es.size > 1)))=true then _ else _) _ _ _;by_cases hl:led w=true
 ·by_cases hz1:(!t.plain&&decide (es.size > 1))=true
  ·rw[if_pos (by rw[hl,hz1];rfl)];refine wpAny_bind (mK _ _ s _ (by simp) λps d pp=>?_);refine wpAny_bind (wpAny_newTuple ?_ (by rw[List.length_map,pp.length_eq,List.length_range,hn];exact Nat.le_trans (Nat.le_of_lt hz) (by decide)));refine wpAny_bind (wpAny_setEpoch_of (Heap.get?_push_of_some _ ho) hd k.fit ?_);refine wpAny_bind (wpAny_newObj_type (wpAny_pure ⟨_,rfl,"set_iterator",_,⟨_,Heap.get?_push_size _ rfl,rfl⟩,lg.lookup,?_⟩))
   let f:Nat->Value:=λp=>((es[p]?).map (·.2)).getD .none
   have ef:(List.range es.size).map f=es.toList.map (·.2):=by
    apply List.ext_getElem
    ·simp
    ·intro i h1 h2;have hi:i<es.size:=by simpa using h1
     simp[f,hi]
   have hos:(ps.map f).length=es.size:=by rw[List.length_map,pp.length_eq,List.length_range]
   have hperm:(ps.map f).Perm (es.toList.map (·.2)):=by rw[<-ef];exact pp.map f
   obtain⟨rs,q1,q2⟩:=rH hperm s1;have sz:(s.heap.push { cls:=.type "tuple",data:=.seq (ps.map λ(i:Nat)=>rawInt i).toArray }).objs.size=s.heap.objs.size+1:=Heap.size_push _ _;have e1:((s.heap.push { cls:=.type "tuple",data:=.seq (ps.map λ(i:Nat)=>rawInt i).toArray }).push (Er (.ref s.heap.objs.size) 0 a es.size ep)).get? s.heap.objs.size=some { cls:=.type "tuple",data:=.seq (ps.map λ(i:Nat)=>rawInt i).toArray }:=
    Heap.get?_push_of_some _ (Heap.get?_push_size _ rfl)
   have a1:a≠(s.heap.push { cls:=.type "tuple",data:=.seq (ps.map λ(i:Nat)=>rawInt i).toArray }).objs.size:=by rw[sz];exact Nat.ne_of_lt (Nat.lt_succ_of_lt hlt)
   have a2:s.heap.objs.size≠(s.heap.push { cls:=.type "tuple",data:=.seq (ps.map λ(i:Nat)=>rawInt i).toArray }).objs.size:=by rw[sz];exact Nat.ne_of_lt (Nat.lt_succ_self _)
   refine h _ d _ [_,a,s.heap.objs.size] (ps.map f) _ (λA' hA=>oH (ps:=ps) hA a1 a2 hd k.fit hos.symm rfl (by rw[List.length_map]) λi p v h1 h2=>?_) ⟨?_,Heap.get?_push_of_some _ (Heap.get?_push_of_some _ ho),e1⟩ (λb hb=>?_) (by rw[sz];exact Nat.le_succ _) (hos.trans hn) ⟨rs,q1,q2.trans s2⟩ λb u e=>Heap.get?_push_of_some _ (Heap.get?_push_of_some _ e)
   ·rw[List.getElem?_map,h1] at h2;simp only[Option.map_some,Option.some.injEq] at h2;have hm:p∈List.range es.size:=pp.mem_iff.mp (List.mem_of_getElem? h1);have hp:p<es.size:=List.mem_range.mp hm;refine⟨es[p].1,?_⟩;rw[<-h2];simp[f,hp]
   ·have:=Heap.get?_push_size (s.heap.push { cls:=.type "tuple",data:=.seq (ps.map λ(i:Nat)=>rawInt i).toArray }) (o:=Er (.ref s.heap.objs.size) 0 a (ps.map f).length ep) rfl;rw[hos] at this ⊢;exact this
   ·simp only[List.mem_cons,List.not_mem_nil,or_false] at hb;rcases hb with rfl|rfl|rfl
    ·exact .inr (by rw[sz];exact Nat.le_succ _)
    ·exact .inl rfl
    ·exact .inr (Nat.le_refl _)
  ·rw[if_neg (λz=>hz1 (by rw[hl] at z;simpa using z))];refine wpAny_bind (wpAny_pure ?_);refine wpAny_bind (wpAny_setEpoch_of ho hd k.fit ?_);refine wpAny_bind (wpAny_newObj_type (wpAny_pure ⟨_,rfl,"set_iterator",_,⟨_,Heap.get?_push_size _ rfl,rfl⟩,lg.lookup,?_⟩));have hos:(es.toList.map (·.2)).length=es.size:=by simp
   have e0:=Heap.get?_push_size s.heap (o:=Er (.int 0 0) 0 a (es.toList.map (·.2)).length ep) rfl;have:=h (s.heap.push (Er (.int 0 0) 0 a (es.toList.map (·.2)).length ep)) s.drawn s.heap.objs.size [s.heap.objs.size,a] (es.toList.map (·.2)) _ (λA' hA=>mF hA (Nat.ne_of_lt hlt) hd k.fit hos.symm (MN hd k.fit hl k.ld k.pl hz1)) ⟨e0,Heap.get?_push_of_some _ ho⟩ (λb hb=>by
    simp only[List.mem_cons,List.not_mem_nil,or_false] at hb;rcases hb with rfl|rfl
    ·exact .inr (Nat.le_refl _)
    ·exact .inl rfl) (Nat.le_refl _) (hos.trans hn) ⟨ss,s1,s2⟩ λb u e=>Heap.get?_push_of_some _ e
   rw[hos] at this;cases s;exact this
 ·have hl:led w=false:=by simpa using hl
  rw[if_neg (by rw[hl];simp)];refine wpAny_bind (wpAny_pure ?_);refine wpAny_bind (wpAny_setEpoch_of ho hd k.fit ?_);refine wpAny_bind (wpAny_newObj_type (wpAny_pure ⟨_,rfl,"set_iterator",_,⟨_,Heap.get?_push_size _ rfl,rfl⟩,lg.lookup,?_⟩));have pk:=oW (w.params.setOrder a ep) es;have hos:((pickOrder (w.params.setOrder a ep) es).toList.map (·.2)).length=es.size:=by rw[List.length_map,pk.length_eq];simp
  obtain⟨rs,q1,q2⟩:=rH (pk.map (·.2)) s1;have e0:=Heap.get?_push_size s.heap (o:=Er (.int 0 0) 0 a ((pickOrder (w.params.setOrder a ep) es).toList.map (·.2)).length ep) rfl;have:=h (s.heap.push (Er (.int 0 0) 0 a ((pickOrder (w.params.setOrder a ep) es).toList.map (·.2)).length ep)) s.drawn s.heap.objs.size [s.heap.objs.size,a] ((pickOrder (w.params.setOrder a ep) es).toList.map (·.2)) _ (λA' hA=>mF hA (Nat.ne_of_lt hlt) hd k.fit hos.symm (oU hd k.fit hl)) ⟨e0,Heap.get?_push_of_some _ ho⟩ (λb hb=>by
   simp only[List.mem_cons,List.not_mem_nil,or_false] at hb;rcases hb with rfl|rfl
   ·exact .inr (Nat.le_refl _)
   ·exact .inl rfl) (Nat.le_refl _) (hos.trans hn) ⟨rs,q1,q2.trans s2⟩ λb u e=>Heap.get?_push_of_some _ e
  rw[hos] at this;cases s;exact this
theorem Hm{a:Addr}{ys:List Int}{Q:List Value->Shared->Prop}(hh:A.handled=none)(x:pU P w s.heap a ys)(hz:ys.length<64)
  (h:∀(g:Heap) (d:Drawn) (tk:Nat) (os:List Value),(∃ss,IntsAre os ss/\ss.Perm ys)->os.length=ys.length->(∀b o,s.heap.get? b=some o->g.get? b=some o)->Q os { s with heap:=g,drawn:=d,toks:=tk }) :
  wpAny (model P w) A (collect (.ref a)) Q E s:=by
 have hT:∀h':Heap,pU P w h' a ys->Shared.TypeIs { s with heap:=h' } (.ref a) "set":=λh' ⟨o,_,_,_,e,r,_⟩=>⟨o,e,r.1⟩;have hlt:a<s.heap.objs.size:=let ⟨o,_,_,_,e,_⟩:=x;Heap.lt_size e
 unfold collect;refine wpAny_bind (wpAny_runValue (codeAny_builtin PySem.F.entry_proto_collect ?_));rw[Around.under_plainId PySem.F.plain_proto_collect _];show wpAny _ A.in1 (newList [] >>= λl=>again (.builtin "list.__iadd__" ⟨[l,.ref a],[]⟩)) _ _ s;refine wpAny_bind (wpAny_newObj_type (wpAny_pure ⟨plainId_quiet PySem.F.plain_list_iadd _,codeAny_builtin PySem.F.entry_list_iadd ?_⟩));rw[Around.under_plainId PySem.F.plain_list_iadd _];have l0:(s.heap.push { cls:=.type "list",data:=.seq ([]:List Value).toArray }).get? s.heap.objs.size=some { cls:=.type "list",data:=.seq #[] }:=Heap.get?_push_size _ rfl;have x0:pU P w (s.heap.push { cls:=.type "list",data:=.seq ([]:List Value).toArray }) a ys:=x.keep λo e=>Heap.get?_push_of_some _ e;show wpAny _ A.in1 (Builtin.List.listExtendWith (.ref s.heap.objs.size) (.ref a) (.ref s.heap.objs.size)) _ _ _;unfold Builtin.List.listExtendWith;refine wpAny_bind (wpAny_typeOf (T:="set") (hT _ x0) ?_);have n1:Builtin.List.listSameRef (.ref s.heap.objs.size) (.ref a)=false:=by simp[Builtin.List.listSameRef,Nat.ne_of_gt hlt]
 rw[if_neg (by rw[n1];decide)];refine wpAny_bind (R9 (s:={ s with heap:=s.heap.push { cls:=.type "list",data:=.seq ([]:List Value).toArray } }) x0 hz λg d I fp os St W st hfp hI hos hss kp=>?_);have sz:(s.heap.push { cls:=.type "list",data:=.seq ([]:List Value).toArray }).objs.size=s.heap.objs.size+1:=Heap.size_push _ _;have kp0:∀b o,s.heap.get? b=some o->g.get? b=some o:=λb o e=>kp b o (Heap.get?_push_of_some _ e);have l1:g.get? s.heap.objs.size=some { cls:=.type "list",data:=.seq #[] }:=kp _ _ l0;have hSf:s.heap.objs.size ∉ fp:=λz=>by
  rcases hfp _ z with e|e
  ·exact absurd e (Nat.ne_of_gt hlt)
  ·dsimp only at e;rw[sz] at e;exact absurd e (Nat.not_succ_le_self _)
 refine wpAny_bind (wpAny_holding (o7 (s:={ s with heap:=g,drawn:=d }) (let ⟨o,_,_,_,e,r,_⟩:=x.keep λo e=>kp0 _ o e;⟨o,e,r.1⟩) ?_));have W':=W A.in1 (by simpa using hh);have hn:os.length<=sizeLine:=by rw[hos];exact Nat.le_trans (Nat.le_of_lt hz) (by decide)
 have key:∀(g1:Heap) (c:Nat),St 0 { s with heap:=g1,drawn:=d }->(∀b o,s.heap.get? b=some o->g1.get? b=some o)->g1.get? s.heap.objs.size=some { cls:=.type "list",data:=.seq #[] c }->
   codeAny (model P w) A (.builtin "list.extend.loop" ⟨[.ref s.heap.objs.size,.ref I,.ref s.heap.objs.size],[]⟩) (λr s'=>wants (λv s2=>wpAny (model P w) A ((match v with
    | .ref a=>do match (<-load a).data with
     | .seq xs _=>pure xs.toList
     | _=>unsupported "internal:collect"
    | _=>unsupported "internal:collect"):Sem (List Value)) Q E s2) E r s') { s with heap:=g1,drawn:=d }:=by
  intro g1 c st1 k1 l2;refine codeAny_extend_loopS W' hn s.heap.objs.size hSf (.ref s.heap.objs.size) os.length 0 _ #[] c rfl (Nat.zero_le _) st1 l2 (ItemsOf.nil _) λs' acc c' m hS hacc=>?_;show wpAny _ _ (load s.heap.objs.size >>= _) _ _ _;refine wpAny_bind (wpAny_load hS (wpAny_pure ?_));rw[o5 hacc,Moved.eq_with m];refine h s'.heap d s'.toks os hss hos λb o e=>m.heap b o (λz=>?_) (k1 b o e);rcases List.mem_cons.mp z with z|z
  ·exact absurd (Heap.lt_size e) (by rw[z];exact Nat.lt_irrefl _)
  ·rw[List.mem_singleton.mp z] at e;have:=Heap.lt_size e;dsimp only at hI;rw[sz] at hI;exact absurd (Nat.lt_of_lt_of_le this (Nat.le_of_succ_le hI)) (Nat.lt_irrefl _)
 dsimp only;split
 ·refine wpAny_bind (wpAny_rule (wpAny_bind ?_));show wpAny _ _ (updateSeq s.heap.objs.size (·.push .none) >>= λ_=>updateSeq s.heap.objs.size (·.pop)) _ _ _;refine wpAny_bind (wpAny_updateSeq l1 rfl ?_);have l2:=Heap.get?_update_self (Obj.mapSeq (·.push Value.none)) l1 rfl;refine wpAny_updateSeq (hz:=by seq_fits) l2 rfl ?_;have l3:=Heap.get?_update_self (Obj.mapSeq (·.pop)) l2 rfl;have oth:∀b o,b≠s.heap.objs.size->g.get? b=some o->((g.update s.heap.objs.size (Obj.mapSeq (·.push Value.none))).update s.heap.objs.size (Obj.mapSeq (·.pop))).get? b=some o:=λb o hb e=>
   (Heap.get?_update_other _ _ (Ne.symm hb)).trans ((Heap.get?_update_other _ _ (Ne.symm hb)).trans e)
  refine wpAny_pure ⟨plainId_quiet PySem.F.plain_extend_loop _,key _ _ ?_ (λb o e=>oth b o (Nat.ne_of_lt (Heap.lt_size e)) (kp0 b o e)) l3⟩;exact W'.frame 0 { s with heap:=g,drawn:=d } _ _ st (Nat.le_refl _) λb hb o e=>oth b o (λz=>hSf (z ▸ hb)) e
 ·exact wpAny_pure ⟨plainId_quiet PySem.F.plain_extend_loop _,key g _ st kp0 l1⟩
end
open PySem PySem.Spec PyProof.Rows L2 PySem.Builtin Ev
open SX (led vY rG o4 mH sU rE fresh o7 o5)
section
variable{P:Program}{w:World}{A:Around}{E:Value->Shared->Prop}{s:Shared}
theorem Va{l:Addr}{its:Array Value}{zs:List Int}{Q:Value->Shared->Prop}(hh:A.handled=none)(hl:s.heap.IsTuple l its)(hi:IntsAre its.toList zs)(hb:zs.length+1<scanBound)
  (h:∀(g:Heap) (tk:Nat),pU P w g s.heap.objs.size (Ba zs)->(∀b o,s.heap.get? b=some o->g.get? b=some o)->Q (.ref s.heap.objs.size) { s with heap:=g,toks:=tk }) :
  wpAny (model P w) A (call (.type "set") [.ref l]) Q E s:=by
 obtain⟨c,tl,mro⟩:=PySem.F.called_set.mro;have made:=PySem.F.called_set.made;have sub:=PySem.F.called_set.sub;refine wpAny_call (codeAny_of_tree ?_);show wpAny _ _ (callAny (.type "set") _) _ _ _;refine wpAny_pure ⟨Code.quiet_builtin _ (by decide +kernel),codeAny_builtin PySem.F.entry_type_call ?_⟩;rw[Around.under_plain (weight_type_call_type "set" [.ref l] []) rfl];have c1:=PySem.F.called_set.notType;have c2:=PySem.F.called_set.canCreate;have c3:=PySem.F.typeCall_set_1 (.ref l)
 repeat (any_goals (first|assumption|wp_step))
 refine codeAny_mono (rE (.ref l) (E:=E) (Q:=λv s1=>v = .ref s.heap.objs.size/\s1 = { s with heap:=s.heap.push (fresh w) }) ⟨rfl,rfl⟩) λr s1 hr=>?_;have hlen:its.size=zs.length:=by rw[<-Array.length_toList];exact GQ hi
 cases r with
 | error e=>exact hr
 | ok fl=>
  cases fl with
  | ret v=>
   obtain⟨rfl,rfl⟩:=hr;have e0:(s.heap.push (fresh w)).get? s.heap.objs.size=some (fresh w):=Heap.get?_push_size _ rfl;have hT:Shared.TypeIs { s with heap:=s.heap.push (fresh w) } (.ref s.heap.objs.size) "set":=⟨_,e0,rfl⟩;have c4:=PySem.F.called_set.init.lookup;have c5:=PySem.F.called_set.init.bind (.ref s.heap.objs.size)
   repeat (any_goals (first|assumption|wp_step))
   refine codeAny_mono (codeAny_call_builtin (R:=wants (λr s2=>r = .none/\∃g tk,s2 = { s with heap:=g,toks:=tk }/\pU P w g s.heap.objs.size (Ba zs)/\(∀b o,s.heap.get? b=some o->g.get? b=some o)) E)
    PySem.F.called_set.init.plain PySem.F.entry_set_init (check_set_init_1 hT ?_)) λr2 s2 hr2=>?_
   ·obtain⟨ol,hol,hcl,nl,hdl⟩:=hl;obtain⟨ocls,odict,odata,oslots⟩:=ol;simp only at hcl hdl;subst hcl;subst hdl;have hol':(s.heap.push (fresh w)).get? l=some { cls:=.type "tuple",dict:=odict,data:=.seq its nl,slots:=oslots }:=Heap.get?_push_of_some _ hol;have l1:(s.heap.push (fresh w)).IsTuple l its:=⟨_,hol',rfl,nl,rfl⟩;have n1:=PySem.F.sub_tuple_set;have n2:=PySem.F.sub_tuple_frozenset;have n3:(Value.type "tuple" == Value.type "dict")=false:=by decide
    have e1:(s.heap.push (fresh w)).get? s.heap.objs.size=some { cls:=.type "set",dict:=none,data:=.set #[] 0 (.fresh 0 0 (led w)) }:=e0;unfold Builtin.«set.__init__» noKeywords Builtin.Frozenset.updateFrom;generalize hPI:pyIter=PI
    wp_walk
    subst hPI;refine wpAny_pyIter_tuple l1 (wpAny_bind (wpAny_runValue ?_));have lt:l<s.heap.objs.size:=Heap.lt_size hol;have sz:(s.heap.push (fresh w)).objs.size=s.heap.objs.size+1:=Heap.size_push _ _;have hh3:A.in1.in1.in1.handled=none:=by simp[hh]
    have a1:l≠(s.heap.push (fresh w)).objs.size:=by rw[sz];exact Nat.ne_of_lt (Nat.lt_succ_of_lt lt)
    have a2:s.heap.objs.size ∉ [(s.heap.push (fresh w)).objs.size,l]:=by rw[sz];simp only[List.mem_cons,List.not_mem_nil,or_false,not_or];exact⟨Nat.ne_of_lt (Nat.lt_succ_self _),Nat.ne_of_gt lt⟩
    have hv:∀(i:Nat) (v:Value),its[i]? = some v->∃t,v = .int (zs.getD i 0) t:=by
     have:∀{vs:List Value} {ss:List Int},IntsAre vs ss->∀(i:Nat) (v:Value),vs[i]? = some v->∃t,v = .int (ss.getD i 0) t:=by
      intro vs ss q
      induction q with
      | nil=>intro i v z;simp at z
      | cons y t _ ih=>
       intro i v z;cases i with
       | zero=>simp at z;exact⟨t,z.symm⟩
       | succ i=>simpa using ih i v (by simpa using z)
     exact λi v z=>this hi i v (by rw[Array.getElem?_toList];exact z)
    refine fill ((Walks.tuple hh3 _ l a1 its).toS) a2 (val:=λi=>zs.getD i 0) hv (by omega) its.size 0 _ (by omega) ⟨⟨_,Heap.get?_push_size _ rfl,rfl,rfl⟩,l1.push _⟩ (SN _ (Heap.get?_push_of_some _ e0)) λs' m x=>?_;have es:seen (λi=>zs.getD i 0) its.size=Ba zs:=by
     unfold seen Ba
     congr 1
     rw[hlen];apply List.ext_getElem
     ·simp
     ·intro i h1 h2;simp[List.getD_eq_getElem?_getD,h2]
    rw[es] at x;obtain⟨g,gn,dr,tk,os⟩:=s';have q1:gn=s.gens:=m.gens;have q2:dr=s.drawn:=m.drawn;have q3:os=s.os:=m.os;subst q1 q2 q3;refine wpAny_pure ?_;show wpAny _ _ (ret .none) _ _ _;refine wpAny_pure ⟨rfl,g,tk,rfl,x,λb o e=>?_⟩;have hb1:b<s.heap.objs.size:=Heap.lt_size e;refine m.heap b o ?_ (Heap.get?_push_of_some _ (Heap.get?_push_of_some _ e));rw[sz];simp only[List.mem_cons,List.not_mem_nil,or_false,not_or];exact⟨Nat.ne_of_lt hb1,Nat.ne_of_lt (Nat.lt_succ_of_lt hb1)⟩
   ·cases r2 with
    | error e=>exact hr2
    | ok fl2=>
     cases fl2 with
     | ret r=>
      obtain⟨rfl,g,tk,rfl,x,k⟩:=hr2
      repeat (any_goals (first|assumption|wp_step))
      exact h _ _ x k
     | _=>exact hr2.elim
  | _=>exact hr.elim
end
theorem EY:∀(zs ys:List Int),(ys++zs).Nodup->zs.foldl wF ys=ys++zs
 | [],ys,_=>by simp
 | z::zs,ys,h=>by
  have hz:z ∉ ys:=λm=>by
   have:=(List.nodup_append.mp h).2.2 z m z (List.mem_cons_self ..);exact this rfl
  rw[List.foldl_cons,wF,if_neg hz,EY zs (ys++[z]) (by rw[List.append_assoc];exact h),List.append_assoc]
  rfl
theorem NQ{zs:List Int}(h:zs.Pairwise (·< ·)):zs.Nodup:=h.imp λ{a b} c e=>by omega
theorem Gf:∀{zs ns:List Int},zs.Pairwise (·< ·)->ns.Pairwise (·<= ·)->ns.Perm zs->ns=zs
 | [],ns,_,_,p=>p.eq_nil
 | z::zs,[],_,_,p=>absurd p.symm.eq_nil (by simp)
 | z::zs,n::ns,h1,h2,p=>by
  obtain⟨a1,a2⟩:=List.pairwise_cons.mp h1;obtain⟨b1,b2⟩:=List.pairwise_cons.mp h2;have e:n=z:=by
   have m1:n∈z::zs:=p.mem_iff.mp (List.mem_cons_self ..);have m2:z∈n::ns:=p.mem_iff.mpr (List.mem_cons_self ..);rcases List.mem_cons.mp m1 with c|c
   ·exact c
   ·rcases List.mem_cons.mp m2 with d|d
    ·exact d.symm
    ·have:=a1 n c;have:=b1 z d;omega
  subst e;rw[Gf a2 b2 (List.Perm.cons_inv p)]
def Ub(P:Program)(w:World)(a:Addr)(ys:List Int):HO:=.ext λh=>pU P w h a ys
def adu(X:Cx):List V->Hp->VK->Prop:=λxs H Q=>∃(p:Addr) (zs:List Int),xs=[.ref p]/\nG X.K H p (zs.map V.int)/\zs.length<64/\zs.Nodup/\∀l,H l=none->Q (.ref l) (upd H l (Ub X.prog X.w l zs))
def Qv(X:Cx):List V->Hp->VK->Prop:=λxs H Q=>∃(p:Addr) (zs:List Int),xs=[.ref p]/\H p=some (Ub X.prog X.w p zs)/\zs.length<64/\zs.Pairwise (·< ·)/\∀l,H l=none->Q (.ref l) (upd H l (.lst (zs.map V.int)))
section
variable{X:Cx}{C:Cfg}{pos:Pos}
theorem Tw(hc:X.calm=true):ji X (.type "set") (adu X):=by
 intro pins s σ H xs us Q I r h;obtain⟨p,zs,rfl,hq,hz,hn,q⟩:=h;obtain⟨u,rfl,rx⟩:=vals1 r;cases rx;obtain⟨its,r',pl⟩:=I.PJ hq;have hS:IntsAre its zs:=intsAre_of r';have hT:s.heap.IsTuple p its.toArray:=let ⟨o,h1,h2,h3,_⟩:=pl;⟨o,h1,h2,h3⟩
 refine Va (I.ok.hd hc) hT (zs:=zs) (by simpa using hS) (Nat.lt_of_le_of_lt (Nat.succ_le_of_lt hz) (by decide)) λg tk x k=>?_;have e:Ba zs=zs:=by
  have:=EY zs [] (by simpa using hn)
  simpa[Ba] using this
 rw[e] at x;refine⟨.ref s.heap.objs.size,_,I.laid (t':=tk) k (Nat.le_refl _) (o:=Ub X.prog X.w s.heap.objs.size zs) ⟨x,?_,λh1 h2 y kk=>y.keep kk⟩,rfl,q _ (I.hok.fresh (Nat.le_refl _))⟩;obtain⟨o,_,_,_,e,_⟩:=x;exact⟨o,e⟩
theorem J9(hc:X.calm=true):ji X (.builtin "sorted") (Qv X):=by
 intro pins s σ H xs us Q I r h;obtain⟨p,zs,rfl,hq,hz,hr,q⟩:=h;obtain⟨u,rfl,rx⟩:=vals1 r;cases rx;have x:pU X.prog X.w s.heap p zs:=(I.hok p _ hq).1;refine Calls.call_function_entry kind_sorted plain_sorted entry_sorted (args_sorted1 _) ?_;unfold Builtin.«sorted»;refine wpAny_bind (m:=checkCount "sorted" 1 1 _) (wpAny_pure ?_);refine wpAny_bind (Hm (A:=X.A.in1) (I.ok.hd hc) x hz λh' d tk os hss hlen hk=>?_);obtain⟨ss,hS,pS⟩:=hss;refine wpAny_bind (wpAny_newList ?_ (by rw[hlen];exact Nat.le_trans (Nat.le_of_lt hz) (by decide)));have hoL:(h'.push (seqObj "list" os.toArray 0)).get? h'.objs.size=some (seqObj "list" os.toArray 0):=Heap.get?_push_size _ rfl;show wpAny _ _ _ _ _ { s with heap:=h'.push (seqObj "list" os.toArray 0),drawn:=d,toks:=tk };refine wpAny_bind (wpAny_holding (wpAny_call_entry slot_list_sort ⟨_,hoL,rfl⟩ entry_list_sort (list_sort_tree hoL hS (by rw[hlen];exact hz) λout ns' b1 b2 b3=>⟨_,rfl,?_⟩) (args_list_sort _)));obtain⟨e,he⟩:=sortedHeap_at (out:=out) hoL;refine wpAny_pure ⟨_,rfl,?_⟩;have I1:L2.Inv X pins σ H { s with heap:=h',drawn:=d,toks:=tk }:=(I.kept hk).dr d;have en:ns'=zs:=Gf hr b3 (b2.trans pS);subst en;have hk2:∀b o,h'.get? b=some o->(sortedHeap (h'.push (seqObj "list" os.toArray 0)) h'.objs.size os out).get? b=some o:=λb o e=>by
  have lt':=Heap.lt_size e;rw[sortedHeap_old (Nat.ne_of_lt lt') (by rw[size_push'];exact Nat.lt_succ_of_lt lt')];exact Heap.get?_push_of_some _ e
 have hl:(ns'.map V.int).length<=sizeLine:=by rw[List.length_map];exact Nat.le_trans (Nat.le_of_lt hz) (by decide)
 exact⟨.ref h'.objs.size,_,I1.laid (t':=tk) (a:=h'.objs.size) hk2 (Nat.le_refl _) (show gP X.prog X.w _ _ h'.objs.size (.lst (ns'.map V.int)) from⟨hl,out.toList,e,vC b1,by simpa[seqObj] using he⟩),rfl,q _ (I1.hok.fresh (Nat.le_refl _))⟩
end
end SI
namespace Ev
open PySem PySem.Spec PyProof.Rows L2 PySem.Builtin
def zc:List D->Option (List Int)
 | []=>some []
 | .int i::ds=>(zc ds).map (i :: ·)
 | _=>none
theorem GR:∀zs:List Int,zc (zs.map .int)=some zs
 | []=>rfl
 | z::zs=>by show(zc (zs.map .int)).map _=_;rw[GR zs];rfl
theorem yC{K:Fg}{F:Hp}:∀{ds:List D} {zs:List Int} {vs:List V},zc ds=some zs->bI K F ds vs->vs=zs.map V.int
 | [],zs,vs,e,h=>by cases e;cases h;rfl
 | d::ds,zs,vs,e,h=>by
  cases d with
  | int i=>
   obtain⟨ys,e1,rfl⟩:=Option.map_eq_some_iff.mp (show(zc ds).map (i :: ·)=some zs from e);obtain⟨v,r,rfl,h1,h2⟩:=h;cases h1;rw[yC e1 h2]
   rfl
  | _=>cases e
instance (zs:List Int):Decidable (zs.Pairwise (·< ·)):=inferInstance
def qN:D->Option D
 | .tup ds=>(zc ds).bind λzs=>if zs.length<64/\zs.Pairwise (·< ·) then some (.lst ds) else none
 | _=>none
section
variable{X:Cx}{C:Cfg}{pos p p2 pos2:Pos}{e:Expr}{a:Ev}
theorem vz(G:Good X C)(h1:X.mg "sorted" = none)(h2:X.mg "set" = none)(ha:PX X C e a)(g1:Gl X "sorted":=by rfl)(g2:Gl X "set":=by rfl)
  (he:tQ e X.env:=by rfl)
  (he2:starEach [.Call (.Name "set" p2) [e] [] pos2] X.env=(false,eval (.Call (.Name "set" p2) [e] [] pos2) X.env)::starEach [] X.env:=by rfl) :
  PX X C (.Call (.Name "sorted" p) [.Call (.Name "set" p2) [e] [] pos2] [] pos) (iI qN a):=by
 have i1:PE X (.Call (.Name "set" p2) [e] [] pos2) _:=oX (T:="set") (SI.Tw G.calm) g2 h2 (by decide +kernel) (iM ha mV he) (by decide) (by decide) he rfl;have i2:PE X (.Call (.Name "sorted" p) [.Call (.Name "set" p2) [e] [] pos2] [] pos) _:=yP (SI.J9 G.calm) g1 h1 PyProof.Rows.boot_sorted (iM i1 mV he2) (by decide) (by decide) he2 rfl;refine i2.imp λσ H Q hq=>?_;obtain⟨Pr,F,env,env',d,r,e0,q⟩:=hq;obtain⟨x,aD,e1,e2⟩:=aO e0;obtain⟨e3,rfl⟩:=dC e2;refine⟨Pr,F,env,env',x,r,e1,λv H1 F1 r1 s1 p1=>?_⟩;unfold qN at e3;split at e3
 ·rename_i ds;obtain⟨zs,e4,e5⟩:=Option.bind_eq_some_iff.mp e3;split at e5
  ·rename_i hz;cases e5;obtain⟨z,b,ws,rfl,k1,k3,k2⟩:=jj.tup (K:=C.K) r1.fr (.inl p1);have e6:=yC e4 k2;subst e6;show SI.adu X [.ref b] H1 λx H2=>SI.Qv X [x] H2 Q;refine⟨b,zs,rfl,by rw[G.K];exact k1,hz.1,SI.NQ hz.2,λl hl=>?_⟩;have r2:=r1.fresh (o:=SI.Ub X.prog X.w l zs) hl;refine⟨l,zs,rfl,aU,hz.1,hz.2,λl2 hl2=>?_⟩;obtain⟨r3,s3⟩:=r2.new (o:=.lst (zs.map V.int)) hl2;refine q _ _ _ r3 (s1.trans s3) ⟨z,l2,zs.map V.int,rfl,aU,?_⟩;exact bI.mono s3 _ _ k2
  ·cases e5
 ·cases e3
end
namespace S
variable{X:Cx}{C:Cfg}{pos p p2 pos2:Pos}{e:Expr}{a:Ev}
theorem vz(G:Good X C)(h1:X.mg "sorted" = none)(h2:X.mg "set" = none)(ha:SX X C e a)(g1:Gl X "sorted":=by rfl)(g2:Gl X "set":=by rfl)
  (he:tQ e X.env:=by rfl)
  (he2:starEach [.Call (.Name "set" p2) [e] [] pos2] X.env=(false,eval (.Call (.Name "set" p2) [e] [] pos2) X.env)::starEach [] X.env:=by rfl) :
  SX X C (.Call (.Name "sorted" p) [.Call (.Name "set" p2) [e] [] pos2] [] pos) (iI qN a):=⟨Ev.vz G h1 h2 ha.u g1 g2 he he2⟩
end S
end Ev
namespace L2
open PySem PySem.Spec PyProof.Rows PySem.Builtin
section
variable{P:Program}{w:World}{A:Around}{E:Value->Shared->Prop}{s:Shared}{X:Cx}
theorem VF(n:Nat)(i:Int):(Builtin.Range.rangePlace? 0 (n:Int) 1 i).isSome=decide (0<=i/\i<n):=by
 have hrs:Builtin.Range.rangeSize 0 (n:Int) 1=(n:Int):=by rw[rangeSize_one];split<;>omega
 unfold Builtin.Range.rangePlace?;simp only[hrs];by_cases h:0<=i/\i<n
 ·rw[decide_eq_true h];simp;omega
 ·rw[decide_eq_false h];simp;omega
theorem NP{Q:Value->Shared->Prop}{r:Addr}{n:Nat}{i:Int}{ti t u v:Tok}(hr:IsRange s.heap r 0 (n:Int) 1 t u v)(h:Q (.bool (!decide (0<=i/\i<n))) s):wpAny (model P w) A (compareOp .NotIn (.int i ti) (.ref r)) Q E s:=by
 have hT:s.TypeIs (.ref r) "range":=⟨_,hr,rfl⟩;show wpAny _ _ (do return .bool (!(<-contains (.ref r) (.int i ti)))) Q E s;refine wpAny_bind ?_;unfold contains
 try with_reducible refine wpAny_holding ?_
 refine wpAny_bind (wpAny_specialOf hT F.slot_range_contains.lookup ?_);show wpAny _ _ (if (some (Value.builtin "range.__contains__") == some Value.none)=true then _ else _) _ E s;rw[if_neg (by rw[beq_builtin_none];exact Bool.false_ne_true)];refine wpAny_bind (wpAny_callSpecialUnlessNone?_slot (name:=Str.ofString "__contains__") hT F.slot_range_contains
  (wpAny_call_entry F.slot_range_contains hT F.entry_range_contains ?_ (F.args_range_contains_2 _ _)))
 unfold Builtin.«range.__contains__» slotArgs
 wp_walk
 rw[VF];exact⟨_,rfl,wpAny_truthy_bool (wpAny_pure h)⟩
def KH:R2:=λx y H Q=>∃(i:Int) (p:Addr) (n:Nat),x = .int i/\y = .ref p/\H p=some (O8 p n)/\Q (.bl (!decide (0<=i/\i<n))) H
theorem Np:pA X (compareOp .NotIn) KH:=by intro pins s σ H x y v u Q I rx ry h;obtain⟨i,p,n,rfl,rfl,hp,q⟩:=h;obtain⟨t,rfl⟩:=rx;cases ry;obtain⟨t,u,v,e⟩:∃t u v,IsRange s.heap p 0 (n:Int) 1 t u v:=(I.hok p _ hp).1;exact NP e ⟨.bl _,H,I,rfl,q⟩
end
end L2
namespace Ev
open PySem PySem.Spec PyProof.Rows L2 PySem.Builtin
section
variable{X:Cx}{C:Cfg}{pos p p2 pos2:Pos}{x e:Expr}{a b:Ev}
def uR:D->D->Option D
 | .int i,.int n=>if 0<=n then some (.bl (!decide (0<=i/\i<n))) else none
 | _,_=>none
theorem xV(G:Good X C)(h2:X.mg "range" = none)(hx:PX X C x a)(ha:PX X C e b)(g2:Gl X "range":=by rfl)
  (he:tQ e X.env:=by rfl) (hm:behindInMarks .NotIn (.Call (.Name "range" p2) [e] [] pos2)=false:=by rfl) :
  PX X C (.Compare x [.NotIn] [.Call (.Name "range" p2) [e] [] pos2] pos) (aH uR a b):=by
 have i1:PE X (.Call (.Name "range" p2) [e] [] pos2) _:=oX (T:="range") L2.wZ g2 h2 (by decide +kernel) (iM ha mV he) (by decide) (by decide) he rfl;refine(De (pos:=pos) L2.Np hx i1 hm).imp λσ H Q hq=>?_;obtain⟨Pr,F,env,env',d,r,e0,q⟩:=hq;obtain⟨d1,aD,e1,e2⟩:=aO e0;obtain⟨d2,dh,e3,e4⟩:=aO e2;obtain⟨e5,rfl⟩:=dC e4;refine⟨Pr,F,env,aD,d1,r,e1,λv1 H1 F1 r1 s1 p1=>?_⟩;refine⟨Pr,F1,aD,env',d2,r1,e3,λv2 H2 F2 r2 s2 p2=>?_⟩;unfold uR at e5;split at e5
 ·rename_i i n;split at e5
  ·rename_i hn;cases e5;obtain⟨n,rfl⟩:∃m:Nat,n=(m:Int):=⟨n.toNat,by omega⟩;cases p1;cases p2;show CW [.int n] H2 λy H3=>KH (.int i) y H3 Q;refine⟨n,rfl,λl hl=>?_⟩;have r3:=r2.fresh (o:=O8 l n) hl;exact⟨i,l,n,rfl,rfl,aU,q _ _ F2 r3 (s1.trans s2) rfl⟩
  ·cases e5
 ·cases e5
end
namespace S
variable{X:Cx}{C:Cfg}{pos p p2 pos2:Pos}{x e:Expr}{a b:Ev}
theorem xV(G:Good X C)(h2:X.mg "range" = none)(hx:SX X C x a)(ha:SX X C e b)(g2:Gl X "range":=by rfl)
  (he:tQ e X.env:=by rfl) (hm:behindInMarks .NotIn (.Call (.Name "range" p2) [e] [] pos2)=false:=by rfl) :
  SX X C (.Compare x [.NotIn] [.Call (.Name "range" p2) [e] [] pos2] pos) (aH uR a b):=⟨Ev.xV G h2 hx.u ha.u g2 he hm⟩
end S
end Ev
namespace jE
open Ev
section
def j6:bG:=aY (Om (au gIs 0 (aQ .non)) (au gIn 1 (aV 0)))
def d7:List D->Option D:=bL 2 j6
def jD:bG:=aC (aK (aq 0) (eE 4 (aW (ak 1) (aW (ak 2) (aW (ak 3) (aW (ak 4) (fG))))))) (aY (cI (aa (aq 1) (aa (aq 2) (aa (aq 4) (aa (aq 3) (ao)))))))
def o9:List D->Option D:=bL 5 jD
def iG:bG:=aY (aH lV (aH bU (aH bU (au bU 0 (aQ (.int 1))) (aQ (.int 0))) (aQ (.int 0))) (aQ (.str [])))
def kY:List D->Option D:=bL 1 iG
def kE:bG:=aC (dB (cX (dw (az d7 (aa (aq 4) (aa (aq 8) (ao))))) (dw (az d7 (aa (aq 5) (aa (aq 9) (ao)))))) (fX 7 (aq 6)) (bK)) (aC (fX 7 (aq 9)) (aK (aq 9) (ak 8)))
def dq:bG:=aC (aK (aq 0) (eE 4 (aW (ak 2) (aW (ak 3) (aW (ak 4) (aW (ak 5) (fG))))))) (aC (aK (aH bU (au bU 3 (aQ (.int 0))) (aQ (.int 1))) (ak 6)) (aC (cT 7 (bZ (ao))) (aC (aK (aQ (.str [35])) (ak 8)) (aC (dI (d8 (au bJ 1 (aQ (.str [35])))) (ak 9) (kE)) (aY (aH m5 (aQ (.str [])) (uc (aq 7) (lH) (uV (iI oh (aQ (.int 1)))))))))))
def gq:List D->Option D:=bL 10 dq
def j4:bG:=aC (aK (aq 11) (ak 12)) (aC (dB (cX (dw (au m6 11 (aV 6))) (cX (dw (az d7 (aa (aq 4) (aa (aq 9) (ao))))) (dw (az d7 (aa (aq 5) (aa (au bU 7 (au bJ 10 (aQ (.int 1)))) (ao))))))) (aK (au iZ 6 (aV 11)) (ak 12)) (bK)) (aC (fX 8 (aq 12)) (dB (dw (au lV 2 (aQ (.str [111,110,99,101])))) (aK (aq 11) (ak 9)) (dB (dw (au rJ 12 (aQ (.str [])))) (aK (aq 12) (ak 9)) (bK)))))
def cM:bG:=aC (aK (aq 0) (eE 4 (aW (ak 2) (aW (ak 3) (aW (ak 4) (aW (ak 5) (fG))))))) (aC (aK (az qb (aa (aV 3) ao)) (ak 6)) (aC (aK (au bJ 1 (aQ (.str [35]))) (ak 7)) (aC (cT 8 (bZ (ao))) (aC (aK (aQ (.str [35])) (ak 9)) (aC (dI (DW (aa (aq 1) (ao))) (eE 2 (aW (ak 10) (aW (ak 11) (fG)))) (j4)) (aY (aH m5 (aQ (.str [])) (aV 8))))))))
def fH:List D->Option D:=bL 13 cM
def dZ:bG:=aC (dB (dw (az kY (aa (aq 0) (ao)))) (aY (az gq (aa (aq 0) (aa (aq 1) (ao))))) (bK)) (aY (az fH (aa (aq 0) (aa (aq 1) (ao)))))
def gh:List D->Option D:=bL 2 dZ
def gM:bG:=aC (dB (dw (au lV 0 (aQ (.str [114,105,103,104,116])))) (aY (pg (az gh (aa (az o9 (aa (aq 1) (ao))) (aa (pg (aq 2)) (ao)))))) (bK)) (aY (az gh (aa (aq 1) (aa (aq 2) (ao)))))
def iD:List D->Option D:=bL 3 gM
def v8:bG:=fX 4 (az iD (aa (aq 2) (aa (aq 5) (aa (au bU 4 (iI oh (aQ (.int 1)))) (ao)))))
def um:bG:=aC (aK (aq 0) (eE 2 (aW (ak 2) (aW (ak 3) (fG))))) (aC (cT 4 (bZ (aa (aq 1) (ao)))) (aC (dI (d8 (aq 3)) (ak 5) (v8)) (aY (az cG (aa (aV 4) ao)))))
def wu:List D->Option D:=bL 6 um
def wD:bG:=aY (aH bU (az wu (aa (aq 0) (aa (aq 1) (ao)))) (iI oh (aQ (.int 1))))
def ou:List D->Option D:=bL 2 wD
def fD:Ev:=wW 3 5 (d8 (aq 1)) (ak 3) (dz (aa (aq 0) (ao))) (ak 4) (dw (au qO 4 (aV 3))) (au bJ 3 (cI (aa (aq 4) (ao))))
def cW:bG:=cT 1 (fD)
def jH:bG:=aC (aK (bZ (aa (cI (ao)) (ao))) (ak 1)) (aC (dI (dz (aa (aq 0) (ao))) (ak 2) (cW)) (aY (aq 1)))
def fU:List D->Option D:=bL 3 jH
def oZ:Ev:=dR 4 5 (d8 (aq 1)) (ak 4) (cu) (au bU 3 (aV 4))
def Eg:bG:=aC (aK (aq 0) (eE 2 (aW (ak 2) (aW (ak 3) (fG))))) (aY (cI (aa (aq 2) (aa (az cG (aa (oZ) ao)) (ao)))))
def wA:List D->Option D:=bL 4 Eg
def iu:Ev:=dR 2 4 (d8 (aq 1)) (eE 2 (aW (ak 2) (aW (ak 3) (fG)))) (cu) (aH lV (az ou (aa (aq 0) (aa (aq 2) (ao)))) (aV 3))
def mz:bG:=aY (iu)
def jm:List D->Option D:=bL 2 mz
def iy:Ev:=dR 3 4 (d8 (aq 1)) (ak 3) (cu) (au bU 2 (aV 3))
def iw:Ev:=dR 2 3 (d8 (aq 0)) (ak 2) (cu) (az xE (aa (iy) ao))
def mD:bG:=aY (Bu (az Ak (aa (iw) ao)))
def jo:List D->Option D:=bL 2 mD
def j0:Ev:=dR 5 6 (d8 (aq 2)) (ak 5) (dw (au rJ 5 (aV 3))) (aq 5)
def gW:bG:=aC (cT 4 (j0)) (dB (dw (az jo (aa (aq 0) (aa (aq 4) (ao))))) (aK (aq 4) (ak 2)) (bK))
def rN:bG:=aC (aK (iI zf (aq 1)) (ak 2)) (aC (dI (dz (aa (aq 1) (ao))) (ak 3) (gW)) (aY (az cG (aa (aV 2) ao))))
def kW:List D->Option D:=bL 5 rN
def jZ:Ev:=dR 5 6 (d8 (aq 2)) (ak 5) (cu) (az jm (aa (az wA (aa (aq 0) (aa (aq 5) (ao)))) (aa (aq 1) (ao))))
def jk:Ev:=dR 5 7 (uT (aa (aq 2) (aa (aq 3) (ao)))) (eE 2 (aW (ak 5) (aW (ak 6) (fG)))) (dw (az xE (aa (aV 6) ao))) (aq 5)
def rM:bG:=aC (aK (az fU (aa (az f9 (aa (au bU 0 (aQ (.int 1))) ao)) (ao))) (ak 2)) (aC (cT 3 (jZ)) (aC (cT 4 (jk)) (aC (dB (dw (au rJ 4 (bZ (ao)))) (aY (cI (aa (aQ (.str [116,111,108,100])) (aa (az cG (aa (aV 4) ao)) (ao))))) (bK)) (aY (cI (aa (aQ (.str [113,117,97,114,114,101,108])) (aa (az kW (aa (aq 3) (aa (az f9 (aa (aV 1) ao)) (ao)))) (ao))))))))
def fQ:List D->Option D:=bL 5 rM
def jh:bG:=aY (aH ab2 (au t6 0 (aQ (.int 262406895267124108351839057402211873468251940277165213587343))) (aH J3 (aQ (.int 10)) (aQ (.int 60))))
def gO:List D->Option D:=bL 1 jh
def n8:bG:=aK (aH bJ (au t6 2 (aH J3 (aQ (.int 10)) (aQ (.int 60)))) (az gO (aa (aH bU (aH bJ (uc (aq 0) (uV (aq 3)) (uV (au bJ 3 (aQ (.int 1))))) (bZ (aa (aH bJ (aH t6 (aQ (.int 7919)) (aV 3)) (aQ (.int 61))) (ao)))) (aQ (.int 0))) (ao)))) (ak 2)
def ik:bG:=aC (aK (aQ (.int 0)) (ak 2)) (aC (dI (d8 (bZ (aa (au bJ 1 (aQ (.int 1))) (aa (aq 1) (ao))))) (ak 3) (n8)) (qp (bZ (aa (aq 2) (ao)))))
def du:List D->Option D:=runN 4 ik
def dH:bG:=aC (aK (az my (aa (au bU 0 (aQ (.int 0))) (aa (aV 1) ao))) (eE 2 (aW (J0 0 (aQ (.int 0))) (aW (ak 2) (fG))))) (aY (aq 2))
def aG:List D->Option (D×D):=eO 3 dH
def mW:Ev:=dR 7 8 (dz (aa (aQ (.int 5)) (ao))) (ak 7) (dw (aH lV (aH G9 (au G8 5 (aV 7)) (aQ (.int 1))) (aQ (.int 1)))) (au bU 2 (aV 7))
def mZ:bG:=aC (aK (cD aG 0 (aa (aQ (.int 32)) (ao))) (ak 5)) (aC (aK (az iQ (aa (mW) ao)) (ak 6)) (fX 3 (cI (aa (aq 4) (aa (az cG (aa (uc (aq 6) (lH) (uV (aQ (.int 4)))) ao)) (ao))))))
def jf:bG:=aC (aK (aH bU (bZ (aa (aQ (.str [97])) (aa (aQ (.str [97,98])) (aa (aQ (.str [97,98])) (aa (aQ (.str [97,98,99])) (aa (aQ (.str [97,101,112,116])) (aa (aQ (.str [109,110,122])) (ao)))))))) (cD aG 0 (aa (aQ (.int 6)) (ao)))) (ak 1)) (aC (aK (bZ (aa (aQ (.str [115,116,111,112])) (aa (aQ (.str [115,116,111,112,115])) (aa (aQ (.str [115])) (aa (aQ (.str [111,112,101,110])) (aa (aQ (.str [97,98,99,100,101,102,103,104])) (ao))))))) (ak 2)) (aC (cT 3 (bZ (ao))) (aC (dI (d8 (aq 1)) (ak 4) (mZ)) (aY (az cG (aa (aV 3) ao))))))
def eV:List D->Option (D×D):=eO 7 jf
def lQ:Ev:=dR 1 3 (d8 (aq 0)) (eE 2 (aW (ak 1) (aW (ak 2) (fG)))) (cu) (aq 1)
def jq:bG:=aY (aH m5 (aQ (.str [])) (lQ))
def dM:List D->Option D:=bL 1 jq
def mX:Ev:=dR 4 5 (dz (aa (az f9 (aa (aV 3) ao)) (ao))) (ak 4) (dw (aH lV (aH G9 (au G8 2 (aV 4)) (aQ (.int 1))) (aQ (.int 1)))) (au bU 3 (aV 4))
def dY:bG:=aC (dB (dw (aH lV (cD aG 0 (aa (aQ (.int 2)) (ao))) (aQ (.int 0)))) (aY (aQ .non)) (bK)) (aC (aK (aH bJ (aQ (.int 1)) (cD aG 0 (aa (aH qM (aH WX (aQ (.int 2)) (az f9 (aa (aV 1) ao))) (aQ (.int 1))) (ao)))) (ak 2)) (aC (aK (aH bJ (aQ (.str [35])) (aV 1)) (ak 3)) (aY (az cG (aa (mX) ao)))))
def gb:List D->Option (D×D):=eO 4 dY
def km:Ev:=dR 6 7 (d8 (aH bJ (az qP (aa (aV 1) ao)) (bZ (aa (aQ (.str [])) (ao))))) (ak 6) (dw (au rJ 6 (aV 4))) (aq 6)
def kI:bG:=aC (aK (au bU 1 (cD aG 0 (aa (az f9 (aa (aV 1) ao)) (ao)))) (ak 4)) (aC (cT 5 (km)) (nH 2 (aq 4) (au bU 5 (cD aG 0 (aa (az f9 (aa (aV 5) ao)) (ao))))))
def kj:Ev:=dR 6 7 (d8 (az iQ (aa (aV 2) ao))) (ak 6) (cu) (cI (aa (aq 6) (aa (au iZ 2 (aV 6)) (ao))))
def cN:bG:=aC (dB (dw (aH lV (cD aG 0 (aa (aQ (.int 5)) (ao))) (aQ (.int 0)))) (aY (cI (aa (cI (aa (aQ (.str [])) (aa (au bU 1 (cD aG 0 (aa (az f9 (aa (aV 1) ao)) (ao)))) (ao)))) (ao)))) (bK)) (aC (cT 2 (zp)) (aC (dI (dz (aa (aH bJ (aQ (.int 1)) (cD aG 0 (aa (aQ (.int 3)) (ao)))) (ao))) (ak 3) (kI)) (aY (az cG (aa (kj) ao)))))
def gA:List D->Option (D×D):=eO 6 cN
def gF:bG:=aC (aK (aH bU (bZ (aa (aQ (.str [111,110,99,101])) (aa (aQ (.str [97,108,111,110,103])) (ao)))) (cD aG 0 (aa (aQ (.int 2)) (ao)))) (ak 2)) (aC (aK (cD gA 0 (aa (aq 1) (ao))) (ak 3)) (aY (cI (aa (aq 2) (aa (aq 3) (aa (cD gb 0 (aa (aq 1) (ao))) (aa (cD gb 0 (aa (aq 1) (ao))) (ao))))))))
def jd:List D->Option (D×D):=eO 4 gF
def mY:Ev:=dR 4 5 (dz (aa (cD aG 0 (aa (au bJ 2 (aQ (.int 1))) (ao))) (ao))) (ak 4) (cu) (cD jd 0 (aa (aq 1) (ao)))
def jg:bG:=aC (aK (aH bU (bZ (aa (aQ (.str [108,101,102,116])) (aa (aQ (.str [114,105,103,104,116])) (ao)))) (cD aG 0 (aa (aQ (.int 2)) (ao)))) (ak 3)) (aY (cI (aa (aq 3) (aa (az cG (aa (mY) ao)) (ao)))))
def eY:List D->Option (D×D):=eO 4 jg
def nZ:Ev:=dR 3 4 (dz (aa (cD aG 0 (aa (au bJ 2 (aQ (.int 1))) (ao))) (ao))) (ak 3) (cu) (au bU 1 (cD aG 0 (aa (az f9 (aa (aV 1) ao)) (ao))))
def jK:bG:=aY (aH m5 (aQ (.str [])) (nZ))
def gZ:List D->Option (D×D):=eO 3 jK
def jM:bG:=jE.j6
def bW:List D->Option D:=bL 2 jM
def lU:bG:=aC (dB (cX (dw (az bW (aa (au bU 0 (aQ (.int 2))) (aa (au bU 2 (au qM 4 (aQ (.int 1)))) (ao))))) (dw (az bW (aa (au bU 0 (aQ (.int 3))) (aa (au bU 2 (aV 4)) (ao)))))) (aK (au bJ 3 (aH bU (aH bU (au bU 0 (aQ (.int 1))) (aQ (.int 0))) (aQ (.int 1)))) (ak 3)) (bK)) (aK (au bJ 3 (au bU 2 (aV 4))) (ak 3))
def dW:bG:=aC (aK (aH bJ (aH bJ (aQ (.str [35])) (aV 1)) (aQ (.str [35]))) (ak 2)) (aC (aK (aQ (.str [])) (ak 3)) (aC (dI (dz (aa (aQ (.int 1)) (aa (az f9 (aa (aV 2) ao)) (ao)))) (ak 4) (lU)) (aY (qT (aq 3) (lH) (uV (iI oh (aQ (.int 1))))))))
def ie:List D->Option D:=bL 5 dW
def kJ:bG:=aC (aK (au bU 7 (au qM 9 (aQ (.int 1)))) (ak 10)) (aC (dB (dw (au lV 2 (aQ (.str [97,108,111,110,103])))) (aK (au bU 8 (iI oh (aQ (.int 1)))) (ak 10)) (bK)) (dB (cX (dw (aH m6 (au bU 7 (aV 9)) (aV 6))) (cX (dw (az bW (aa (aq 4) (aa (aq 10) (ao))))) (dw (az bW (aa (aq 5) (aa (au bU 7 (au bJ 9 (aQ (.int 1)))) (ao))))))) (aK (au bJ 8 (au iZ 6 (au bU 7 (aV 9)))) (ak 8)) (aK (au bJ 8 (au bU 7 (aV 9))) (ak 8))))
def cO:bG:=aC (aK (aq 0) (eE 4 (aW (ak 2) (aW (ak 3) (aW (ak 4) (aW (ak 5) (fG))))))) (aC (dB (dw (aH lV (aH bU (au bU 3 (aQ (.int 0))) (aQ (.int 0))) (aQ (.str [])))) (aY (az ie (aa (aq 0) (aa (aq 1) (ao))))) (bK)) (aC (aK (az qb (aa (aV 3) ao)) (ak 6)) (aC (aK (aH bJ (aH bJ (aQ (.str [35])) (aV 1)) (aQ (.str [35]))) (ak 7)) (aC (aK (aQ (.str [35])) (ak 8)) (aC (dI (dz (aa (aQ (.int 1)) (aa (aH qM (az f9 (aa (aV 7) ao)) (aQ (.int 1))) (ao)))) (ak 9) (kJ)) (aY (qT (aq 8) (uV (aQ (.int 1))) (lH))))))))
def di:List D->Option D:=bL 11 cO
def dU:bG:=aY (cI (aa (au bU 0 (aQ (.int 0))) (aa (au bU 0 (aQ (.int 1))) (aa (au bU 0 (aQ (.int 3))) (aa (au bU 0 (aQ (.int 2))) (ao))))))
def jn:List D->Option D:=bL 1 dU
def cP:bG:=aC (dB (dw (au lV 0 (aQ (.str [114,105,103,104,116])))) (aY (pg (az di (aa (az jn (aa (aq 1) (ao))) (aa (pg (aq 2)) (ao)))))) (bK)) (aY (az di (aa (aq 1) (aa (aq 2) (ao)))))
def dO:List D->Option D:=bL 3 cP
def n6:bG:=fX 2 (az dO (aa (au bU 0 (aQ (.int 0))) (aa (aq 3) (aa (au bU 2 (iI oh (aQ (.int 1)))) (ao)))))
def jL:bG:=aC (cT 2 (bZ (aa (aq 1) (ao)))) (aC (dI (d8 (au bU 0 (aQ (.int 1)))) (ak 3) (n6)) (aY (az cG (aa (aV 2) ao))))
def jc:List D->Option D:=bL 4 jL
def pP:bG:=aY (aH bU (az jc (aa (aq 0) (aa (aq 1) (ao)))) (iI oh (aQ (.int 1))))
def gw:List D->Option D:=bL 2 pP
def fC:Ev:=dR 5 6 (dz (aa (aq 0) (ao))) (ak 5) (dw (au qO 5 (aV 4))) (au bJ 4 (cI (aa (aq 5) (ao))))
def dG:bG:=yl 3 (fC)
def cV:bG:=aC (cT 3 (bZ (ao))) (aC (dI (d8 (aq 1)) (ak 4) (dG)) (aK (aq 3) (ak 1)))
def jG:bG:=aC (aK (bZ (aa (cI (ao)) (ao))) (ak 1)) (aC (dI (dz (aa (aq 0) (ao))) (ak 2) (cV)) (aY (aq 1)))
def cR:List D->Option D:=bL 5 jG
def jC:Ev:=dR 2 3 (d8 (aq 1)) (ak 2) (cu) (aH bU (au bU 0 (aQ (.int 1))) (aV 2))
def pQ:bG:=aY (cI (aa (au bU 0 (aQ (.int 0))) (aa (az cG (aa (jC) ao)) (ao))))
def ig:List D->Option D:=bL 2 pQ
def eQ:bG:=aC (cT 11 (az du (aa (aq 0) (aa (aH bJ (au bJ 1 (aQ (.int 2))) (aV 10)) (ao))))) (aC (aK (cD gZ 11 (aa (aq 3) (aa (aQ (.int 7)) (ao)))) (ak 12)) (aC (aK (aq 7) (ak 13)) (aC (dB (dw (au lV 8 (aQ (.int 1)))) (aK (au bU 6 (cD aG 11 (aa (az f9 (aa (aV 6) ao)) (ao)))) (ak 13)) (bK)) (aC (aK (az gw (aa (az ig (aa (aq 2) (aa (aq 13) (ao)))) (aa (aq 12) (ao)))) (ak 14)) (aC (dB (cX (dw (au lV 8 (aQ (.int 2)))) (dw (aH lV (cD aG 11 (aa (aQ (.int 3)) (ao))) (aQ (.int 0))))) (aK (Hg (au bJ 14 (au bU 3 (cD aG 11 (aa (az f9 (aa (aV 3) ao)) (ao))))) (uV (cD aG 11 (aa (aQ (.int 2)) (ao)))) (lH)) (ak 14)) (bK)) (fX 9 (cI (aa (aq 12) (aa (qT (aq 14) (lH) (uV (aQ (.int 20)))) (ao))))))))))
def pR:bG:=aC (cT 5 (az du (aa (aq 0) (aa (aq 1) (ao))))) (aC (aK (az cR (aa (az f9 (aa (au bU 2 (aQ (.int 1))) ao)) (ao))) (ak 6)) (aC (aK (au bU 6 (cD aG 5 (aa (az f9 (aa (aV 6) ao)) (ao)))) (ak 7)) (aC (aK (cD aG 5 (aa (aQ (.int 4)) (ao))) (ak 8)) (aC (cT 9 (bZ (ao))) (aC (dI (dz (aa (aH bJ (aQ (.int 1)) (cD aG 5 (aa (aq 4) (ao)))) (ao))) (ak 10) (eQ)) (aY (az cG (aa (aV 9) ao))))))))
def je:List D->Option D:=bL 15 pR
def oY:Ev:=dR 5 7 (d8 (aq 1)) (eE 2 (aW (ak 5) (aW (ak 6) (fG)))) (cu) (aH lV (az gw (aa (aq 4) (aa (aq 5) (ao)))) (aV 6))
def jl:bG:=aC (aK (az ig (aa (aq 0) (aa (aq 3) (ao)))) (ak 4)) (dB (dw (az xE (aa (oY) ao))) (fX 2 (aq 3)) (bK))
def su:bG:=aC (cT 2 (bZ (ao))) (aC (dI (d8 (az cR (aa (az f9 (aa (au bU 0 (aQ (.int 1))) ao)) (ao)))) (ak 3) (jl)) (aY (aq 2)))
def iC:List D->Option D:=bL 5 su
def gV:Ev:=dR 5 6 (d8 (aq 3)) (ak 5) (cu) (Om (iI (Oh "bool") (aq 5)) (aH uR (aq 5) (az f9 (aa (aV 1) ao))))
def gU:Ev:=dR 5 6 (d8 (aq 3)) (ak 5) (cu) (au bU 1 (aV 5))
def gR:Ev:=dR 5 6 (d8 (aq 3)) (ak 5) (dw (au rJ 5 (aV 4))) (au bU 1 (aV 5))
def gY:bG:=dB (dw (aH lV (az iC (aa (aq 0) (aa (gR) (ao)))) (bZ (ao)))) (aY (aQ (.bl false))) (bK)
def lX:bG:=aC (dB (sr (dw (aH rJ (az f9 (aa (aV 2) ao)) (aQ (.int 2)))) (sr (dw (aH rJ (au bU 2 (aQ (.int 0))) (aQ (.str [113,117,97,114,114,101,108])))) (sr (zj (dw (iI (Oh "tuple") (au bU 2 (aQ (.int 1)))))) (dw (aH lV (au bU 2 (aQ (.int 1))) (cI (ao))))))) (aY (aQ (.bl false))) (bK)) (aC (aK (au bU 2 (aQ (.int 1))) (ak 3)) (aC (dB (dw (az Ak (aa (gV) ao))) (aY (aQ (.bl false))) (bK)) (aC (dB (sr (dw (aH rJ (az qP (aa (aV 3) ao)) (iI qN (aq 3)))) (dw (aH rJ (az iC (aa (aq 0) (aa (gU) (ao)))) (bZ (ao))))) (aY (aQ (.bl false))) (bK)) (aC (dI (d8 (aq 3)) (ak 4) (gY)) (aY (aQ (.bl true)))))))
def gK:List D->Option D:=bL 5 lX
def YT:bG:=aC (cT 1 (az du (aa (aq 0) (aa (aQ (.int 0)) (ao))))) (aC (aK (az dM (aa (cD eV 1 (ao)) (ao))) (ak 2)) (aC (aK (cD eY 1 (aa (aq 2) (aa (aQ (.int 4)) (ao)))) (ak 3)) (aC (aK (az je (aa (aq 0) (aa (aQ (.int 2)) (aa (aq 3) (aa (aq 2) (aa (aQ (.int 6)) (ao))))))) (ak 4)) (aC (aK (az fQ (aa (aq 3) (aa (aq 4) (ao)))) (ak 5)) (aC (aK (az fQ (aa (cI (aa (au bU 3 (aQ (.int 0))) (aa (iI wR (au bU 3 (aQ (.int 1)))) (ao)))) (aa (iI wR (aq 4)) (ao)))) (ak 6)) (aC (dB (sr (dw (aH rJ (au bU 6 (aQ (.int 0))) (au bU 5 (aQ (.int 0))))) (dw (aH rJ (az fQ (aa (aq 3) (aa (aq 4) (ao)))) (aV 5)))) (aY (aQ (.bl false))) (bK)) (aC (aK (az iC (aa (aq 3) (aa (aq 4) (ao)))) (ak 7)) (aC (dB (sr (zj (dw (iI (Oh "tuple") (aq 5)))) (sr (dw (au lV 5 (cI (ao)))) (dw (aH rJ (aH bU (az fQ (aa (aq 3) (aa (aq 4) (ao)))) (aQ (.int 0))) (au bU 5 (aQ (.int 0))))))) (aY (aQ (.bl false))) (bK)) (aC (dB (dw (au rJ 7 (bZ (ao)))) (aY (au lV 5 (cI (aa (aQ (.str [116,111,108,100])) (aa (az cG (aa (aV 7) ao)) (ao)))))) (bK)) (aY (az gK (aa (aq 3) (aa (aq 4) (aa (aq 5) (ao)))))))))))))))
def Bt:List D->Option D:=bL 8 YT
end
open PySem PySem.Spec PyProof.Rows L2 Ev
def top(i:Nat):Stmt:=PySem.Challenge.pw_soundrules_k45_orderings_that_tell_a_boo.main.body.getD i (.Pass ⟨0,0,0,0⟩)
abbrev Jh:Stmt:=top 2
abbrev yu:Stmt:=top 3
abbrev vQ:Stmt:=top 4
abbrev nJ:Stmt:=top 6
abbrev mL:Stmt:=top 7
abbrev qz:Stmt:=top 8
abbrev vR:Stmt:=top 9
abbrev Je:Stmt:=top 10
abbrev Jf:Stmt:=top 11
abbrev lM:Stmt:=top 13
abbrev Jg:Stmt:=top 14
abbrev pC:Stmt:=top 16
abbrev pH:Stmt:=top 17
abbrev vP:Stmt:=top 18
abbrev vO:Stmt:=top 19
abbrev qy:Stmt:=top 21
abbrev tH:Stmt:=top 22
abbrev tu:Stmt:=top 23
abbrev qu:Stmt:=top 24
abbrev pF:Stmt:=top 25
abbrev qw:Stmt:=top 26
abbrev nO:Stmt:=top 27
abbrev tD:Stmt:=top 28
abbrev qx:Stmt:=top 29
abbrev sY:Stmt:=top 30
abbrev tM:Stmt:=top 31
abbrev pG:Stmt:=top 32
abbrev nQ:Stmt:=top 33
abbrev pD:Stmt:=top 34
abbrev nR:Stmt:=top 35
abbrev sZ:Stmt:=top 36
abbrev tK:Stmt:=top 37
abbrev lL:Stmt:=top 38
abbrev tL:Stmt:=top 39
abbrev tO:Stmt:=top 40
abbrev nM:Stmt:=top 41
abbrev jt:Stmt:=top 42
abbrev Qo:Stmt:=top 43
structure Top(K:Fg)(mg:Str->Option Value):Prop where
 JB:mg "all" = none
 Rm:mg "any" = none
 Wc:mg "bool" = none
 K5:mg "dict" = none
 NT:mg "divmod" = none
 Dq:mg "enumerate" = none
 nW:mg "isinstance" = none
 iW:mg "len" = none
 Dp:mg "list" = none
 fB:mg "range" = none
 aaH:mg "set" = none
 vZ:mg "sorted" = none
 fu:mg "tuple" = none
 aaG:mg "zip" = none
 qL:∀d:D,PySem.W.kitOne K (.type (Uk d)) (.type "bool")=some (o6 d "bool")
 mJ:∀d:D,PySem.W.kitOne K (.type (Uk d)) (.type "tuple")=some (o6 d "tuple")
 gJ:Glb K mg "EDGE" (.str [35])
 Zh:cU K mg "fits" Jh ["signs","sign"]
 P0:cU K mg "turned" yu ["rule"]
 Mw:cU K mg "puts_in" vQ ["rule"]
 zW:cU K mg "with_put_in" nJ ["rule","word"]
 yg:cU K mg "with_changes" mL ["rule","word"]
 Fj:cU K mg "from_left" qz ["rule","word"]
 Mx:cU K mg "changed" vR ["side","rule","word"]
 Ze:cU K mg "walk" Je ["order","word"]
 Zf:cU K mg "made" Jf ["order","word"]
 xr:cU K mg "all_orderings" lM ["many"]
 Zg:cU K mg "laid" Jg ["order","ordering"]
 Ck:cU K mg "pairs_told" pC ["order","book"]
 Cu:cU K mg "is_quarrel" pH ["tellings","numbers"]
 Mv:cU K mg "quarrel" vP ["tellings","many"]
 Mu:cU K mg "told_by" vO ["order","book"]
 Fi:cU K mg "_law_mixed" qy ["_law_cell"]
 Il:cU K mg "_law_pack" tH ["_law_script","_law_k"]
 Ij:cU K mg "_law_take" tu ["_law_pack_here","_law_size"]
 Fd:cU K mg "_law_stock" qu ["_law_pack_here"]
 Cq:cU K mg "_law_sounds" pF ["_law_stock_here"]
 Fe:cU K mg "_law_signs" qw ["_law_pack_here","_law_sounds_here"]
 zY:cU K mg "_law_changes" nO ["_law_pack_here","_law_sounds_here"]
 Ik:cU K mg "_law_rule" tD ["_law_pack_here","_law_sounds_here"]
 Ff:cU K mg "_law_order" qx ["_law_pack_here","_law_sounds_here","_law_most"]
 Ih:cU K mg "_law_word" sY ["_law_pack_here","_law_sounds_here","_law_most"]
 Ip:cU K mg "_law_fits" tM ["_law_signs_here","_law_sign"]
 Cr:cU K mg "_law_put_in" pG ["_law_rule_here","_law_word_here"]
 zZ:cU K mg "_law_changed" nQ ["_law_rule_here","_law_word_here"]
 Cp:cU K mg "_law_turned" pD ["_law_rule_here"]
 z6:cU K mg "_law_by_side" nR ["_law_side","_law_rule_here","_law_word_here"]
 Ii:cU K mg "_law_walk" sZ ["_law_order_here","_law_word_here"]
 Im:cU K mg "_law_made" tK ["_law_order_here","_law_word_here"]
 xq:cU K mg "_law_orderings" lL ["_law_many"]
 Io:cU K mg "_law_laid" tL ["_law_order_here","_law_ordering"]
 Ir:cU K mg "_law_book" tO ["_law_script","_law_k","_law_order_here","_law_sounds_here","_law_amount"]
 zX:cU K mg "_law_telling" nM ["_law_order_here","_law_book_here"]
 rQ:cU K mg "_law_quarrel_right" jt ["_law_order_here","_law_book_here","_law_told"]
section
variable{P:Program}{w:World}{K:Fg}{mg:Str->Option Value}{base:Heap}(Z:Top K mg)
theorem Ve:bA ["signs","sign"] ["signs","sign"] (aN Jh):=ir
include Z in
theorem Dm:Own P w K mg base "fits" 1 ["signs","sign"] (oR K 2 d7):=by exact bN (k:=0) Z.Zh Ve (λf cdv A outer s H E hr G=>(S.fP.u (S.aF (S.bh (S.Gb (S.sS 0 afg (S.bf S.yH)) (S.yG (S.sS 1 (afh G) (S.cQ 0))))))))
theorem M3:bA ["rule","way","changes","left","right"] ["rule"] (aN yu):=ir
include Z in
theorem Rf:Own P w K mg base "turned" 1 ["rule"] (oR K 1 o9):=by
 exact bN (k:=0) Z.P0 M3 (λf cdv A outer s H E hr G=>(S.fP.u (S.aA (S.mq (S.aJ 0) (S.nC G (S.bz (S.bu 1) (S.bz (S.bu 2) (S.bz (S.bu 3) (S.bz (S.bu 4) S.fZ))))))
   (S.aF (S.bh (S.fj (S.aj (S.aJ 1) (S.aj (S.aJ 2) (S.aj (S.aJ 4) (S.aj (S.aJ 3) S.aB))))))))))
theorem Jc:bA ["rule"] ["rule"] (aN vQ):=ir
include Z in
theorem Nz:Own P w K mg base "puts_in" 1 ["rule"] (oR K 1 kY):=by exact bN (k:=0) Z.Mw Jc (λf cdv A outer s H E hr G=>(S.fP.u (S.aF (S.bh (S.Ex (pO G) (S.rP G (S.rP G (S.bY 0 G (S.bf S.aM)) (S.bf S.aM)) (S.bf S.aM)) (S.bf (S.bV [] (by decide +kernel))))))))
theorem yo:bA ["rule","word","way","changes","left","right","new","made_of","ahead","sign"] ["rule","word"] (aN nJ):=ir
include Z in
theorem Af:Own P w K mg base "with_put_in" 2 ["rule","word"] (oR K 2 gq):=by
 obtain⟨Y9,Zb,gJ⟩:=Z.gJ;exact bN (k:=1) Z.zW yo (λf cdv A outer s H E hr G=>(S.fP.u (S.aA (S.mq (S.aJ 0) (S.nC G (S.bz (S.bu 2) (S.bz (S.bu 3) (S.bz (S.bu 4) (S.bz (S.bu 5) S.fZ))))))
   (S.aA (S.bT 6 (S.rP G (S.bY 3 G (S.bf S.aM)) (S.bf S.aM)))
   (S.aA (S.nq 7 (S.cZ S.aB))
   (S.aA (S.bT 8 (S.rA (.str [35]) rfl gJ.1 gJ.2.1 (λF=>gJ.2.2 F)))
   (S.aA (S.j8 G (S.iz G (S.eG 1 (gk G) (S.bf (S.rA (.str [35]) rfl gJ.1 gJ.2.1 (λF=>gJ.2.2 F))))) (S.bu 9) (S.aA (S.dF (S.pX (S.mj (S.fY (S.cA (Dm Z) G hr (by rfl) (S.aj (S.aJ 4) (S.aj (S.aJ 8) S.aB)) (aZ (aZ len0)))) (S.mO (S.fY (S.cA (Dm Z) G hr (by rfl) (S.aj (S.aJ 5) (S.aj (S.aJ 9) S.aB)) (aZ (aZ len0))))))) (S.aF (S.rW 7 G (S.aJ 6))) S.cj)
   (S.aA (S.rW 7 G (S.aJ 9))
   (S.aF (S.bT 8 (S.aJ 9))))))
   (S.aF (S.bh (S.vA G (S.bV [] (by decide +kernel)) (S.bf (S.Px G (S.aJ 7) S.lF (S.jA (S.uA S.aM))))))))))))))
theorem xx:bA ["rule","word","way","changes","left","right","becomes","signs","made_of","ahead","at","sound","new"] ["rule","word"] (aN mL):=ir
include Z in
theorem yU:Own P w K mg base "with_changes" 2 ["rule","word"] (oR K 2 fH):=by
 obtain⟨Y9,Zb,gJ⟩:=Z.gJ;exact bN (k:=1) Z.yg xx (λf cdv A outer s H E hr G=>(S.fP.u (S.aA (S.mq (S.aJ 0) (S.nC G (S.bz (S.bu 2) (S.bz (S.bu 3) (S.bz (S.bu 4) (S.bz (S.bu 5) S.fZ))))))
   (S.aA (S.bT 6 (S.Cg G Z.K5 (S.bj (S.cQ 3))))
   (S.aA (S.bT 7 (S.eG 1 (gk G) (S.bf (S.rA (.str [35]) rfl gJ.1 gJ.2.1 (λF=>gJ.2.2 F)))))
   (S.aA (S.nq 8 (S.cZ S.aB))
   (S.aA (S.bT 9 (S.rA (.str [35]) rfl gJ.1 gJ.2.1 (λF=>gJ.2.2 F)))
   (S.aA (S.j8 G (S.JX Z.Dq (S.aj (S.aJ 1) S.aB)) (S.nC G (S.bz (S.bu 10) (S.bz (S.bu 11) S.fZ))) (S.aA (S.bT 12 (S.aJ 11))
   (S.aA (S.dF (S.pX (S.mj (S.iH 11 (Ma G) (S.cQ 6)) (S.mj (S.fY (S.cA (Dm Z) G hr (by rfl) (S.aj (S.aJ 4) (S.aj (S.aJ 9) S.aB)) (aZ (aZ len0)))) (S.mO (S.fY (S.cA (Dm Z) G hr (by rfl) (S.aj (S.aJ 5) (S.aj (S.bY 7 G (S.bf (S.eG 10 (gk G) (S.bf S.aM)))) S.aB)) (aZ (aZ len0)))))))) (S.aF (S.bT 12 (S.uB 6 G (S.cQ 11)))) S.cj)
   (S.aA (S.rW 8 G (S.aJ 12))
   (S.aF (S.dF (S.iH 2 (pO G) (S.bf (S.bV [111,110,99,101] (by decide +kernel)))) (S.aF (S.bT 9 (S.aJ 11))) (S.aF (S.dF (S.iH 12 (wC G) (S.bf (S.bV [] (by decide +kernel)))) (S.aF (S.bT 9 (S.aJ 12))) S.cj))))))))
   (S.aF (S.bh (S.vA G (S.bV [] (by decide +kernel)) (S.cQ 8))))))))))))
theorem CN:bA ["rule","word"] ["rule","word"] (aN qz):=ir
include Z in
theorem wM:Own P w K mg base "from_left" 3 ["rule","word"] (oR K 2 gh):=by
 exact bN (k:=2) Z.Fj CN (λf cdv A outer s H E hr G=>(S.fP.u (S.aA (S.dF (S.fY (S.cA (Nz Z) G hr (by rfl) (S.aj (S.aJ 0) S.aB) (aZ len0))) (S.aF (S.bh (S.cA (Af Z) G hr (by rfl) (S.aj (S.aJ 0) (S.aj (S.aJ 1) S.aB)) (aZ (aZ len0))))) S.cj)
   (S.aF (S.bh (S.cA (yU Z) G hr (by rfl) (S.aj (S.aJ 0) (S.aj (S.aJ 1) S.aB)) (aZ (aZ len0))))))))
theorem Jd:bA ["side","rule","word"] ["side","rule","word"] (aN vR):=ir
include Z in
theorem NB:Own P w K mg base "changed" 4 ["side","rule","word"] (oR K 3 iD):=by
 exact bN (k:=3) Z.Mx Jd (λf cdv A outer s H E hr G=>(S.fP.u (S.aA (S.dF (S.iH 0 (pO G) (S.bf (S.bV [114,105,103,104,116] (by decide +kernel)))) (S.aF (S.bh (S.Az (S.cA (wM Z) G hr (by rfl) (S.aj (S.cA (Rf Z) G hr (by rfl) (S.aj (S.aJ 1) S.aB) (aZ len0)) (S.aj (S.Az (S.aJ 2)) S.aB)) (aZ (aZ len0)))))) S.cj)
   (S.aF (S.bh (S.cA (wM Z) G hr (by rfl) (S.aj (S.aJ 1) (S.aj (S.aJ 2) S.aB)) (aZ (aZ len0))))))))
theorem Vb:bA ["order","word","side","rules","words","rule"] ["order","word"] (aN Je):=ir
include Z in
theorem aaA:Own P w K mg base "walk" 5 ["order","word"] (oR K 2 wu):=by
 exact bN (k:=4) Z.Ze Vb (λf cdv A outer s H E hr G=>(S.fP.u (S.aA (S.mq (S.aJ 0) (S.nC G (S.bz (S.bu 2) (S.bz (S.bu 3) S.fZ))))
   (S.aA (S.nq 4 (S.cZ (S.aj (S.aJ 1) S.aB)))
   (S.aA (S.j8 G (S.iz G (S.aJ 3)) (S.bu 5) (S.aF (S.rW 4 G (S.cA (NB Z) G hr (by rfl) (S.aj (S.aJ 2) (S.aj (S.aJ 5) (S.aj (S.bY 4 G (S.bf (S.uA S.aM))) S.aB))) (aZ (aZ (aZ len0)))))))
   (S.aF (S.bh (S.gQ G Z.fu (S.bj (S.cQ 4))))))))))
theorem Vc:bA ["order","word"] ["order","word"] (aN Jf):=ir
include Z in
theorem aaB:Own P w K mg base "made" 6 ["order","word"] (oR K 2 ou):=by exact bN (k:=5) Z.Zf Vc (λf cdv A outer s H E hr G=>(S.fP.u (S.aF (S.bh (S.rP G (S.cA (aaA Z) G hr (by rfl) (S.aj (S.aJ 0) (S.aj (S.aJ 1) S.aB)) (aZ (aZ len0))) (S.bf (S.uA S.aM)))))))
theorem vN:bA ["many","rows","turn"] ["many"] (aN lM):=ir
include Z in
theorem xB:Own P w K mg base "all_orderings" 1 ["many"] (oR K 1 fU):=by
 exact bN (k:=0) Z.xr vN (λf cdv A outer s H E hr G=>(S.fP.u (S.aA (S.bT 1 (S.dg (S.cZ (S.aj (S.fj S.aB) S.aB))))
   (S.aA (S.j8 G (S.kO Z.fB (S.aj (S.aJ 0) S.aB) (aZ len0)) (S.bu 2) (S.aF (S.Qn ["many","rows","turn","row","number"] 3 1 gC G (S.iz G (S.aJ 1)) (λX1 h1=>by have G:=G.at h1;obtain⟨_,_,_,_,_,rfl⟩:=h1;exact(S.bu 3)) (λX1 h1=>by have G:=G.at h1;obtain⟨_,_,_,_,_,rfl⟩:=h1;exact(S.kO Z.fB (S.aj (S.aJ 0) S.aB) (aZ len0))) (λX1 h1=>by have G:=G.at h1;obtain⟨_,_,_,_,_,rfl⟩:=h1;exact(S.bu 4)) (λX1 h1=>by have G:=G.at h1;obtain⟨_,_,_,_,_,rfl⟩:=h1;exact(S.jB (S.iH 4 (LR G) (S.cQ 3)))) (λX1 h1=>by have G:=G.at h1;obtain⟨_,_,_,_,_,rfl⟩:=h1;exact(S.eG 3 (gk G) (S.bf (S.fj (S.aj (S.aJ 4) S.aB))))))))
   (S.aF (S.bh (S.aJ 1)))))))
theorem Vd:bA ["order","ordering","side","rules"] ["order","ordering"] (aN Jg):=ir
include Z in
theorem aaC:Own P w K mg base "laid" 1 ["order","ordering"] (oR K 2 wA):=by
 exact bN (k:=0) Z.Zg Vd (λf cdv A outer s H E hr G=>(S.fP.u (S.aA (S.mq (S.aJ 0) (S.nC G (S.bz (S.bu 2) (S.bz (S.bu 3) S.fZ))))
   (S.aF (S.bh (S.fj (S.aj (S.aJ 2) (S.aj (S.gQ G Z.fu (S.bj (S.bf (S.dg (S.qi ["order","ordering","side","rules","number"] 4 gC G (S.iz G (S.aJ 1)) (λX1 h1=>by have G:=G.at h1;obtain⟨_,_,_,_,_,rfl⟩:=h1;exact(S.bu 4)) (λX1 h1=>by have G:=G.at h1;obtain⟨_,_,_,_,_,rfl⟩:=h1;exact S.fc) (λX1 h1=>by have G:=G.at h1;obtain⟨_,_,_,_,_,rfl⟩:=h1;exact(S.bY 3 G (S.cQ 4)))))))) S.aB))))))))
theorem z9:bA ["order","book"] ["order","book"] (aN pC):=ir
include Z in
theorem Dh:Own P w K mg base "pairs_told" 7 ["order","book"] (oR K 2 jm):=by exact bN (k:=6) Z.Ck z9 (λf cdv A outer s H E hr G=>(S.fP.u (S.aF (S.bh (S.dg (S.qi ["order","book","word","form"] 2 gC G (S.iz G (S.aJ 1)) (λX1 h1=>by have G:=G.at h1;obtain⟨_,_,_,_,_,rfl⟩:=h1;exact(S.nC G (S.bz (S.bu 2) (S.bz (S.bu 3) S.fZ)))) (λX1 h1=>by have G:=G.at h1;obtain⟨_,_,_,_,_,rfl⟩:=h1;exact S.fc) (λX1 h1=>by have G:=G.at h1;obtain⟨_,_,_,_,_,rfl⟩:=h1;exact(S.Ex (pO G) (S.cA (aaB Z) G hr (by rfl) (S.aj (S.aJ 0) (S.aj (S.aJ 2) S.aB)) (aZ (aZ len0))) (S.cQ 3)))))))))
theorem Ad:bA ["tellings","numbers"] ["tellings","numbers"] (aN pH):=ir
include Z in
theorem Dl:Own P w K mg base "is_quarrel" 1 ["tellings","numbers"] (oR K 2 jo):=by exact bN (k:=0) Z.Cu Ad (λf cdv A outer s H E hr G=>(S.fP.u (S.aF (S.bh (S.Jo (S.Ko G Z.Rm (S.bj (S.bf (S.dg (S.qi ["tellings","numbers","telling"] 2 gC G (S.iz G (S.aJ 0)) (λX1 h1=>by have G:=G.at h1;obtain⟨_,_,_,_,_,rfl⟩:=h1;exact(S.bu 2)) (λX1 h1=>by have G:=G.at h1;obtain⟨_,_,_,_,_,rfl⟩:=h1;exact S.fc) (λX1 h1=>by have G:=G.at h1;obtain⟨_,_,_,_,_,rfl⟩:=h1;exact(S.Ey G Z.JB (S.bj (S.bf (S.dg (S.qi ["tellings","numbers","telling","number"] 3 gC G (S.iz G (S.aJ 1)) (λX1 h1=>by have G:=G.at h1;obtain⟨_,_,_,_,_,rfl⟩:=h1;exact(S.bu 3)) (λX1 h1=>by have G:=G.at h1;obtain⟨_,_,_,_,_,rfl⟩:=h1;exact S.fc) (λX1 h1=>by have G:=G.at h1;obtain⟨_,_,_,_,_,rfl⟩:=h1;exact(S.bY 2 G (S.cQ 3)))))))))))))))))))
theorem Jb:bA ["tellings","many","numbers","number","others"] ["tellings","many"] (aN vP):=ir
include Z in
theorem Ny:Own P w K mg base "quarrel" 2 ["tellings","many"] (oR K 2 kW):=by
 exact bN (k:=1) Z.Mv Jb (λf cdv A outer s H E hr G=>(S.fP.u (S.aA (S.bT 2 (S.dg (S.JD G Z.Dp Z.fB (S.aJ 1))))
   (S.aA (S.j8 G (S.kO Z.fB (S.aj (S.aJ 1) S.aB) (aZ len0)) (S.bu 3) (S.aA (S.M4 ["tellings","many","numbers","number","others","each"] 5 4 gC G (S.iz G (S.aJ 2)) (λX1 h1=>by have G:=G.at h1;obtain⟨_,_,_,_,_,rfl⟩:=h1;exact(S.bu 5)) (λX1 h1=>by have G:=G.at h1;obtain⟨_,_,_,_,_,rfl⟩:=h1;exact(S.jB (S.iH 5 (wC G) (S.cQ 3)))) (λX1 h1=>by have G:=G.at h1;obtain⟨_,_,_,_,_,rfl⟩:=h1;exact(S.aJ 5)))
   (S.aF (S.dF (S.fY (S.cA (Dl Z) G hr (by rfl) (S.aj (S.aJ 0) (S.aj (S.aJ 4) S.aB)) (aZ (aZ len0)))) (S.aF (S.bT 2 (S.aJ 4))) S.cj))))
   (S.aF (S.bh (S.gQ G Z.fu (S.bj (S.cQ 2)))))))))
theorem Ja:bA ["order","book","orderings","tellings","telling_all"] ["order","book"] (aN vO):=ir
include Z in
theorem rD:Own P w K mg base "told_by" 8 ["order","book"] (oR K 2 fQ):=by
 exact bN (k:=7) Z.Mu Ja (λf cdv A outer s H E hr G=>(S.fP.u (S.aA (S.bT 2 (S.cA (xB Z) G hr (by rfl) (S.aj (S.jW G Z.iW (S.bj (S.bf (S.bY 0 G (S.bf S.aM))))) S.aB) (aZ len0)))
   (S.aA (S.M4 ["order","book","orderings","tellings","telling_all","ordering"] 5 3 gC G (S.iz G (S.aJ 2)) (λX1 h1=>by have G:=G.at h1;obtain⟨_,_,_,_,_,rfl⟩:=h1;exact(S.bu 5)) (λX1 h1=>by have G:=G.at h1;obtain⟨_,_,_,_,_,rfl⟩:=h1;exact S.fc) (λX1 h1=>by have G:=G.at h1;obtain⟨_,_,_,_,_,rfl⟩:=h1;exact(S.cA (Dh Z) G hr (by rfl) (S.aj (S.cA (aaC Z) G hr (by rfl) (S.aj (S.aJ 0) (S.aj (S.aJ 5) S.aB)) (aZ (aZ len0))) (S.aj (S.aJ 1) S.aB)) (aZ (aZ len0)))))
   (S.aA (S.M4 ["order","book","orderings","tellings","telling_all","ordering","telling"] 5 4 gC G (S.Dw G Z.aaG (S.aj (S.aJ 2) (S.aj (S.aJ 3) S.aB))) (λX1 h1=>by have G:=G.at h1;obtain⟨_,_,_,_,_,rfl⟩:=h1;exact(S.nC G (S.bz (S.bu 5) (S.bz (S.bu 6) S.fZ)))) (λX1 h1=>by have G:=G.at h1;obtain⟨_,_,_,_,_,rfl⟩:=h1;exact(S.jB (S.fY (S.Ey G Z.JB (S.bj (S.cQ 6)))))) (λX1 h1=>by have G:=G.at h1;obtain⟨_,_,_,_,_,rfl⟩:=h1;exact(S.aJ 5)))
   (S.aA (S.dF (S.iH 4 (wC G) (S.bf (S.dg (S.cZ S.aB)))) (S.aF (S.bh (S.fj (S.aj (S.bV [116,111,108,100] (by decide +kernel)) (S.aj (S.gQ G Z.fu (S.bj (S.cQ 4))) S.aB))))) S.cj)
   (S.aF (S.bh (S.fj (S.aj (S.bV [113,117,97,114,114,101,108] (by decide +kernel)) (S.aj (S.cA (Ny Z) G hr (by rfl) (S.aj (S.aJ 3) (S.aj (S.jW G Z.iW (S.bj (S.cQ 1))) S.aB)) (aZ (aZ len0))) S.aB)))))))))))
theorem CK:bA ["_law_cell"] ["_law_cell"] (aN qy):=ir
include Z in
theorem Gk:Own P w K mg base "_law_mixed" 1 ["_law_cell"] (oR K 1 gO):=by exact bN (k:=0) Z.Fi CK (λf cdv A outer s H E hr G=>(S.fP.u (S.aF (S.bh (S.iK afl (S.eG 0 TY (S.bf S.aM)) (S.bf (S.iK YS S.aM (S.bf S.aM))))))))
theorem Fz:bA ["_law_script","_law_k","_law_found","_law_at"] ["_law_script","_law_k"] (aN tH):=ir
include Z in
theorem tX:Own P w K mg base "_law_pack" 2 ["_law_script","_law_k"] (Yj K 2 du):=by
 exact V1 (k:=1) Z.Il Fz (λf cdv A outer s H E hr G=>(S.fP.u (S.aA (S.bT 2 S.aM)
   (S.aA (S.j8 G (S.iz G (S.dg (S.cZ (S.aj (S.eG 1 (gk G) (S.bf S.aM)) (S.aj (S.aJ 1) S.aB))))) (S.bu 3) (S.aF (S.bT 2 (S.iK (gk G) (S.eG 2 TY (S.bf (S.iK YS S.aM (S.bf S.aM)))) (S.bf (S.cA (Gk Z) G hr (by rfl) (S.aj (S.rP G (S.iK (gk G) (S.Px G (S.aJ 0) (S.jA (S.aJ 3)) (S.jA (S.eG 3 (gk G) (S.bf S.aM)))) (S.bf (S.dg (S.cZ (S.aj (S.iK (gk G) (S.iK TY S.aM (S.cQ 3)) (S.bf S.aM)) S.aB))))) (S.bf S.aM)) S.aB) (aZ len0)))))))
   (S.aF (S.tU (S.cZ (S.aj (S.aJ 2) S.aB))))))))
theorem Fx:bA ["_law_pack_here","_law_size","_law_digit"] ["_law_pack_here","_law_size"] (aN tu):=ir
include Z in
theorem bQ:Own P w K mg base "_law_take" 1 ["_law_pack_here","_law_size"] (uG K 2 aG):=by
 exact tW (k:=0) Z.Ij Fx (λf cdv A outer s H E a hr G=>(S.fP.u (S.aA (S.mq (S.xW G Z.NT (S.vW (S.bY 0 G (S.bf S.aM)) (S.bj (S.cQ 1)))) (S.nC G (S.bz (S.abR 0 S.aM) (S.bz (S.bu 2) S.fZ))))
   (S.aF (S.bh (S.aJ 2))))))
theorem Cz:bA ["_law_pack_here","_law_sounds_here","_law_known","_law_found","_law_sound","_law_number","_law_marks"] ["_law_pack_here"] (aN qu):=ir
include Z in
theorem Gi:Own P w K mg base "_law_stock" 2 ["_law_pack_here"] (uG K 1 eV):=by
 exact tW (k:=1) Z.Fd Cz (λf cdv A outer s H E a hr G=>(S.fP.u (S.aA (S.bT 1 (S.rP G (S.dg (S.JC (S.lG (S.bV [97] (by decide +kernel)) (S.lG (S.bV [97,98] (by decide +kernel)) (S.lG (S.bV [97,98] (by decide +kernel)) (S.lG (S.bV [97,98,99] (by decide +kernel)) (S.lG (S.bV [97,101,112,116] (by decide +kernel)) (S.lG (S.bV [109,110,122] (by decide +kernel)) S.Dc)))))))) (S.bf (S.jV 0 (bQ Z) G hr (by rfl) (S.aj S.aM S.aB) (gH (aZ len0))))))
   (S.aA (S.bT 2 (S.dg (S.cZ (S.aj (S.bV [115,116,111,112] (by decide +kernel)) (S.aj (S.bV [115,116,111,112,115] (by decide +kernel)) (S.aj (S.bV [115] (by decide +kernel)) (S.aj (S.bV [111,112,101,110] (by decide +kernel)) (S.aj (S.bV [97,98,99,100,101,102,103,104] (by decide +kernel)) S.aB))))))))
   (S.aA (S.nq 3 (S.cZ S.aB))
   (S.aA (S.j8 G (S.iz G (S.aJ 1)) (S.bu 4) (S.aA (S.bT 5 (S.jV 0 (bQ Z) G hr (by rfl) (S.aj S.aM S.aB) (gH (aZ len0))))
   (S.aA (S.bT 6 (S.uz G Z.vZ (S.bj (S.bf (S.dg (S.qi ["_law_pack_here","_law_sounds_here","_law_known","_law_found","_law_sound","_law_number","_law_marks","_law_k"] 7 gC G (S.kO Z.fB (S.aj S.aM S.aB) (aZ len0)) (λX1 h1=>by have G:=G.at h1;obtain⟨_,_,_,_,_,rfl⟩:=h1;exact(S.bu 7)) (λX1 h1=>by have G:=G.at h1;obtain⟨_,_,_,_,_,rfl⟩:=h1;exact(S.jB (S.j7 (pO G) (S.iK YW (S.eG 5 YQ (S.cQ 7)) (S.bf S.aM)) (S.bf S.aM)))) (λX1 h1=>by have G:=G.at h1;obtain⟨_,_,_,_,_,rfl⟩:=h1;exact(S.bY 2 G (S.cQ 7)))))))))
   (S.aF (S.rW 3 G (S.fj (S.aj (S.aJ 4) (S.aj (S.gQ G Z.fu (S.bj (S.bf (S.Px G (S.aJ 6) S.lF (S.jA S.aM))))) S.aB))))))))
   (S.aF (S.bh (S.gQ G Z.fu (S.bj (S.cQ 3)))))))))))
theorem Ab:bA ["_law_stock_here"] ["_law_stock_here"] (aN pF):=ir
include Z in
theorem Dj:Own P w K mg base "_law_sounds" 1 ["_law_stock_here"] (oR K 1 dM):=by exact bN (k:=0) Z.Cq Ab (λf cdv A outer s H E hr G=>(S.fP.u (S.aF (S.bh (S.vA G (S.bV [] (by decide +kernel)) (S.bf (S.dg (S.qi ["_law_stock_here","_law_sound","_law_marks"] 1 gC G (S.iz G (S.aJ 0)) (λX1 h1=>by have G:=G.at h1;obtain⟨_,_,_,_,_,rfl⟩:=h1;exact(S.nC G (S.bz (S.bu 1) (S.bz (S.bu 2) S.fZ)))) (λX1 h1=>by have G:=G.at h1;obtain⟨_,_,_,_,_,rfl⟩:=h1;exact S.fc) (λX1 h1=>by have G:=G.at h1;obtain⟨_,_,_,_,_,rfl⟩:=h1;exact(S.aJ 1))))))))))
theorem CG:bA ["_law_pack_here","_law_sounds_here","_law_number","_law_signs_here"] ["_law_pack_here","_law_sounds_here"] (aN qw):=ir
include Z in
theorem wL:Own P w K mg base "_law_signs" 2 ["_law_pack_here","_law_sounds_here"] (uG K 2 gb):=by
 exact tW (k:=1) Z.Fe CG (λf cdv A outer s H E a hr G=>(S.fP.u (S.aA (S.dF (S.j7 (pO G) (S.jV 0 (bQ Z) G hr (by rfl) (S.aj S.aM S.aB) (gH (aZ len0))) (S.bf S.aM)) (S.aF (S.bh S.yH)) S.cj)
   (S.aA (S.bT 2 (S.iK (gk G) S.aM (S.bf (S.jV 0 (bQ Z) G hr (by rfl) (S.aj (S.iK Mg (S.iK afk S.aM (S.bf (S.jW G Z.iW (S.bj (S.cQ 1))))) (S.bf S.aM)) S.aB) (gH (aZ len0))))))
   (S.aA (S.bT 3 (S.iK (gk G) (S.bV [35] (by decide +kernel)) (S.cQ 1)))
   (S.aF (S.bh (S.gQ G Z.fu (S.bj (S.bf (S.dg (S.qi ["_law_pack_here","_law_sounds_here","_law_number","_law_signs_here","_law_k"] 4 gC G (S.kO Z.fB (S.aj (S.jW G Z.iW (S.bj (S.cQ 3))) S.aB) (aZ len0)) (λX1 h1=>by have G:=G.at h1;obtain⟨_,_,_,_,_,rfl⟩:=h1;exact(S.bu 4)) (λX1 h1=>by have G:=G.at h1;obtain⟨_,_,_,_,_,rfl⟩:=h1;exact(S.jB (S.j7 (pO G) (S.iK YW (S.eG 2 YQ (S.cQ 4)) (S.bf S.aM)) (S.bf S.aM)))) (λX1 h1=>by have G:=G.at h1;obtain⟨_,_,_,_,_,rfl⟩:=h1;exact(S.bY 3 G (S.cQ 4)))))))))))))))
theorem yq:bA ["_law_pack_here","_law_sounds_here","_law_found","_law_turn","_law_one","_law_others"] ["_law_pack_here","_law_sounds_here"] (aN nO):=ir
include Z in
theorem Ag:Own P w K mg base "_law_changes" 2 ["_law_pack_here","_law_sounds_here"] (uG K 2 gA):=by
 exact tW (k:=1) Z.zY yq (λf cdv A outer s H E a hr G=>(S.fP.u (S.aA (S.dF (S.j7 (pO G) (S.jV 0 (bQ Z) G hr (by rfl) (S.aj S.aM S.aB) (gH (aZ len0))) (S.bf S.aM)) (S.aF (S.bh (S.fj (S.aj (S.fj (S.aj (S.bV [] (by decide +kernel)) (S.aj (S.bY 1 G (S.bf (S.jV 0 (bQ Z) G hr (by rfl) (S.aj (S.jW G Z.iW (S.bj (S.cQ 1))) S.aB) (gH (aZ len0))))) S.aB))) S.aB)))) S.cj)
   (S.aA (S.nq 2 S.yF)
   (S.aA (S.j8 G (S.kO Z.fB (S.aj (S.iK (gk G) S.aM (S.bf (S.jV 0 (bQ Z) G hr (by rfl) (S.aj S.aM S.aB) (gH (aZ len0))))) S.aB) (aZ len0)) (S.bu 3) (S.aA (S.bT 4 (S.bY 1 G (S.bf (S.jV 0 (bQ Z) G hr (by rfl) (S.aj (S.jW G Z.iW (S.bj (S.cQ 1))) S.aB) (gH (aZ len0))))))
   (S.aA (S.M4 ["_law_pack_here","_law_sounds_here","_law_found","_law_turn","_law_one","_law_others","_law_sound"] 6 5 gC G (S.iz G (S.iK (gk G) (S.Ce G Z.Dp (S.bj (S.cQ 1))) (S.bf (S.dg (S.cZ (S.aj (S.bV [] (by decide +kernel)) S.aB)))))) (λX1 h1=>by have G:=G.at h1;obtain⟨_,_,_,_,_,rfl⟩:=h1;exact(S.bu 6)) (λX1 h1=>by have G:=G.at h1;obtain⟨_,_,_,_,_,rfl⟩:=h1;exact(S.jB (S.iH 6 (wC G) (S.cQ 4)))) (λX1 h1=>by have G:=G.at h1;obtain⟨_,_,_,_,_,rfl⟩:=h1;exact(S.aJ 6)))
   (S.aF (S.Ji 2 G (S.aJ 4) (S.bY 5 G (S.bf (S.jV 0 (bQ Z) G hr (by rfl) (S.aj (S.jW G Z.iW (S.bj (S.cQ 5))) S.aB) (gH (aZ len0))))))))))
   (S.aF (S.bh (S.gQ G Z.fu (S.bj (S.bf (S.dg (S.qi ["_law_pack_here","_law_sounds_here","_law_found","_law_turn","%4","_law_others","_law_one"] 6 gC G (S.iz G (S.uz G Z.vZ (S.bj (S.cQ 2)))) (λX1 h1=>by have G:=G.at h1;obtain⟨_,_,_,_,_,rfl⟩:=h1;exact(S.bu 6)) (λX1 h1=>by have G:=G.at h1;obtain⟨_,_,_,_,_,rfl⟩:=h1;exact S.fc) (λX1 h1=>by have G:=G.at h1;obtain⟨_,_,_,_,_,rfl⟩:=h1;exact(S.fj (S.aj (S.aJ 6) (S.aj (S.uB 2 G (S.cQ 6)) S.aB))))))))))))))))
theorem Fy:bA ["_law_pack_here","_law_sounds_here","_law_how","_law_changes_here"] ["_law_pack_here","_law_sounds_here"] (aN tD):=ir
include Z in
theorem Jx:Own P w K mg base "_law_rule" 3 ["_law_pack_here","_law_sounds_here"] (uG K 2 jd):=by
 exact tW (k:=2) Z.Ik Fy (λf cdv A outer s H E a hr G=>(S.fP.u (S.aA (S.bT 2 (S.rP G (S.dg (S.cZ (S.aj (S.bV [111,110,99,101] (by decide +kernel)) (S.aj (S.bV [97,108,111,110,103] (by decide +kernel)) S.aB)))) (S.bf (S.jV 0 (bQ Z) G hr (by rfl) (S.aj S.aM S.aB) (gH (aZ len0))))))
   (S.aA (S.bT 3 (S.jV 0 (Ag Z) G hr (by rfl) (S.aj (S.aJ 1) S.aB) (gH (aZ len0))))
   (S.aF (S.bh (S.fj (S.aj (S.aJ 2) (S.aj (S.aJ 3) (S.aj (S.jV 0 (wL Z) G hr (by rfl) (S.aj (S.aJ 1) S.aB) (gH (aZ len0))) (S.aj (S.jV 0 (wL Z) G hr (by rfl) (S.aj (S.aJ 1) S.aB) (gH (aZ len0))) S.aB)))))))))))
theorem CJ:bA ["_law_pack_here","_law_sounds_here","_law_most","_law_side"] ["_law_pack_here","_law_sounds_here","_law_most"] (aN qx):=ir
include Z in
theorem Gj:Own P w K mg base "_law_order" 4 ["_law_pack_here","_law_sounds_here","_law_most"] (uG K 3 eY):=by
 exact tW (k:=3) Z.Ff CJ (λf cdv A outer s H E a hr G=>(S.fP.u (S.aA (S.bT 3 (S.rP G (S.dg (S.cZ (S.aj (S.bV [108,101,102,116] (by decide +kernel)) (S.aj (S.bV [114,105,103,104,116] (by decide +kernel)) S.aB)))) (S.bf (S.jV 0 (bQ Z) G hr (by rfl) (S.aj S.aM S.aB) (gH (aZ len0))))))
   (S.aF (S.bh (S.fj (S.aj (S.aJ 3) (S.aj (S.gQ G Z.fu (S.bj (S.bf (S.dg (S.qi ["_law_pack_here","_law_sounds_here","_law_most","_law_side","_law_turn"] 4 gC G (S.kO Z.fB (S.aj (S.jV 0 (bQ Z) G hr (by rfl) (S.aj (S.eG 2 (gk G) (S.bf S.aM)) S.aB) (gH (aZ len0))) S.aB) (aZ len0)) (λX1 h1=>by have G:=G.at h1;obtain⟨_,_,_,_,_,rfl⟩:=h1;exact(S.bu 4)) (λX1 h1=>by have G:=G.at h1;obtain⟨_,_,_,_,_,rfl⟩:=h1;exact S.fc) (λX1 h1=>by have G:=G.at h1;obtain⟨_,_,_,_,_,rfl⟩:=h1;exact(S.jV 0 (Jx Z) G hr (by rfl) (S.aj (S.aJ 1) S.aB) (gH (aZ len0))))))))) S.aB))))))))
theorem Fv:bA ["_law_pack_here","_law_sounds_here","_law_most"] ["_law_pack_here","_law_sounds_here","_law_most"] (aN sY):=ir
include Z in
theorem Jv:Own P w K mg base "_law_word" 2 ["_law_pack_here","_law_sounds_here","_law_most"] (uG K 3 gZ):=by exact tW (k:=1) Z.Ih Fv (λf cdv A outer s H E a hr G=>(S.fP.u (S.aF (S.bh (S.vA G (S.bV [] (by decide +kernel)) (S.bf (S.dg (S.qi ["_law_pack_here","_law_sounds_here","_law_most","_law_turn"] 3 gC G (S.kO Z.fB (S.aj (S.jV 0 (bQ Z) G hr (by rfl) (S.aj (S.eG 2 (gk G) (S.bf S.aM)) S.aB) (gH (aZ len0))) S.aB) (aZ len0)) (λX1 h1=>by have G:=G.at h1;obtain⟨_,_,_,_,_,rfl⟩:=h1;exact(S.bu 3)) (λX1 h1=>by have G:=G.at h1;obtain⟨_,_,_,_,_,rfl⟩:=h1;exact S.fc) (λX1 h1=>by have G:=G.at h1;obtain⟨_,_,_,_,_,rfl⟩:=h1;exact(S.bY 1 G (S.bf (S.jV 0 (bQ Z) G hr (by rfl) (S.aj (S.jW G Z.iW (S.bj (S.cQ 1))) S.aB) (gH (aZ len0))))))))))))))
theorem FP:bA ["_law_signs_here","_law_sign"] ["_law_signs_here","_law_sign"] (aN tM):=ir
include Z in
theorem pK:Own P w K mg base "_law_fits" 1 ["_law_signs_here","_law_sign"] (oR K 2 bW):=by exact bN (k:=0) Z.Ip FP (λf cdv A outer s H E hr G=>(S.fP.u (S.aF (S.bh (S.Gb (S.sS 0 afg (S.bf S.yH)) (S.yG (S.sS 1 (afh G) (S.cQ 0))))))))
theorem Ac:bA ["_law_rule_here","_law_word_here","_law_signs_here","_law_found","_law_k"] ["_law_rule_here","_law_word_here"] (aN pG):=ir
include Z in
theorem Dk:Own P w K mg base "_law_put_in" 2 ["_law_rule_here","_law_word_here"] (oR K 2 ie):=by
 exact bN (k:=1) Z.Cr Ac (λf cdv A outer s H E hr G=>(S.fP.u (S.aA (S.bT 2 (S.iK (gk G) (S.iK (gk G) (S.bV [35] (by decide +kernel)) (S.cQ 1)) (S.bf (S.bV [35] (by decide +kernel)))))
   (S.aA (S.bT 3 (S.bV [] (by decide +kernel)))
   (S.aA (S.j8 G (S.Dy Z.fB (S.aj S.aM (S.aj (S.jW G Z.iW (S.bj (S.cQ 2))) S.aB)) (aZ (aZ len0))) (S.bu 4) (S.aA (S.dF (S.pX (S.mj (S.fY (S.cA (pK Z) G hr (by rfl) (S.aj (S.bY 0 G (S.bf S.aM)) (S.aj (S.bY 2 G (S.bf (S.eG 4 Mg (S.bf S.aM)))) S.aB)) (aZ (aZ len0)))) (S.mO (S.fY (S.cA (pK Z) G hr (by rfl) (S.aj (S.bY 0 G (S.bf S.aM)) (S.aj (S.bY 2 G (S.cQ 4)) S.aB)) (aZ (aZ len0))))))) (S.aF (S.bT 3 (S.eG 3 (gk G) (S.bf (S.rP G (S.rP G (S.bY 0 G (S.bf S.aM)) (S.bf S.aM)) (S.bf S.aM)))))) S.cj)
   (S.aF (S.bT 3 (S.eG 3 (gk G) (S.bf (S.bY 2 G (S.cQ 4))))))))
   (S.aF (S.bh (S.Ew (S.aJ 3) S.lF (S.jA (S.uA S.aM))))))))))
theorem yr:bA ["_law_rule_here","_law_word_here","_law_how","_law_changes_here","_law_first","_law_second","_law_known","_law_signs_here","_law_found","_law_k","_law_near"] ["_law_rule_here","_law_word_here"] (aN nQ):=ir
include Z in
theorem rY:Own P w K mg base "_law_changed" 3 ["_law_rule_here","_law_word_here"] (oR K 2 di):=by
 exact bN (k:=2) Z.zZ yr (λf cdv A outer s H E hr G=>(S.fP.u (S.aA (S.mq (S.aJ 0) (S.nC G (S.bz (S.bu 2) (S.bz (S.bu 3) (S.bz (S.bu 4) (S.bz (S.bu 5) S.fZ))))))
   (S.aA (S.dF (S.j7 (pO G) (S.rP G (S.bY 3 G (S.bf S.aM)) (S.bf S.aM)) (S.bf (S.bV [] (by decide +kernel)))) (S.aF (S.bh (S.cA (Dk Z) G hr (by rfl) (S.aj (S.aJ 0) (S.aj (S.aJ 1) S.aB)) (aZ (aZ len0))))) S.cj)
   (S.aA (S.bT 6 (S.Cg G Z.K5 (S.bj (S.cQ 3))))
   (S.aA (S.bT 7 (S.iK (gk G) (S.iK (gk G) (S.bV [35] (by decide +kernel)) (S.cQ 1)) (S.bf (S.bV [35] (by decide +kernel)))))
   (S.aA (S.bT 8 (S.bV [35] (by decide +kernel)))
   (S.aA (S.j8 G (S.Dy Z.fB (S.aj S.aM (S.aj (S.iK Mg (S.jW G Z.iW (S.bj (S.cQ 7))) (S.bf S.aM)) S.aB)) (aZ (aZ len0))) (S.bu 9) (S.aA (S.bT 10 (S.bY 7 G (S.bf (S.eG 9 Mg (S.bf S.aM)))))
   (S.aA (S.dF (S.iH 2 (pO G) (S.bf (S.bV [97,108,111,110,103] (by decide +kernel)))) (S.aF (S.bT 10 (S.bY 8 G (S.bf (S.uA S.aM))))) S.cj)
   (S.aF (S.dF (S.pX (S.mj (S.j7 (Ma G) (S.bY 7 G (S.cQ 9)) (S.cQ 6)) (S.mj (S.fY (S.cA (pK Z) G hr (by rfl) (S.aj (S.aJ 4) (S.aj (S.aJ 10) S.aB)) (aZ (aZ len0)))) (S.mO (S.fY (S.cA (pK Z) G hr (by rfl) (S.aj (S.aJ 5) (S.aj (S.bY 7 G (S.bf (S.eG 9 (gk G) (S.bf S.aM)))) S.aB)) (aZ (aZ len0)))))))) (S.aF (S.bT 8 (S.eG 8 (gk G) (S.bf (S.uB 6 G (S.bf (S.bY 7 G (S.cQ 9)))))))) (S.aF (S.bT 8 (S.eG 8 (gk G) (S.bf (S.bY 7 G (S.cQ 9)))))))))))
   (S.aF (S.bh (S.Ew (S.aJ 8) (S.jA S.aM) S.lF)))))))))))
theorem Aa:bA ["_law_rule_here"] ["_law_rule_here"] (aN pD):=ir
include Z in
theorem Di:Own P w K mg base "_law_turned" 1 ["_law_rule_here"] (oR K 1 jn):=by exact bN (k:=0) Z.Cp Aa (λf cdv A outer s H E hr G=>(S.fP.u (S.aF (S.bh (S.fj (S.aj (S.bY 0 G (S.bf S.aM)) (S.aj (S.bY 0 G (S.bf S.aM)) (S.aj (S.bY 0 G (S.bf S.aM)) (S.aj (S.bY 0 G (S.bf S.aM)) S.aB)))))))))
theorem yt:bA ["_law_side","_law_rule_here","_law_word_here"] ["_law_side","_law_rule_here","_law_word_here"] (aN nR):=ir
include Z in
theorem Ah:Own P w K mg base "_law_by_side" 4 ["_law_side","_law_rule_here","_law_word_here"] (oR K 3 dO):=by
 exact bN (k:=3) Z.z6 yt (λf cdv A outer s H E hr G=>(S.fP.u (S.aA (S.dF (S.iH 0 (pO G) (S.bf (S.bV [114,105,103,104,116] (by decide +kernel)))) (S.aF (S.bh (S.Az (S.cA (rY Z) G hr (by rfl) (S.aj (S.cA (Di Z) G hr (by rfl) (S.aj (S.aJ 1) S.aB) (aZ len0)) (S.aj (S.Az (S.aJ 2)) S.aB)) (aZ (aZ len0)))))) S.cj)
   (S.aF (S.bh (S.cA (rY Z) G hr (by rfl) (S.aj (S.aJ 1) (S.aj (S.aJ 2) S.aB)) (aZ (aZ len0))))))))
theorem Fw:bA ["_law_order_here","_law_word_here","_law_found","_law_rule_here"] ["_law_order_here","_law_word_here"] (aN sZ):=ir
include Z in
theorem Jw:Own P w K mg base "_law_walk" 5 ["_law_order_here","_law_word_here"] (oR K 2 jc):=by
 exact bN (k:=4) Z.Ii Fw (λf cdv A outer s H E hr G=>(S.fP.u (S.aA (S.nq 2 (S.cZ (S.aj (S.aJ 1) S.aB)))
   (S.aA (S.j8 G (S.iz G (S.bY 0 G (S.bf S.aM))) (S.bu 3) (S.aF (S.rW 2 G (S.cA (Ah Z) G hr (by rfl) (S.aj (S.bY 0 G (S.bf S.aM)) (S.aj (S.aJ 3) (S.aj (S.bY 2 G (S.bf (S.uA S.aM))) S.aB))) (aZ (aZ (aZ len0)))))))
   (S.aF (S.bh (S.gQ G Z.fu (S.bj (S.cQ 2)))))))))
theorem FJ:bA ["_law_order_here","_law_word_here"] ["_law_order_here","_law_word_here"] (aN tK):=ir
include Z in
theorem yV:Own P w K mg base "_law_made" 6 ["_law_order_here","_law_word_here"] (oR K 2 gw):=by exact bN (k:=5) Z.Im FJ (λf cdv A outer s H E hr G=>(S.fP.u (S.aF (S.bh (S.rP G (S.cA (Jw Z) G hr (by rfl) (S.aj (S.aJ 0) (S.aj (S.aJ 1) S.aB)) (aZ (aZ len0))) (S.bf (S.uA S.aM)))))))
theorem vM:bA ["_law_many","_law_found","_law_turn","_law_further","_law_some"] ["_law_many"] (aN lL):=ir
include Z in
theorem p7:Own P w K mg base "_law_orderings" 1 ["_law_many"] (oR K 1 cR):=by
 exact bN (k:=0) Z.xq vM (λf cdv A outer s H E hr G=>(S.fP.u (S.aA (S.bT 1 (S.dg (S.cZ (S.aj (S.fj S.aB) S.aB))))
   (S.aA (S.j8 G (S.kO Z.fB (S.aj (S.aJ 0) S.aB) (aZ len0)) (S.bu 2) (S.aA (S.nq 3 (S.cZ S.aB))
   (S.aA (S.j8 G (S.iz G (S.aJ 1)) (S.bu 4) (S.aF (S.Qp 3 G (S.dg (S.qi ["_law_many","_law_found","_law_turn","_law_further","_law_some","_law_number"] 5 gC G (S.kO Z.fB (S.aj (S.aJ 0) S.aB) (aZ len0)) (λX1 h1=>by have G:=G.at h1;obtain⟨_,_,_,_,_,rfl⟩:=h1;exact(S.bu 5)) (λX1 h1=>by have G:=G.at h1;obtain⟨_,_,_,_,_,rfl⟩:=h1;exact(S.jB (S.iH 5 (LR G) (S.cQ 4)))) (λX1 h1=>by have G:=G.at h1;obtain⟨_,_,_,_,_,rfl⟩:=h1;exact(S.eG 4 (gk G) (S.bf (S.fj (S.aj (S.aJ 5) S.aB))))))))))
   (S.aF (S.bT 1 (S.aJ 3))))))
   (S.aF (S.bh (S.aJ 1)))))))
theorem FN:bA ["_law_order_here","_law_ordering"] ["_law_order_here","_law_ordering"] (aN tL):=ir
include Z in
theorem yW:Own P w K mg base "_law_laid" 1 ["_law_order_here","_law_ordering"] (oR K 2 ig):=by exact bN (k:=0) Z.Io FN (λf cdv A outer s H E hr G=>(S.fP.u (S.aF (S.bh (S.fj (S.aj (S.bY 0 G (S.bf S.aM)) (S.aj (S.gQ G Z.fu (S.bj (S.bf (S.dg (S.qi ["_law_order_here","_law_ordering","_law_number"] 2 gC G (S.iz G (S.aJ 1)) (λX1 h1=>by have G:=G.at h1;obtain⟨_,_,_,_,_,rfl⟩:=h1;exact(S.bu 2)) (λX1 h1=>by have G:=G.at h1;obtain⟨_,_,_,_,_,rfl⟩:=h1;exact S.fc) (λX1 h1=>by have G:=G.at h1;obtain⟨_,_,_,_,_,rfl⟩:=h1;exact(S.rP G (S.bY 0 G (S.bf S.aM)) (S.cQ 2)))))))) S.aB)))))))
theorem FQ:bA ["_law_script","_law_k","_law_order_here","_law_sounds_here","_law_amount","_law_head","_law_some","_law_first","_law_kind","_law_found","_law_j","_law_pack_here","_law_word_here","_law_ordering","_law_form"] ["_law_script","_law_k","_law_order_here","_law_sounds_here","_law_amount"] (aN tO):=ir
include Z in
theorem Jy:Own P w K mg base "_law_book" 7 ["_law_script","_law_k","_law_order_here","_law_sounds_here","_law_amount"] (oR K 5 je):=by
 exact bN (k:=6) Z.Ir FQ (λf cdv A outer s H E hr G=>(S.fP.u (S.aA (S.nq 5 (S.Gq (tX Z) G hr (by rfl) (S.aj (S.aJ 0) (S.aj (S.aJ 1) S.aB)) (aZ (aZ len0))))
   (S.aA (S.bT 6 (S.cA (p7 Z) G hr (by rfl) (S.aj (S.jW G Z.iW (S.bj (S.bf (S.bY 2 G (S.bf S.aM))))) S.aB) (aZ len0)))
   (S.aA (S.bT 7 (S.bY 6 G (S.bf (S.jV 5 (bQ Z) G hr (by rfl) (S.aj (S.jW G Z.iW (S.bj (S.cQ 6))) S.aB) (gH (aZ len0))))))
   (S.aA (S.bT 8 (S.jV 5 (bQ Z) G hr (by rfl) (S.aj S.aM S.aB) (gH (aZ len0))))
   (S.aA (S.nq 9 (S.cZ S.aB))
   (S.aA (S.j8 G (S.kO Z.fB (S.aj (S.iK (gk G) S.aM (S.bf (S.jV 5 (bQ Z) G hr (by rfl) (S.aj (S.aJ 4) S.aB) (gH (aZ len0))))) S.aB) (aZ len0)) (S.bu 10) (S.aA (S.nq 11 (S.Gq (tX Z) G hr (by rfl) (S.aj (S.aJ 0) (S.aj (S.iK (gk G) (S.eG 1 (gk G) (S.bf S.aM)) (S.cQ 10)) S.aB)) (aZ (aZ len0))))
   (S.aA (S.bT 12 (S.jV 11 (Jv Z) G hr (by rfl) (S.aj (S.aJ 3) (S.aj S.aM S.aB)) (gH (aZ (aZ len0)))))
   (S.aA (S.bT 13 (S.aJ 7))
   (S.aA (S.dF (S.iH 8 (pO G) (S.bf S.aM)) (S.aF (S.bT 13 (S.bY 6 G (S.bf (S.jV 11 (bQ Z) G hr (by rfl) (S.aj (S.jW G Z.iW (S.bj (S.cQ 6))) S.aB) (gH (aZ len0))))))) S.cj)
   (S.aA (S.bT 14 (S.cA (yV Z) G hr (by rfl) (S.aj (S.cA (yW Z) G hr (by rfl) (S.aj (S.aJ 2) (S.aj (S.aJ 13) S.aB)) (aZ (aZ len0))) (S.aj (S.aJ 12) S.aB)) (aZ (aZ len0))))
   (S.aA (S.dF (S.pX (S.mj (S.iH 8 (pO G) (S.bf S.aM)) (S.mO (S.j7 (pO G) (S.jV 11 (bQ Z) G hr (by rfl) (S.aj S.aM S.aB) (gH (aZ len0))) (S.bf S.aM))))) (S.aF (S.bT 14 (S.Pu G (S.eG 14 (gk G) (S.bf (S.bY 3 G (S.bf (S.jV 11 (bQ Z) G hr (by rfl) (S.aj (S.jW G Z.iW (S.bj (S.cQ 3))) S.aB) (gH (aZ len0))))))) (S.jA (S.jV 11 (bQ Z) G hr (by rfl) (S.aj S.aM S.aB) (gH (aZ len0)))) S.lF))) S.cj)
   (S.aF (S.rW 9 G (S.fj (S.aj (S.aJ 12) (S.aj (S.Ew (S.aJ 14) S.lF (S.jA S.aM)) S.aB))))))))))))
   (S.aF (S.bh (S.gQ G Z.fu (S.bj (S.cQ 9)))))))))))))
theorem yp:bA ["_law_order_here","_law_book_here","_law_found","_law_ordering","_law_laid_so"] ["_law_order_here","_law_book_here"] (aN nM):=ir
include Z in
theorem nU:Own P w K mg base "_law_telling" 7 ["_law_order_here","_law_book_here"] (oR K 2 iC):=by
 exact bN (k:=6) Z.zX yp (λf cdv A outer s H E hr G=>(S.fP.u (S.aA (S.nq 2 (S.cZ S.aB))
   (S.aA (S.j8 G (S.iz G (S.cA (p7 Z) G hr (by rfl) (S.aj (S.jW G Z.iW (S.bj (S.bf (S.bY 0 G (S.bf S.aM))))) S.aB) (aZ len0))) (S.bu 3) (S.aA (S.bT 4 (S.cA (yW Z) G hr (by rfl) (S.aj (S.aJ 0) (S.aj (S.aJ 3) S.aB)) (aZ (aZ len0))))
   (S.aF (S.dF (S.fY (S.Ey G Z.JB (S.bj (S.bf (S.dg (S.qi ["_law_order_here","_law_book_here","_law_found","_law_ordering","_law_laid_so","_law_word_here","_law_form"] 5 gC G (S.iz G (S.aJ 1)) (λX1 h1=>by have G:=G.at h1;obtain⟨_,_,_,_,_,rfl⟩:=h1;exact(S.nC G (S.bz (S.bu 5) (S.bz (S.bu 6) S.fZ)))) (λX1 h1=>by have G:=G.at h1;obtain⟨_,_,_,_,_,rfl⟩:=h1;exact S.fc) (λX1 h1=>by have G:=G.at h1;obtain⟨_,_,_,_,_,rfl⟩:=h1;exact(S.Ex (pO G) (S.cA (yV Z) G hr (by rfl) (S.aj (S.aJ 4) (S.aj (S.aJ 5) S.aB)) (aZ (aZ len0))) (S.cQ 6))))))))) (S.aF (S.rW 2 G (S.aJ 3))) S.cj))))
   (S.aF (S.bh (S.aJ 2)))))))
theorem qt:bA ["_law_order_here","_law_book_here","_law_told","_law_numbers","_law_number"] ["_law_order_here","_law_book_here","_law_told"] (aN jt):=ir
include Z in
theorem rR:Own P w K mg base "_law_quarrel_right" 8 ["_law_order_here","_law_book_here","_law_told"] (oR K 3 gK):=by
 exact bN (k:=7) Z.rQ qt (λf cdv A outer s H E hr G=>(S.fP.u (S.aA (S.dF (S.pX (S.pI (S.j7 (wC G) (S.jW G Z.iW (S.bj (S.cQ 2))) (S.bf S.aM)) (S.pI (S.j7 (wC G) (S.bY 2 G (S.bf S.aM)) (S.bf (S.bV [113,117,97,114,114,101,108] (by decide +kernel)))) (S.pI (S.xJ (S.fY (S.yJ (T:="tuple") rfl Z.nW rfl Z.fu (by decide +kernel) Z.mJ G.K (S.bY 2 G (S.bf S.aM))))) (S.rz (S.j7 (pO G) (S.bY 2 G (S.bf S.aM)) (S.bf (S.fj S.aB)))))))) (S.aF (S.bh S.uJ)) S.cj)
   (S.aA (S.bT 3 (S.bY 2 G (S.bf S.aM)))
   (S.aA (S.dF (S.fY (S.Ko G Z.Rm (S.bj (S.bf (S.dg (S.qi ["_law_order_here","_law_book_here","_law_told","_law_numbers","%4","_law_number"] 5 gC G (S.iz G (S.aJ 3)) (λX1 h1=>by have G:=G.at h1;obtain⟨_,_,_,_,_,rfl⟩:=h1;exact(S.bu 5)) (λX1 h1=>by have G:=G.at h1;obtain⟨_,_,_,_,_,rfl⟩:=h1;exact S.fc) (λX1 h1=>by have G:=G.at h1;obtain⟨_,_,_,_,_,rfl⟩:=h1;exact(S.Gb (S.yJ (T:="bool") rfl Z.nW rfl Z.Wc (by decide +kernel) Z.qL G.K (S.aJ 5)) (S.yG (S.xV G Z.fB (S.aJ 5) (S.jW G Z.iW (S.bj (S.cQ 1))))))))))))) (S.aF (S.bh S.uJ)) S.cj)
   (S.aA (S.dF (S.pX (S.pI (S.j7 (wC G) (S.Ce G Z.Dp (S.bj (S.cQ 3))) (S.bf (S.vz G Z.vZ Z.aaH (S.aJ 3)))) (S.rz (S.j7 (wC G) (S.cA (nU Z) G hr (by rfl) (S.aj (S.aJ 0) (S.aj (S.dg (S.qi ["_law_order_here","_law_book_here","_law_told","_law_numbers","%4","_law_number"] 5 gC G (S.iz G (S.aJ 3)) (λX1 h1=>by have G:=G.at h1;obtain⟨_,_,_,_,_,rfl⟩:=h1;exact(S.bu 5)) (λX1 h1=>by have G:=G.at h1;obtain⟨_,_,_,_,_,rfl⟩:=h1;exact S.fc) (λX1 h1=>by have G:=G.at h1;obtain⟨_,_,_,_,_,rfl⟩:=h1;exact(S.bY 1 G (S.cQ 5))))) S.aB)) (aZ (aZ len0))) (S.bf (S.dg (S.cZ S.aB))))))) (S.aF (S.bh S.uJ)) S.cj)
   (S.aA (S.j8 G (S.iz G (S.aJ 3)) (S.bu 4) (S.aF (S.dF (S.j7 (pO G) (S.cA (nU Z) G hr (by rfl) (S.aj (S.aJ 0) (S.aj (S.dg (S.qi ["_law_order_here","_law_book_here","_law_told","_law_numbers","_law_number","_law_other"] 5 gC G (S.iz G (S.aJ 3)) (λX1 h1=>by have G:=G.at h1;obtain⟨_,_,_,_,_,rfl⟩:=h1;exact(S.bu 5)) (λX1 h1=>by have G:=G.at h1;obtain⟨_,_,_,_,_,rfl⟩:=h1;exact(S.jB (S.iH 5 (wC G) (S.cQ 4)))) (λX1 h1=>by have G:=G.at h1;obtain⟨_,_,_,_,_,rfl⟩:=h1;exact(S.bY 1 G (S.cQ 5))))) S.aB)) (aZ (aZ len0))) (S.bf (S.dg (S.cZ S.aB)))) (S.aF (S.bh S.uJ)) S.cj)))
   (S.aF (S.bh S.uJ)))))))))
theorem Zx:bA ["_law_script","_law_pack_here","_law_sounds_here","_law_order_here","_law_book_here","_law_found","_law_other","_law_due"] ["_law_script"] (aN Qo):=ir
include Z in
theorem ace{f:Addr}{fd:FuncData}(F:Ui K "law" "law" Qo f fd):ph P w K mg base Ep 9 f fd ["_law_script"] (oR K 1 Bt):=by
 exact Hj (k:=8) F Zx (λcdv A outer s H E hr=>by
  have G:=xN (P:=P) (w:=w) (K:=K) (mg:=mg) (base:=base) (N:=["_law_script","_law_pack_here","_law_sounds_here","_law_order_here","_law_book_here","_law_found","_law_other","_law_due"]) (outer:=outer) (H:=H) (E:=E) (C:=C0 K) rfl hr;exact(S.fP.u (S.aA (S.nq 1 (S.Gq (tX Z) G hr (by rfl) (S.aj (S.aJ 0) (S.aj S.aM S.aB)) (aZ (aZ len0))))
   (S.aA (S.bT 2 (S.cA (Dj Z) G hr (by rfl) (S.aj (S.jV 1 (Gi Z) G hr (by rfl) S.aB (gH len0)) S.aB) (aZ len0)))
   (S.aA (S.bT 3 (S.jV 1 (Gj Z) G hr (by rfl) (S.aj (S.aJ 2) (S.aj S.aM S.aB)) (gH (aZ (aZ len0)))))
   (S.aA (S.bT 4 (S.cA (Jy Z) G hr (by rfl) (S.aj (S.aJ 0) (S.aj S.aM (S.aj (S.aJ 3) (S.aj (S.aJ 2) (S.aj S.aM S.aB))))) (aZ (aZ (aZ (aZ (aZ len0)))))))
   (S.aA (S.bT 5 (S.cA (rD Z) G hr (by rfl) (S.aj (S.aJ 3) (S.aj (S.aJ 4) S.aB)) (aZ (aZ len0))))
   (S.aA (S.bT 6 (S.cA (rD Z) G hr (by rfl) (S.aj (S.fj (S.aj (S.bY 3 G (S.bf S.aM)) (S.aj (S.Ca G (S.bY 3 G (S.bf S.aM))) S.aB))) (S.aj (S.Ca G (S.aJ 4)) S.aB)) (aZ (aZ len0))))
   (S.aA (S.dF (S.pX (S.pI (S.j7 (wC G) (S.bY 6 G (S.bf S.aM)) (S.bf (S.bY 5 G (S.bf S.aM)))) (S.rz (S.j7 (wC G) (S.cA (rD Z) G hr (by rfl) (S.aj (S.aJ 3) (S.aj (S.aJ 4) S.aB)) (aZ (aZ len0))) (S.cQ 5))))) (S.aF (S.bh S.uJ)) S.cj)
   (S.aA (S.bT 7 (S.cA (nU Z) G hr (by rfl) (S.aj (S.aJ 3) (S.aj (S.aJ 4) S.aB)) (aZ (aZ len0))))
   (S.aA (S.dF (S.pX (S.pI (S.xJ (S.fY (S.yJ (T:="tuple") rfl Z.nW rfl Z.fu (by decide +kernel) Z.mJ G.K (S.aJ 5)))) (S.pI (S.iH 5 (pO G) (S.bf (S.fj S.aB))) (S.rz (S.j7 (wC G) (S.rP G (S.cA (rD Z) G hr (by rfl) (S.aj (S.aJ 3) (S.aj (S.aJ 4) S.aB)) (aZ (aZ len0))) (S.bf S.aM)) (S.bf (S.bY 5 G (S.bf S.aM)))))))) (S.aF (S.bh S.uJ)) S.cj)
   (S.aA (S.dF (S.iH 7 (wC G) (S.bf (S.dg (S.cZ S.aB)))) (S.aF (S.bh (S.sS 5 (pO G) (S.bf (S.fj (S.aj (S.bV [116,111,108,100] (by decide +kernel)) (S.aj (S.gQ G Z.fu (S.bj (S.cQ 7))) S.aB))))))) S.cj)
   (S.aF (S.bh (S.cA (rR Z) G hr (by rfl) (S.aj (S.aJ 3) (S.aj (S.aJ 4) (S.aj (S.aJ 5) S.aB))) (aZ (aZ (aZ len0))))))))))))))))))
end
end jE
namespace lZ
open Ev
def jh:bG:=jE.jh
def gO:List D->Option D:=bL 1 jh
def ik:bG:=aC (aK (aQ (.int 0)) (ak 2)) (aC (dI (d8 (bZ (aa (au bJ 1 (aQ (.int 1))) (aa (aq 1) (ao))))) (ak 3) (aK (aH bJ (au t6 2 (aH J3 (aQ (.int 10)) (aQ (.int 60)))) (az gO (aa (aH bU (aH bJ (uc (aq 0) (uV (aq 3)) (uV (au bJ 3 (aQ (.int 1))))) (bZ (aa (aH bJ (aH t6 (aQ (.int 7919)) (aV 3)) (aQ (.int 61))) (ao)))) (aQ (.int 0))) (ao)))) (ak 2))) (qp (bZ (aa (aq 2) (ao)))))
def du:List D->Option D:=runN 4 ik
def dH:bG:=aC (aK (az my (aa (au bU 0 (aQ (.int 0))) (aa (aV 1) ao))) (eE 2 (aW (J0 0 (aQ (.int 0))) (aW (ak 2) (fG))))) (aY (aq 2))
def aG:List D->Option (D×D):=eO 3 dH
def jf:bG:=aC (aK (aH bU (bZ (aa (aQ (.str [97])) (aa (aQ (.str [97,98])) (aa (aQ (.str [97,98])) (aa (aQ (.str [97,98,99])) (aa (aQ (.str [97,101,112,116])) (aa (aQ (.str [109,110,122])) (ao)))))))) (cD aG 0 (aa (aQ (.int 6)) (ao)))) (ak 1)) (aC (aK (bZ (aa (aQ (.str [115,116,111,112])) (aa (aQ (.str [115,116,111,112,115])) (aa (aQ (.str [115])) (aa (aQ (.str [111,112,101,110])) (aa (aQ (.str [97,98,99,100,101,102,103,104])) (ao))))))) (ak 2)) (aC (cT 3 (bZ (ao))) (aC (dI (d8 (aq 1)) (ak 4) (aC (aK (cD aG 0 (aa (aQ (.int 32)) (ao))) (ak 5)) (aC (aK (az iQ (aa (dR 7 8 (dz (aa (aQ (.int 5)) (ao))) (ak 7) (dw (aH lV (aH G9 (au G8 5 (aV 7)) (aQ (.int 1))) (aQ (.int 1)))) (au bU 2 (aV 7))) ao)) (ak 6)) (fX 3 (cI (aa (aq 4) (aa (az cG (aa (uc (aq 6) (lH) (uV (aQ (.int 4)))) ao)) (ao)))))))) (aY (az cG (aa (aV 3) ao))))))
def eV:List D->Option (D×D):=eO 7 jf
def jq:bG:=aY (aH m5 (aQ (.str [])) (dR 1 3 (d8 (aq 0)) (eE 2 (aW (ak 1) (aW (ak 2) (fG)))) (cu) (aq 1)))
def dM:List D->Option D:=bL 1 jq
def dY:bG:=aC (dB (dw (aH lV (cD aG 0 (aa (aQ (.int 2)) (ao))) (aQ (.int 0)))) (aY (aQ .non)) (bK)) (aC (aK (aH bJ (aQ (.int 1)) (cD aG 0 (aa (aH qM (aH WX (aQ (.int 2)) (az f9 (aa (aV 1) ao))) (aQ (.int 1))) (ao)))) (ak 2)) (aC (aK (aH bJ (aQ (.str [35])) (aV 1)) (ak 3)) (aY (az cG (aa (dR 4 5 (dz (aa (az f9 (aa (aV 3) ao)) (ao))) (ak 4) (dw (aH lV (aH G9 (au G8 2 (aV 4)) (aQ (.int 1))) (aQ (.int 1)))) (au bU 3 (aV 4))) ao)))))
def gb:List D->Option (D×D):=eO 4 dY
def cN:bG:=aC (dB (dw (aH lV (cD aG 0 (aa (aQ (.int 5)) (ao))) (aQ (.int 0)))) (aY (cI (aa (cI (aa (aQ (.str [])) (aa (au bU 1 (cD aG 0 (aa (az f9 (aa (aV 1) ao)) (ao)))) (ao)))) (ao)))) (bK)) (aC (cT 2 (zp)) (aC (dI (dz (aa (aH bJ (aQ (.int 1)) (cD aG 0 (aa (aQ (.int 3)) (ao)))) (ao))) (ak 3) (aC (aK (au bU 1 (cD aG 0 (aa (az f9 (aa (aV 1) ao)) (ao)))) (ak 4)) (aC (cT 5 (dR 6 7 (d8 (aH bJ (az qP (aa (aV 1) ao)) (bZ (aa (aQ (.str [])) (ao))))) (ak 6) (dw (au rJ 6 (aV 4))) (aq 6))) (nH 2 (aq 4) (au bU 5 (cD aG 0 (aa (az f9 (aa (aV 5) ao)) (ao)))))))) (aY (az cG (aa (dR 6 7 (d8 (az iQ (aa (aV 2) ao))) (ak 6) (cu) (cI (aa (aq 6) (aa (au iZ 2 (aV 6)) (ao))))) ao)))))
def gA:List D->Option (D×D):=eO 6 cN
def gF:bG:=aC (aK (aH bU (bZ (aa (aQ (.str [111,110,99,101])) (aa (aQ (.str [97,108,111,110,103])) (ao)))) (cD aG 0 (aa (aQ (.int 2)) (ao)))) (ak 2)) (aC (aK (cD gA 0 (aa (aq 1) (ao))) (ak 3)) (aY (cI (aa (aq 2) (aa (aq 3) (aa (cD gb 0 (aa (aq 1) (ao))) (aa (cD gb 0 (aa (aq 1) (ao))) (ao))))))))
def jd:List D->Option (D×D):=eO 4 gF
open Ev PySem L2
theorem rK{i:Int}{b:Nat}(h:i.natAbs<2^b):Builtin.Int.intBits i<=b:=by
 unfold Builtin.Int.intBits;split
 ·exact Nat.zero_le _
 ·rename_i h0;have hz:i.natAbs≠0:=λz=>h0 (by rw[Int.natAbs_eq_zero.mp z];rfl);exact(Nat.log2_lt hz).mpr h
theorem tY{i j:Int}{a b:Nat}(h1:Builtin.Int.intBits i<=a)(h2:Builtin.Int.intBits j<=b)(h:a+b<=134217728):lr i j=true:=
 decide_eq_true (by omega)
def JG(i:Int):Int:=i*262406895267124108351839057402211873468251940277165213587343 % 10^60
theorem We(i:Int):(JG i).natAbs<2^200:=by
 unfold JG;have h1:0<=i*262406895267124108351839057402211873468251940277165213587343 % 10^60:=Int.emod_nonneg _ (by decide);have h2:i*262406895267124108351839057402211873468251940277165213587343 % 10^60<10^60:=Int.emod_lt_of_pos _ (by decide);have h3:(10:Int)^60<=2^200:=by decide
 omega
theorem mixed{i:Int}(h:Builtin.Int.intBits i<=2^20):gO [.int i]=some (.int (JG i)):=by
 have hm:lr i 262406895267124108351839057402211873468251940277165213587343=true:=tY h (rK (b:=198) (by decide)) (by decide);have e1:au t6 0 (aQ (.int 262406895267124108351839057402211873468251940277165213587343)) [some (false,.int i)] = .ok (.int (i*262406895267124108351839057402211873468251940277165213587343)) [some (false,.int i)]:=by
  show d9 (gI lr (λi j=>D.int (i*j)) (.int i) (.int _)) _=_;unfold gI;simp only;rw[if_pos hm]
  rfl
 show(match aY _ [some (false,.int i)] with|.rt false d _=>some d|.nx _=>some .non|_=>none)=_;rw[cL (d:=.int (JG i)) (e:=[some (false,.int i)])];unfold aH;rw[e1]
 rfl
theorem Xy{α:Type}{xs:List α}{lo hi:Option Int}{x:α}(h:x∈cutD xs lo hi):x∈xs:=List.mem_of_mem_drop (List.mem_of_mem_take h)
theorem T3{α:Type}(x:α)(r:List α):oA (x::r) 0=some x:=lD (j:=0) rfl
def mU:bG:=aK (aH bJ (au t6 2 (aH J3 (aQ (.int 10)) (aQ (.int 60)))) (az gO (aa (aH bU (aH bJ (uc (aq 0) (uV (aq 3)) (uV (au bJ 3 (aQ (.int 1))))) (bZ (aa (aH bJ (aH t6 (aQ (.int 7919)) (aV 3)) (aQ (.int 61))) (ao)))) (aQ (.int 0))) (ao)))) (ak 2)
theorem Bl(ns:List Int)(hl:ns.length<=63)(hb:Kh ns)(k a f:Int)(ha:a.natAbs<2^10)(hf:Builtin.Int.intBits f<=2^20) :
  ∃f':Int,mU [some (false,.arr (ns.map .int)),some (false,.int k),some (false,.int f),some (false,.int a)] = .nx [some (false,.arr (ns.map .int)),some (false,.int k),some (false,.int f'),some (false,.int a)]/\(f=0->f'.natAbs<2^200):=by
 generalize hE:([some (false,.arr (ns.map .int)),some (false,.int k),some (false,.int f),some (false,.int a)]:Ev.Env)=env;have m1:lr 7919 a=true:=tY (a:=20) (b:=10) (rK (by decide)) (rK ha) (by decide);have m2:lr f (10^(60:Int).toNat)=true:=tY (b:=200) hf (rK (by decide)) (by decide);have e1:uc (aq 0) (uV (aq 3)) (uV (au bJ 3 (aQ (.int 1)))) env = .ok (.lst (cutD (ns.map .int) (some a) (some (a+1)))) env:=by rw[<-hE];rfl
 have e2:bZ (aa (aH bJ (aH t6 (aQ (.int 7919)) (aV 3)) (aQ (.int 61))) (ao)) env = .ok (.lst [.int (7919*a+61)]) env:=by refine Td (aX (cz (cz (x:=.int 7919) (y:=.int a) (e1:=env) (e2:=env) rfl (by rw[<-hE];rfl) (Ln m1)) (y:=.int 61) rfl rfl) cB) (by show 1<=sizeLine;decide)
 generalize hL:cutD (ns.map D.int) (some a) (some (a+1))=L at e1;have hLl:L.length<=63:=by rw[<-hL];exact Nat.le_trans (qZ _ _ _) (by rw[List.length_map];exact hl)
 have e3:aH bJ (uc (aq 0) (uV (aq 3)) (uV (au bJ 3 (aQ (.int 1))))) (bZ (aa (aH bJ (aH t6 (aQ (.int 7919)) (aV 3)) (aQ (.int 61))) (ao))) env = .ok (.lst (L++[.int (7919*a+61)])) env:=by exact cz e1 e2 (SM (by show L.length+1<=sizeLine;exact Nat.le_trans (Nat.succ_le_succ hLl) (by decide)))
 obtain⟨c,hc,hcb⟩:∃c:Int,oA (L++[.int (7919*a+61)]) 0=some (.int c)/\Builtin.Int.intBits c<=2^20:=by
  cases hLc:L with
  | nil=>
   refine⟨7919*a+61,rfl,Nat.le_trans (rK (b:=30) ?_) (by decide)⟩;omega
  | cons y r=>
   have hy:y∈ns.map D.int:=Xy (lo:=some a) (hi:=some (a+1)) (by rw[hL,hLc];exact List.mem_cons_self ..);obtain⟨i,hi,rfl⟩:=List.mem_map.mp hy;exact⟨i,T3 _ _,hb i hi⟩
 have e4:az gO (aa (aH bU (aH bJ (uc (aq 0) (uV (aq 3)) (uV (au bJ 3 (aQ (.int 1))))) (bZ (aa (aH bJ (aH t6 (aQ (.int 7919)) (aV 3)) (aQ (.int 61))) (ao)))) (aQ (.int 0))) (ao)) env = .ok (.int (JG c)) env:=by exact bw (aX (cz (y:=.int 0) e3 rfl hc) cB) (mixed hcb)
 refine⟨f*10^(60:Int).toNat+JG c,?_,λh0=>?_⟩
 ·unfold mU;refine cY (d:=.int (f*10^(60:Int).toNat+JG c)) (e:=env) ?_ (by rw[<-hE];rfl);have e5:au t6 2 (aH J3 (aQ (.int 10)) (aQ (.int 60))) env = .ok (.int (f*10^(60:Int).toNat)) env:=by
   rw[<-hE];exact bH (o:=false) (o':=false) (x:=.int f) (x0:=.int f) rfl rfl rfl (Ln m2)
  exact cz e5 e4 rfl
 ·rw[h0,Int.zero_mul,Int.zero_add];exact We c
theorem pack(ns:List Int)(hl:ns.length<=63)(hb:Kh ns)(k:Int)(h0:0<=k)(h1:k<=500):∃p:Int,du [.arr (ns.map .int),.int k]=some (.lst [.int p]):=by
 obtain⟨f1,e1,b1⟩:=Bl ns hl hb k (k+1) 0 (by omega) (by decide);obtain⟨f2,e2,_⟩:=Bl ns hl hb k k f1 (by omega) (Nat.le_trans (rK (b1 rfl)) (by decide));refine⟨f2,?_⟩;have h:ik [some (false,.arr (ns.map .int)),some (false,.int k),none,none] = .rt true (.lst [.int f2]) [some (false,.arr (ns.map .int)),some (false,.int k),some (false,.int f2),some (false,.int k)]:=by
  unfold ik;refine(aL (e:=[some (false,.arr (ns.map .int)),some (false,.int k),some (false,.int 0),none]) (by rfl)).trans ?_;refine(aL (e:=[some (false,.arr (ns.map .int)),some (false,.int k),some (false,.int f2),some (false,.int k)]) ?_).trans rfl;refine(iR (ds:=[.int (k+1),.int k]) (e:=[some (false,.arr (ns.map .int)),some (false,.int k),some (false,.int 0),none]) (by rfl)).trans ?_;show jb (ak 3) mU [.int (k+1),.int k] _=_;unfold jb;show(match mU [some (false,.arr (ns.map .int)),some (false,.int k),some (false,.int 0),some (false,.int (k+1))] with|.nx e2=>jb (ak 3) mU [.int k] e2|.ct e2=>_|.bk e2=>_|.rt o d e2=>_|.stuck=>_)=_;rw[e1];simp only;unfold jb;show(match mU [some (false,.arr (ns.map .int)),some (false,.int k),some (false,.int f1),some (false,.int k)] with|.nx e2=>jb (ak 3) mU [] e2|.ct e2=>_|.bk e2=>_|.rt o d e2=>_|.stuck=>_)=_;rw[e2]
  rfl
 show(match ik _ with|.rt true d _=>some d|_=>none)=_;have e:envOf 4 [D.arr (ns.map .int),.int k]=[some (false,.arr (ns.map .int)),some (false,.int k),none,none]:=rfl;rw[e,h]
def known:D:=.lst [.str [115,116,111,112],.str [115,116,111,112,115],.str [115],.str [111,112,101,110],.str [97,98,99,100,101,102,103,104]]
def xH:bG:=aK (az iQ (aa (dR 7 8 (dz (aa (aQ (.int 5)) (ao))) (ak 7) (dw (aH lV (aH G9 (au G8 5 (aV 7)) (aQ (.int 1))) (aQ (.int 1)))) (au bU 2 (aV 7))) ao)) (ak 6)
def mk(d:Nat):D:=match xH [none,none,some (false,known),none,none,some (false,.int d),none] with
 | .nx e=>(match e[6]? with|some (some (_,z))=>z|_=>.non)
 | _=>.non
def AllB(P:Nat->Prop):Nat->Prop
 | 0=>True
 | n+1=>AllB P n/\P n
theorem uo{P:Nat->Prop}:∀{n:Nat},AllB P n->∀d,d<n->P d
 | 0,_,d,h=>absurd h (Nat.not_lt_zero d)
 | n+1,⟨a,b⟩,d,h=>by
  by_cases e:d=n
  ·subst e;exact b
  ·exact uo a d (by omega)
theorem marks(d:Nat)(hd:d<32)(a b c e f:Option (Bool×D)):xH [a,b,some (false,known),c,e,some (false,.int d),f] = .nx [a,b,some (false,known),c,e,some (false,.int d),some (false,mk d)]:=by refine uo (P:=λd=>xH [a,b,some (false,known),c,e,some (false,.int (d:Nat)),f] = .nx [a,b,some (false,known),c,e,some (false,.int (d:Nat)),some (false,mk d)]) (n:=32) ?_ d hd;refine⟨⟨⟨⟨⟨⟨⟨⟨⟨⟨⟨⟨⟨⟨⟨⟨⟨⟨⟨⟨⟨⟨⟨⟨⟨⟨⟨⟨⟨⟨⟨⟨trivial,?_⟩,?_⟩,?_⟩,?_⟩,?_⟩,?_⟩,?_⟩,?_⟩,?_⟩,?_⟩,?_⟩,?_⟩,?_⟩,?_⟩,?_⟩,?_⟩,?_⟩,?_⟩,?_⟩,?_⟩,?_⟩,?_⟩,?_⟩,?_⟩,?_⟩,?_⟩,?_⟩,?_⟩,?_⟩,?_⟩,?_⟩,?_⟩<;>kernel_rfl
def aeD:D->Bool
 | .lst _=>true
 | _=>false
theorem aaI(d:Nat)(hd:d<32):∃zs,mk d = .lst zs:=by
 have h:((List.range 32).all λd=>aeD (mk d))=true:=by decide +kernel
 have h1:=List.all_eq_true.mp h d (List.mem_range.mpr hd);cases e:mk d with
 | lst zs=>exact⟨zs,rfl⟩
 | _=>rw[e] at h1;cases h1
inductive Rows:List D->List D->Prop where
 | nil:Rows [] []
 | cons {s m:D} {ss rs:List D}:Rows ss rs->Rows (s::ss) (.tup [s,m]::rs)
theorem Rows.snoc{ss rs:List D}(h:Rows ss rs)(s m:D):Rows (ss++[s]) (rs++[.tup [s,m]]):=by
 induction h with
 | nil=>exact .cons .nil
 | cons _ ih=>exact .cons ih
theorem Rows.len{ss rs:List D}(h:Rows ss rs):rs.length=ss.length:=by
 induction h with
 | nil=>rfl
 | cons _ ih=>rw[List.length_cons,List.length_cons,ih]
theorem fW{i:Nat}{a:Ev}{env e:Ev.Env}{d:D}{xs x0:List D}(h0:env[i]? = some (some (true,.lst x0)))(h1:a env = .ok d e)(h2:e[i]? = some (some (true,.lst xs)))(hz:xs.length<sizeLine):fX i a env = .nx (e.set i (some (true,.lst (xs++[d])))):=by unfold fX;rw[h0];show eF (a env) _=_;rw[h1];show(match e[i]? with|some (some (true,.lst xs))=>if xs.length<sizeLine then Out.nx (e.set i (some (true,.lst (xs++[d])))) else .stuck|_=>.stuck)=_;rw[h2];show(if xs.length<sizeLine then _ else _)=_;rw[if_pos hz]
def vI:bG:=aC (aK (cD aG 0 (aa (aQ (.int 32)) (ao))) (ak 5)) (aC xH (fX 3 (cI (aa (aq 4) (aa (az cG (aa (uc (aq 6) (lH) (uV (aQ (.int 4)))) ao)) (ao))))))
theorem Iv(n:Int)(b v5 v6:Option (Bool×D))(acc:List D)(s:D)(ha:acc.length<=10):∃m v5' v6',vI [some (true,.lst [.int n]),b,some (false,known),some (true,.lst acc),some (false,s),v5,v6] = .nx [some (true,.lst [.int (n / 32)]),b,some (false,known),some (true,.lst (acc++[.tup [s,m]])),some (false,s),v5',v6']:=by obtain⟨d,hd,e⟩:=dig n 32 (by decide);obtain⟨zs,hz⟩:=aaI d hd;refine⟨.tup (cutD zs none (some 4)),some (false,.int d),some (false,.lst zs),?_⟩;unfold vI;refine(aL (e:=[some (true,.lst [.int (n / 32)]),b,some (false,known),some (true,.lst acc),some (false,s),some (false,.int (n % (32:Nat))),v6]) (by rfl)).trans ?_;rw[e];refine(aL (marks d hd _ _ _ _ _)).trans ?_;rw[hz];exact fW (x0:=acc) (xs:=acc) (e:=[some (true,.lst [.int (n / 32)]),b,some (false,known),some (true,.lst acc),some (false,s),some (false,.int d),some (false,.lst zs)]) rfl rfl rfl (Nat.lt_of_le_of_lt ha (by decide))
def XS:List (List Nat):=[[97],[97,98],[97,98,99],[97,101,112,116],[109,110,122]]
theorem uq:∀x∈XS,x.length<=4:=by decide
theorem stock(n:Int):∃x rows n',x∈XS/\eV [.lst [.int n]]=some (.tup rows,.lst [.int n'])/\Rows (z8 x) rows:=by
 obtain⟨d,hd,e⟩:=dig n 6 (by decide);obtain⟨x,hx,h1⟩:∃x,x∈XS/\∀m:Int,(λ(k:Int) (m:Int)=>eF (d9 (bU (.lst [.str [97],.str [97,98],.str [97,98],.str [97,98,99],.str [97,101,112,116],.str [109,110,122]]) (.int k)) ([some (true,.lst [.int m]),none,none,none,none,none,none]:Ev.Env)) λd aD=>Bm (ak 1 d aD)) (d:Int) m = .nx [some (true,.lst [.int m]),some (false,.str x),none,none,none,none,none]:=by
  have hc:d=0\/d=1\/d=2\/d=3\/d=4\/d=5:=by omega
  rcases hc with rfl|rfl|rfl|rfl|rfl|rfl
  ·exact⟨[97],by decide,λm=>rfl⟩
  ·exact⟨[97,98],by decide,λm=>rfl⟩
  ·exact⟨[97,98],by decide,λm=>rfl⟩
  ·exact⟨[97,98,99],by decide,λm=>rfl⟩
  ·exact⟨[97,101,112,116],by decide,λm=>rfl⟩
  ·exact⟨[109,110,122],by decide,λm=>rfl⟩
 have hxl:x.length<=4:=uq x hx;obtain⟨e',f1,n',acc,v4,v5,v6,rfl,hr⟩:=jQ (g:=ak 4) (b:=vI) (z8 x) (λdone env=>∃n acc v4 v5 v6,env=[some (true,.lst [.int n]),some (false,.str x),some (false,known),some (true,.lst acc),v4,v5,v6]/\Rows done acc)
  (λdone s rest hall env ⟨n,acc,v4,v5,v6,he,hr⟩=>by
   subst he;have hd:done.length<=4:=by have:=congrArg List.length hall;unfold z8 at this;rw[List.length_map,List.length_append,List.length_cons] at this;omega
   obtain⟨m,w5,w6,hb⟩:=Iv n (some (false,.str x)) v5 v6 acc s (by rw[hr.len];omega);exact⟨_,_,rfl,hb,n / 32,_,_,_,_,rfl,hr.snoc s m⟩)
  [some (true,.lst [.int (n / 6)]),some (false,.str x),some (false,known),some (true,.lst []),none,none,none] ⟨_,[],_,_,_,rfl,.nil⟩
 refine⟨x,acc,n',hx,jy (env:=[some (true,.lst [.int n']),some (false,.str x),some (false,known),some (true,.lst acc),v4,v5,v6]) ?_ rfl,hr⟩;unfold jf;refine(aL (e:=[some (true,.lst [.int (n / 6)]),some (false,.str x),none,none,none,none,none]) ?_).trans ?_
 ·have h2:=h1 (n / 6);rw[<-e] at h2;exact h2
 refine(aL (e:=[some (true,.lst [.int (n / 6)]),some (false,.str x),some (false,known),none,none,none,none]) (by rfl)).trans ?_;refine(aL (e:=[some (true,.lst [.int (n / 6)]),some (false,.str x),some (false,known),some (true,.lst []),none,none,none]) (by rfl)).trans ?_;refine(aL (e:=[some (true,.lst [.int n']),some (false,.str x),some (false,known),some (true,.lst acc),v4,v5,v6]) ?_).trans ?_
 ·exact(iR (ds:=z8 x) (by rfl)).trans f1
 ·rfl
theorem Vi{ss rs:List D}(h:Rows ss rs):∀(a v1 v2:Option (Bool×D)),∃w1 w2,uw (eE 2 (aW (ak 1) (aW (ak 2) fG))) cu (aq 1) rs [a,v1,v2] = .ok ss [a,w1,w2]:=by
 induction h with
 | nil=>exact λa v1 v2=>⟨v1,v2,rfl⟩
 | cons _ ih=>
  rename_i s m ss rs _;intro a v1 v2;obtain⟨w1,w2,e⟩:=ih a (some (false,s)) (some (false,m));refine⟨w1,w2,?_⟩;unfold uw;show bindR (uw _ cu (aq 1) rs [a,some (false,s),some (false,m)]) _=_;rw[e]
  rfl
theorem M5{x:List Nat}{rs:List D}(hx:x∈XS)(h:Rows (z8 x) rs):dR 1 3 (d8 (aq 0)) (eE 2 (aW (ak 1) (aW (ak 2) fG))) cu (aq 1) [some (false,.tup rs)] = .ok (.lst (z8 x)) [some (false,.tup rs)]:=by obtain⟨w1,w2,e⟩:=Vi h (some (false,.tup rs)) none none;exact uW (lo:=1) (n:=3) (ds:=rs) (ys:=z8 x) (aD:=[some (false,.tup rs)]) (dh:=[some (false,.tup rs),w1,w2]) (by rfl) (by rfl) (by exact e) (by unfold z8;rw[List.length_map];exact Nat.le_trans (uq x hx) (by decide))
theorem join_eq:∀x∈XS,m5 (.str []) (.lst (z8 x))=some (.str x):=by intro x hx;unfold XS at hx;simp only[List.mem_cons,List.not_mem_nil,or_false] at hx;rcases hx with rfl|rfl|rfl|rfl|rfl<;>kernel_rfl
theorem JP{x:List Nat}{rs:List D}(hx:x∈XS)(h:Rows (z8 x) rs):dM [.tup rs]=some (.str x):=
 fK (cL (cz (x:=.str []) rfl (M5 hx h) (join_eq x hx)))
def isT:Option D->Bool
 | some (.bl true)=>true
 | _=>false
theorem abJ{o:Option D}(h:isT o=true):o=some (.bl true):=by
 cases o with
 | none=>cases h
 | some d=>cases d with
  | bl b=>cases b with
   | true=>rfl
   | false=>cases h
  | _=>cases h
def M(x:List Nat):Nat:=2*2^x.length - 1
def sX:bG:=aC (aK (aH bJ (aQ (.str [35])) (aV 1)) (ak 3)) (aY (az cG (aa (dR 4 5 (dz (aa (az f9 (aa (aV 3) ao)) (ao))) (ak 4) (dw (aH lV (aH G9 (au G8 2 (aV 4)) (aQ (.int 1))) (aQ (.int 1)))) (au bU 3 (aV 4))) ao)))
def Yk(x:List Nat)(d:Nat):D:=match sX [none,some (false,.str x),some (false,.int (1+(d:Int))),none] with
 | .rt _ r _=>r
 | _=>.non
def SG(x:List Nat):List D:=.non::(List.range (M x)).map (Yk x)
theorem U9(a:Option (Bool×D)):∀x∈XS,∀d,d<M x->∃e3,sX [a,some (false,.str x),some (false,.int (1+(d:Int))),none] = .rt false (Yk x d) [a,some (false,.str x),some (false,.int (1+(d:Int))),e3]:=by
 intro x hx d hd;refine⟨some (false,.str (35::x)),?_⟩;unfold XS at hx;simp only[List.mem_cons,List.not_mem_nil,or_false] at hx;rcases hx with rfl|rfl|rfl|rfl|rfl
 ·refine uo (P:=λd=>sX [a,some (false,.str [97]),some (false,.int (1+((d:Nat):Int))),none] = .rt false (Yk [97] d) [a,some (false,.str [97]),some (false,.int (1+((d:Nat):Int))),some (false,.str (35::[97]))]) (n:=3) ?_ d hd;refine⟨⟨⟨trivial,?_⟩,?_⟩,?_⟩<;>kernel_rfl
 ·refine uo (P:=λd=>sX [a,some (false,.str [97,98]),some (false,.int (1+((d:Nat):Int))),none] = .rt false (Yk [97,98] d) [a,some (false,.str [97,98]),some (false,.int (1+((d:Nat):Int))),some (false,.str (35::[97,98]))]) (n:=7) ?_ d hd;refine⟨⟨⟨⟨⟨⟨⟨trivial,?_⟩,?_⟩,?_⟩,?_⟩,?_⟩,?_⟩,?_⟩<;>kernel_rfl
 ·refine uo (P:=λd=>sX [a,some (false,.str [97,98,99]),some (false,.int (1+((d:Nat):Int))),none] = .rt false (Yk [97,98,99] d) [a,some (false,.str [97,98,99]),some (false,.int (1+((d:Nat):Int))),some (false,.str (35::[97,98,99]))]) (n:=15) ?_ d hd;refine⟨⟨⟨⟨⟨⟨⟨⟨⟨⟨⟨⟨⟨⟨⟨trivial,?_⟩,?_⟩,?_⟩,?_⟩,?_⟩,?_⟩,?_⟩,?_⟩,?_⟩,?_⟩,?_⟩,?_⟩,?_⟩,?_⟩,?_⟩<;>kernel_rfl
 ·refine uo (P:=λd=>sX [a,some (false,.str [97,101,112,116]),some (false,.int (1+((d:Nat):Int))),none] = .rt false (Yk [97,101,112,116] d) [a,some (false,.str [97,101,112,116]),some (false,.int (1+((d:Nat):Int))),some (false,.str (35::[97,101,112,116]))]) (n:=31) ?_ d hd;refine⟨⟨⟨⟨⟨⟨⟨⟨⟨⟨⟨⟨⟨⟨⟨⟨⟨⟨⟨⟨⟨⟨⟨⟨⟨⟨⟨⟨⟨⟨⟨trivial,?_⟩,?_⟩,?_⟩,?_⟩,?_⟩,?_⟩,?_⟩,?_⟩,?_⟩,?_⟩,?_⟩,?_⟩,?_⟩,?_⟩,?_⟩,?_⟩,?_⟩,?_⟩,?_⟩,?_⟩,?_⟩,?_⟩,?_⟩,?_⟩,?_⟩,?_⟩,?_⟩,?_⟩,?_⟩,?_⟩,?_⟩<;>kernel_rfl
 ·refine uo (P:=λd=>sX [a,some (false,.str [109,110,122]),some (false,.int (1+((d:Nat):Int))),none] = .rt false (Yk [109,110,122] d) [a,some (false,.str [109,110,122]),some (false,.int (1+((d:Nat):Int))),some (false,.str (35::[109,110,122]))]) (n:=15) ?_ d hd;refine⟨⟨⟨⟨⟨⟨⟨⟨⟨⟨⟨⟨⟨⟨⟨trivial,?_⟩,?_⟩,?_⟩,?_⟩,?_⟩,?_⟩,?_⟩,?_⟩,?_⟩,?_⟩,?_⟩,?_⟩,?_⟩,?_⟩,?_⟩<;>kernel_rfl
theorem signs(n:Int)(x:List Nat)(hx:x∈XS):∃r n',gb [.lst [.int n],.str x]=some (r,.lst [.int n'])/\r∈SG x:=by
 obtain⟨d,hd,e⟩:=dig n 2 (by decide);have t:dw (aH lV (cD aG 0 (aa (aQ (.int 2)) (ao))) (aQ (.int 0))) [some (true,.lst [.int n]),some (false,.str x),none,none] = .ok ((d:Int) == 0) [some (true,.lst [.int (n / 2)]),some (false,.str x),none,none]:=by
  rw[<-e]
  rfl
 have hc:d=0\/d=1:=by omega
 rcases hc with rfl|rfl
 ·refine⟨.non,n / 2,jy (env:=[some (true,.lst [.int (n / 2)]),some (false,.str x),none,none]) ?_ rfl,List.mem_cons_self ..⟩;unfold dY;refine(oO (e:=[some (true,.lst [.int (n / 2)]),some (false,.str x),none,none]) ?_).trans rfl;exact(jX (e:=[some (true,.lst [.int (n / 2)]),some (false,.str x),none,none]) t).trans rfl
 ·obtain⟨k,hk,ek⟩:=dig (n / 2) (M x) (by unfold M;have:0<2^x.length:=Nat.two_pow_pos _;omega);obtain⟨e3,h3⟩:=U9 (some (true,.lst [.int (n / 2 / (M x:Int))])) x hx k hk;refine⟨Yk x k,n / 2 / (M x:Int),jy (env:=[some (true,.lst [.int (n / 2 / (M x:Int))]),some (false,.str x),some (false,.int (1+(k:Int))),e3]) ?_ rfl,List.mem_cons_of_mem _ (List.mem_map.mpr ⟨k,List.mem_range.mpr hk,rfl⟩)⟩;unfold dY;refine(aL (e:=[some (true,.lst [.int (n / 2)]),some (false,.str x),none,none]) ?_).trans ?_
  ·exact(jr (e:=[some (true,.lst [.int (n / 2)]),some (false,.str x),none,none]) t).trans rfl
  ·refine(aL (e:=[some (true,.lst [.int (n / 2 / (M x:Int))]),some (false,.str x),some (false,.int (1+n / 2 % (M x:Int))),none]) ?_).trans ?_
   ·unfold XS at hx;simp only[List.mem_cons,List.not_mem_nil,or_false] at hx;rcases hx with rfl|rfl|rfl|rfl|rfl<;>rfl
   ·rw[ek];exact h3
def oth(x:List Nat)(c:Nat):List D:=((x.map (λa=>[a])++[[]]).filter λz=>z != [c]).map .str
def PV(x:List Nat):List (Nat×D):=x.flatMap λc=>(oth x c).map λv=>(c,v)
def one:bG:=aK (au bU 1 (cD aG 0 (aa (az f9 (aa (aV 1) ao)) (ao)))) (ak 4)
def others:bG:=cT 5 (dR 6 7 (d8 (aH bJ (az qP (aa (aV 1) ao)) (bZ (aa (aQ (.str [])) (ao))))) (ak 6) (dw (au rJ 6 (aV 4))) (aq 6))
def Gd:bG:=nH 2 (aq 4) (au bU 5 (cD aG 0 (aa (az f9 (aa (aV 5) ao)) (ao))))
theorem Nm(a b v3 v5:Option (Bool×D)):∀x∈XS,∀c∈x,others [a,some (false,.str x),b,v3,some (false,.str [c]),v5] = .nx [a,some (false,.str x),b,v3,some (false,.str [c]),some (true,.lst (oth x c))]:=by
 intro x hx c hc;unfold XS at hx;simp only[List.mem_cons,List.not_mem_nil,or_false] at hx;rcases hx with rfl|rfl|rfl|rfl|rfl<;>simp only[List.mem_cons,List.not_mem_nil,or_false] at hc
 ·subst hc;kernel_rfl
 ·rcases hc with rfl|rfl<;>kernel_rfl
 ·rcases hc with rfl|rfl|rfl<;>kernel_rfl
 ·rcases hc with rfl|rfl|rfl|rfl<;>kernel_rfl
 ·rcases hc with rfl|rfl|rfl<;>kernel_rfl
theorem V2:∀x∈XS,∀c∈x,(oth x c).length=x.length:=by decide +kernel
theorem wG:∀x∈XS,0<x.length:=by decide
theorem kZ(n:Int)(m:Nat)(h0:0<m)(h1:m<1073741824):aG [.lst [.int n],.int (m:Int)]=some (.int (n % m),.lst [.int (n / m)]):=by
 refine jy (env:=[some (true,.lst [.int (n / m)]),some (false,.int m),some (false,.int (n % m))]) ?_ rfl;unfold dH;have g:my [.int n,.int (m:Int)]=some (.tup [.int (n / m),.int (n % m)]):=by show(if 0<(m:Int)/\(m:Int)<1073741824 then _ else _)=_;rw[if_pos (by omega)]
 refine(aL (e:=[some (true,.lst [.int (n / m)]),some (false,.int m),some (false,.int (n % m))]) ?_).trans rfl;exact cY (bw (ds:=[.int n,.int (m:Int)]) (e:=[some (true,.lst [.int n]),some (false,.int m),none]) (by rfl) g) (by rfl)
theorem Mz{i:Nat}{k a:Ev}{env e1 e2:Ev.Env}{d kd x0:D}{o:Bool}{q:Key}{kvs:List (D×D)}(h1:a env = .ok d e1)(h2:e1[i]? = some (some (o,x0)))(h3:k e1 = .ok kd e2)(h4:e2[i]? = some (some (true,.dct kvs)))(h5:qj kd=some q)(hz:kvs.length<sizeLine) :
  nH i k a env = .nx (e2.set i (some (true,.dct (putD kvs kd q d)))):=by
 unfold nH;rw[h1];simp only[eF];rw[h2];simp only;rw[h3];simp only;rw[h4,h5];simp only;rw[if_pos hz]
def QJ(kvs:List (D×D))(p:Nat×D):List (D×D):=putD kvs (.str [p.1]) (.inr (strOf [p.1])) p.2
theorem round(n:Int)(x:List Nat)(hx:x∈XS)(kvs:List (D×D))(hk:kvs.length<=10)(v3 v4 v5:Option (Bool×D)):∃p n' v4' v5',p∈PV x/\aC one (aC others Gd) [some (true,.lst [.int n]),some (false,.str x),some (true,.dct kvs),v3,v4,v5] = .nx [some (true,.lst [.int n']),some (false,.str x),some (true,.dct (QJ kvs p)),v3,v4',v5']:=by
 have hp:=wG x hx;have hl4:=uq x hx;obtain⟨d,hd,e⟩:=dig n x.length hp;have hc:x[d]∈x:=List.getElem_mem hd;have hol:=V2 x hx x[d] hc;obtain⟨d',hd',e'⟩:=dig (n / (x.length:Int)) x.length hp;have hv:d'<(oth x x[d]).length:=by rw[hol];exact hd'
 refine⟨(x[d],(oth x x[d])[d']),n / (x.length:Int) / (x.length:Int),some (false,.str [x[d]]),some (true,.lst (oth x x[d])),?_,?_⟩
 ·unfold PV;exact List.mem_flatMap.mpr ⟨x[d],hc,List.mem_map.mpr ⟨_,List.getElem_mem hv,rfl⟩⟩
 ·refine(aL (e:=[some (true,.lst [.int (n / (x.length:Int))]),some (false,.str x),some (true,.dct kvs),v3,some (false,.str [x[d]]),v5]) ?_).trans ?_
  ·unfold one;refine cY (d:=.str [x[d]]) (e:=[some (true,.lst [.int (n / (x.length:Int))]),some (false,.str x),some (true,.dct kvs),v3,v4,v5]) ?_ (by rfl);refine bH (o:=false) (o':=false) (x:=.str x) (x0:=.str x) (y:=.int (n % (x.length:Int))) (by rfl) ?_ (by rfl) ?_
   ·exact lA (x:=.lst [.int n]) (x0:=.lst [.int n]) (ds:=[.int (x.length:Int)]) (e1:=[some (true,.lst [.int n]),some (false,.str x),some (true,.dct kvs),v3,v4,v5]) (by rfl) (by rfl) (by rfl) (kZ n x.length hp (by omega))
   ·show(oA x (n % (x.length:Int))).map _=_;rw[e,Ej hd]
    rfl
  ·refine(aL (Nm _ _ _ _ x hx x[d] hc)).trans ?_;unfold Gd;refine(Mz (d:=(oth x x[d])[d']) (kd:=.str [x[d]]) (o:=true) (x0:=.dct kvs) (kvs:=kvs) (q:=.inr (strOf [x[d]])) (e1:=[some (true,.lst [.int (n / (x.length:Int) / (x.length:Int))]),some (false,.str x),some (true,.dct kvs),v3,some (false,.str [x[d]]),some (true,.lst (oth x x[d]))])
    (e2:=[some (true,.lst [.int (n / (x.length:Int) / (x.length:Int))]),some (false,.str x),some (true,.dct kvs),v3,some (false,.str [x[d]]),some (true,.lst (oth x x[d]))]) ?_ (by rfl) (by rfl) (by rfl) (by rfl) (Nat.lt_of_le_of_lt hk (by decide))).trans rfl
   refine bH (o:=true) (o':=true) (x:=.lst (oth x x[d])) (x0:=.lst (oth x x[d])) (y:=.int (n / (x.length:Int) % (x.length:Int))) (by rfl) ?_ (by rfl) ?_
   ·refine lA (x:=.lst [.int (n / (x.length:Int))]) (x0:=.lst [.int (n / (x.length:Int))]) (ds:=[.int (x.length:Int)]) (e1:=[some (true,.lst [.int (n / (x.length:Int))]),some (false,.str x),some (true,.dct kvs),v3,some (false,.str [x[d]]),some (true,.lst (oth x x[d]))]) (by rfl) ?_ (by rfl) (kZ _ x.length hp (by omega));refine aX (d:=.int (x.length:Int)) ?_ cB;refine bw (ds:=[.lst (oth x x[d])]) (by rfl) ?_;show some (D.int ((oth x x[d]).length:Int))=_;rw[hol]
   ·show oA (oth x x[d]) (n / (x.length:Int) % (x.length:Int))=_;rw[e',Ej hv]
def Oz(kvs:List (D×D)):Option D:=match iQ [.dct kvs] with
 | some (.lst ks)=>if (ks.all λk=>(iZ (.dct kvs) k).isSome) then some (.tup (ks.map λk=>.tup [k,(iZ (.dct kvs) k).getD .non])) else none
 | _=>none
def acx:bG:=aY (az cG (aa (dR 6 7 (d8 (az iQ (aa (aV 2) ao))) (ak 6) (cu) (cI (aa (aq 6) (aa (au iZ 2 (aV 6)) (ao))))) ao))
theorem G6{kvs:List (D×D)}{ks:List D}(h:iQ [.dct kvs]=some (.lst ks)):ks.length<=64:=by
 obtain⟨zs,h1,h2⟩:=Option.bind_eq_some_iff.mp h;split at h2
 ·rename_i hz;cases h2;rw[List.length_map,(iU zs).length_eq];omega
 ·cases h2
theorem Ec{kvs:List (D×D)}{ch:D}(h:Oz kvs=some ch)(a b v3 v4 v5:Option (Bool×D)):acx [a,b,some (true,.dct kvs),v3,v4,v5] = .rt false ch [a,b,some (true,.dct kvs),v3,v4,v5]:=by
 unfold Oz at h;split at h
 ·rename_i ks hs;split at h
  ·rename_i hall;cases h;obtain⟨env',h1,v6,rfl⟩:=La (g:=ak 6) (e:=cI (aa (aq 6) (aa (au iZ 2 (aV 6)) ao))) (λenv=>∃v6,env=[a,b,some (true,.dct kvs),v3,v4,v5,v6]) (λk=>.tup [k,(iZ (.dct kvs) k).getD .non]) ks [a,b,some (true,.dct kvs),v3,v4,v5,none] ⟨none,rfl⟩
    (λk hk env ⟨v6,he⟩=>by
     subst he;obtain⟨v,hv⟩:=Option.isSome_iff_exists.mp (List.all_eq_true.mp hall k hk);refine⟨_,[a,b,some (true,.dct kvs),v3,v4,v5,some (false,k)],rfl,?_,some (false,k),rfl⟩;rw[hv];exact qR (ds:=[k,v]) (aX (d:=k) (e1:=[a,b,some (true,.dct kvs),v3,v4,v5,some (false,k)]) (by rfl) (aX (d:=v) (bH (o:=true) (o':=true) (x:=.dct kvs) (x0:=.dct kvs) (y:=k) (by rfl) (by rfl) (by rfl) hv) cB)) (by show 2<=sizeLine;decide))
   refine cL (bw (ds:=[.lst (ks.map λk=>.tup [k,(iZ (.dct kvs) k).getD .non])]) (aX (e1:=[a,b,some (true,.dct kvs),v3,v4,v5]) ?_ cB) rfl);refine uW (lo:=6) (n:=7) (ds:=ks) (aD:=[a,b,some (true,.dct kvs),v3,v4,v5]) (dh:=[a,b,some (true,.dct kvs),v3,v4,v5,v6]) ?_ (by rfl) h1 ?_
   ·exact xP (d:=.lst ks) (bw (ds:=[.dct kvs]) (by rfl) hs) rfl
   ·rw[List.length_map];exact Nat.le_trans (G6 hs) (by decide)
  ·cases h
 ·cases h
structure Eo(x:List Nat)(kvs:List (D×D))(zs:List Nat):Prop where
 keys:kvs.map (·.1)=zs.map λc=>D.str [c]
 nd:zs.Nodup
 mem:∀c∈zs,c∈x
 vals:∀k v,(k,v)∈kvs->∃c,k = .str [c]/\(c,v)∈PV x
theorem Bc{a b:List Nat}(h:strOf a=strOf b):a=b:=by
 have:=congrArg (λs:Str=>s.cps.toList) h
 simpa[strOf] using this
theorem vL(q:Key)(d:D):∀kvs:List (D×D),(xu kvs q d).map (·.1)=kvs.map (·.1)
 | []=>rfl
 | (k,e)::r=>by
  unfold xu;rw[List.map_cons,List.map_cons,vL q d r];split<;>rfl
theorem ym{q:Key}{d:D}:∀{kvs:List (D×D)} {k v:D},(k,v)∈xu kvs q d->(k,v)∈kvs\/(qj k=some q/\v=d)
 | [],_,_,h=>by simp[xu] at h
 | (k',e)::r,k,v,h=>by
  unfold xu at h;rcases List.mem_cons.mp h with h|h
  ·split at h
   ·rename_i hk;cases h;exact .inr ⟨hk,rfl⟩
   ·cases h;exact .inl (List.mem_cons_self ..)
  ·rcases ym h with h|h
   ·exact .inl (List.mem_cons_of_mem _ h)
   ·exact .inr h
theorem vD{q:Key}:∀{kvs:List (D×D)},pB kvs q=none->∀k v,(k,v)∈kvs->qj k≠some q
 | [],_,k,v,hm=>by simp at hm
 | (k',e)::r,h,k,v,hm=>by
  unfold pB at h;split at h
  ·cases h
  ·rename_i hk;rcases List.mem_cons.mp hm with hm|hm
   ·cases hm;exact hk
   ·exact vD h k v hm
theorem oJ{q:Key}{d:D}:∀{kvs:List (D×D)},pB kvs q=some d->∃k,(k,d)∈kvs/\qj k=some q
 | [],h=>by simp[pB] at h
 | (k',e)::r,h=>by
  unfold pB at h;split at h
  ·rename_i hk;cases h;exact⟨k',List.mem_cons_self ..,hk⟩
  ·obtain⟨k,h1,h2⟩:=oJ h;exact⟨k,List.mem_cons_of_mem _ h1,h2⟩
theorem Eo.put{x:List Nat}{kvs:List (D×D)}{zs:List Nat}(h:Eo x kvs zs){p:Nat×D}(hp:p∈PV x)(hx:p.1∈x):∃zs',Eo x (QJ kvs p) zs'/\0<zs'.length/\zs'.length<=zs.length+1:=by
 unfold QJ putD;cases e:pB kvs (.inr (strOf [p.1])) with
 | none=>
  simp only[Option.isSome_none,Bool.false_eq_true,if_false];refine⟨zs++[p.1],⟨?_,?_,λc hc=>?_,λk v hm=>?_⟩,by simp,by simp⟩
  ·rw[List.map_append,List.map_append,h.keys];rfl
  ·refine List.nodup_append.mpr ⟨h.nd,List.nodup_cons.mpr ⟨List.not_mem_nil,.nil⟩,λa ha b hb=>?_⟩;rcases List.mem_singleton.mp hb with rfl;rintro rfl;have hm:D.str [p.1]∈kvs.map (·.1):=by rw[h.keys];exact List.mem_map.mpr ⟨p.1,ha,rfl⟩
   obtain⟨⟨k,v⟩,h1,h2⟩:=List.mem_map.mp hm;have h2':k = .str [p.1]:=h2;subst h2';exact vD e _ _ h1 rfl
  ·rcases List.mem_append.mp hc with hc|hc
   ·exact h.mem c hc
   ·rw[List.mem_singleton.mp hc];exact hx
  ·rcases List.mem_append.mp hm with hm|hm
   ·exact h.vals k v hm
   ·have:=List.mem_singleton.mp hm;cases this;exact⟨p.1,rfl,hp⟩
 | some w=>
  simp only[Option.isSome_some,if_true];obtain⟨k0,hk0,_⟩:=oJ e;have hne:0<zs.length:=by have:=congrArg List.length h.keys;rw[List.length_map,List.length_map] at this;rw[<-this];exact List.length_pos_of_mem hk0
  refine⟨zs,⟨by rw[vL];exact h.keys,h.nd,h.mem,λk v hm=>?_⟩,hne,Nat.le_succ _⟩;rcases ym hm with hm|⟨hk,rfl⟩
  ·exact h.vals k v hm
  ·have hin:k∈(xu kvs (.inr (strOf [p.1])) p.2).map (·.1):=List.mem_map.mpr ⟨_,hm,rfl⟩;rw[vL,h.keys] at hin;obtain⟨c,hc,rfl⟩:=List.mem_map.mp hin;have:strOf [c]=strOf [p.1]:=by
    have:=Option.some.inj hk;exact Sum.inr.inj this
   have e2:=Bc this;cases e2;exact⟨p.1,rfl,hp⟩
theorem En{x:List Nat}{p:Nat×D}(h:p∈PV x):p.1∈x:=by unfold PV at h;obtain⟨c,hc,h⟩:=List.mem_flatMap.mp h;obtain⟨v,_,rfl⟩:=List.mem_map.mp h;exact hc
theorem mG(zs:List (List Nat)):jw (zs.map D.str)=some zs:=by
 induction zs with
 | nil=>rfl
 | cons z r ih=>
  rw[List.map_cons];unfold jw;rw[ih]
  rfl
def prs(kvs:List (D×D))(ks:List D):List D:=ks.map λk=>.tup [k,(iZ (.dct kvs) k).getD .non]
theorem Dv{x:List Nat}{kvs:List (D×D)}{zs:List Nat}(h:Eo x kvs zs)(k:D)(hk:k∈(jx (zs.map λc=>[c])).map D.str):∃c v,k = .str [c]/\iZ (.dct kvs) k=some v/\(c,v)∈PV x:=by
 obtain⟨z,hz,rfl⟩:=List.mem_map.mp hk;obtain⟨c,hc,rfl⟩:=List.mem_map.mp ((iU _).mem_iff.mp hz);have hm:D.str [c]∈kvs.map (·.1):=by rw[h.keys];exact List.mem_map.mpr ⟨c,hc,rfl⟩
 obtain⟨⟨k,v⟩,h1,h2⟩:=List.mem_map.mp hm;have h2':k = .str [c]:=h2;subst h2';cases e:pB kvs (.inr (strOf [c])) with
 | none=>exact absurd rfl (vD e _ _ h1)
 | some w=>
  obtain⟨k',h3,h4⟩:=oJ e;obtain⟨c',rfl,h5⟩:=h.vals k' w h3;have e2:strOf [c']=strOf [c]:=Sum.inr.inj (Option.some.inj h4);cases Bc e2;exact⟨c,w,rfl,e,h5⟩
end lZ
namespace Mm
open Ev
def dH:bG:=aC (aK (az my (aa (au bU 0 (aQ (.int 0))) (aa (aV 1) ao))) (eE 2 (aW (J0 0 (aQ (.int 0))) (aW (ak 2) (fG))))) (aY (aq 2))
def aG:List D->Option (D×D):=eO 3 dH
def jK:bG:=aY (aH m5 (aQ (.str [])) (dR 3 4 (dz (aa (cD aG 0 (aa (au bJ 2 (aQ (.int 1))) (ao))) (ao))) (ak 3) (cu) (au bU 1 (cD aG 0 (aa (az f9 (aa (aV 1) ao)) (ao))))))
def gZ:List D->Option (D×D):=eO 3 jK
open Ev PySem L2
abbrev XS:=lZ.XS
theorem wG:∀x∈XS,0<x.length:=by decide
theorem kZ(n:Int)(m:Nat)(h0:0<m)(h1:m<1073741824):aG [.lst [.int n],.int (m:Int)]=some (.int (n % m),.lst [.int (n / m)]):=by
 refine jy (env:=[some (true,.lst [.int (n / m)]),some (false,.int m),some (false,.int (n % m))]) ?_ rfl;unfold dH;have g:my [.int n,.int (m:Int)]=some (.tup [.int (n / m),.int (n % m)]):=by show(if 0<(m:Int)/\(m:Int)<1073741824 then _ else _)=_;rw[if_pos (by omega)]
 refine(aL (e:=[some (true,.lst [.int (n / m)]),some (false,.int m),some (false,.int (n % m))]) ?_).trans rfl;exact cY (bw (ds:=[.int n,.int (m:Int)]) (e:=[some (true,.lst [.int n]),some (false,.int m),none]) (by rfl) g) (by rfl)
theorem JL{g:GV}{e:Ev}(P:Ev.Env->Prop)(R:D->Prop):∀(ds:List D) (env:Ev.Env),P env->(∀d∈ds,∀env,P env->∃y e1 e2,g d env=some e1/\e e1 = .ok y e2/\P e2/\R y)->∃ys env',uw g cu e ds env = .ok ys env'/\P env'/\(∀y∈ys,R y)/\ys.length=ds.length
 | [],env,hp,_=>⟨[],env,rfl,hp,λy hy=>by simp at hy,rfl⟩
 | d::ds,env,hp,h=>by
  obtain⟨y,e1,e2,h1,h2,h3,h4⟩:=h d (List.mem_cons_self ..) env hp;obtain⟨ys,e3,h5,h6,h7,h8⟩:=JL P R ds e2 h3 λd' hd=>h d' (List.mem_cons_of_mem _ hd);refine⟨y::ys,e3,?_,h6,λz hz=>?_,by rw[List.length_cons,List.length_cons,h8]⟩
  ·unfold uw;rw[h1];show bindR (e e1) _=_;rw[h2];show bindR (uw g cu e ds e2) _=_;rw[h5]
   rfl
  ·rcases List.mem_cons.mp hz with rfl|hz
   ·exact h4
   ·exact h7 z hz
theorem Bo:∀(zs:List (List Nat)),wO [] zs=zs.flatten
 | []=>rfl
 | x::r=>by
  show r.foldl (λacc y=>acc++[]++y) x=(x::r).flatten;have go:∀(r:List (List Nat)) (x:List Nat),r.foldl (λacc y=>acc++[]++y) x=x++r.flatten:=by
   intro r
   induction r with
   | nil=>intro x;simp
   | cons y r ih=>intro x;rw[List.foldl_cons,ih];simp
  rw[go];rfl
theorem mG(zs:List (List Nat)):jw (zs.map D.str)=some zs:=by
 induction zs with
 | nil=>rfl
 | cons z r ih=>
  rw[List.map_cons];unfold jw;rw[ih]
  rfl
theorem Iu{zs:List (List Nat)}{k:Nat}(h:∀z∈zs,z.length<=k):(zs.map List.length).sum<=zs.length*k:=by
 induction zs with
 | nil=>simp
 | cons z r ih=>
  rw[List.map_cons,List.sum_cons,List.length_cons,Nat.add_mul];have h1:=h z (List.mem_cons_self ..);have h2:=ih λy hy=>h y (List.mem_cons_of_mem _ hy);omega
theorem Oi{zs:List (List Nat)}(h1:zs.length<=100)(h2:∀z∈zs,z.length<=10):joinFits [] zs=true:=by
 refine decide_eq_true ?_;have:=Iu h2;have h3:zs.length*10<=1000:=by omega
 show _+zs.length*0<=_;omega
theorem join_eq{zs:List (List Nat)}(h1:zs.length<=100)(h2:∀z∈zs,z.length<=10):m5 (.str []) (.lst (zs.map .str))=some (.str zs.flatten):=by show(match jw (zs.map D.str) with|some xs=>if joinFits [] xs=true then some (D.str (wO [] xs)) else none|none=>none)=_;rw[mG];show(if joinFits [] zs=true then _ else _)=_;rw[if_pos (Oi h1 h2),Bo]
theorem Ku{x:List Nat}:∀{ys:List D},(∀y∈ys,∃c∈x,y = .str [c])->∃w:List Nat,ys=(w.map λc=>[c]).map D.str/\∀c∈w,c∈x
 | [],_=>⟨[],rfl,λc hc=>by simp at hc⟩
 | y::ys,h=>by
  obtain⟨c,hc,rfl⟩:=h y (List.mem_cons_self ..);obtain⟨w,rfl,hw⟩:=Ku λz hz=>h z (List.mem_cons_of_mem _ hz);refine⟨c::w,rfl,λd hd=>?_⟩;rcases List.mem_cons.mp hd with rfl|hd
  ·exact hc
  ·exact hw d hd
theorem S7(w:List Nat):(w.map λc=>[c]).flatten=w:=by
 induction w with
 | nil=>rfl
 | cons c r ih=>rw[List.map_cons,List.flatten_cons,ih];rfl
theorem CQ{j:Nat}(h:j<1000):vU [.int (j:Int)]=some (fM 0 1 j):=by
 have hf:jF (j:Int)=true:=by unfold jF;rw[Bool.and_eq_true];exact⟨decide_eq_true (by omega),decide_eq_true (by omega)⟩
 unfold vU;simp only;rw[if_pos hf,Int.toNat_natCast]
theorem uU{a:cJ}{env e:Ev.Env}{ds ys:List D}(h:a env = .ok ds e)(h':vU ds=some ys):dz a env = .ok ys e:=by
 unfold dz;rw[h];show d9 (vU ds) e=_;rw[h']
 rfl
theorem word(n:Int)(x:List Nat)(hx:x∈XS)(m:Nat)(hm:m<=50):∃w n',gZ [.lst [.int n],.str x,.int (m:Int)]=some (.str w,.lst [.int n'])/\(∀c∈w,c∈x)/\w.length<=m:=by
 have hp:=wG x hx;have hl4:=lZ.uq x hx;obtain⟨d,hd,e⟩:=dig n (m+1) (by omega);obtain⟨ys,env',h1,⟨n',v3,rfl⟩,h3,h4⟩:=JL (g:=ak 3) (e:=au bU 1 (cD aG 0 (aa (az f9 (aa (aV 1) ao)) (ao)))) (λenv=>∃n v3,env=[some (true,.lst [.int n]),some (false,.str x),some (false,.int (m:Int)),v3]) (λy=>∃c∈x,y = .str [c]) (fM 0 1 d)
  [some (true,.lst [.int (n / ((m+1:Nat):Int))]),some (false,.str x),some (false,.int (m:Int)),none] ⟨_,_,rfl⟩
  (λs _ env ⟨n,v3,he⟩=>by
   subst he;obtain⟨j,hj,ej⟩:=dig n x.length hp;refine⟨.str [x[j]],[some (true,.lst [.int n]),some (false,.str x),some (false,.int (m:Int)),some (false,s)],[some (true,.lst [.int (n / (x.length:Int))]),some (false,.str x),some (false,.int (m:Int)),some (false,s)],rfl,?_,⟨_,_,rfl⟩,x[j],List.getElem_mem hj,rfl⟩;refine bH (o:=false) (o':=false) (x:=.str x) (x0:=.str x) (y:=.int (n % (x.length:Int))) (by rfl) ?_ (by rfl) ?_
   ·exact lA (x:=.lst [.int n]) (x0:=.lst [.int n]) (ds:=[.int (x.length:Int)]) (e1:=[some (true,.lst [.int n]),some (false,.str x),some (false,.int (m:Int)),some (false,s)]) (by rfl) (by rfl) (by rfl) (kZ n x.length hp (by omega))
   ·show(oA x (n % (x.length:Int))).map _=_;rw[ej,Ej hj]
    rfl)
 obtain⟨w,rfl,hw⟩:=Ku h3;have hwl:w.length=d:=by have:=h4;rw[List.length_map,List.length_map,kh] at this;exact this
 refine⟨w,n',jy (env:=[some (true,.lst [.int n']),some (false,.str x),some (false,.int (m:Int))]) ?_ rfl,hw,by omega⟩;unfold jK;refine cL (cz (x:=.str []) (e1:=[some (true,.lst [.int n]),some (false,.str x),some (false,.int (m:Int))]) (by rfl) (y:=.lst ((w.map λc=>[c]).map D.str)) ?_ ?_)
 ·refine uW (lo:=3) (n:=4) (ds:=fM 0 1 d) (aD:=[some (true,.lst [.int (n / ((m+1:Nat):Int))]),some (false,.str x),some (false,.int (m:Int))]) (dh:=[some (true,.lst [.int n']),some (false,.str x),some (false,.int (m:Int)),v3]) ?_ (by rfl) h1 ?_
  ·refine uU (ds:=[.int (n % ((m+1:Nat):Int))]) ?_ (by rw[e];exact CQ (by omega));refine aX (e1:=[some (true,.lst [.int (n / ((m+1:Nat):Int))]),some (false,.str x),some (false,.int (m:Int))]) ?_ cB;exact lA (x:=.lst [.int n]) (x0:=.lst [.int n]) (ds:=[.int ((m+1:Nat):Int)]) (e1:=[some (true,.lst [.int n]),some (false,.str x),some (false,.int (m:Int))]) (by rfl) (by rfl) (by rfl) (kZ n (m+1) (by omega) (by omega))
  ·rw[List.length_map,List.length_map,hwl];exact Nat.le_trans (show d<=100 by omega) (by decide)
 ·have:=join_eq (zs:=w.map λc=>[c]) (by rw[List.length_map];omega) (λz hz=>by obtain⟨c,_,rfl⟩:=List.mem_map.mp hz;simp);rw[S7] at this;exact this
def texts(x:List Nat):List (List Nat):=[[],[x.headD 0],[x.getLastD 0],[x.headD 0,x.headD 0],[x.headD 0,x.getLastD 0]]
end Mm
namespace sO
open Ev
def j6:bG:=jE.j6
def d7:List D->Option D:=bL 2 j6
def jD:bG:=jE.jD
def o9:List D->Option D:=bL 5 jD
def iG:bG:=jE.iG
def kY:List D->Option D:=bL 1 iG
def dq:bG:=aC (aK (aq 0) (eE 4 (aW (ak 2) (aW (ak 3) (aW (ak 4) (aW (ak 5) (fG))))))) (aC (aK (aH bU (au bU 3 (aQ (.int 0))) (aQ (.int 1))) (ak 6)) (aC (cT 7 (bZ (ao))) (aC (aK (aQ (.str [35])) (ak 8)) (aC (dI (d8 (au bJ 1 (aQ (.str [35])))) (ak 9) (aC (dB (cX (dw (az d7 (aa (aq 4) (aa (aq 8) (ao))))) (dw (az d7 (aa (aq 5) (aa (aq 9) (ao)))))) (fX 7 (aq 6)) (bK)) (aC (fX 7 (aq 9)) (aK (aq 9) (ak 8))))) (aY (aH m5 (aQ (.str [])) (uc (aq 7) (lH) (uV (iI oh (aQ (.int 1)))))))))))
def gq:List D->Option D:=bL 10 dq
def cM:bG:=aC (aK (aq 0) (eE 4 (aW (ak 2) (aW (ak 3) (aW (ak 4) (aW (ak 5) (fG))))))) (aC (aK (az qb (aa (aV 3) ao)) (ak 6)) (aC (aK (au bJ 1 (aQ (.str [35]))) (ak 7)) (aC (cT 8 (bZ (ao))) (aC (aK (aQ (.str [35])) (ak 9)) (aC (dI (DW (aa (aq 1) (ao))) (eE 2 (aW (ak 10) (aW (ak 11) (fG)))) (aC (aK (aq 11) (ak 12)) (aC (dB (cX (dw (au m6 11 (aV 6))) (cX (dw (az d7 (aa (aq 4) (aa (aq 9) (ao))))) (dw (az d7 (aa (aq 5) (aa (au bU 7 (au bJ 10 (aQ (.int 1)))) (ao))))))) (aK (au iZ 6 (aV 11)) (ak 12)) (bK)) (aC (fX 8 (aq 12)) (dB (dw (au lV 2 (aQ (.str [111,110,99,101])))) (aK (aq 11) (ak 9)) (dB (dw (au rJ 12 (aQ (.str [])))) (aK (aq 12) (ak 9)) (bK))))))) (aY (aH m5 (aQ (.str [])) (aV 8))))))))
def fH:List D->Option D:=bL 13 cM
def dZ:bG:=aC (dB (dw (az kY (aa (aq 0) (ao)))) (aY (az gq (aa (aq 0) (aa (aq 1) (ao))))) (bK)) (aY (az fH (aa (aq 0) (aa (aq 1) (ao)))))
def gh:List D->Option D:=bL 2 dZ
def gM:bG:=aC (dB (dw (au lV 0 (aQ (.str [114,105,103,104,116])))) (aY (pg (az gh (aa (az o9 (aa (aq 1) (ao))) (aa (pg (aq 2)) (ao)))))) (bK)) (aY (az gh (aa (aq 1) (aa (aq 2) (ao)))))
def iD:List D->Option D:=bL 3 gM
def jM:bG:=jE.j6
def bW:List D->Option D:=bL 2 jM
def dW:bG:=aC (aK (aH bJ (aH bJ (aQ (.str [35])) (aV 1)) (aQ (.str [35]))) (ak 2)) (aC (aK (aQ (.str [])) (ak 3)) (aC (dI (dz (aa (aQ (.int 1)) (aa (az f9 (aa (aV 2) ao)) (ao)))) (ak 4) (aC (dB (cX (dw (az bW (aa (au bU 0 (aQ (.int 2))) (aa (au bU 2 (au qM 4 (aQ (.int 1)))) (ao))))) (dw (az bW (aa (au bU 0 (aQ (.int 3))) (aa (au bU 2 (aV 4)) (ao)))))) (aK (au bJ 3 (aH bU (aH bU (au bU 0 (aQ (.int 1))) (aQ (.int 0))) (aQ (.int 1)))) (ak 3)) (bK)) (aK (au bJ 3 (au bU 2 (aV 4))) (ak 3)))) (aY (qT (aq 3) (lH) (uV (iI oh (aQ (.int 1))))))))
def ie:List D->Option D:=bL 5 dW
def cO:bG:=aC (aK (aq 0) (eE 4 (aW (ak 2) (aW (ak 3) (aW (ak 4) (aW (ak 5) (fG))))))) (aC (dB (dw (aH lV (aH bU (au bU 3 (aQ (.int 0))) (aQ (.int 0))) (aQ (.str [])))) (aY (az ie (aa (aq 0) (aa (aq 1) (ao))))) (bK)) (aC (aK (az qb (aa (aV 3) ao)) (ak 6)) (aC (aK (aH bJ (aH bJ (aQ (.str [35])) (aV 1)) (aQ (.str [35]))) (ak 7)) (aC (aK (aQ (.str [35])) (ak 8)) (aC (dI (dz (aa (aQ (.int 1)) (aa (aH qM (az f9 (aa (aV 7) ao)) (aQ (.int 1))) (ao)))) (ak 9) (aC (aK (au bU 7 (au qM 9 (aQ (.int 1)))) (ak 10)) (aC (dB (dw (au lV 2 (aQ (.str [97,108,111,110,103])))) (aK (au bU 8 (iI oh (aQ (.int 1)))) (ak 10)) (bK)) (dB (cX (dw (aH m6 (au bU 7 (aV 9)) (aV 6))) (cX (dw (az bW (aa (aq 4) (aa (aq 10) (ao))))) (dw (az bW (aa (aq 5) (aa (au bU 7 (au bJ 9 (aQ (.int 1)))) (ao))))))) (aK (au bJ 8 (au iZ 6 (au bU 7 (aV 9)))) (ak 8)) (aK (au bJ 8 (au bU 7 (aV 9))) (ak 8)))))) (aY (qT (aq 8) (uV (aQ (.int 1))) (lH))))))))
def di:List D->Option D:=bL 11 cO
def dU:bG:=jE.dU
def jn:List D->Option D:=bL 1 dU
def cP:bG:=aC (dB (dw (au lV 0 (aQ (.str [114,105,103,104,116])))) (aY (pg (az di (aa (az jn (aa (aq 1) (ao))) (aa (pg (aq 2)) (ao)))))) (bK)) (aY (az di (aa (aq 1) (aa (aq 2) (ao)))))
def dO:List D->Option D:=bL 3 cP
open Ev PySem L2
abbrev XS:=lZ.XS
open lZ (wG uq Eo PV SG Oz prs one others Gd Ec Dv QJ kZ En mG)
theorem acM:∀x∈XS,∀p∈PV x,∃t,p.2 = .str t/\t.length<=1/\∀c∈t,c∈x:=by
 have h:(XS.all λx=>(PV x).all λp=>match p.2 with|.str t=>decide (t.length<=1/\∀c∈t,c∈x)|_=>false)=true:=by decide +kernel
 intro x hx p hp;have:=List.all_eq_true.mp (List.all_eq_true.mp h x hx) p hp;split at this
 ·rename_i t e;exact⟨t,e,of_decide_eq_true this⟩
 ·cases this
theorem MJ{x:List Nat}{kvs:List (D×D)}{zs:List Nat}(h:Eo x kvs zs)(h4:zs.length<=4):iQ [.dct kvs]=some (.lst ((jx (zs.map λc=>[c])).map .str)):=by
 have e:kvs.map (·.1)=(zs.map λc=>[c]).map D.str:=by rw[h.keys,List.map_map];rfl
 show(jw (kvs.map (·.1))).bind _=_;rw[e,mG];show(if _ then _ else _)=_;rw[if_pos];refine⟨by rw[List.length_map];omega,λz hz=>?_⟩;obtain⟨c,_,rfl⟩:=List.mem_map.mp hz;show 1<=sizeLine
 decide
theorem LC{x:List Nat}{kvs:List (D×D)}{zs:List Nat}(h:Eo x kvs zs)(h4:zs.length<=4):Oz kvs=some (.tup (prs kvs ((jx (zs.map λc=>[c])).map D.str))):=by
 unfold Oz;rw[MJ h h4];simp only;rw[if_pos]
 ·rfl
 ·refine List.all_eq_true.mpr λk hk=>?_;obtain⟨c,v,_,e,_⟩:=Dv h k hk;rw[e];rfl
abbrev Pr:=Nat×List Nat
def encC(p:Pr):D:=.tup [.str [p.1],.str p.2]
inductive HB (x:List Nat):D->Prop
 | put {c:Nat}:c∈x->HB x (.tup [.tup [.str [],.str [c]]])
 | chg {ps:List Pr}:0<ps.length->ps.length<=4->(∀p∈ps,p.1∈x/\p.2.length<=1/\∀c∈p.2,c∈x)->HB x (.tup (ps.map encC))
theorem Dd{x:List Nat}{kvs:List (D×D)}(hx:x∈XS):∀(ks:List D),(∀k∈ks,∃c v,k = .str [c]/\iZ (.dct kvs) k=some v/\(c,v)∈PV x)->∃ps:List Pr,prs kvs ks=ps.map encC/\ps.length=ks.length/\∀p∈ps,p.1∈x/\p.2.length<=1/\∀c∈p.2,c∈x
 | [],_=>⟨[],rfl,rfl,λp hp=>by simp at hp⟩
 | k::ks,h=>by
  obtain⟨c,v,rfl,e,hv⟩:=h k (List.mem_cons_self ..);obtain⟨t,et,ht⟩:=acM x hx _ hv;obtain⟨ps,e1,e2,e3⟩:=Dd hx ks λk hk=>h k (List.mem_cons_of_mem _ hk);refine⟨(c,t)::ps,?_,by rw[List.length_cons,List.length_cons,e2],λp hp=>?_⟩
  ·unfold prs at e1 ⊢;rw[List.map_cons,e1,e];have et':v = .str t:=et;rw[et']
   rfl
  ·rcases List.mem_cons.mp hp with rfl|hp
   ·exact⟨En hv,ht⟩
   ·exact e3 p hp
structure oF(x:List Nat)(w ch l r:D):Prop where
 way:w = .str [111,110,99,101]\/w = .str [97,108,111,110,103]
 chg:HB x ch
 left:l∈SG x
 right:r∈SG x
def fit(l:D)(a:Nat):Bool:=lZ.isT (d7 [l,.str [a]])
theorem lz:∀x∈XS,∀l∈SG x,∀a∈35::x,d7 [l,.str [a]]=some (.bl (fit l a)):=by
 have h:(XS.all λx=>(SG x).all λl=>(35::x).all λa=>(lZ.isT (d7 [l,.str [a]])||(match d7 [l,.str [a]] with|some (.bl false)=>true|_=>false)))=true:=by decide +kernel
 intro x hx l hl a ha;have h1:=List.all_eq_true.mp (List.all_eq_true.mp (List.all_eq_true.mp h x hx) l hl) a ha;unfold fit;generalize d7 [l,.str [a]]=o at h1;rcases Bool.or_eq_true_iff.mp h1 with h2|h2
 ·rw[h2];exact lZ.abJ h2
 ·split at h2
  ·rfl
  ·cases h2
open lZ (SG fW)
theorem m7{a b:List Nat}(h:a.length+b.length<=1000):bJ (.str a) (.str b)=some (.str (a++b)):=by show(if a.length+b.length<=sizeLine then _ else _)=_;rw[if_pos (Nat.le_trans h (by decide))]
theorem jR{a b:dJ}{env:Ev.Env}{p q:Bool}(h1:a env = .ok p env)(h2:b env = .ok q env):cX a b env = .ok (p&&q) env:=by
 unfold cX;rw[h1];cases p with
 | true=>exact h2
 | false=>rfl
theorem YF{zs:List (List Nat)}(h1:zs.length<=800)(h2:∀z∈zs,z.length<=2):m5 (.str []) (.lst (zs.map .str))=some (.str zs.flatten):=by
 have hf:joinFits [] zs=true:=by refine decide_eq_true ?_;have:=Mm.Iu h2;show _+zs.length*0<=_;omega
 show(match jw (zs.map D.str) with|some xs=>if joinFits [] xs=true then some (D.str (wO [] xs)) else none|none=>none)=_;rw[Mm.mG];show(if joinFits [] zs=true then _ else _)=_;rw[if_pos hf,Mm.Bo]
theorem Ei{all done rest:List D}{d:D}(h:all=done++d::rest):all[done.length]? = some d:=by rw[h];simp
theorem getD_get{z:List Nat}{n:Nat}(h:n<z.length):z[n]? = some (z.getD n 0):=by rw[List.getD_eq_getElem?_getD,List.getElem?_eq_getElem h];rfl
theorem Bp{z:List Nat}{n:Nat}(h:n<z.length):bU (.str z) (.int (n:Int))=some (.str [z.getD n 0]):=by
 show(oA z (n:Int)).map _=_;rw[lD (getD_get h)]
 rfl
theorem Zw{z done rest:List _}{d:D}(h:z8 z=done++d::rest):d = .str [z.getD done.length 0]/\done.length<z.length:=by have h1:=Ei h;unfold z8 at h1;rw[List.getElem?_map] at h1;obtain⟨c,hc,rfl⟩:=Option.map_eq_some_iff.mp h1;have hl:done.length<z.length:=(List.getElem?_eq_some_iff.mp hc).1;rw[getD_get hl] at hc;cases hc;exact⟨rfl,hl⟩
theorem Hk{α:Type}(xs:List α):cutD xs none (some (-1))=xs.dropLast:=by
 unfold cutD;have e1:HT.fL xs.length xs.length (some (-1))=((-1:Int)+(xs.length:Int)).toNat:=rfl;have e2:HT.fL xs.length 0 none=0:=rfl;rw[e1,e2,List.drop_zero,List.dropLast_eq_take]
 congr 1
 omega
theorem Ow(xs:List Nat):ug xs none (some (-1))=xs.dropLast:=Hk xs
abbrev ed(w:List Nat):List Nat:=35::(w++[35])
abbrev sg(w:List Nat)(n:Nat):Nat:=(ed w).getD n 0
section
variable{x w:List Nat}{l r:D}
theorem qY:(ed w).length=w.length+2:=by simp
theorem sW(hw:∀c∈w,c∈x){n:Nat}(h:n<w.length+2):sg w n∈35::x:=by
 have h1:n<(ed w).length:=by rw[qY];exact h
 have:sg w n∈ed w:=List.mem_of_getElem? (getD_get h1);rcases List.mem_cons.mp this with e|e
 ·rw[e];exact List.mem_cons_self ..
 ·rcases List.mem_append.mp e with e|e
  ·exact List.mem_cons_of_mem _ (hw _ e)
  ·rw[List.mem_singleton.mp e];exact List.mem_cons_self ..
def pc(l r:D)(c:Nat)(w:List Nat)(n:Nat):List (List Nat):=if (fit l (sg w n)&&fit r (sg w (n+1)))=true then [[c]] else []
def pin(l r:D)(c:Nat)(w:List Nat):Nat->List (List Nat)
 | 0=>[]
 | n+1=>pin l r c w n++(pc l r c w n++[[sg w (n+1)]])
theorem Q5(c:Nat)(n:Nat):(pc l r c w n).length<=1/\∀z∈pc l r c w n,z.length=1:=by
 unfold pc;split
 ·exact⟨Nat.le_refl _,λz hz=>by rw[List.mem_singleton.mp hz];rfl⟩
 ·exact⟨Nat.zero_le _,λz hz=>by simp at hz⟩
theorem yL(c:Nat):∀n,(pin l r c w n).length<=2*n/\∀z∈pin l r c w n,z.length=1
 | 0=>⟨Nat.le_refl _,λz hz=>by simp[pin] at hz⟩
 | n+1=>by
  obtain⟨h1,h2⟩:=yL c n;obtain⟨h3,h4⟩:=Q5 (l:=l) (r:=r) (w:=w) c n;unfold pin;refine⟨by rw[List.length_append,List.length_append,List.length_singleton];omega,λz hz=>?_⟩;rcases List.mem_append.mp hz with hz|hz
  ·exact h2 z hz
  ·rcases List.mem_append.mp hz with hz|hz
   ·exact h4 z hz
   ·rw[List.mem_singleton.mp hz];rfl
theorem S8{zs:List (List Nat)}(h:∀z∈zs,z.length=1):zs.flatten.length=zs.length:=by
 induction zs with
 | nil=>rfl
 | cons z t ih=>rw[List.flatten_cons,List.length_append,h z (List.mem_cons_self ..),ih λy hy=>h y (List.mem_cons_of_mem _ hy),List.length_cons];omega
def inn(l r:D)(c:Nat)(w:List Nat):List Nat:=(pin l r c w w.length++pc l r c w w.length).flatten
theorem yM(c:Nat):(pin l r c w (w.length+1)).dropLast=pin l r c w w.length++pc l r c w w.length:=by show(pin l r c w w.length++(pc l r c w w.length++[[sg w (w.length+1)]])).dropLast=_;rw[<-List.append_assoc,List.dropLast_concat]
theorem QV(c:Nat):(pin l r c w (w.length+1)).flatten.dropLast=inn l r c w:=by show(pin l r c w w.length++(pc l r c w w.length++[[sg w (w.length+1)]])).flatten.dropLast=(pin l r c w w.length++pc l r c w w.length).flatten;rw[<-List.append_assoc,List.flatten_append (L₂:=[[sg w (w.length+1)]])];exact List.dropLast_concat
variable(hx:x∈XS)(hl:l∈SG x)(hr:r∈SG x)(hw:∀c∈w,c∈x)(hn:w.length<=300)
def HQ:bG:=aC (dB (cX (dw (az d7 (aa (aq 4) (aa (aq 8) (ao))))) (dw (az d7 (aa (aq 5) (aa (aq 9) (ao)))))) (fX 7 (aq 6)) (bK)) (aC (fX 7 (aq 9)) (aK (aq 9) (ak 8)))
include hx hl hr
theorem Uw{c a s:Nat}(ha:a∈35::x)(hs:s∈35::x)(acc:List D)(hac:acc.length<=800)(a0 a1 a2 a3:Option (Bool×D)) :
  HQ [a0,a1,a2,a3,some (false,l),some (false,r),some (false,.str [c]),some (true,.lst acc),some (false,.str [a]),some (false,.str [s])] =
   .nx [a0,a1,a2,a3,some (false,l),some (false,r),some (false,.str [c]),some (true,.lst (acc++((if (fit l a&&fit r s)=true then [.str [c]] else [])++[.str [s]]))),some (false,.str [s]),some (false,.str [s])]:=by
 have t:cX (dw (az d7 (aa (aq 4) (aa (aq 8) (ao))))) (dw (az d7 (aa (aq 5) (aa (aq 9) (ao))))) [a0,a1,a2,a3,some (false,l),some (false,r),some (false,.str [c]),some (true,.lst acc),some (false,.str [a]),some (false,.str [s])] = .ok (fit l a&&fit r s) [a0,a1,a2,a3,some (false,l),some (false,r),some (false,.str [c]),some (true,.lst acc),some (false,.str [a]),some (false,.str [s])]:=
  jR (iJ (bw (ds:=[l,.str [a]]) (by rfl) (lz x hx l hl a ha))) (iJ (bw (ds:=[r,.str [s]]) (by rfl) (lz x hx r hr s hs)))
 have tl:∀acc:List D,acc.length<=801->aC (fX 7 (aq 9)) (aK (aq 9) (ak 8)) [a0,a1,a2,a3,some (false,l),some (false,r),some (false,.str [c]),some (true,.lst acc),some (false,.str [a]),some (false,.str [s])] = .nx [a0,a1,a2,a3,some (false,l),some (false,r),some (false,.str [c]),some (true,.lst (acc++[.str [s]])),some (false,.str [s]),some (false,.str [s])]:=λacc hac=>
  (aL (fW (i:=7) (x0:=acc) (xs:=acc) (d:=.str [s]) (e:=[a0,a1,a2,a3,some (false,l),some (false,r),some (false,.str [c]),some (true,.lst acc),some (false,.str [a]),some (false,.str [s])]) (by rfl) (by rfl) (by rfl) (Nat.lt_of_le_of_lt hac (by decide)))).trans rfl
 unfold HQ;cases hc:fit l a&&fit r s with
 | true=>
  rw[hc] at t;rw[if_pos rfl];refine(aL (e:=[a0,a1,a2,a3,some (false,l),some (false,r),some (false,.str [c]),some (true,.lst (acc++[.str [c]])),some (false,.str [a]),some (false,.str [s])]) ?_).trans ?_
  ·exact(jX t).trans ((fW (i:=7) (x0:=acc) (xs:=acc) (d:=.str [c]) (e:=[a0,a1,a2,a3,some (false,l),some (false,r),some (false,.str [c]),some (true,.lst acc),some (false,.str [a]),some (false,.str [s])]) (by rfl) (by rfl) (by rfl) (Nat.lt_of_le_of_lt hac (by decide))).trans rfl)
  ·rw[tl _ (by rw[List.length_append,List.length_singleton];omega),List.append_assoc]
 | false=>
  rw[hc] at t;rw[if_neg Bool.false_ne_true];exact(aL ((jr t).trans rfl)).trans (tl acc (by omega))
theorem VG(c n:Nat):((pin l r c w (n+1)).map D.str)=(pin l r c w n).map D.str++((if (fit l (sg w n)&&fit r (sg w (n+1)))=true then [.str [c]] else [])++[.str [sg w (n+1)]]):=by show(pin l r c w n++(pc l r c w n++[[sg w (n+1)]])).map D.str=_;rw[List.map_append,List.map_append];unfold pc;split<;>rfl
include hw hn
theorem with_put_in(wy:D)(c:Nat):gq [.tup [wy,.tup [.tup [.str [],.str [c]]],l,r],.str w]=some (.str (inn l r c w)):=by
 generalize hR:D.tup [wy,.tup [.tup [.str [],.str [c]]],l,r]=R;generalize hC:D.tup [.tup [.str [],.str [c]]]=ch;obtain⟨e',f1,hd,a9,rfl⟩:=jQ (g:=ak 9) (b:=HQ) (z8 (w++[35]))
  (λdone env=>done.length<=w.length+1/\∃a9,env=[some (false,R),some (false,.str w),some (false,wy),some (false,ch),some (false,l),some (false,r),some (false,.str [c]),some (true,.lst ((pin l r c w done.length).map .str)),some (false,.str [sg w done.length]),a9])
  (λdone s rest hall env ⟨hd,a9,he⟩=>by
   subst he;obtain⟨rfl,hdl⟩:=Zw hall;have aiK:done.length<w.length+1:=by rw[List.length_append,List.length_singleton] at hdl;exact hdl
   have hp:=(yL (l:=l) (r:=r) (w:=w) c done.length).1;refine⟨_,_,rfl,Uw hx hl hr (a:=sg w done.length) (s:=sg w (done.length+1)) (sW (w:=w) hw (by omega)) (sW (w:=w) hw (by omega)) _ (by rw[List.length_map];omega) _ _ _ _,by rw[List.length_append,List.length_singleton];omega,some (false,.str [sg w (done.length+1)]),?_⟩;rw[List.length_append,List.length_singleton,VG hx hl hr])
  [some (false,R),some (false,.str w),some (false,wy),some (false,ch),some (false,l),some (false,r),some (false,.str [c]),some (true,.lst []),some (false,.str [35]),none] ⟨Nat.zero_le _,none,rfl⟩
 have hlen:(z8 (w++[35])).length=w.length+1:=by unfold z8;rw[List.length_map,List.length_append,List.length_singleton]
 rw[hlen] at f1;have hp:=yL (l:=l) (r:=r) (w:=w) c (w.length+1);refine fK (env:=[some (false,R),some (false,.str w),some (false,wy),some (false,ch),some (false,l),some (false,r),some (false,.str [c]),some (false,.lst ((pin l r c w (w.length+1)).map .str)),some (false,.str [sg w (w.length+1)]),a9]) ?_;unfold dq;refine(aL (e:=[some (false,R),some (false,.str w),some (false,wy),some (false,ch),some (false,l),some (false,r),none,none,none,none]) (by rw[<-hR,<-hC];rfl)).trans ?_;refine(aL (e:=[some (false,R),some (false,.str w),some (false,wy),some (false,ch),some (false,l),some (false,r),some (false,.str [c]),none,none,none]) (by rw[<-hC];rfl)).trans ?_;refine(aL (e:=[some (false,R),some (false,.str w),some (false,wy),some (false,ch),some (false,l),some (false,r),some (false,.str [c]),some (true,.lst []),none,none]) (by rfl)).trans ?_;refine(aL (e:=[some (false,R),some (false,.str w),some (false,wy),some (false,ch),some (false,l),some (false,r),some (false,.str [c]),some (true,.lst []),some (false,.str [35]),none]) (by rfl)).trans ?_;refine(aL ((iR (ds:=z8 (w++[35])) (e:=[some (false,R),some (false,.str w),some (false,wy),some (false,ch),some (false,l),some (false,r),some (false,.str [c]),some (true,.lst []),some (false,.str [35]),none]) ?_).trans f1)).trans ?_
 ·refine xP (d:=.str (w++[35])) (bH (o:=false) (o':=false) (x:=.str w) (x0:=.str w) (y:=.str [35]) (by rfl) (by rfl) (by rfl) (m7 (by show w.length+1<=1000;omega))) rfl
 ·refine cL (cz (x:=.str []) (e1:=_) (by rfl) (y:=.lst ((pin l r c w w.length++pc l r c w w.length).map .str)) ?_ ?_)
  ·have ec:cutD ((pin l r c w (w.length+1)).map D.str) none (some (-1))=(pin l r c w w.length++pc l r c w w.length).map D.str:=by
    rw[Hk,<-List.map_dropLast,yM c]
   rw[<-ec]
   rfl
  ·rw[<-yM c];unfold inn;rw[<-yM c];refine YF ?_ λz hz=>?_
   ·rw[List.length_dropLast];omega
   ·rw[hp.2 z (List.dropLast_subset _ hz)];decide
end
section
variable{x w:List Nat}{l r:D}
theorem adl{j:Nat}(h:j<1000):vU [.int 1,.int ((j+1:Nat):Int)]=some (fM 1 1 j):=by
 have hf:jF (((j+1:Nat):Int))=true:=by unfold jF;rw[Bool.and_eq_true];exact⟨decide_eq_true (by omega),decide_eq_true (by omega)⟩
 have e:(((j+1:Nat):Int) - 1).toNat=j:=by omega
 unfold vU;simp only;rw[if_pos ⟨by decide,hf⟩,e]
theorem step_at{j:Nat}{done rest:List D}{d:D}(h:fM 1 1 j=done++d::rest):d = .int ((done.length+1:Nat):Int)/\done.length<j:=by
 obtain⟨h1,h2⟩:=yj (Ei h);refine⟨?_,h1⟩;rw[h2]
 congr 1
 omega
def JK:bG:=aC (dB (cX (dw (az bW (aa (au bU 0 (aQ (.int 2))) (aa (au bU 2 (au qM 4 (aQ (.int 1)))) (ao))))) (dw (az bW (aa (au bU 0 (aQ (.int 3))) (aa (au bU 2 (aV 4)) (ao)))))) (aK (au bJ 3 (aH bU (aH bU (au bU 0 (aQ (.int 1))) (aQ (.int 0))) (aQ (.int 1)))) (ak 3)) (bK)) (aK (au bJ 3 (au bU 2 (aV 4))) (ak 3))
theorem Zn(n:Nat):qM (.int ((n+1:Nat):Int)) (.int 1)=some (.int (n:Int)):=by
 show some (D.int (((n+1:Nat):Int) - 1))=_
 congr 2
 omega
variable(hx:x∈XS)(hl:l∈SG x)(hr:r∈SG x)(hw:∀c∈w,c∈x)(hn:w.length<=300)
include hx hl hr hw hn
theorem Wf(wy:D)(c n:Nat)(hnn:n<w.length+1)(f:List Nat)(hf:f.length<=800)(a1:Option (Bool×D)) :
  JK [some (false,.tup [wy,.tup [.tup [.str [],.str [c]]],l,r]),a1,some (false,.str (ed w)),some (false,.str f),some (false,.int ((n+1:Nat):Int))] =
   .nx [some (false,.tup [wy,.tup [.tup [.str [],.str [c]]],l,r]),a1,some (false,.str (ed w)),some (false,.str (f++((pc l r c w n).flatten++[sg w (n+1)]))),some (false,.int ((n+1:Nat):Int))]:=by
 have hp:=Q5 (l:=l) (r:=r) (w:=w) c n;have hpf:(pc l r c w n).flatten.length<=1:=by rw[S8 hp.2];exact hp.1
 have i1:=Bp (z:=ed w) (n:=n) (by rw[qY];omega);have i2:=Bp (z:=ed w) (n:=n+1) (by rw[qY];omega);have g2:∀f,au bU 2 (aV 4) [some (false,.tup [wy,.tup [.tup [.str [],.str [c]]],l,r]),a1,some (false,.str (ed w)),some (false,.str f),some (false,.int ((n+1:Nat):Int))] = .ok (.str [sg w (n+1)]) [some (false,.tup [wy,.tup [.tup [.str [],.str [c]]],l,r]),a1,some (false,.str (ed w)),some (false,.str f),some (false,.int ((n+1:Nat):Int))]:=λf=>
  bH (o:=false) (o':=false) (x:=.str (ed w)) (x0:=.str (ed w)) (y:=.int ((n+1:Nat):Int)) (by rfl) (by rfl) (by rfl) i2
 have tl:∀f:List Nat,f.length<=801->aK (au bJ 3 (au bU 2 (aV 4))) (ak 3) [some (false,.tup [wy,.tup [.tup [.str [],.str [c]]],l,r]),a1,some (false,.str (ed w)),some (false,.str f),some (false,.int ((n+1:Nat):Int))] = .nx [some (false,.tup [wy,.tup [.tup [.str [],.str [c]]],l,r]),a1,some (false,.str (ed w)),some (false,.str (f++[sg w (n+1)])),some (false,.int ((n+1:Nat):Int))]:=λf hf=>
  cY (bH (o:=false) (o':=false) (x:=.str f) (x0:=.str f) (by rfl) (g2 f) (by rfl) (m7 (by show f.length+1<=1000;omega))) (by rfl)
 have t:cX (dw (az bW (aa (au bU 0 (aQ (.int 2))) (aa (au bU 2 (au qM 4 (aQ (.int 1)))) (ao))))) (dw (az bW (aa (au bU 0 (aQ (.int 3))) (aa (au bU 2 (aV 4)) (ao))))) [some (false,.tup [wy,.tup [.tup [.str [],.str [c]]],l,r]),a1,some (false,.str (ed w)),some (false,.str f),some (false,.int ((n+1:Nat):Int))] = .ok (fit l (sg w n)&&fit r (sg w (n+1))) [some (false,.tup [wy,.tup [.tup [.str [],.str [c]]],l,r]),a1,some (false,.str (ed w)),some (false,.str f),some (false,.int ((n+1:Nat):Int))]:=by
  refine jR (iJ (bw (ds:=[l,.str [sg w n]]) ?_ (lz x hx l hl _ (sW (w:=w) hw (by omega))))) (iJ (bw (ds:=[r,.str [sg w (n+1)]]) ?_ (lz x hx r hr _ (sW (w:=w) hw (by omega)))))
  ·refine aX (d:=l) (by rfl) (aX ?_ cB);exact bH (o:=false) (o':=false) (x:=.str (ed w)) (x0:=.str (ed w)) (y:=.int (n:Int)) (by rfl) (bH (o:=false) (o':=false) (x:=.int ((n+1:Nat):Int)) (x0:=.int ((n+1:Nat):Int)) (y:=.int 1) (by rfl) (by rfl) (by rfl) (Zn n)) (by rfl) i1
  ·exact aX (d:=r) (by rfl) (aX (g2 f) cB)
 unfold JK;unfold pc at hpf ⊢;cases hc:fit l (sg w n)&&fit r (sg w (n+1)) with
 | true=>
  rw[hc] at t;rw[if_pos rfl];refine(aL (e:=[some (false,.tup [wy,.tup [.tup [.str [],.str [c]]],l,r]),a1,some (false,.str (ed w)),some (false,.str (f++[c])),some (false,.int ((n+1:Nat):Int))]) ?_).trans ?_
  ·exact(jX t).trans (cY (bH (o:=false) (o':=false) (x:=.str f) (x0:=.str f) (y:=.str [c]) (by rfl) (by rfl) (by rfl) (m7 (by show f.length+1<=1000;omega))) (by rfl))
  ·rw[tl _ (by rw[List.length_append,List.length_singleton];omega),List.append_assoc]
   rfl
 | false=>
  rw[hc] at t;rw[if_neg Bool.false_ne_true];exact(aL ((jr t).trans rfl)).trans (tl f (by omega))
theorem JQ(wy:D)(c:Nat):ie [.tup [wy,.tup [.tup [.str [],.str [c]]],l,r],.str w]=some (.str (inn l r c w)):=by
 obtain⟨e',f1,hd,a9,rfl⟩:=jQ (g:=ak 4) (b:=JK) (fM 1 1 (w.length+1))
  (λdone env=>done.length<=w.length+1/\∃a9,env=[some (false,.tup [wy,.tup [.tup [.str [],.str [c]]],l,r]),some (false,.str w),some (false,.str (ed w)),some (false,.str (pin l r c w done.length).flatten),a9])
  (λdone s rest hall env ⟨hd,a9,he⟩=>by
   subst he;obtain⟨rfl,hdl⟩:=step_at hall;have hp:=yL (l:=l) (r:=r) (w:=w) c done.length;have hpf:=S8 hp.2;refine⟨_,_,rfl,Wf hx hl hr hw hn wy c done.length hdl _ (by rw[hpf];omega) _,by rw[List.length_append,List.length_singleton];omega,some (false,.int ((done.length+1:Nat):Int)),?_⟩;rw[List.length_append,List.length_singleton];show _=[_,_,_,some (false,D.str (pin l r c w done.length++(pc l r c w done.length++[[sg w (done.length+1)]])).flatten),_];rw[List.flatten_append,List.flatten_append]
   rfl)
  [some (false,.tup [wy,.tup [.tup [.str [],.str [c]]],l,r]),some (false,.str w),some (false,.str (ed w)),some (false,.str []),none] ⟨Nat.zero_le _,none,rfl⟩
 rw[kh] at f1;refine fK (env:=[some (false,.tup [wy,.tup [.tup [.str [],.str [c]]],l,r]),some (false,.str w),some (false,.str (ed w)),some (false,.str (pin l r c w (w.length+1)).flatten),a9]) ?_;unfold dW;refine(aL (e:=[some (false,.tup [wy,.tup [.tup [.str [],.str [c]]],l,r]),some (false,.str w),some (false,.str (ed w)),none,none]) ?_).trans ?_
 ·refine cY (d:=.str (ed w)) (e:=[some (false,.tup [wy,.tup [.tup [.str [],.str [c]]],l,r]),some (false,.str w),none,none,none]) ?_ (by rfl);refine cz (x:=.str ([35]++w)) (y:=.str [35]) (e1:=[some (false,.tup [wy,.tup [.tup [.str [],.str [c]]],l,r]),some (false,.str w),none,none,none]) ?_ (by rfl) (m7 (by show w.length+1+1<=1000;omega));exact cz (x:=.str [35]) (y:=.str w) (e1:=[some (false,.tup [wy,.tup [.tup [.str [],.str [c]]],l,r]),some (false,.str w),none,none,none]) (by rfl) (by rfl) (m7 (by show 1+w.length<=1000;omega))
 refine(aL (e:=[some (false,.tup [wy,.tup [.tup [.str [],.str [c]]],l,r]),some (false,.str w),some (false,.str (ed w)),some (false,.str []),none]) (by rfl)).trans ?_;refine(aL ((iR (ds:=fM 1 1 (w.length+1)) (e:=[some (false,.tup [wy,.tup [.tup [.str [],.str [c]]],l,r]),some (false,.str w),some (false,.str (ed w)),some (false,.str []),none]) ?_).trans f1)).trans ?_
 ·refine Mm.uU (ds:=[.int 1,.int ((w.length+1+1:Nat):Int)]) ?_ (adl (by omega));refine aX (d:=.int 1) (by rfl) (aX ?_ cB);refine bw (ds:=[.str (ed w)]) (by rfl) ?_;show some (D.int ((ed w).length:Int))=_;rw[qY]
 ·refine cL ?_;rw[<-QV c,<-Ow]
  rfl
end
def BZ(x:List Nat)(kvs:List (D×D)):Prop:=∀k v,(k,v)∈kvs->∃t:List Nat,v = .str t/\t.length<=1/\∀c∈t,c∈x
theorem BZ.put{x:List Nat}{kvs:List (D×D)}(h:BZ x kvs)(k:D)(q:Key)(t:List Nat)(h1:t.length<=1)(h2:∀c∈t,c∈x):BZ x (putD kvs k q (.str t)):=by
 intro k' v hm;unfold putD at hm;split at hm
 ·rcases lZ.ym hm with hm|⟨_,rfl⟩
  ·exact h k' v hm
  ·exact⟨t,rfl,h1,h2⟩
 ·rcases List.mem_append.mp hm with hm|hm
  ·exact h k' v hm
  ·cases List.mem_singleton.mp hm;exact⟨t,rfl,h1,h2⟩
theorem BZ.all{x:List Nat}:∀(ps:List Pr) (kvs:List (D×D)),BZ x kvs->(∀p∈ps,p.1∈x/\p.2.length<=1/\∀c∈p.2,c∈x)->BZ x (lq kvs (ps.map λp=>(.str [p.1],.str p.2)))
 | [],kvs,h,_=>h
 | p::ps,kvs,h,hp=>by
  have h1:=hp p (List.mem_cons_self ..);exact BZ.all ps _ (h.put (.str [p.1]) (.inr (strOf [p.1])) p.2 h1.2.1 h1.2.2) λp hm=>hp p (List.mem_cons_of_mem _ hm)
theorem Bj:∀(ps:List Pr),pJ (ps.map encC)=some (ps.map λp=>(.str [p.1],.str p.2))
 | []=>rfl
 | p::ps=>by
  rw[List.map_cons];unfold pJ;rw[Bj ps]
  rfl
theorem DY{x:List Nat}{ps:List Pr}(hp:∀p∈ps,p.1∈x/\p.2.length<=1/\∀c∈p.2,c∈x):∃kvs,qb [.tup (ps.map encC)]=some (.dct kvs)/\BZ x kvs:=by
 refine⟨lq [] (ps.map λp=>(.str [p.1],.str p.2)),?_,BZ.all ps [] (λk v h=>by simp at h) hp⟩;show(pJ (ps.map encC)).map _=_;rw[Bj]
 rfl
def look(kvs:List (D×D))(s:Nat):Option (List Nat):=match pB kvs (.inr (strOf [s])) with
 | some (.str t)=>some t
 | _=>none
theorem xM{x:List Nat}{kvs:List (D×D)}(h:BZ x kvs)(s:Nat):m6 (.str [s]) (.dct kvs)=some (.bl (look kvs s).isSome):=by
 show some (D.bl (pB kvs (.inr (strOf [s]))).isSome)=_;unfold look;cases e:pB kvs (.inr (strOf [s])) with
 | none=>rfl
 | some v=>
  obtain⟨k,hk,_⟩:=lZ.oJ e;obtain⟨t,rfl,_⟩:=h k v hk
  rfl
theorem qJ{x:List Nat}{kvs:List (D×D)}(h:BZ x kvs){s:Nat}{t:List Nat}(hs:look kvs s=some t):iZ (.dct kvs) (.str [s])=some (.str t)/\t.length<=1/\∀c∈t,c∈x:=by
 unfold look at hs;split at hs
 ·rename_i u e;cases hs;obtain⟨k,hk,_⟩:=lZ.oJ e;obtain⟨t',h1,h2⟩:=h k _ hk;cases h1;exact⟨e,h2⟩
 ·cases hs
section
variable{x w:List Nat}{l r:D}{kvs:List (D×D)}
def nw(kvs:List (D×D))(l r:D)(w:List Nat)(near n:Nat):List Nat:=if ((look kvs (sg w (n+1))).isSome&&(fit l near&&fit r (sg w (n+2))))=true then (look kvs (sg w (n+1))).getD [] else [sg w (n+1)]
def iV(al:Bool)(w:List Nat)(made:List (List Nat))(n:Nat):Nat:=if al=true then (35::made.flatten).getLastD 0 else sg w n
def cg(al:Bool)(kvs:List (D×D))(l r:D)(w:List Nat):Nat->List (List Nat)
 | 0=>[]
 | n+1=>cg al kvs l r w n++[nw kvs l r w (iV al w (cg al kvs l r w n) n) n]
theorem Qk(hw:∀c∈w,c∈x){n:Nat}(h:n<w.length):sg w (n+1)=w.getD n 0/\sg w (n+1)∈x:=by
 have e:sg w (n+1)=w.getD n 0:=by show(w++[35]).getD n 0=_;rw[List.getD_eq_getElem?_getD,List.getD_eq_getElem?_getD,List.getElem?_append_left h]
 exact⟨e,by rw[e];exact hw _ (List.mem_of_getElem? (getD_get h))⟩
theorem Rg(hk:BZ x kvs)(hw:∀c∈w,c∈x){n:Nat}(h:n<w.length)(near:Nat):(nw kvs l r w near n).length<=1/\∀c∈nw kvs l r w near n,c∈x:=by
 unfold nw;split
 ·cases e:look kvs (sg w (n+1)) with
  | none=>exact⟨Nat.zero_le _,λc hc=>by simp at hc⟩
  | some t=>exact(qJ hk e).2
 ·exact⟨Nat.le_refl _,λc hc=>by rw[List.mem_singleton.mp hc];exact(Qk hw h).2⟩
theorem Bw(al:Bool)(hk:BZ x kvs)(hw:∀c∈w,c∈x):∀n,n<=w.length->(cg al kvs l r w n).length=n/\∀z∈cg al kvs l r w n,z.length<=1/\∀c∈z,c∈x
 | 0,_=>⟨rfl,λz hz=>by simp[cg] at hz⟩
 | n+1,h=>by
  obtain⟨h1,h2⟩:=Bw al hk hw n (by omega);unfold cg;refine⟨by rw[List.length_append,List.length_singleton,h1],λz hz=>?_⟩;rcases List.mem_append.mp hz with hz|hz
  ·exact h2 z hz
  ·rw[List.mem_singleton.mp hz];exact Rg hk hw (by omega) _
theorem LK(al:Bool)(hk:BZ x kvs)(hw:∀c∈w,c∈x){n:Nat}(h:n<=w.length):(cg al kvs l r w n).flatten.length<=n:=by obtain⟨h1,h2⟩:=Bw (l:=l) (r:=r) al hk hw n h;rw[List.length_flatten];have:=Mm.Iu (zs:=cg al kvs l r w n) (k:=1) λz hz=>(h2 z hz).1;omega
theorem GC:∀(a:Nat) (z:List Nat),(a::z).getLastD 0∈a::z
 | a,[]=>List.mem_cons_self ..
 | a,b::z=>List.mem_cons_of_mem _ (GC b z)
theorem Gp(al:Bool)(hk:BZ x kvs)(hw:∀c∈w,c∈x){n:Nat}(h:n<=w.length):iV al w (cg al kvs l r w n) n∈35::x:=by
 unfold iV;split
 ·rcases List.mem_cons.mp (GC 35 (cg al kvs l r w n).flatten) with e|e
  ·rw[e];exact List.mem_cons_self ..
  ·obtain⟨z,hz,hc⟩:=List.mem_flatten.mp e;exact List.mem_cons_of_mem _ (((Bw (l:=l) (r:=r) al hk hw n h).2 z hz).2 _ hc)
 ·exact sW hw (by omega)
theorem afm(n:Nat):bJ (.int (n:Int)) (.int 1)=some (.int ((n+1:Nat):Int)):=rfl
theorem WD(a:Nat)(z:List Nat):bU (.str (a::z)) (.int (-1))=some (.str [(a::z).getLastD 0]):=by
 have e:oA (a::z) (-1)=some ((a::z).getLastD 0):=by
  unfold oA R8;rw[if_neg (by decide),if_pos (by rw[List.length_cons];omega)];show(a::z)[((-1:Int)+((a::z).length:Int)).toNat]? = _;have e1:((-1:Int)+((a::z).length:Int)).toNat=(a::z).length - 1:=by rw[List.length_cons];omega
  rw[e1,<-List.getLast?_eq_getElem?]
  rfl
 show(oA (a::z) (-1)).map _=_;rw[e]
 rfl
theorem Tr(a:Nat)(z:List Nat):ug (a::z) (some 1) none=z:=by
 unfold ug;have e1:HT.fL (a::z).length (a::z).length none=z.length+1:=rfl;have e2:HT.fL (a::z).length 0 (some 1)=1:=by show min 1 (z.length+1)=1;omega
 rw[e1,e2];show z.take (z.length+1 - 1)=z;exact List.take_of_length_le (by omega)
theorem Jz(made:List (List Nat))(t:List Nat)(n:Nat)(h:t.length<=1):iV true w (made++[t]) (n+1)=if t=[] then iV true w made n else t.headD 0:=by
 unfold iV;rw[if_pos rfl,if_pos rfl]
 match t,h with
 | [],_=>rw[if_pos rfl];simp
 | [a],_=>
  rw[if_neg (by simp)];rw[List.flatten_append];have:∀(b:Nat) (z:List Nat),(b::(z++[a])).getLastD 0=a:=by
   intro b z
   induction z generalizing b with
   | nil=>rfl
   | cons c z ih=>exact ih c
  exact this 35 _
def cC(al:Bool):D:=if al=true then .str [97,108,111,110,103] else .str [111,110,99,101]
def HR:bG:=aC (aK (aq 11) (ak 12)) (aC (dB (cX (dw (au m6 11 (aV 6))) (cX (dw (az d7 (aa (aq 4) (aa (aq 9) (ao))))) (dw (az d7 (aa (aq 5) (aa (au bU 7 (au bJ 10 (aQ (.int 1)))) (ao))))))) (aK (au iZ 6 (aV 11)) (ak 12)) (bK)) (aC (fX 8 (aq 12)) (dB (dw (au lV 2 (aQ (.str [111,110,99,101])))) (aK (aq 11) (ak 9)) (dB (dw (au rJ 12 (aQ (.str [])))) (aK (aq 12) (ak 9)) (bK)))))
variable(hx:x∈XS)(hl:l∈SG x)(hr:r∈SG x)(hw:∀c∈w,c∈x)(hn:w.length<=300)(hk:BZ x kvs)
include hx hl hr hw hn hk
theorem Uy(al:Bool)(n:Nat)(hnn:n<w.length)(a0 a1 a3 a12:Option (Bool×D)) :
  ∃Up,HR [a0,a1,some (false,cC al),a3,some (false,l),some (false,r),some (false,.dct kvs),some (false,.str (w++[35])),some (true,.lst ((cg al kvs l r w n).map .str)),some (false,.str [iV al w (cg al kvs l r w n) n]),some (false,.int (n:Int)),some (false,.str [sg w (n+1)]),a12] =
   .nx [a0,a1,some (false,cC al),a3,some (false,l),some (false,r),some (false,.dct kvs),some (false,.str (w++[35])),some (true,.lst ((cg al kvs l r w (n+1)).map .str)),some (false,.str [iV al w (cg al kvs l r w (n+1)) (n+1)]),some (false,.int (n:Int)),some (false,.str [sg w (n+1)]),Up]:=by
 have hcl:=(Bw (l:=l) (r:=r) al hk hw n (by omega)).1;have hnm:=Gp (l:=l) (r:=r) al hk hw (n:=n) (by omega);have hno:=Rg (l:=l) (r:=r) hk hw hnn (iV al w (cg al kvs l r w n) n);have hcg:cg al kvs l r w (n+1)=cg al kvs l r w n++[nw kvs l r w (iV al w (cg al kvs l r w n) n) n]:=rfl;have i2:=Bp (z:=w++[35]) (n:=n+1) (by rw[List.length_append,List.length_singleton];omega);have h2m:sg w (n+2)∈35::x:=sW hw (by omega);rw[hcg];generalize hM:cg al kvs l r w n=made at *;generalize hN:iV al w made n=near at *;have hnw:nw kvs l r w near n=if ((look kvs (sg w (n+1))).isSome&&(fit l near&&fit r (sg w (n+2))))=true then (look kvs (sg w (n+1))).getD [] else [sg w (n+1)]:=rfl
 generalize hT:nw kvs l r w near n=t at *;refine⟨some (false,.str t),?_⟩;unfold HR;refine(aL (e:=[a0,a1,some (false,cC al),a3,some (false,l),some (false,r),some (false,.dct kvs),some (false,.str (w++[35])),some (true,.lst (made.map .str)),some (false,.str [near]),some (false,.int (n:Int)),some (false,.str [sg w (n+1)]),some (false,.str [sg w (n+1)])]) (by rfl)).trans ?_;refine(aL (e:=[a0,a1,some (false,cC al),a3,some (false,l),some (false,r),some (false,.dct kvs),some (false,.str (w++[35])),some (true,.lst (made.map .str)),some (false,.str [near]),some (false,.int (n:Int)),some (false,.str [sg w (n+1)]),some (false,.str t)]) ?_).trans ?_
 ·have tt:cX (dw (au m6 11 (aV 6))) (cX (dw (az d7 (aa (aq 4) (aa (aq 9) (ao))))) (dw (az d7 (aa (aq 5) (aa (au bU 7 (au bJ 10 (aQ (.int 1)))) (ao)))))) [a0,a1,some (false,cC al),a3,some (false,l),some (false,r),some (false,.dct kvs),some (false,.str (w++[35])),some (true,.lst (made.map .str)),some (false,.str [near]),some (false,.int (n:Int)),some (false,.str [sg w (n+1)]),some (false,.str [sg w (n+1)])] = .ok ((look kvs (sg w (n+1))).isSome&&(fit l near&&fit r (sg w (n+2)))) [a0,a1,some (false,cC al),a3,some (false,l),some (false,r),some (false,.dct kvs),some (false,.str (w++[35])),some (true,.lst (made.map .str)),some (false,.str [near]),some (false,.int (n:Int)),some (false,.str [sg w (n+1)]),some (false,.str [sg w (n+1)])]:=by
   refine jR (iJ (bH (o:=false) (o':=false) (x:=.str [sg w (n+1)]) (x0:=.str [sg w (n+1)]) (y:=.dct kvs) (by rfl) (by rfl) (by rfl) (xM hk _))) (jR (iJ (bw (ds:=[l,.str [near]]) (by rfl) (lz x hx l hl _ hnm))) (iJ (bw (ds:=[r,.str [sg w (n+2)]]) ?_ (lz x hx r hr _ h2m))));refine aX (d:=r) (by rfl) (aX ?_ cB);exact bH (o:=false) (o':=false) (x:=.str (w++[35])) (x0:=.str (w++[35])) (y:=.int ((n+1:Nat):Int)) (by rfl) (bH (o:=false) (o':=false) (x:=.int (n:Int)) (x0:=.int (n:Int)) (y:=.int 1) (by rfl) (by rfl) (by rfl) (afm n)) (by rfl) i2
  cases hc:(look kvs (sg w (n+1))).isSome&&(fit l near&&fit r (sg w (n+2))) with
  | true=>
   rw[hc] at tt hnw;rw[if_pos rfl] at hnw;obtain⟨u,hu⟩:=Option.isSome_iff_exists.mp (Bool.and_eq_true_iff.mp hc).1;rw[hu] at hnw;cases hnw;exact(jX tt).trans (cY (bH (o:=false) (o':=false) (x:=.dct kvs) (x0:=.dct kvs) (y:=.str [sg w (n+1)]) (by rfl) (by rfl) (by rfl) (qJ hk hu).1) (by rfl))
  | false=>
   rw[hc] at tt hnw;rw[if_neg Bool.false_ne_true] at hnw;rw[hnw];exact(jr tt).trans rfl
 refine(aL (e:=[a0,a1,some (false,cC al),a3,some (false,l),some (false,r),some (false,.dct kvs),some (false,.str (w++[35])),some (true,.lst ((made++[t]).map .str)),some (false,.str [near]),some (false,.int (n:Int)),some (false,.str [sg w (n+1)]),some (false,.str t)]) ?_).trans ?_
 ·rw[List.map_append];exact(fW (i:=8) (x0:=made.map .str) (xs:=made.map .str) (d:=.str t) (e:=[a0,a1,some (false,cC al),a3,some (false,l),some (false,r),some (false,.dct kvs),some (false,.str (w++[35])),some (true,.lst (made.map .str)),some (false,.str [near]),some (false,.int (n:Int)),some (false,.str [sg w (n+1)]),some (false,.str t)]) (by rfl) (by rfl) (by rfl) (by rw[List.length_map,hcl];exact Nat.lt_of_le_of_lt (show n<=300 by omega) (by decide))).trans rfl
 cases al with
 | false=>exact(jX (e:=_) (by rfl)).trans rfl
 | true=>
  refine(jr (e:=_) (by rfl)).trans ?_;rw[Jz made t n hno.1,hN]
  match t,hno.1 with
  | [],_=>exact(jr (e:=_) (by rfl)).trans rfl
  | [a],_=>exact(jX (e:=_) (by rfl)).trans rfl
theorem Xu{done rest:List D}{d:D}(h:qU w=done++d::rest):d = .tup [.int (done.length:Int),.str [sg w (done.length+1)]]/\done.length<w.length:=by have h1:=Ei h;unfold qU at h1;rw[List.getElem?_map] at h1;obtain⟨p,hp,rfl⟩:=Option.map_eq_some_iff.mp h1;rw[List.getElem?_zipIdx] at hp;obtain⟨c,hc,rfl⟩:=Option.map_eq_some_iff.mp hp;have hl:done.length<w.length:=(List.getElem?_eq_some_iff.mp hc).1;rw[getD_get hl] at hc;cases hc;refine⟨?_,hl⟩;rw[(Qk hw hl).1,Nat.zero_add]
def out(al:Bool)(kvs:List (D×D))(l r:D)(w:List Nat):List Nat:=(cg al kvs l r w w.length).flatten
theorem with_changes(al:Bool)(ch:D)(hd:qb [ch]=some (.dct kvs)):fH [.tup [cC al,ch,l,r],.str w]=some (.str (out al kvs l r w)):=by
 generalize hR:D.tup [cC al,ch,l,r]=R;obtain⟨e',f1,hdl,a10,a11,a12,rfl⟩:=jQ (g:=eE 2 (aW (ak 10) (aW (ak 11) (fG)))) (b:=HR) (qU w)
  (λdone env=>done.length<=w.length/\∃a10 a11 a12,env=[some (false,R),some (false,.str w),some (false,cC al),some (false,ch),some (false,l),some (false,r),some (false,.dct kvs),some (false,.str (w++[35])),some (true,.lst ((cg al kvs l r w done.length).map .str)),some (false,.str [iV al w (cg al kvs l r w done.length) done.length]),a10,a11,a12])
  (λdone s rest hall env ⟨hdl,a10,a11,a12,he⟩=>by
   subst he;obtain⟨rfl,hdl⟩:=Xu hx hl hr hw hn hk hall;obtain⟨Up,hb⟩:=Uy hx hl hr hw hn hk al done.length hdl (some (false,R)) (some (false,.str w)) (some (false,ch)) a12;refine⟨_,_,rfl,hb,by rw[List.length_append,List.length_singleton];omega,some (false,.int (done.length:Int)),some (false,.str [sg w (done.length+1)]),Up,?_⟩;rw[List.length_append,List.length_singleton])
  [some (false,R),some (false,.str w),some (false,cC al),some (false,ch),some (false,l),some (false,r),some (false,.dct kvs),some (false,.str (w++[35])),some (true,.lst []),some (false,.str [35]),none,none,none] ⟨Nat.zero_le _,none,none,none,by cases al<;>rfl⟩
 have hlen:(qU w).length=w.length:=by unfold qU;rw[List.length_map,List.length_zipIdx]
 rw[hlen] at f1;have hok:=Bw (l:=l) (r:=r) al hk hw w.length (Nat.le_refl _);refine fK (env:=[some (false,R),some (false,.str w),some (false,cC al),some (false,ch),some (false,l),some (false,r),some (false,.dct kvs),some (false,.str (w++[35])),some (true,.lst ((cg al kvs l r w w.length).map .str)),some (false,.str [iV al w (cg al kvs l r w w.length) w.length]),a10,a11,a12]) ?_;unfold cM;refine(aL (e:=[some (false,R),some (false,.str w),some (false,cC al),some (false,ch),some (false,l),some (false,r),none,none,none,none,none,none,none]) (by rw[<-hR];rfl)).trans ?_;refine(aL (e:=[some (false,R),some (false,.str w),some (false,cC al),some (false,ch),some (false,l),some (false,r),some (false,.dct kvs),none,none,none,none,none,none]) ?_).trans ?_
 ·exact cY (e:=[some (false,R),some (false,.str w),some (false,cC al),some (false,ch),some (false,l),some (false,r),none,none,none,none,none,none,none]) (bw (ds:=[ch]) (by rfl) hd) (by rfl)
 refine(aL (e:=[some (false,R),some (false,.str w),some (false,cC al),some (false,ch),some (false,l),some (false,r),some (false,.dct kvs),some (false,.str (w++[35])),none,none,none,none,none]) ?_).trans ?_
 ·exact cY (d:=.str (w++[35])) (e:=[some (false,R),some (false,.str w),some (false,cC al),some (false,ch),some (false,l),some (false,r),some (false,.dct kvs),none,none,none,none,none,none]) (bH (o:=false) (o':=false) (x:=.str w) (x0:=.str w) (y:=.str [35]) (by rfl) (by rfl) (by rfl) (m7 (by show w.length+1<=1000;omega))) (by rfl)
 refine(aL (e:=[some (false,R),some (false,.str w),some (false,cC al),some (false,ch),some (false,l),some (false,r),some (false,.dct kvs),some (false,.str (w++[35])),some (true,.lst []),none,none,none,none]) (by rfl)).trans ?_;refine(aL (e:=[some (false,R),some (false,.str w),some (false,cC al),some (false,ch),some (false,l),some (false,r),some (false,.dct kvs),some (false,.str (w++[35])),some (true,.lst []),some (false,.str [35]),none,none,none]) (by rfl)).trans ?_;refine(aL ((iR (ds:=qU w) (e:=[some (false,R),some (false,.str w),some (false,cC al),some (false,ch),some (false,l),some (false,r),some (false,.dct kvs),some (false,.str (w++[35])),some (true,.lst []),some (false,.str [35]),none,none,none]) (by rfl)).trans f1)).trans ?_;refine cL (cz (x:=.str []) (by rfl) (y:=.lst ((cg al kvs l r w w.length).map .str)) (by rfl) ?_);exact YF (by rw[hok.1];omega) λz hz=>Nat.le_trans (hok.2 z hz).1 (by decide)
theorem Z9(al:Bool):(∀c∈out al kvs l r w,c∈x)/\(out al kvs l r w).length<=2*w.length+1:=by
 unfold out;refine⟨λc hc=>?_,?_⟩
 ·obtain⟨z,hz,hcz⟩:=List.mem_flatten.mp hc;exact((Bw (l:=l) (r:=r) al hk hw w.length (Nat.le_refl _)).2 z hz).2 c hcz
 ·have:=LK (l:=l) (r:=r) al hk hw (n:=w.length) (Nat.le_refl _);omega
end
section
variable{x w:List Nat}{l r:D}
theorem Ys{c:Nat}(hc:c∈x)(n:Nat):∀z∈pc l r c w n,∀d∈z,d∈x:=by
 unfold pc;split
 ·intro z hz d hd;rw[List.mem_singleton.mp hz] at hd;rw[List.mem_singleton.mp hd];exact hc
 ·intro z hz;simp at hz
theorem QT{c:Nat}(hc:c∈x)(hw:∀c∈w,c∈x):∀n,n<=w.length->∀z∈pin l r c w n,∀d∈z,d∈x
 | 0,_=>λz hz=>by simp[pin] at hz
 | n+1,h=>by
  intro z hz d hd;unfold pin at hz;rcases List.mem_append.mp hz with hz|hz
  ·exact QT hc hw n (by omega) z hz d hd
  ·rcases List.mem_append.mp hz with hz|hz
   ·exact Ys hc n z hz d hd
   ·rw[List.mem_singleton.mp hz] at hd;rw[List.mem_singleton.mp hd];exact(Qk hw (by omega)).2
theorem abN{c:Nat}(hc:c∈x)(hw:∀c∈w,c∈x):(∀d∈inn l r c w,d∈x)/\(inn l r c w).length<=2*w.length+1:=by
 unfold inn;refine⟨λd hd=>?_,?_⟩
 ·obtain⟨z,hz,hdz⟩:=List.mem_flatten.mp hd;rcases List.mem_append.mp hz with hz|hz
  ·exact QT hc hw w.length (Nat.le_refl _) z hz d hdz
  ·exact Ys hc _ z hz d hdz
 ·have h1:=yL (l:=l) (r:=r) (w:=w) c w.length;have h2:=Q5 (l:=l) (r:=r) (w:=w) c w.length;rw[S8 λz hz=>(List.mem_append.mp hz).elim (h1.2 z) (h2.2 z),List.length_append];omega
end
section
variable{x w:List Nat}{l r:D}{kvs:List (D×D)}
def JN:bG:=aC (aK (au bU 7 (au qM 9 (aQ (.int 1)))) (ak 10)) (aC (dB (dw (au lV 2 (aQ (.str [97,108,111,110,103])))) (aK (au bU 8 (iI oh (aQ (.int 1)))) (ak 10)) (bK)) (dB (cX (dw (aH m6 (au bU 7 (aV 9)) (aV 6))) (cX (dw (az bW (aa (aq 4) (aa (aq 10) (ao))))) (dw (az bW (aa (aq 5) (aa (au bU 7 (au bJ 9 (aQ (.int 1)))) (ao))))))) (aK (au bJ 8 (au iZ 6 (au bU 7 (aV 9)))) (ak 8)) (aK (au bJ 8 (au bU 7 (aV 9))) (ak 8))))
variable(hx:x∈XS)(hl:l∈SG x)(hr:r∈SG x)(hw:∀c∈w,c∈x)(hn:w.length<=300)(hk:BZ x kvs)
include hx hl hr hw hn hk
theorem Wg(al:Bool)(n:Nat)(hnn:n<w.length)(a0 a1 a3 a10:Option (Bool×D)) :
  ∃b10,JN [a0,a1,some (false,cC al),a3,some (false,l),some (false,r),some (false,.dct kvs),some (false,.str (ed w)),some (false,.str (35::(cg al kvs l r w n).flatten)),some (false,.int ((n+1:Nat):Int)),a10] =
   .nx [a0,a1,some (false,cC al),a3,some (false,l),some (false,r),some (false,.dct kvs),some (false,.str (ed w)),some (false,.str (35::(cg al kvs l r w (n+1)).flatten)),some (false,.int ((n+1:Nat):Int)),b10]:=by
 have hcl:=LK (l:=l) (r:=r) al hk hw (n:=n) (by omega);have hnm:=Gp (l:=l) (r:=r) al hk hw (n:=n) (by omega);have hno:=Rg (l:=l) (r:=r) hk hw hnn (iV al w (cg al kvs l r w n) n);have hcg:cg al kvs l r w (n+1)=cg al kvs l r w n++[nw kvs l r w (iV al w (cg al kvs l r w n) n) n]:=rfl;have i0:=Bp (z:=ed w) (n:=n) (by rw[qY];omega);have i1:=Bp (z:=ed w) (n:=n+1) (by rw[qY];omega);have i2:=Bp (z:=ed w) (n:=n+2) (by rw[qY];omega);have h2m:sg w (n+2)∈35::x:=sW hw (by omega);rw[hcg,List.flatten_append];generalize hM:cg al kvs l r w n=made at *;have hnr:iV al w made n=if al=true then (35::made.flatten).getLastD 0 else sg w n:=rfl
 generalize hN:iV al w made n=near at *;have hnw:nw kvs l r w near n=if ((look kvs (sg w (n+1))).isSome&&(fit l near&&fit r (sg w (n+2))))=true then (look kvs (sg w (n+1))).getD [] else [sg w (n+1)]:=rfl
 generalize hT:nw kvs l r w near n=t at *;generalize hF:made.flatten=f at *;refine⟨some (false,.str [near]),?_⟩;unfold JN;refine(aL (e:=[a0,a1,some (false,cC al),a3,some (false,l),some (false,r),some (false,.dct kvs),some (false,.str (ed w)),some (false,.str (35::f)),some (false,.int ((n+1:Nat):Int)),some (false,.str [sg w n])]) ?_).trans ?_
 ·exact cY (bH (o:=false) (o':=false) (x:=.str (ed w)) (x0:=.str (ed w)) (y:=.int (n:Int)) (e2:=[a0,a1,some (false,cC al),a3,some (false,l),some (false,r),some (false,.dct kvs),some (false,.str (ed w)),some (false,.str (35::f)),some (false,.int ((n+1:Nat):Int)),a10]) (by rfl) (bH (o:=false) (o':=false) (x:=.int ((n+1:Nat):Int)) (x0:=.int ((n+1:Nat):Int)) (y:=.int 1) (by rfl) (by rfl) (by rfl) (Zn n)) (by rfl) i0) (by rfl)
 refine(aL (e:=[a0,a1,some (false,cC al),a3,some (false,l),some (false,r),some (false,.dct kvs),some (false,.str (ed w)),some (false,.str (35::f)),some (false,.int ((n+1:Nat):Int)),some (false,.str [near])]) ?_).trans ?_
 ·cases al with
  | false=>
   rw[if_neg Bool.false_ne_true] at hnr;rw[hnr];exact(jr (e:=_) (by rfl)).trans rfl
  | true=>
   rw[if_pos rfl] at hnr;rw[hnr];exact(jX (e:=_) (by rfl)).trans (cY (bH (o:=false) (o':=false) (x:=.str (35::f)) (x0:=.str (35::f)) (y:=.int (-1)) (by rfl) (by rfl) (by rfl) (WD 35 f)) (by rfl))
 have g1:au bU 7 (aV 9) [a0,a1,some (false,cC al),a3,some (false,l),some (false,r),some (false,.dct kvs),some (false,.str (ed w)),some (false,.str (35::f)),some (false,.int ((n+1:Nat):Int)),some (false,.str [near])] = .ok (.str [sg w (n+1)]) [a0,a1,some (false,cC al),a3,some (false,l),some (false,r),some (false,.dct kvs),some (false,.str (ed w)),some (false,.str (35::f)),some (false,.int ((n+1:Nat):Int)),some (false,.str [near])]:=
  bH (o:=false) (o':=false) (x:=.str (ed w)) (x0:=.str (ed w)) (y:=.int ((n+1:Nat):Int)) (by rfl) (by rfl) (by rfl) i1
 have tt:cX (dw (aH m6 (au bU 7 (aV 9)) (aV 6))) (cX (dw (az bW (aa (aq 4) (aa (aq 10) (ao))))) (dw (az bW (aa (aq 5) (aa (au bU 7 (au bJ 9 (aQ (.int 1)))) (ao)))))) [a0,a1,some (false,cC al),a3,some (false,l),some (false,r),some (false,.dct kvs),some (false,.str (ed w)),some (false,.str (35::f)),some (false,.int ((n+1:Nat):Int)),some (false,.str [near])] = .ok ((look kvs (sg w (n+1))).isSome&&(fit l near&&fit r (sg w (n+2)))) [a0,a1,some (false,cC al),a3,some (false,l),some (false,r),some (false,.dct kvs),some (false,.str (ed w)),some (false,.str (35::f)),some (false,.int ((n+1:Nat):Int)),some (false,.str [near])]:=by refine jR (iJ (cz (y:=.dct kvs) g1 (by rfl) (xM hk _))) (jR (iJ (bw (ds:=[l,.str [near]]) (by rfl) (lz x hx l hl _ hnm))) (iJ (bw (ds:=[r,.str [sg w (n+2)]]) ?_ (lz x hx r hr _ h2m))));refine aX (d:=r) (by rfl) (aX ?_ cB);exact bH (o:=false) (o':=false) (x:=.str (ed w)) (x0:=.str (ed w)) (y:=.int ((n+2:Nat):Int)) (by rfl) (bH (o:=false) (o':=false) (x:=.int ((n+1:Nat):Int)) (x0:=.int ((n+1:Nat):Int)) (y:=.int 1) (by rfl) (by rfl) (by rfl) (afm (n+1))) (by rfl) i2
 have hfl:(35::f).length+t.length<=1000:=by rw[List.length_cons];have:=hno.1;omega
 cases hc:(look kvs (sg w (n+1))).isSome&&(fit l near&&fit r (sg w (n+2))) with
 | true=>
  rw[hc] at tt hnw;rw[if_pos rfl] at hnw;obtain⟨u,hu⟩:=Option.isSome_iff_exists.mp (Bool.and_eq_true_iff.mp hc).1;rw[hu] at hnw;have hnw':t=u:=hnw;have hfu:[t].flatten=u:=by rw[hnw'];simp
  rw[hfu];rw[hnw'] at hfl;exact(jX tt).trans (cY (bH (o:=false) (o':=false) (x:=.str (35::f)) (x0:=.str (35::f)) (y:=.str u) (by rfl) (bH (o:=false) (o':=false) (x:=.dct kvs) (x0:=.dct kvs) (y:=.str [sg w (n+1)]) (by rfl) g1 (by rfl) (qJ hk hu).1) (by rfl) (m7 hfl)) (by rfl))
 | false=>
  rw[hc] at tt hnw;rw[if_neg Bool.false_ne_true] at hnw;have hfu:[t].flatten=[sg w (n+1)]:=by rw[hnw];rfl
  rw[hfu];rw[hnw] at hfl;exact(jr tt).trans (cY (bH (o:=false) (o':=false) (x:=.str (35::f)) (x0:=.str (35::f)) (y:=.str [sg w (n+1)]) (by rfl) g1 (by rfl) (m7 hfl)) (by rfl))
theorem Ai(al:Bool)(ps:List Pr)(hps:0<ps.length)(hd:qb [.tup (ps.map encC)]=some (.dct kvs)):di [.tup [cC al,.tup (ps.map encC),l,r],.str w]=some (.str (out al kvs l r w)):=by
 have t0:∀a0 a1 a2 a4 a5,dw (aH lV (aH bU (au bU 3 (aQ (.int 0))) (aQ (.int 0))) (aQ (.str []))) [a0,a1,a2,some (false,.tup (ps.map encC)),a4,a5,none,none,none,none,none] = .ok false [a0,a1,a2,some (false,.tup (ps.map encC)),a4,a5,none,none,none,none,none]:=by
  intro a0 a1 a2 a4 a5
  match ps,hps with
  | p::ps,_=>
   refine iJ (cz (x:=.str [p.1]) (y:=.str []) (e1:=[a0,a1,a2,some (false,.tup ((p::ps).map encC)),a4,a5,none,none,none,none,none]) ?_ (by rfl) (by rfl));refine cz (x:=encC p) (y:=.int 0) (e1:=[a0,a1,a2,some (false,.tup ((p::ps).map encC)),a4,a5,none,none,none,none,none]) ?_ (by rfl) (by rfl);exact bH (o:=false) (o':=false) (x:=.tup ((p::ps).map encC)) (x0:=.tup ((p::ps).map encC)) (y:=.int 0) (by rfl) (by rfl) (by rfl) (lD (xs:=(p::ps).map encC) (j:=0) (v:=encC p) (by rfl))
 generalize hC:D.tup (ps.map encC)=ch at *;generalize hR:D.tup [cC al,ch,l,r]=R;obtain⟨e',f1,hdl,a9,a10,rfl⟩:=jQ (g:=ak 9) (b:=JN) (fM 1 1 w.length)
  (λdone env=>done.length<=w.length/\∃a9 a10,env=[some (false,R),some (false,.str w),some (false,cC al),some (false,ch),some (false,l),some (false,r),some (false,.dct kvs),some (false,.str (ed w)),some (false,.str (35::(cg al kvs l r w done.length).flatten)),a9,a10])
  (λdone s rest hall env ⟨hdl,a9,a10,he⟩=>by
   subst he;obtain⟨rfl,hdl⟩:=step_at hall;obtain⟨b10,hb⟩:=Wg hx hl hr hw hn hk al done.length hdl (some (false,R)) (some (false,.str w)) (some (false,ch)) a10;refine⟨_,_,rfl,hb,by rw[List.length_append,List.length_singleton];omega,some (false,.int ((done.length+1:Nat):Int)),b10,?_⟩;rw[List.length_append,List.length_singleton])
  [some (false,R),some (false,.str w),some (false,cC al),some (false,ch),some (false,l),some (false,r),some (false,.dct kvs),some (false,.str (ed w)),some (false,.str [35]),none,none] ⟨Nat.zero_le _,none,none,rfl⟩
 rw[kh] at f1;refine fK (env:=[some (false,R),some (false,.str w),some (false,cC al),some (false,ch),some (false,l),some (false,r),some (false,.dct kvs),some (false,.str (ed w)),some (false,.str (35::(cg al kvs l r w w.length).flatten)),a9,a10]) ?_;unfold cO;refine(aL (e:=[some (false,R),some (false,.str w),some (false,cC al),some (false,ch),some (false,l),some (false,r),none,none,none,none,none]) (by rw[<-hR];rfl)).trans ?_;refine(aL (e:=[some (false,R),some (false,.str w),some (false,cC al),some (false,ch),some (false,l),some (false,r),none,none,none,none,none]) ((jr (t0 _ _ _ _ _)).trans rfl)).trans ?_;refine(aL (e:=[some (false,R),some (false,.str w),some (false,cC al),some (false,ch),some (false,l),some (false,r),some (false,.dct kvs),none,none,none,none]) ?_).trans ?_
 ·exact cY (e:=[some (false,R),some (false,.str w),some (false,cC al),some (false,ch),some (false,l),some (false,r),none,none,none,none,none]) (bw (ds:=[ch]) (by rfl) hd) (by rfl)
 refine(aL (e:=[some (false,R),some (false,.str w),some (false,cC al),some (false,ch),some (false,l),some (false,r),some (false,.dct kvs),some (false,.str (ed w)),none,none,none]) ?_).trans ?_
 ·refine cY (d:=.str (ed w)) (e:=[some (false,R),some (false,.str w),some (false,cC al),some (false,ch),some (false,l),some (false,r),some (false,.dct kvs),none,none,none,none]) ?_ (by rfl);refine cz (x:=.str ([35]++w)) (y:=.str [35]) (e1:=[some (false,R),some (false,.str w),some (false,cC al),some (false,ch),some (false,l),some (false,r),some (false,.dct kvs),none,none,none,none]) ?_ (by rfl) (m7 (by show w.length+1+1<=1000;omega));exact cz (x:=.str [35]) (y:=.str w) (e1:=[some (false,R),some (false,.str w),some (false,cC al),some (false,ch),some (false,l),some (false,r),some (false,.dct kvs),none,none,none,none]) (by rfl) (by rfl) (m7 (by show 1+w.length<=1000;omega))
 refine(aL (e:=[some (false,R),some (false,.str w),some (false,cC al),some (false,ch),some (false,l),some (false,r),some (false,.dct kvs),some (false,.str (ed w)),some (false,.str [35]),none,none]) (by rfl)).trans ?_;refine(aL ((iR (ds:=fM 1 1 w.length) (e:=[some (false,R),some (false,.str w),some (false,cC al),some (false,ch),some (false,l),some (false,r),some (false,.dct kvs),some (false,.str (ed w)),some (false,.str [35]),none,none]) ?_).trans f1)).trans ?_
 ·refine Mm.uU (ds:=[.int 1,.int ((w.length+1:Nat):Int)]) ?_ (adl (by omega));refine aX (d:=.int 1) (by rfl) (aX ?_ cB);refine cz (x:=.int ((w.length+1+1:Nat):Int)) (y:=.int 1) (e1:=[some (false,R),some (false,.str w),some (false,cC al),some (false,ch),some (false,l),some (false,r),some (false,.dct kvs),some (false,.str (ed w)),some (false,.str [35]),none,none]) ?_ (by rfl) (Zn _);refine bw (ds:=[.str (ed w)]) (by rfl) ?_;show some (D.int ((ed w).length:Int))=_;rw[qY]
 ·refine cL ?_;unfold out;generalize(cg al kvs l r w w.length).flatten=z;have e1:∀(env:Ev.Env),env[8]? = some (some (false,.str (35::z)))->qT (aq 8) (uV (aQ (.int 1))) lH env = .ok (.str (ug (35::z) (some 1) none)) env:=λenv h=>by
   have hv:aq 8 env = .ok (.str (35::z)) env:=by unfold aq;rw[h]
   unfold qT;rw[hv]
   rfl
  rw[Tr] at e1;exact e1 _ rfl
end
theorem acV{w:D}(h:w = .str [111,110,99,101]\/w = .str [97,108,111,110,103]):∃al,w=cC al:=by
 rcases h with rfl|rfl
 ·exact⟨false,rfl⟩
 ·exact⟨true,rfl⟩
theorem from_left{x w:List Nat}{wy ch l r:D}(hx:x∈XS)(h:oF x wy ch l r)(hw:∀c∈w,c∈x)(hn:w.length<=300):∃o:List Nat,gh [.tup [wy,ch,l,r],.str w]=some (.str o)/\di [.tup [wy,ch,l,r],.str w]=some (.str o)/\(∀c∈o,c∈x)/\o.length<=2*w.length+1:=by
 obtain⟨al,rfl⟩:=acV h.way;cases h.chg with
 | put hc=>
  rename_i c;refine⟨inn l r c w,?_,?_,abN hc hw⟩
  ·refine fK (env:=[some (false,.tup [cC al,.tup [.tup [.str [],.str [c]]],l,r]),some (false,.str w)]) ?_;unfold dZ;refine oO ?_;refine(jX (e:=[some (false,.tup [cC al,.tup [.tup [.str [],.str [c]]],l,r]),some (false,.str w)]) (iJ (bw (ds:=[.tup [cC al,.tup [.tup [.str [],.str [c]]],l,r]]) (by rfl) (by rfl)))).trans ?_;exact cL (bw (ds:=[.tup [cC al,.tup [.tup [.str [],.str [c]]],l,r],.str w]) (by rfl) (with_put_in hx h.left h.right hw hn _ c))
  ·refine fK (env:=[some (false,.tup [cC al,.tup [.tup [.str [],.str [c]]],l,r]),some (false,.str w),some (false,cC al),some (false,.tup [.tup [.str [],.str [c]]]),some (false,l),some (false,r),none,none,none,none,none]) ?_;unfold cO;refine(aL (e:=[some (false,.tup [cC al,.tup [.tup [.str [],.str [c]]],l,r]),some (false,.str w),some (false,cC al),some (false,.tup [.tup [.str [],.str [c]]]),some (false,l),some (false,r),none,none,none,none,none]) (by rfl)).trans ?_;refine oO ?_;refine(jX (e:=[some (false,.tup [cC al,.tup [.tup [.str [],.str [c]]],l,r]),some (false,.str w),some (false,cC al),some (false,.tup [.tup [.str [],.str [c]]]),some (false,l),some (false,r),none,none,none,none,none]) (by rfl)).trans ?_;exact cL (bw (ds:=[.tup [cC al,.tup [.tup [.str [],.str [c]]],l,r],.str w]) (by rfl) (JQ hx h.left h.right hw hn _ c))
 | chg h0 h4 hp=>
  rename_i ps;obtain⟨kvs,hd,hk⟩:=DY hp;refine⟨out al kvs l r w,?_,Ai hx h.left h.right hw hn hk al ps h0 hd,Z9 hx h.left h.right hw hn hk al⟩;have hpi:kY [.tup [cC al,.tup (ps.map encC),l,r]]=some (.bl false):=by
   match ps,h0 with
   | p::ps,_=>
    refine fK (env:=[some (false,.tup [cC al,.tup ((p::ps).map encC),l,r])]) (cL ?_);refine cz (x:=.str [p.1]) (y:=.str []) (e1:=[some (false,.tup [cC al,.tup ((p::ps).map encC),l,r])]) ?_ (by rfl) (by rfl);refine cz (x:=encC p) (y:=.int 0) (e1:=[some (false,.tup [cC al,.tup ((p::ps).map encC),l,r])]) ?_ (by rfl) (by rfl);refine cz (x:=.tup ((p::ps).map encC)) (y:=.int 0) (e1:=[some (false,.tup [cC al,.tup ((p::ps).map encC),l,r])]) (by rfl) (by rfl) (lD (xs:=(p::ps).map encC) (j:=0) (v:=encC p) (by rfl))
  refine fK (env:=[some (false,.tup [cC al,.tup (ps.map encC),l,r]),some (false,.str w)]) ?_;unfold dZ;refine(aL ((jr (e:=[some (false,.tup [cC al,.tup (ps.map encC),l,r]),some (false,.str w)]) (iJ (bw (ds:=[.tup [cC al,.tup (ps.map encC),l,r]]) (by rfl) hpi))).trans rfl)).trans ?_;exact cL (bw (ds:=[.tup [cC al,.tup (ps.map encC),l,r],.str w]) (by rfl) (with_changes hx h.left h.right hw hn hk al _ hd))
def sides:List D:=[.str [108,101,102,116],.str [114,105,103,104,116]]
theorem changed{x w:List Nat}{wy ch l r:D}(hx:x∈XS)(h:oF x wy ch l r)(hw:∀c∈w,c∈x)(hn:w.length<=300):∀s∈sides,∃o:List Nat,iD [s,.tup [wy,ch,l,r],.str w]=some (.str o)/\dO [s,.tup [wy,ch,l,r],.str w]=some (.str o)/\(∀c∈o,c∈x)/\o.length<=2*w.length+1:=by
 intro s hs;rcases List.mem_cons.mp hs with rfl|hs
 ·obtain⟨o,h1,h2,h3⟩:=from_left hx h hw hn;refine⟨o,?_,?_,h3⟩
  ·refine fK (env:=[some (false,.str [108,101,102,116]),some (false,.tup [wy,ch,l,r]),some (false,.str w)]) ?_;unfold gM;refine(aL ((jr (e:=[some (false,.str [108,101,102,116]),some (false,.tup [wy,ch,l,r]),some (false,.str w)]) (by rfl)).trans rfl)).trans ?_;exact cL (bw (ds:=[.tup [wy,ch,l,r],.str w]) (by rfl) h1)
  ·refine fK (env:=[some (false,.str [108,101,102,116]),some (false,.tup [wy,ch,l,r]),some (false,.str w)]) ?_;unfold cP;refine(aL ((jr (e:=[some (false,.str [108,101,102,116]),some (false,.tup [wy,ch,l,r]),some (false,.str w)]) (by rfl)).trans rfl)).trans ?_;exact cL (bw (ds:=[.tup [wy,ch,l,r],.str w]) (by rfl) h2)
 ·rw[List.mem_singleton.mp hs];obtain⟨o,h1,h2,h3,h4⟩:=from_left (w:=w.reverse) hx (⟨h.way,h.chg,h.right,h.left⟩:oF x wy ch r l) (λc hc=>hw c (List.mem_reverse.mp hc)) (by rw[List.length_reverse];exact hn);have rev:∀{a:Ev} {env:Ev.Env},a env = .ok (.str o) env->pg a env = .ok (.str o.reverse) env:=λ{a env} e=>by unfold pg;rw[e];rfl
  refine⟨o.reverse,?_,?_,λc hc=>h3 c (List.mem_reverse.mp hc),by rw[List.length_reverse] at h4 ⊢;exact h4⟩
  ·refine fK (env:=[some (false,.str [114,105,103,104,116]),some (false,.tup [wy,ch,l,r]),some (false,.str w)]) ?_;unfold gM;refine oO ((jX (e:=[some (false,.str [114,105,103,104,116]),some (false,.tup [wy,ch,l,r]),some (false,.str w)]) (by rfl)).trans (cL (rev ?_)));exact bw (ds:=[.tup [wy,ch,r,l],.str w.reverse]) (by rfl) h1
  ·refine fK (env:=[some (false,.str [114,105,103,104,116]),some (false,.tup [wy,ch,l,r]),some (false,.str w)]) ?_;unfold cP;refine oO ((jX (e:=[some (false,.str [114,105,103,104,116]),some (false,.tup [wy,ch,l,r]),some (false,.str w)]) (by rfl)).trans (cL (rev ?_)));exact bw (ds:=[.tup [wy,ch,r,l],.str w.reverse]) (by rfl) h2
end sO
namespace wH
open Ev
def j6:bG:=jE.j6
def d7:List D->Option D:=bL 2 j6
def jD:bG:=jE.jD
def o9:List D->Option D:=bL 5 jD
def iG:bG:=jE.iG
def kY:List D->Option D:=bL 1 iG
def dq:bG:=sO.dq
def gq:List D->Option D:=bL 10 dq
def cM:bG:=sO.cM
def fH:List D->Option D:=bL 13 cM
def dZ:bG:=sO.dZ
def gh:List D->Option D:=bL 2 dZ
def gM:bG:=sO.gM
def iD:List D->Option D:=bL 3 gM
def um:bG:=aC (aK (aq 0) (eE 2 (aW (ak 2) (aW (ak 3) (fG))))) (aC (cT 4 (bZ (aa (aq 1) (ao)))) (aC (dI (d8 (aq 3)) (ak 5) (fX 4 (az iD (aa (aq 2) (aa (aq 5) (aa (au bU 4 (iI oh (aQ (.int 1)))) (ao))))))) (aY (az cG (aa (aV 4) ao)))))
def wu:List D->Option D:=bL 6 um
def wD:bG:=aY (aH bU (az wu (aa (aq 0) (aa (aq 1) (ao)))) (iI oh (aQ (.int 1))))
def ou:List D->Option D:=bL 2 wD
def jM:bG:=jE.j6
def bW:List D->Option D:=bL 2 jM
def dW:bG:=sO.dW
def ie:List D->Option D:=bL 5 dW
def cO:bG:=sO.cO
def di:List D->Option D:=bL 11 cO
def dU:bG:=jE.dU
def jn:List D->Option D:=bL 1 dU
def cP:bG:=sO.cP
def dO:List D->Option D:=bL 3 cP
def jL:bG:=aC (cT 2 (bZ (aa (aq 1) (ao)))) (aC (dI (d8 (au bU 0 (aQ (.int 1)))) (ak 3) (fX 2 (az dO (aa (au bU 0 (aQ (.int 0))) (aa (aq 3) (aa (au bU 2 (iI oh (aQ (.int 1)))) (ao))))))) (aY (az cG (aa (aV 2) ao))))
def jc:List D->Option D:=bL 4 jL
open Ev PySem L2
open lZ (fW)
open sO (XS sides oF m7)
def jU(x:List Nat)(R:D):Prop:=∃wy ch l r,R = .tup [wy,ch,l,r]/\oF x wy ch l r
def cF(s R:D)(w:List Nat):List Nat:=match sO.iD [s,R,.str w] with
 | some (.str o)=>o
 | _=>[]
section
variable{x:List Nat}{s:D}
theorem TQ(hx:x∈XS)(hs:s∈sides){R:D}(hR:jU x R){w:List Nat}(hw:∀c∈w,c∈x)(hn:w.length<=300) :
  iD [s,R,.str w]=some (.str (cF s R w))/\dO [s,R,.str w]=some (.str (cF s R w))/\(∀c∈cF s R w,c∈x)/\(cF s R w).length<=2*w.length+1:=by
 obtain⟨wy,ch,l,r,rfl,h⟩:=hR;obtain⟨o,h1,h2,h3⟩:=sO.changed hx h hw hn s hs;have e:cF s (.tup [wy,ch,l,r]) w=o:=by unfold cF;rw[h1]
 rw[e];exact⟨h1,h2,h3⟩
def fin(s:D)(Rs:List D)(w:List Nat):List Nat:=Rs.foldl (λv R=>cF s R v) w
def pZ(s:D):List Nat->List D->List (List Nat)
 | w,[]=>[w]
 | w,R::Rs=>w::pZ s (cF s R w) Rs
theorem xX:∀(Rs:List D) (w:List Nat) (R:D),pZ s w (Rs++[R])=pZ s w Rs++[cF s R (fin s Rs w)]
 | [],w,R=>rfl
 | Q::Rs,w,R=>by
  show w::pZ s (cF s Q w) (Rs++[R])=w::pZ s (cF s Q w) Rs++[cF s R (fin s Rs (cF s Q w))];rw[xX Rs]
  rfl
theorem xY:∀(Rs:List D) (w:List Nat),∃pre,pZ s w Rs=pre++[fin s Rs w]
 | [],w=>⟨[],rfl⟩
 | R::Rs,w=>by
  obtain⟨pre,e⟩:=xY Rs (cF s R w);refine⟨w::pre,?_⟩;show w::pZ s (cF s R w) Rs=_;rw[e]
  rfl
theorem Cj:∀(Rs:List D) (w:List Nat),(pZ s w Rs).length=Rs.length+1
 | [],w=>rfl
 | R::Rs,w=>by show(w::pZ s (cF s R w) Rs).length=_;rw[List.length_cons,Cj Rs,List.length_cons]
theorem DN(hx:x∈XS)(hs:s∈sides):∀(Rs:List D) (w:List Nat),(∀R∈Rs,jU x R)->(∀c∈w,c∈x)->(w.length+1)*2^Rs.length<=301->(∀c∈fin s Rs w,c∈x)/\(fin s Rs w).length+1<=(w.length+1)*2^Rs.length
 | [],w,_,hw,hn=>⟨hw,by show w.length+1<=(w.length+1)*1;omega⟩
 | R::Rs,w,hR,hw,hn=>by
  have h2:(w.length+1)*2^(R::Rs).length=(2*w.length+1+1)*2^Rs.length:=by
   rw[List.length_cons,Nat.pow_succ,<-Nat.mul_assoc,Nat.mul_right_comm]
   congr 1
   omega
  have hp:1<=2^Rs.length:=Nat.one_le_two_pow;have hwl:w.length<=300:=by have:2*w.length+1+1<=(2*w.length+1+1)*2^Rs.length:=Nat.le_mul_of_pos_right _ hp;omega
  obtain⟨_,_,h3,h4⟩:=TQ hx hs (hR R (List.mem_cons_self ..)) hw hwl;have h5:((cF s R w).length+1)*2^Rs.length<=(2*w.length+1+1)*2^Rs.length:=Nat.mul_le_mul_right _ (by omega);obtain⟨h6,h7⟩:=DN hx hs Rs (cF s R w) (λQ hQ=>hR Q (List.mem_cons_of_mem _ hQ)) h3 (by omega);refine⟨h6,?_⟩;show(fin s Rs (cF s R w)).length+1<=_;omega
theorem DP(hx:x∈XS)(hs:s∈sides)(Rs:List D)(w:List Nat)(hR:∀R∈Rs,jU x R)(hw:∀c∈w,c∈x)(hn:(w.length+1)*2^Rs.length<=301):(∀c∈fin s Rs w,c∈x)/\(fin s Rs w).length<=300:=by obtain⟨h1,h2⟩:=DN hx hs Rs w hR hw hn;exact⟨h1,by omega⟩
theorem QS{Rs done rest:List D}{R:D}(hall:Rs=done++R::rest){n:Nat}(hn:(n+1)*2^Rs.length<=301):(n+1)*2^done.length<=301:=by
 have hl:done.length<=Rs.length:=by rw[hall,List.length_append];omega
 exact Nat.le_trans (Nat.mul_le_mul_left _ (Nat.pow_le_pow_right (by decide) hl)) hn
theorem Ht{ds:List D}{d:D}:oA (ds++[d]) (-1)=some d:=by
 unfold oA R8;rw[if_neg (by decide),if_pos (by rw[List.length_append,List.length_singleton];omega)];show(ds++[d])[((-1:Int)+((ds++[d]).length:Int)).toNat]? = _;have e1:((-1:Int)+((ds++[d]).length:Int)).toNat=ds.length:=by rw[List.length_append,List.length_singleton];omega
 rw[e1];simp
theorem GD(Rs:List D)(w:List Nat):bU (.lst ((pZ s w Rs).map .str)) (.int (-1))=some (.str (fin s Rs w)):=by obtain⟨pre,e⟩:=xY (s:=s) Rs w;rw[e,List.map_append];exact Ht
theorem Gz(Rs:List D)(w:List Nat):bU (.tup ((pZ s w Rs).map .str)) (.int (-1))=some (.str (fin s Rs w)):=by obtain⟨pre,e⟩:=xY (s:=s) Rs w;rw[e,List.map_append];exact Ht
def Y7:bG:=fX 4 (az iD (aa (aq 2) (aa (aq 5) (aa (au bU 4 (iI oh (aQ (.int 1)))) (ao)))))
def aaK:bG:=fX 2 (az dO (aa (au bU 0 (aQ (.int 0))) (aa (aq 3) (aa (au bU 2 (iI oh (aQ (.int 1)))) (ao)))))
variable(hx:x∈XS)(hs:s∈sides){Rs:List D}(hR:∀R∈Rs,jU x R)(h4:Rs.length<=10){w:List Nat}(hw:∀c∈w,c∈x)(hn:(w.length+1)*2^Rs.length<=301)
include hx hs hR h4 hw hn
theorem walk:wu [.tup [s,.tup Rs],.str w]=some (.tup ((pZ s w Rs).map .str)):=by
 generalize hO:D.tup [s,.tup Rs]=O;obtain⟨e',f1,hd,a5,rfl⟩:=jQ (g:=ak 5) (b:=Y7) Rs
  (λdone env=>done.length<=Rs.length/\∃a5,env=[some (false,O),some (false,.str w),some (false,s),some (false,.tup Rs),some (true,.lst ((pZ s w done).map .str)),a5])
  (λdone R rest hall env ⟨hd,a5,he⟩=>by
   subst he;have hm:∀Q∈done,jU x Q:=λQ hQ=>hR Q (by rw[hall];exact List.mem_append_left _ hQ);have hRm:jU x R:=hR R (by rw[hall];exact List.mem_append_right _ (List.mem_cons_self ..));obtain⟨q1,q2⟩:=DP hx hs done w hm hw (QS hall hn);obtain⟨c1,_⟩:=TQ hx hs hRm q1 q2;have hl:=congrArg List.length hall;rw[List.length_append,List.length_cons] at hl;refine⟨[some (false,O),some (false,.str w),some (false,s),some (false,.tup Rs),some (true,.lst ((pZ s w done).map .str)),some (false,R)],[some (false,O),some (false,.str w),some (false,s),some (false,.tup Rs),some (true,.lst ((pZ s w (done++[R])).map .str)),some (false,R)],rfl,?_,by rw[List.length_append,List.length_singleton];omega,_,rfl⟩;rw[xX,List.map_append];refine(fW (i:=4) (x0:=(pZ s w done).map .str) (xs:=(pZ s w done).map .str) (d:=.str (cF s R (fin s done w))) (e:=[some (false,O),some (false,.str w),some (false,s),some (false,.tup Rs),some (true,.lst ((pZ s w done).map .str)),some (false,R)]) (by rfl) ?_ (by rfl) (by rw[List.length_map,Cj];exact Nat.lt_of_le_of_lt (show done.length+1<=11 by omega) (by decide))).trans rfl;refine bw (ds:=[s,R,.str (fin s done w)]) (aX (d:=s) (by rfl) (aX (d:=R) (by rfl) (aX ?_ cB))) c1;exact bH (o:=true) (o':=true) (x:=.lst ((pZ s w done).map .str)) (x0:=.lst ((pZ s w done).map .str)) (y:=.int (-1)) (by rfl) (by rfl) (by rfl) (GD done w))
  [some (false,O),some (false,.str w),some (false,s),some (false,.tup Rs),some (true,.lst [.str w]),none] ⟨Nat.zero_le _,none,rfl⟩
 refine fK (env:=[some (false,O),some (false,.str w),some (false,s),some (false,.tup Rs),some (true,.lst ((pZ s w Rs).map .str)),a5]) ?_;unfold um;refine(aL (e:=[some (false,O),some (false,.str w),some (false,s),some (false,.tup Rs),none,none]) (by rw[<-hO];rfl)).trans ?_;refine(aL (e:=[some (false,O),some (false,.str w),some (false,s),some (false,.tup Rs),some (true,.lst [.str w]),none]) (by rfl)).trans ?_;exact(aL ((iR (ds:=Rs) (e:=[some (false,O),some (false,.str w),some (false,s),some (false,.tup Rs),some (true,.lst [.str w]),none]) (by rfl)).trans f1)).trans rfl
theorem Rv:jc [.tup [s,.tup Rs],.str w]=some (.tup ((pZ s w Rs).map .str)):=by
 obtain⟨e',f1,hd,a5,rfl⟩:=jQ (g:=ak 3) (b:=aaK) Rs
  (λdone env=>done.length<=Rs.length/\∃a5,env=[some (false,.tup [s,.tup Rs]),some (false,.str w),some (true,.lst ((pZ s w done).map .str)),a5])
  (λdone R rest hall env ⟨hd,a5,he⟩=>by
   subst he;have hm:∀Q∈done,jU x Q:=λQ hQ=>hR Q (by rw[hall];exact List.mem_append_left _ hQ);have hRm:jU x R:=hR R (by rw[hall];exact List.mem_append_right _ (List.mem_cons_self ..));obtain⟨q1,q2⟩:=DP hx hs done w hm hw (QS hall hn);obtain⟨_,c1,_⟩:=TQ hx hs hRm q1 q2;have hl:=congrArg List.length hall;rw[List.length_append,List.length_cons] at hl;refine⟨[some (false,.tup [s,.tup Rs]),some (false,.str w),some (true,.lst ((pZ s w done).map .str)),some (false,R)],[some (false,.tup [s,.tup Rs]),some (false,.str w),some (true,.lst ((pZ s w (done++[R])).map .str)),some (false,R)],rfl,?_,by rw[List.length_append,List.length_singleton];omega,_,rfl⟩;rw[xX,List.map_append];refine(fW (i:=2) (x0:=(pZ s w done).map .str) (xs:=(pZ s w done).map .str) (d:=.str (cF s R (fin s done w))) (e:=[some (false,.tup [s,.tup Rs]),some (false,.str w),some (true,.lst ((pZ s w done).map .str)),some (false,R)]) (by rfl) ?_ (by rfl) (by rw[List.length_map,Cj];exact Nat.lt_of_le_of_lt (show done.length+1<=11 by omega) (by decide))).trans rfl;refine bw (ds:=[s,R,.str (fin s done w)]) (aX (d:=s) (by rfl) (aX (d:=R) (by rfl) (aX ?_ cB))) c1;exact bH (o:=true) (o':=true) (x:=.lst ((pZ s w done).map .str)) (x0:=.lst ((pZ s w done).map .str)) (y:=.int (-1)) (by rfl) (by rfl) (by rfl) (GD done w))
  [some (false,.tup [s,.tup Rs]),some (false,.str w),some (true,.lst [.str w]),none] ⟨Nat.zero_le _,none,rfl⟩
 refine fK (env:=[some (false,.tup [s,.tup Rs]),some (false,.str w),some (true,.lst ((pZ s w Rs).map .str)),a5]) ?_;unfold jL;refine(aL (e:=[some (false,.tup [s,.tup Rs]),some (false,.str w),some (true,.lst [.str w]),none]) (by rfl)).trans ?_;exact(aL ((iR (ds:=Rs) (e:=[some (false,.tup [s,.tup Rs]),some (false,.str w),some (true,.lst [.str w]),none]) (by rfl)).trans f1)).trans rfl
theorem made:ou [.tup [s,.tup Rs],.str w]=some (.str (fin s Rs w)):=by refine fK (env:=[some (false,.tup [s,.tup Rs]),some (false,.str w)]) (cL ?_);exact cz (x:=.tup ((pZ s w Rs).map .str)) (y:=.int (-1)) (bw (ds:=[.tup [s,.tup Rs],.str w]) (by rfl) (walk hx hs hR h4 hw hn)) (by rfl) (Gz Rs w)
end
theorem j5{d:D}(h:okN 60 d=true):rJ d d=some (.bl false):=by
 show(bC 60 d d).map _=_;rw[uX 60 d h]
 rfl
theorem o8{d:D}(h:okN 60 d=true):lV d d=some (.bl true):=by
 show(bC 60 d d).map _=_;rw[uX 60 d h]
 rfl
end wH
namespace X6
open Ev
def dH:bG:=jE.dH
def aG:List D->Option (D×D):=eO 3 dH
def dY:bG:=lZ.dY
def gb:List D->Option (D×D):=eO 4 dY
def cN:bG:=lZ.cN
def gA:List D->Option (D×D):=eO 6 cN
def gF:bG:=lZ.gF
def jd:List D->Option (D×D):=eO 4 gF
def jg:bG:=aC (aK (aH bU (bZ (aa (aQ (.str [108,101,102,116])) (aa (aQ (.str [114,105,103,104,116])) (ao)))) (cD aG 0 (aa (aQ (.int 2)) (ao)))) (ak 3)) (aY (cI (aa (aq 3) (aa (az cG (aa (dR 4 5 (dz (aa (cD aG 0 (aa (au bJ 2 (aQ (.int 1))) (ao))) (ao))) (ak 4) (cu) (cD jd 0 (aa (aq 1) (ao)))) ao)) (ao)))))
def eY:List D->Option (D×D):=eO 4 jg
open Ev PySem L2
open lZ (SG fW)
open sO (XS sides oF m7 fit lz BZ look qJ xM cC encC DY HB jR)
open wH (jU j5 o8)
inductive Rl
 | put (c:Nat) (l r:D)
 | chg (al:Bool) (kvs:List (D×D)) (l r:D)
inductive Is (x:List Nat):D->Rl->Prop
 | put {wy l r:D} {c:Nat}:c∈x->l∈SG x->r∈SG x->Is x (.tup [wy,.tup [.tup [.str [],.str [c]]],l,r]) (.put c l r)
 | chg {al:Bool} {ps:List sO.Pr} {kvs:List (D×D)} {l r:D}:0<ps.length->qb [.tup (ps.map encC)]=some (.dct kvs)->BZ x kvs->l∈SG x->r∈SG x->Is x (.tup [cC al,.tup (ps.map encC),l,r]) (.chg al kvs l r)
def tn:D->D
 | .tup [wy,ch,l,r]=>.tup [wy,ch,r,l]
 | d=>d
def rt:D->Bool
 | .str (114::_)=>true
 | _=>false
open sO (XS sides oF m7 HB)
open lZ (wG uq Eo PV SG Oz prs one others Gd Ec Dv QJ kZ En mG)
open sO (Dd LC)
theorem changes(n:Int)(x:List Nat)(hx:x∈XS):∃ch n',lZ.gA [.lst [.int n],.str x]=some (ch,.lst [.int n'])/\HB x ch:=by
 obtain⟨d,hd,e⟩:=dig n 5 (by decide);have hp:=wG x hx;have hl4:=uq x hx;have t:dw (aH lV (cD lZ.aG 0 (aa (aQ (.int 5)) (ao))) (aQ (.int 0))) [some (true,.lst [.int n]),some (false,.str x),none,none,none,none] = .ok ((d:Int) == 0) [some (true,.lst [.int (n / 5)]),some (false,.str x),none,none,none,none]:=by
  rw[<-e]
  rfl
 by_cases h0:d=0
 ·subst h0;obtain⟨j,hj,ej⟩:=dig (n / 5) x.length hp;refine⟨.tup [.tup [.str [],.str [x[j]]]],n / 5 / (x.length:Int),jy (env:=[some (true,.lst [.int (n / 5 / (x.length:Int))]),some (false,.str x),none,none,none,none]) ?_ rfl,.put (List.getElem_mem hj)⟩;unfold lZ.cN;refine(oO (d:=.tup [.tup [.str [],.str [x[j]]]]) (o:=false) (e:=[some (true,.lst [.int (n / 5 / (x.length:Int))]),some (false,.str x),none,none,none,none]) ?_).trans rfl;refine(jX t).trans ?_;refine cL (qR (aX (qR (ds:=[.str [],.str [x[j]]]) (aX (d:=.str []) (by rfl) (aX ?_ cB)) (by show 2<=sizeLine;decide)) cB) (by show 1<=sizeLine;decide));refine bH (o:=false) (o':=false) (x:=.str x) (x0:=.str x) (y:=.int (n / 5 % (x.length:Int))) (by rfl) ?_ (by rfl) ?_
  ·exact lA (x:=.lst [.int (n / 5)]) (x0:=.lst [.int (n / 5)]) (ds:=[.int (x.length:Int)]) (e1:=[some (true,.lst [.int (n / 5)]),some (false,.str x),none,none,none,none]) (by rfl) (by rfl) (by rfl) (kZ _ x.length hp (by omega))
  ·show(oA x (n / 5 % (x.length:Int))).map _=_;rw[ej,Ej hj]
   rfl
 ·have t0:((d:Int) == 0)=false:=by rw[beq_eq_false_iff_ne];omega
  rw[t0] at t;obtain⟨j,hj,ej⟩:=dig (n / 5) 3 (by decide);obtain⟨ds,hds,hl1,hl2⟩:∃ds,vU [.int (1+(j:Int))]=some ds/\0<ds.length/\ds.length<=4:=by
   have hc:j=0\/j=1\/j=2:=by omega
   rcases hc with rfl|rfl|rfl
   ·exact⟨_,rfl,by decide,by decide⟩
   ·exact⟨_,rfl,by decide,by decide⟩
   ·exact⟨_,rfl,by decide,by decide⟩
  obtain⟨e',f1,n',kvs,zs,v3,v4,v5,rfl,hk,hz1,hz2⟩:=jQ (g:=ak 3) (b:=aC one (aC others Gd)) ds
   (λdone env=>∃n kvs zs v3 v4 v5,env=[some (true,.lst [.int n]),some (false,.str x),some (true,.dct kvs),v3,v4,v5]/\Eo x kvs zs/\zs.length<=done.length/\(0<done.length->0<zs.length))
   (λdone s rest hall env ⟨n,kvs,zs,v3,v4,v5,he,hk,hz1,hz2⟩=>by
    subst he;have hdl:done.length<=4:=by have:=congrArg List.length hall;rw[List.length_append,List.length_cons] at this;omega
    have hkl:kvs.length=zs.length:=by
     have:=congrArg List.length hk.keys
     rwa [List.length_map,List.length_map] at this
    obtain⟨p,n',w4,w5,hpv,hb⟩:=lZ.round n x hx kvs (by omega) (some (false,s)) v4 v5;obtain⟨zs',hk',z1,z2⟩:=hk.put hpv (En hpv);exact⟨_,_,rfl,hb,n',_,zs',_,_,_,rfl,hk',by rw[List.length_append,List.length_singleton];omega,λ_=>z1⟩)
   [some (true,.lst [.int (n / 5 / 3)]),some (false,.str x),some (true,.dct []),none,none,none] ⟨_,[],[],_,_,_,rfl,⟨rfl,.nil,λc hc=>by simp at hc,λk v h=>by simp at h⟩,Nat.le_refl _,λh=>h⟩
  have hz3:zs.length<=4:=Nat.le_trans hz1 hl2;have hok:HB x (.tup (prs kvs ((jx (zs.map λc=>[c])).map D.str))):=by
   obtain⟨ps,e1,e2,e3⟩:=Dd hx _ (Dv hk);have hl:ps.length=zs.length:=by rw[e2,List.length_map,(iU _).length_eq,List.length_map]
   rw[e1];have:=hz2 hl1;exact .chg (by omega) (by omega) e3
  refine⟨_,n',jy (env:=[some (true,.lst [.int n']),some (false,.str x),some (true,.dct kvs),v3,v4,v5]) ?_ rfl,hok⟩;unfold lZ.cN;refine(aL (e:=[some (true,.lst [.int (n / 5)]),some (false,.str x),none,none,none,none]) ((jr t).trans rfl)).trans ?_;refine(aL (e:=[some (true,.lst [.int (n / 5)]),some (false,.str x),some (true,.dct []),none,none,none]) (by rfl)).trans ?_;refine(aL (e:=[some (true,.lst [.int n']),some (false,.str x),some (true,.dct kvs),v3,v4,v5]) ?_).trans ?_
  ·refine(iR (ds:=ds) (e:=[some (true,.lst [.int (n / 5 / 3)]),some (false,.str x),some (true,.dct []),none,none,none]) ?_).trans f1;have a1:aa (aH bJ (aQ (.int 1)) (cD lZ.aG 0 (aa (aQ (.int 3)) (ao)))) (ao) [some (true,.lst [.int (n / 5)]),some (false,.str x),some (true,.dct []),none,none,none] = .ok [.int (1+n / 5 % 3)] [some (true,.lst [.int (n / 5 / 3)]),some (false,.str x),some (true,.dct []),none,none,none]:=by rfl
   unfold dz;rw[a1];show d9 (vU [.int (1+n / 5 % ((3:Nat):Int))]) _=_;rw[ej,hds]
   rfl
  ·exact Ec (LC hk hz3) _ _ _ _ _
theorem rule(n:Int)(x:List Nat)(hx:x∈XS):∃w ch l r n',lZ.jd [.lst [.int n],.str x]=some (.tup [w,ch,l,r],.lst [.int n'])/\oF x w ch l r:=by
 obtain⟨d,hd,e⟩:=dig n 2 (by decide);obtain⟨w,hw,h1⟩:∃w,(w = .str [111,110,99,101]\/w = .str [97,108,111,110,103])/\bU (.lst [.str [111,110,99,101],.str [97,108,111,110,103]]) (.int (d:Int))=some w:=by
  have hc:d=0\/d=1:=by omega
  rcases hc with rfl|rfl
  ·exact⟨_,.inl rfl,rfl⟩
  ·exact⟨_,.inr rfl,rfl⟩
 obtain⟨ch,n1,h2,h3⟩:=changes (n / 2) x hx;obtain⟨l,n2,h5,h6⟩:=lZ.signs n1 x hx;obtain⟨r,n3,h7,h8⟩:=lZ.signs n2 x hx;refine⟨w,ch,l,r,n3,jy (env:=[some (true,.lst [.int n3]),some (false,.str x),some (false,w),some (false,ch)]) ?_ rfl,⟨hw,h3,h6,h8⟩⟩;unfold lZ.gF;refine(aL (e:=[some (true,.lst [.int (n / 2)]),some (false,.str x),some (false,w),none]) ?_).trans ?_
 ·refine cY (d:=w) (e:=[some (true,.lst [.int (n / 2)]),some (false,.str x),none,none]) ?_ (by rfl);refine cz (x:=.lst [.str [111,110,99,101],.str [97,108,111,110,103]]) (y:=.int (n % 2)) (e1:=[some (true,.lst [.int n]),some (false,.str x),none,none]) (by rfl) (by rfl) ?_;have e2:n % 2=(d:Int):=e;rw[e2];exact h1
 refine(aL (e:=[some (true,.lst [.int n1]),some (false,.str x),some (false,w),some (false,ch)]) ?_).trans ?_
 ·exact cY (d:=ch) (e:=[some (true,.lst [.int n1]),some (false,.str x),some (false,w),none]) (lA (x:=.lst [.int (n / 2)]) (x0:=.lst [.int (n / 2)]) (ds:=[.str x]) (e1:=[some (true,.lst [.int (n / 2)]),some (false,.str x),some (false,w),none]) (by rfl) (by rfl) (by rfl) h2) (by rfl)
 ·refine cL (qR (ds:=[w,ch,l,r]) (aX (d:=w) (e1:=[some (true,.lst [.int n1]),some (false,.str x),some (false,w),some (false,ch)]) (by rfl) (aX (d:=ch) (e1:=[some (true,.lst [.int n1]),some (false,.str x),some (false,w),some (false,ch)]) (by rfl) (aX (d:=l) (e1:=[some (true,.lst [.int n2]),some (false,.str x),some (false,w),some (false,ch)]) ?_ (aX (d:=r) (e1:=[some (true,.lst [.int n3]),some (false,.str x),some (false,w),some (false,ch)]) ?_ cB)))) (by show 4<=sizeLine;decide))
  ·exact lA (x:=.lst [.int n1]) (x0:=.lst [.int n1]) (ds:=[.str x]) (e1:=[some (true,.lst [.int n1]),some (false,.str x),some (false,w),some (false,ch)]) (by rfl) (by rfl) (by rfl) h5
  ·exact lA (x:=.lst [.int n2]) (x0:=.lst [.int n2]) (ds:=[.str x]) (e1:=[some (true,.lst [.int n2]),some (false,.str x),some (false,w),some (false,ch)]) (by rfl) (by rfl) (by rfl) h7
theorem order(n:Int)(x:List Nat)(hx:x∈XS)(m:Nat)(hm:m<=10):∃s Rs n',eY [.lst [.int n],.str x,.int (m:Int)]=some (.tup [s,.tup Rs],.lst [.int n'])/\s∈sides/\(∀R∈Rs,jU x R)/\Rs.length<=m:=by
 obtain⟨d,hd,e⟩:=dig n 2 (by decide);obtain⟨s,hs,h1⟩:∃s,s∈sides/\bU (.lst [.str [108,101,102,116],.str [114,105,103,104,116]]) (.int (d:Int))=some s:=by
  have hc:d=0\/d=1:=by omega
  rcases hc with rfl|rfl
  ·exact⟨_,List.mem_cons_self ..,rfl⟩
  ·exact⟨_,List.mem_cons_of_mem _ (List.mem_cons_self ..),rfl⟩
 obtain⟨j,hj,ej⟩:=dig (n / 2) (m+1) (by omega);obtain⟨Rs,env',g1,⟨n',v4,rfl⟩,g3,g4⟩:=Mm.JL (g:=ak 4) (e:=cD jd 0 (aa (aq 1) (ao))) (λenv=>∃n v4,env=[some (true,.lst [.int n]),some (false,.str x),some (false,.int (m:Int)),some (false,s),v4]) (jU x) (fM 0 1 j)
  [some (true,.lst [.int (n / 2 / ((m+1:Nat):Int))]),some (false,.str x),some (false,.int (m:Int)),some (false,s),none] ⟨_,_,rfl⟩
  (λt _ env ⟨n,v4,he⟩=>by
   subst he;obtain⟨wy,ch,l,r,n',h2,h3⟩:=rule n x hx;refine⟨.tup [wy,ch,l,r],_,[some (true,.lst [.int n']),some (false,.str x),some (false,.int (m:Int)),some (false,s),some (false,t)],rfl,?_,⟨_,_,rfl⟩,_,_,_,_,rfl,h3⟩;exact lA (x:=.lst [.int n]) (x0:=.lst [.int n]) (ds:=[.str x]) (e1:=[some (true,.lst [.int n]),some (false,.str x),some (false,.int (m:Int)),some (false,s),some (false,t)]) (by rfl) (by rfl) (by rfl) h2)
 have hl:Rs.length=j:=by rw[kh] at g4;exact g4
 refine⟨s,Rs,n',jy (env:=[some (true,.lst [.int n']),some (false,.str x),some (false,.int (m:Int)),some (false,s)]) ?_ rfl,hs,g3,by omega⟩;unfold jg;refine(aL (e:=[some (true,.lst [.int (n / 2)]),some (false,.str x),some (false,.int (m:Int)),some (false,s)]) ?_).trans ?_
 ·refine cY (d:=s) (e:=[some (true,.lst [.int (n / 2)]),some (false,.str x),some (false,.int (m:Int)),none]) ?_ (by rfl);refine cz (x:=.lst [.str [108,101,102,116],.str [114,105,103,104,116]]) (y:=.int (n % 2)) (e1:=[some (true,.lst [.int n]),some (false,.str x),some (false,.int (m:Int)),none]) (by rfl) (by rfl) ?_;have e2:n % 2=(d:Int):=e;rw[e2];exact h1
 refine cL (qR (ds:=[s,.tup Rs]) (aX (d:=s) (e1:=[some (true,.lst [.int (n / 2)]),some (false,.str x),some (false,.int (m:Int)),some (false,s)]) (by rfl) (aX ?_ cB)) (by show 2<=sizeLine;decide));refine bw (ds:=[.lst Rs]) (aX ?_ cB) rfl;refine uW (lo:=4) (n:=5) (ds:=fM 0 1 j) (aD:=[some (true,.lst [.int (n / 2 / ((m+1:Nat):Int))]),some (false,.str x),some (false,.int (m:Int)),some (false,s)]) (dh:=[some (true,.lst [.int n']),some (false,.str x),some (false,.int (m:Int)),some (false,s),v4]) ?_ (by rfl) g1 (by rw[hl];exact Nat.le_trans (show j<=10 by omega) (by decide));refine Mm.uU (ds:=[.int (n / 2 % ((m+1:Nat):Int))]) ?_ ?_
 ·refine aX (e1:=[some (true,.lst [.int (n / 2 / ((m+1:Nat):Int))]),some (false,.str x),some (false,.int (m:Int)),some (false,s)]) ?_ cB;exact lA (x:=.lst [.int (n / 2)]) (x0:=.lst [.int (n / 2)]) (ds:=[.int ((m+1:Nat):Int)]) (e1:=[some (true,.lst [.int (n / 2)]),some (false,.str x),some (false,.int (m:Int)),some (false,s)]) (by rfl) (by rfl) (by rfl) (lZ.kZ (n / 2) (m+1) (by omega) (by omega))
 ·have e2:n / 2 % ((m+1:Nat):Int)=(j:Int):=ej;rw[e2];exact Mm.CQ (by omega)
end X6
namespace oG
open Ev
def j6:bG:=jE.j6
def d7:List D->Option D:=bL 2 j6
def jD:bG:=jE.jD
def o9:List D->Option D:=bL 5 jD
def iG:bG:=jE.iG
def kY:List D->Option D:=bL 1 iG
def kE:bG:=jE.kE
def dq:bG:=jE.dq
def gq:List D->Option D:=bL 10 dq
def j4:bG:=jE.j4
def cM:bG:=jE.cM
def fH:List D->Option D:=bL 13 cM
def dZ:bG:=jE.dZ
def gh:List D->Option D:=bL 2 dZ
def gM:bG:=jE.gM
def iD:List D->Option D:=bL 3 gM
def v8:bG:=jE.v8
def um:bG:=jE.um
def wu:List D->Option D:=bL 6 um
def wD:bG:=jE.wD
def ou:List D->Option D:=bL 2 wD
def fD:Ev:=wW 3 5 (d8 (aq 1)) (ak 3) (dz (aa (aq 0) (ao))) (ak 4) (dw (au qO 4 (aV 3))) (au bJ 3 (cI (aa (aq 4) (ao))))
def cW:bG:=cT 1 (fD)
def jH:bG:=aC (aK (bZ (aa (cI (ao)) (ao))) (ak 1)) (aC (dI (dz (aa (aq 0) (ao))) (ak 2) (cW)) (aY (aq 1)))
def fU:List D->Option D:=bL 3 jH
def oZ:Ev:=dR 4 5 (d8 (aq 1)) (ak 4) (cu) (au bU 3 (aV 4))
def Eg:bG:=aC (aK (aq 0) (eE 2 (aW (ak 2) (aW (ak 3) (fG))))) (aY (cI (aa (aq 2) (aa (az cG (aa (oZ) ao)) (ao)))))
def wA:List D->Option D:=bL 4 Eg
def iu:Ev:=dR 2 4 (d8 (aq 1)) (eE 2 (aW (ak 2) (aW (ak 3) (fG)))) (cu) (aH lV (az ou (aa (aq 0) (aa (aq 2) (ao)))) (aV 3))
def mz:bG:=aY (iu)
def jm:List D->Option D:=bL 2 mz
def iy:Ev:=dR 3 4 (d8 (aq 1)) (ak 3) (cu) (au bU 2 (aV 3))
def iw:Ev:=dR 2 3 (d8 (aq 0)) (ak 2) (cu) (az xE (aa (iy) ao))
def mD:bG:=aY (Bu (az Ak (aa (iw) ao)))
def jo:List D->Option D:=bL 2 mD
def j0:Ev:=dR 5 6 (d8 (aq 2)) (ak 5) (dw (au rJ 5 (aV 3))) (aq 5)
def gW:bG:=aC (cT 4 (j0)) (dB (dw (az jo (aa (aq 0) (aa (aq 4) (ao))))) (aK (aq 4) (ak 2)) (bK))
def rN:bG:=aC (aK (iI zf (aq 1)) (ak 2)) (aC (dI (dz (aa (aq 1) (ao))) (ak 3) (gW)) (aY (az cG (aa (aV 2) ao))))
def kW:List D->Option D:=bL 5 rN
def jZ:Ev:=dR 5 6 (d8 (aq 2)) (ak 5) (cu) (az jm (aa (az wA (aa (aq 0) (aa (aq 5) (ao)))) (aa (aq 1) (ao))))
def jk:Ev:=dR 5 7 (uT (aa (aq 2) (aa (aq 3) (ao)))) (eE 2 (aW (ak 5) (aW (ak 6) (fG)))) (dw (az xE (aa (aV 6) ao))) (aq 5)
def rM:bG:=aC (aK (az fU (aa (az f9 (aa (au bU 0 (aQ (.int 1))) ao)) (ao))) (ak 2)) (aC (cT 3 (jZ)) (aC (cT 4 (jk)) (aC (dB (dw (au rJ 4 (bZ (ao)))) (aY (cI (aa (aQ (.str [116,111,108,100])) (aa (az cG (aa (aV 4) ao)) (ao))))) (bK)) (aY (cI (aa (aQ (.str [113,117,97,114,114,101,108])) (aa (az kW (aa (aq 3) (aa (az f9 (aa (aV 1) ao)) (ao)))) (ao))))))))
def fQ:List D->Option D:=bL 5 rM
def jh:bG:=jE.jh
def gO:List D->Option D:=bL 1 jh
def n8:bG:=jE.n8
def ik:bG:=jE.ik
def du:List D->Option D:=runN 4 ik
def dH:bG:=jE.dH
def aG:List D->Option (D×D):=eO 3 dH
def mW:Ev:=jE.mW
def mZ:bG:=jE.mZ
def jf:bG:=jE.jf
def eV:List D->Option (D×D):=eO 7 jf
def lQ:Ev:=jE.lQ
def jq:bG:=jE.jq
def dM:List D->Option D:=bL 1 jq
def mX:Ev:=jE.mX
def dY:bG:=jE.dY
def gb:List D->Option (D×D):=eO 4 dY
def km:Ev:=jE.km
def kI:bG:=jE.kI
def kj:Ev:=jE.kj
def cN:bG:=jE.cN
def gA:List D->Option (D×D):=eO 6 cN
def gF:bG:=jE.gF
def jd:List D->Option (D×D):=eO 4 gF
def mY:Ev:=jE.mY
def jg:bG:=jE.jg
def eY:List D->Option (D×D):=eO 4 jg
def nZ:Ev:=jE.nZ
def jK:bG:=jE.jK
def gZ:List D->Option (D×D):=eO 3 jK
def jM:bG:=jE.j6
def bW:List D->Option D:=bL 2 jM
def lU:bG:=jE.lU
def dW:bG:=jE.dW
def ie:List D->Option D:=bL 5 dW
def kJ:bG:=jE.kJ
def cO:bG:=jE.cO
def di:List D->Option D:=bL 11 cO
def dU:bG:=jE.dU
def jn:List D->Option D:=bL 1 dU
def cP:bG:=jE.cP
def dO:List D->Option D:=bL 3 cP
def n6:bG:=jE.n6
def jL:bG:=jE.jL
def jc:List D->Option D:=bL 4 jL
def pP:bG:=aY (aH bU (az jc (aa (aq 0) (aa (aq 1) (ao)))) (iI oh (aQ (.int 1))))
def gw:List D->Option D:=bL 2 pP
def fC:Ev:=dR 5 6 (dz (aa (aq 0) (ao))) (ak 5) (dw (au qO 5 (aV 4))) (au bJ 4 (cI (aa (aq 5) (ao))))
def dG:bG:=yl 3 (fC)
def cV:bG:=aC (cT 3 (bZ (ao))) (aC (dI (d8 (aq 1)) (ak 4) (dG)) (aK (aq 3) (ak 1)))
def jG:bG:=aC (aK (bZ (aa (cI (ao)) (ao))) (ak 1)) (aC (dI (dz (aa (aq 0) (ao))) (ak 2) (cV)) (aY (aq 1)))
def cR:List D->Option D:=bL 5 jG
def jC:Ev:=dR 2 3 (d8 (aq 1)) (ak 2) (cu) (aH bU (au bU 0 (aQ (.int 1))) (aV 2))
def pQ:bG:=aY (cI (aa (au bU 0 (aQ (.int 0))) (aa (az cG (aa (jC) ao)) (ao))))
def ig:List D->Option D:=bL 2 pQ
def eQ:bG:=jE.eQ
def pR:bG:=aC (cT 5 (az du (aa (aq 0) (aa (aq 1) (ao))))) (aC (aK (az cR (aa (az f9 (aa (au bU 2 (aQ (.int 1))) ao)) (ao))) (ak 6)) (aC (aK (au bU 6 (cD aG 5 (aa (az f9 (aa (aV 6) ao)) (ao)))) (ak 7)) (aC (aK (cD aG 5 (aa (aQ (.int 4)) (ao))) (ak 8)) (aC (cT 9 (bZ (ao))) (aC (dI (dz (aa (aH bJ (aQ (.int 1)) (cD aG 5 (aa (aq 4) (ao)))) (ao))) (ak 10) (eQ)) (aY (az cG (aa (aV 9) ao))))))))
def je:List D->Option D:=bL 15 pR
open Ev PySem L2
open wH (cF fin jU)
def perms(n:Nat):Nat->List (List Nat)
 | 0=>[[]]
 | k+1=>(perms n k).flatMap λr=>((List.range n).filter λi=>!decide (i∈r)).map λi=>r++[i]
theorem bD(n:Nat):∀(k:Nat) (r:List Nat),r∈perms n k↔r.length=k/\r.Nodup/\∀i∈r,i<n
 | 0,r=>by
  constructor
  ·intro h;have:r=[]:=by simpa[perms] using h
   subst this;exact⟨rfl,.nil,by simp⟩
  ·rintro⟨h,_⟩;rw[List.eq_nil_of_length_eq_zero h];simp[perms]
 | k+1,r=>by
  unfold perms;rw[List.mem_flatMap];constructor
  ·rintro⟨q,hq,hr⟩;obtain⟨i,hi,rfl⟩:=List.mem_map.mp hr;obtain⟨h1,h2,h3⟩:=(bD n k q).mp hq;obtain⟨h4,h5⟩:=List.mem_filter.mp hi;have h5:i ∉ q:=by simpa using h5
   refine⟨by simp[h1],?_,?_⟩
   ·rw[List.nodup_append];refine⟨h2,by simp,λa ha b hb=>?_⟩;rw[List.mem_singleton.mp hb];intro e;exact h5 (e ▸ ha)
   ·intro j hj;rcases List.mem_append.mp hj with hj|hj
    ·exact h3 j hj
    ·rw[List.mem_singleton.mp hj];exact List.mem_range.mp h4
  ·rintro⟨h1,h2,h3⟩;obtain⟨q,i,rfl⟩:∃q i,r=q++[i]:=⟨r.dropLast,r.getLast (by intro e;subst e;simp at h1),(List.dropLast_concat_getLast _).symm⟩;rw[List.nodup_append] at h2;refine⟨q,(bD n k q).mpr ⟨by simpa using h1,h2.1,λj hj=>h3 j (by simp[hj])⟩,List.mem_map.mpr ⟨i,List.mem_filter.mpr ⟨List.mem_range.mpr (h3 i (by simp)),?_⟩,rfl⟩⟩;have:i ∉ q:=λh=>h2.2.2 i h i (by simp) rfl
   simpa using this
theorem mR{n k:Nat}{r:List Nat}(h:r∈perms n k):k<=n:=by obtain⟨h1,h2,h3⟩:=(bD n k r).mp h;have hs:r ⊆ List.range n:=λi hi=>List.mem_range.mpr (h3 i hi);have:=List.Nodup.length_le_of_subset h2 hs;rw[List.length_range] at this;omega
theorem Jr{n k:Nat}(h:n<k):perms n k=[]:=by
 cases e:perms n k with
 | nil=>rfl
 | cons r l=>
  have:r∈perms n k:=by rw[e];simp
  have:=mR this;omega
def few(t:List Nat->Bool)(n:Nat):Option (List Nat):=(List.range (n+1)).findSome? λk=>(perms n k).find? t
def pick(Rs:List D)(r:List Nat):List D:=r.map λi=>Rs.getD i .non
def tells(s:D)(Rs:List D)(B:List (List Nat×List Nat))(r:List Nat):Bool:=B.all λp=>fin s (pick Rs r) p.1 == p.2
theorem rB(Rs:List D)(r q:List Nat)(h:∀i∈q,i<r.length):pick (pick Rs r) q=pick Rs (q.map λi=>r.getD i 0):=by unfold pick;rw[List.map_map];apply List.map_congr_left;intro i hi;have:=h i hi;simp[this]
theorem uZ{n:Nat}{r q:List Nat}(hr:r∈perms n r.length)(hq:q∈perms r.length q.length):(q.map λi=>r.getD i 0)∈perms n q.length:=by
 obtain⟨_,r2,r3⟩:=(bD _ _ _).mp hr;obtain⟨_,q2,q3⟩:=(bD _ _ _).mp hq;refine(bD _ _ _).mpr ⟨by simp,?_,?_⟩
 ·unfold List.Nodup;rw[List.pairwise_map];refine List.Pairwise.imp_of_mem ?_ q2;intro a b ha hb hab e;have h1:=q3 a ha;have h2:=q3 b hb;rw[List.getD_eq_getElem?_getD,List.getD_eq_getElem?_getD,List.getElem?_eq_getElem h1,List.getElem?_eq_getElem h2] at e;exact hab ((List.getElem_inj r2).mp e)
 ·intro i hi;obtain⟨j,hj,rfl⟩:=List.mem_map.mp hi;have h1:=q3 j hj;rw[List.getD_eq_getElem?_getD,List.getElem?_eq_getElem h1];exact r3 _ (List.getElem_mem h1)
theorem jO(k:Nat):List.range k∈perms k k:=(bD _ _ _).mpr ⟨by simp,List.nodup_range,λi hi=>List.mem_range.mp hi⟩
end oG
section
open Ev PySem L2
local macro_rules | `(tactic| ac_rfl) => `(tactic| simp (maxSteps := 2000000) (disch := (first | ((try simp only [List.length_cons, List.length_nil, List.length_append, List.length_map, List.length_range, sizeLine, Nat.reducePow]) <;> omega) | fail)) only [↓sNx, ↓sRt, ↓bR, ↓bO, ↓lR, ↓lO, ↓iT, ↓iF, ↓rS, ↓bB, ↓oS, ↓nS, ↓obS, ↓kNx, ↓vS, ↓wS, ↓lS, ↓eS, ↓pS, ↓cS, ↓aef, ↓aeo, U0, zR, zO, Xc, Xm, lS, U7, U5, W7, Lp, W8, W6, G7, aeO, aeP, abT, abZ, WY, sNx, sRt, sBk, sCt, Zr, ack, iT, iF, bR, bO, lR, lO, U3, U6, Kw, Qf, Qe, ae8, Xl, Tf, Xq, acf, Tg, Xb, ach, Th, rS, Xr, aci, Xj, ae9, bB, Ti, Xi, Tc, acn, oS, Xo, Ot, obS, ae6, nS, Xk, acg, Xe, Xd, Xh, Te, U4, Su, agN, Sv, gB, WT, acj, Xg, aeB, aeC, aez, aeA, eS, wk, acd, vS, kNx, kRt, kBk, kCt, ad8, ad7, wS, S9, ZC, dRt, dNx, envOf, Bs, aeV, aeU, at0, at1, at2, at3, aca, ab4, ab3, ab5, ab6, Sx, Sw, W0, W4, W3, aeZ, aeQ, ae0, YH, ab7, aeT, aeS, aeX, aeY, aeR, abS, aeW, gt0, gtS, st0, stS, cdT, cdF, Option.map_some, Option.bind_some, List.map_cons, List.map_nil, List.replicate_succ, List.replicate_zero, Nat.reduceAdd, Nat.reduceSub, List.length_cons, List.length_nil, List.cons_append, List.nil_append, Bool.not_true, Bool.not_false, nc0, nc1, nc2, nc3, nc4, nc5, nc6, nc7, nc8, Int.reduceBEq, Nat.reduceBEq, Int.reduceLE, Int.reduceLT, Nat.reduceLeDiff, Nat.reduceLT, Int.reduceAdd, Int.reduceSub, decide_true, decide_false, beq_self_eq_true, Vh, uY, agq, agr, ZD, nRt, IK, pS, cS, aef, aeo, Qg, abW, abV, abX, abY, Xf, abo, Oq, aaS, Ol, ab1, adP, adQ, Ul, Wy, Wx, abF, abE, aew, agl, Ww, RX, RW, Wv, abD, RV, Wu, abB, Wt, abz, abx, aeu, RQ, Ws, abw, abu, abt, abr, abp, aet, Wq, Wo, Wn, abm, JR, abk, abi, abh, abf, abd, aer, Wm, Wl, abb, aep, aa8, aa6, aa4, aen, aa3, Wk, Wj, aa2, aa0, aek, agi, aej, Wi, aaZ, aaX, aaV, aeg, aaU, aed, aaT, aeb, *] <;> try rfl)
namespace oG
open Ev PySem L2
open wH (cF fin jU)
open sO (XS sides)
theorem Ds:ou=wH.ou:=rfl
theorem Gw:jc=wH.jc:=rfl
abbrev rows(l:List (List Nat)):List D:=l.map aR
theorem rC(n:Nat)(hn:n<=5):∀k,(perms n k).length<=5^k
 | 0=>by simp[perms]
 | k+1=>by
  unfold perms;rw[List.length_flatMap];have ih:=rC n hn k;have:∀l:List (List Nat),(l.map λr=>(((List.range n).filter λi=>!decide (i∈r)).map λi=>r++[i]).length).sum<=5*l.length:=by
   intro l
   induction l with
   | nil=>simp
   | cons r l ih=>
    rw[List.map_cons,List.sum_cons,List.length_cons];have:(((List.range n).filter λi=>!decide (i∈r)).map λi=>r++[i]).length<=5:=by rw[List.length_map];refine Nat.le_trans (List.length_filter_le _ _) ?_;rw[List.length_range];exact hn
    omega
  have:=this (perms n k);rw[Nat.pow_succ];omega
theorem tV(n k:Nat)(hn:n<=5):(perms n k).length<=3125:=by
 by_cases h:k<=5
 ·exact Nat.le_trans (rC n hn k) (Nat.le_trans (Nat.pow_le_pow_right (by decide) h) (by decide))
 ·rw[Jr (by omega)];simp
theorem KD(r:List Nat)(i:Nat)(hr:r.length<=100):bJ (aR r) (.tup [.int (i:Int)])=some (aR (r++[i])):=by unfold aR;rw[List.map_append];exact Lp (Nat.le_trans (by rw[List.length_map];show r.length+1<=101;omega) (by decide))
theorem T4(n k:Nat)(hn:n<=5)(v:Option (Bool×D))(o:Bool):∃w1 w2,fD [(some (false,.int (n:Int))),(some (o,.lst (rows (perms n k)))),v] = .ok (.lst (rows (perms n (k+1)))) [(some (false,.int (n:Int))),(some (false,.lst (rows (perms n k)))),v]/\w1=w2/\w2=v:=by
 refine⟨v,v,?_,rfl,rfl⟩;unfold fD;have e:rows (perms n (k+1))=(perms n k).flatMap λr=>((List.range n).filter λi=>!decide (i∈r)).map λi=>aR (r++[i]):=by
  show((perms n k).flatMap λr=>((List.range n).filter λi=>!decide (i∈r)).map λi=>r++[i]).map aR=_;rw[List.map_flatMap]
  congr 1
  funext r
  rw[List.map_map]
  rfl
 rw[e];have hz:((perms n k).flatMap λr=>((List.range n).filter λi=>!decide (i∈r)).map λi=>aR (r++[i])).length<=sizeLine:=by rw[<-e,List.length_map];exact Nat.le_trans (tV n (k+1) hn) (by decide)
 refine Xn (aD:=[(some (false,.int (n:Int))),(some (false,.lst (rows (perms n k)))),v]) 1 1 (perms n k) aR (λr=>[(some (false,aR r))]) (λ_=>List.range n) (λ_ (i:Nat)=>.int (i:Int)) (λ_ (i:Nat)=>[(some (false,.int (i:Int)))]) (λr i=>!decide (i∈r)) (λr i=>aR (r++[i])) ?_ rfl rfl (λr hr=>⟨rfl,λu v hu hv=>?_,λv hv=>?_,λi hi=>⟨rfl,λv hv=>?_,?_,λ_=>?_⟩⟩) hz
 ·cases o<;>rfl
 ·match u,hu with
  | [_],_=>rfl
 ·match v,hv with
  | [_],_=>
   have:=CQ (n:=n) (by omega)
   ac_rfl
 ·match v,hv with
  | [_],_=>rfl
 ·have:=wU i r;have er:aR r = .tup (r.map λ(k:Nat)=>D.int (k:Int)):=rfl;rw[er]
  ac_rfl
 ·have hl:=((bD n k r).mp hr).1;have hk:=mR hr;have:=KD r i (by omega);generalize aR r=R at *;generalize aR (r++[i])=R2 at *;clear hr hl hk hz e
  ac_rfl
theorem all_orderings(n:Nat)(hn:n<=5):fU [.int (n:Int)]=some (.lst (rows (perms n n))):=by
 have go:∀(m k:Nat) (o:Bool) (v:Option (Bool×D)),∃o' v',jb (ak 2) cW ((List.range' k m).map λ(i:Nat)=>D.int (i:Int)) [(some (false,.int (n:Int))),(some (o,.lst (rows (perms n k)))),v] = .nx [(some (false,.int (n:Int))),(some (o',.lst (rows (perms n (k+m))))),v']:=by
  intro m
  induction m with
  | zero=>intro k o v;exact⟨o,v,rfl⟩
  | succ m ih=>
   intro k o v;obtain⟨_,_,h,_⟩:=T4 n k hn (some (false,.int (k:Int))) o;obtain⟨o',v',ih⟩:=ih (k+1) true (some (false,.int (k:Int)));refine⟨o',v',?_⟩;rw[List.range'_succ,List.map_cons,wk];have hb:cW [(some (false,.int (n:Int))),(some (o,.lst (rows (perms n k)))),(some (false,.int (k:Int)))] = .nx [(some (false,.int (n:Int))),(some (true,.lst (rows (perms n (k+1))))),(some (false,.int (k:Int)))]:=by
    unfold cW;rw[Kw,h,bO]
    rfl
   show p8 (cW [(some (false,.int (n:Int))),(some (o,.lst (rows (perms n k)))),(some (false,.int (k:Int)))]) _=_;rw[hb,kNx,ih,show k+1+m=k+(m+1) by omega]
 obtain⟨o',v',h⟩:=go n 0 false none;rw[Nat.zero_add,<-List.range_eq_range'] at h;have hr:=CQ (n:=n) (by omega);have e0:rows (perms n 0)=[.tup []]:=rfl;rw[e0] at h;unfold fU jH;generalize rows (perms n n)=RR at *;cases o'<;>ac_rfl
theorem xK{Rs:List D}{i:Nat}(h:i<Rs.length):bU (.tup Rs) (.int (i:Int))=some (Rs.getD i .non):=by
 rw[Bs,atN,List.getD_eq_getElem?_getD,List.getElem?_eq_getElem h]
 rfl
theorem laid(s:D)(Rs:List D)(r:List Nat)(h:∀i∈r,i<Rs.length)(hr:r.length<=100):wA [.tup [s,.tup Rs],aR r]=some (.tup [s,.tup (pick Rs r)]):=by
 have hl:oZ [(some (false,.tup [s,.tup Rs])),(some (false,aR r)),(some (false,s)),(some (false,.tup Rs))] = .ok (.lst (pick Rs r)) [(some (false,.tup [s,.tup Rs])),(some (false,aR r)),(some (false,s)),(some (false,.tup Rs))]:=by
  unfold oZ pick;refine ud r (λ(i:Nat)=>.int (i:Int)) _ (by rfl) rfl rfl (λi hi=>?_) (Nat.le_trans hr (by decide));have:=xK (h i hi);generalize Rs.getD i .non=Z at *;generalize aR r=Q;clear hi h;rw[Bs] at this
  ac_rfl
 unfold wA Eg;generalize aR r=Q at *;generalize pick Rs r=Z at *;clear h
 ac_rfl
theorem Gy(s:D)(Rs:List D)(r:List Nat)(h:∀i∈r,i<Rs.length)(hr:r.length<=100):ig [.tup [s,.tup Rs],aR r]=some (.tup [s,.tup (pick Rs r)]):=by
 have hl:jC [(some (false,.tup [s,.tup Rs])),(some (false,aR r))] = .ok (.lst (pick Rs r)) [(some (false,.tup [s,.tup Rs])),(some (false,aR r))]:=by
  unfold jC pick;refine ud r (λ(i:Nat)=>.int (i:Int)) _ (by rfl) rfl rfl (λi hi=>?_) (Nat.le_trans hr (by decide));have:=xK (h i hi);generalize Rs.getD i .non=Z at *;generalize aR r=Q;clear hi h;rw[Bs] at this
  ac_rfl
 unfold ig pQ;generalize aR r=Q at *;generalize pick Rs r=Z at *;clear h
 ac_rfl
abbrev Pr:=List Nat×List Nat
def encP(p:Pr):D:=.tup [.str p.1,.str p.2]
def bk(B:List Pr):D:=.tup (B.map encP)
structure Bk(x:List Nat)(B:List Pr):Prop where
 few:B.length<=10
 pZ:∀p∈B,(∀c∈p.1,c∈x)/\p.1.length<=7/\p.2.length<=100
theorem Lk(l:List D):rJ (.lst l) (.lst [])=some (.bl (!l.isEmpty)):=by cases l<;>rfl
structure Ok(x:List Nat)(s:D)(Rs:List D):Prop where
 hx:x∈XS
 hs:s∈sides
 hR:∀R∈Rs,jU x R
 h4:Rs.length<=5
theorem Ok.pick{x:List Nat}{s:D}{Rs:List D}(h:Ok x s Rs){r:List Nat}(hr:∀i∈r,i<Rs.length)(hl:r.length<=5):Ok x s (pick Rs r):=by refine⟨h.hx,h.hs,λR hR=>?_,by unfold oG.pick;rw[List.length_map];exact hl⟩;unfold oG.pick at hR;obtain⟨i,hi,rfl⟩:=List.mem_map.mp hR;have:=hr i hi;rw[List.getD_eq_getElem?_getD,List.getElem?_eq_getElem this];exact h.hR _ (List.getElem_mem this)
theorem Ok.bound{x:List Nat}{s:D}{Rs:List D}(h:Ok x s Rs){w:List Nat}(hw:w.length<=7):(w.length+1)*2^Rs.length<=301:=by have:2^Rs.length<=32:=Nat.le_trans (Nat.pow_le_pow_right (by decide) h.h4) (by decide);exact Nat.le_trans (Nat.mul_le_mul (show w.length+1<=8 by omega) this) (by decide)
section
variable{x:List Nat}{s:D}{Rs:List D}(h:Ok x s Rs){w:List Nat}(hw:∀c∈w,c∈x)(hl:w.length<=7)
include h hw hl
theorem made:ou [.tup [s,.tup Rs],.str w]=some (.str (fin s Rs w)):=by rw[Ds];exact wH.made h.hx h.hs h.hR (by have:=h.h4;omega) hw (h.bound hl)
theorem Gx:gw [.tup [s,.tup Rs],.str w]=some (.str (fin s Rs w)):=by
 have h1:=wH.Rv h.hx h.hs h.hR (by have:=h.h4;omega) hw (h.bound hl);rw[<-Gw] at h1;have h2:=wH.Gz (s:=s) Rs w;unfold gw pP;rw[Bs] at h2;generalize wH.pZ s w Rs=W at *;generalize fin s Rs w=Z at *;clear h hw hl
 ac_rfl
theorem DN:(∀c∈fin s Rs w,c∈x)/\(fin s Rs w).length<=300:=wH.DP h.hx h.hs Rs w h.hR hw (h.bound hl)
end
def fJ(t:List Bool):D:=.lst (t.map .bl)
def tell(s:D)(Rs:List D)(B:List Pr):List Bool:=B.map λp=>fin s Rs p.1 == p.2
theorem pairs_told{x:List Nat}{s:D}{Rs:List D}(h:Ok x s Rs){B:List Pr}(hB:Bk x B):jm [.tup [s,.tup Rs],bk B]=some (fJ (tell s Rs B)):=by
 generalize hO:D.tup [s,.tup Rs]=O;have hl:iu [(some (false,O)),(some (false,bk B))] = .ok (fJ (tell s Rs B)) [(some (false,O)),(some (false,bk B))]:=by
  unfold iu fJ tell;rw[List.map_map];have:=zm (lo:=2) (n:=4) (it:=d8 (aq 1)) (g:=eE 2 (aW (ak 2) (aW (ak 3) (fG)))) (c:=cu) (e:=aH lV (az ou (aa (aq 0) (aa (aq 2) (ao)))) (aV 3)) (env:=[(some (false,O)),(some (false,bk B))]) B encP (λp=>[(some (false,.str p.1)),(some (false,.str p.2))]) (λ_=>true) (λp=>.bl (fin s Rs p.1 == p.2)) (by rfl) rfl (λp hp=>by
   refine⟨rfl,λvs hv=>?_,rfl,λ_=>?_⟩
   ·match vs,hv with
    | [_,_],_=>rfl
   ·obtain⟨w1,w2,w3⟩:=hB.pZ p hp;have hm:=made h w1 w2;rw[hO] at hm;clear hO hp h
    ac_rfl) (Nat.le_trans hB.few (by decide))
  rw[List.filter_eq_self.mpr (λ_ _=>rfl)] at this;exact this
 unfold jm mz;generalize bk B=BB at *;generalize fJ (tell s Rs B)=TT at *;clear h hB
 ac_rfl
def xC(T:List (List Bool))(ns:List Nat):Bool:=!T.any λt=>ns.all λi=>t.getD i false
def bF(ns:List Nat):List D:=ns.map λ(k:Nat)=>D.int (k:Int)
theorem is_quarrel(T:List (List Bool))(ns:List Nat)(h:∀t∈T,∀i∈ns,i<t.length)(hT:T.length<=1000)(hn:ns.length<=1000):jo [.lst (T.map fJ),.lst (bF ns)]=some (.bl (xC T ns)):=by
 have h2:iw [(some (false,.lst (T.map fJ))),(some (false,.lst (bF ns)))] = .ok (.lst (T.map λt=>.bl (ns.all λi=>t.getD i false))) [(some (false,.lst (T.map fJ))),(some (false,.lst (bF ns)))]:=by
  unfold iw;refine ud T fJ _ (by rfl) rfl rfl (λt ht=>?_) (Nat.le_trans hT (by decide));have h1:iy [(some (false,.lst (T.map fJ))),(some (false,.lst (bF ns))),(some (false,fJ t))] = .ok (.lst (ns.map λi=>.bl (t.getD i false))) [(some (false,.lst (T.map fJ))),(some (false,.lst (bF ns))),(some (false,fJ t))]:=by
   unfold iy;refine ud ns (λ(i:Nat)=>.int (i:Int)) _ (by rfl) rfl rfl (λi hi=>?_) (Nat.le_trans hn (by decide));have hi:=h t ht i hi;have g:oA (t.map D.bl) (i:Int)=some (.bl (t.getD i false)):=by
    rw[atN,List.getElem?_map,List.getD_eq_getElem?_getD,List.getElem?_eq_getElem hi]
    rfl
   have e:fJ t = .lst (t.map .bl):=rfl;rw[e];generalize T.map fJ=TE;generalize bF ns=NS;generalize t.getD i false=b at *;generalize t.map D.bl=tb at *;clear h ht e
   ac_rfl
  have g2:=SJ (λi=>t.getD i false) ns;generalize List.map (λi=>D.bl (t.getD i false)) ns=L1 at *;generalize(ns.all λi=>t.getD i false)=b at *;generalize fJ t=te at *;generalize T.map fJ=TE at *;generalize bF ns=NS at *;clear h ht
  ac_rfl
 have g3:=YJ (λt:List Bool=>ns.all λi=>t.getD i false) T;unfold jo mD xC;generalize List.map (λt=>D.bl (ns.all λi=>t.getD i false)) T=L1 at *;generalize(T.any λt=>ns.all λi=>t.getD i false)=b at *;generalize T.map fJ=TE at *;generalize bF ns=NS at *;clear h hT
 ac_rfl
def jz(T:List (List Bool))(ns:List Nat)(i:Nat):List Nat:=if xC T (ns.filter λj=>!decide (j=i))=true then ns.filter λj=>!decide (j=i) else ns
theorem M8(T:List (List Bool))(ns:List Nat)(i:Nat):∀j∈jz T ns i,j∈ns:=by
 intro j hj;unfold jz at hj;split at hj
 ·exact(List.mem_filter.mp hj).1
 ·exact hj
theorem M9(T:List (List Bool))(ns:List Nat)(i:Nat):(jz T ns i).length<=ns.length:=by
 unfold jz;split
 ·exact List.length_filter_le _ _
 ·exact Nat.le_refl _
def qC(T:List (List Bool))(m:Nat):List Nat:=(List.range m).foldl (jz T) (List.range m)
theorem quarrel(T:List (List Bool))(m:Nat)(h:∀t∈T,t.length=m)(hT:T.length<=1000)(hm:m<=100):kW [.lst (T.map fJ),.int (m:Int)]=some (.tup (bF (qC T m))):=by
 have go:∀(is:List Nat) (ns:List Nat) (v3 v4:Option (Bool×D)),ns.length<=100->(∀j∈ns,j<m)->∃v3' v4',jb (ak 3) gW (is.map λ(i:Nat)=>D.int (i:Int)) [(some (false,.lst (T.map fJ))),(some (false,.int (m:Int))),(some (false,.lst (bF ns))),v3,v4] = .nx [(some (false,.lst (T.map fJ))),(some (false,.int (m:Int))),(some (false,.lst (bF (is.foldl (jz T) ns)))),v3',v4']:=by
  intro is
  induction is with
  | nil=>intro ns v3 v4 _ _;exact⟨v3,v4,rfl⟩
  | cons i is ih=>
   intro ns v3 v4 hl hj;have c1:j0 [(some (false,.lst (T.map fJ))),(some (false,.int (m:Int))),(some (false,.lst (bF ns))),(some (false,.int (i:Int))),v4] = .ok (.lst (bF (ns.filter λj=>!decide (j=i)))) [(some (false,.lst (T.map fJ))),(some (false,.int (m:Int))),(some (false,.lst (bF ns))),(some (false,.int (i:Int))),v4]:=by
    unfold j0;refine DR ns (λ(j:Nat)=>.int (j:Int)) (λj=>!decide (j=i)) (λ(j:Nat)=>.int (j:Int)) (by rfl) rfl rfl (λj _=>?_) (λj _ _=>by rfl) (Nat.le_trans hl (by decide));have e:((j:Int) == (i:Int))=decide (j=i):=by rw[Bool.eq_iff_iff];simp only[beq_iff_eq,decide_eq_true_eq];omega
    generalize T.map fJ=TE;generalize bF ns=NS;clear ih hj h
    ac_rfl
   have q:=is_quarrel T (ns.filter λj=>!decide (j=i)) (λt ht j hj2=>by rw[h t ht];exact hj j (List.mem_filter.mp hj2).1) hT (Nat.le_trans (List.length_filter_le _ _) (by omega));have hb:∃w4,gW [(some (false,.lst (T.map fJ))),(some (false,.int (m:Int))),(some (false,.lst (bF ns))),(some (false,.int (i:Int))),v4] = .nx [(some (false,.lst (T.map fJ))),(some (false,.int (m:Int))),(some (false,.lst (bF (jz T ns i)))),(some (false,.int (i:Int))),w4]:=by
    refine⟨(some (false,.lst (bF (ns.filter λj=>!decide (j=i))))),?_⟩;unfold gW jz;generalize(ns.filter λj=>!decide (j=i))=OT at *;generalize xC T OT=b at *;generalize T.map fJ=TE at *;clear ih hj h;cases b with
    | true=>
     rw[if_pos rfl];generalize bF ns=NS at *;generalize bF OT=OO at *
     ac_rfl
    | false=>
     rw[if_neg Bool.false_ne_true];generalize bF ns=NS at *;generalize bF OT=OO at *
     ac_rfl
   obtain⟨w4,hb⟩:=hb;obtain⟨v3',v4',ih⟩:=ih (jz T ns i) (some (false,.int (i:Int))) w4 (Nat.le_trans (M9 T ns i) hl) (λj hj2=>hj j (M8 T ns i j hj2));refine⟨v3',v4',?_⟩;rw[List.map_cons,wk];show p8 (gW [(some (false,.lst (T.map fJ))),(some (false,.int (m:Int))),(some (false,.lst (bF ns))),(some (false,.int (i:Int))),v4]) _=_;rw[hb,kNx,ih]
   rfl
 obtain⟨v3,v4,f1⟩:=go (List.range m) (List.range m) none none (by rw[List.length_range];exact hm) (λj hj=>List.mem_range.mp hj);have hr:=CQ (n:=m) (by omega);have hg:zf (.int (m:Int))=some (.lst (bF (List.range m))):=W5 (Nat.le_trans hm (by decide));unfold kW rN qC;generalize bF ((List.range m).foldl (jz T) (List.range m))=Z at *;generalize bF (List.range m)=Y at *;generalize T.map fJ=TE at *;clear go h
 ac_rfl
section
variable{x:List Nat}{s:D}{Rs:List D}(h:Ok x s Rs){B:List Pr}(hB:Bk x B)
def W(s:D)(Rs:List D)(B:List Pr)(r:List Nat):List D:=B.map λp=>.str (fin s (pick Rs r) p.1)
include h hB
omit h hB in
def told(s:D)(Rs:List D)(B:List Pr):D:=match (perms Rs.length Rs.length).filter (tells s Rs B) with
 | []=>.tup [.str [113,117,97,114,114,101,108],.tup (bF (qC ((perms Rs.length Rs.length).map λr=>tell s (pick Rs r) B) B.length))]
 | a::l=>.tup [.str [116,111,108,100],.tup (rows (a::l))]
theorem PL:fQ [.tup [s,.tup Rs],bk B]=some (told s Rs B):=by
 have h4:=h.h4;have ha:=all_orderings Rs.length (by omega);have hP:∀r∈perms Rs.length Rs.length,r.length=Rs.length/\∀i∈r,i<Rs.length:=λr hr=>⟨((bD _ _ _).mp hr).1,((bD _ _ _).mp hr).2.2⟩;have hz:=tV Rs.length Rs.length (by omega);have c1:jZ [(some (false,.tup [s,.tup Rs])),(some (false,bk B)),(some (false,.lst (rows (perms Rs.length Rs.length)))),none,none] = .ok (.lst ((perms Rs.length Rs.length).map λr=>fJ (tell s (pick Rs r) B))) [(some (false,.tup [s,.tup Rs])),(some (false,bk B)),(some (false,.lst (rows (perms Rs.length Rs.length)))),none,none]:=by
  unfold jZ;refine ud (perms Rs.length Rs.length) aR (λr=>fJ (tell s (pick Rs r) B)) (by rfl) rfl rfl (λr hr=>?_) (Nat.le_trans hz (by decide));obtain⟨q1,q2⟩:=hP r hr;have l1:=laid s Rs r q2 (by omega);have l2:=pairs_told (h.pick q2 (by omega)) hB;generalize fJ (tell s (pick Rs r) B)=TT at *;generalize bk B=BB at *;generalize aR r=RR at *;generalize rows (perms Rs.length Rs.length)=PP at *;generalize D.tup [s,.tup Rs]=O1 at *;generalize D.tup [s,.tup (pick Rs r)]=O2 at *;clear h hB ha hP hr q2
  ac_rfl
 have c2:jk [(some (false,.tup [s,.tup Rs])),(some (false,bk B)),(some (false,.lst (rows (perms Rs.length Rs.length)))),(some (true,.lst ((perms Rs.length Rs.length).map λr=>fJ (tell s (pick Rs r) B)))),none] = .ok (.lst (rows ((perms Rs.length Rs.length).filter (tells s Rs B)))) [(some (false,.tup [s,.tup Rs])),(some (false,bk B)),(some (false,.lst (rows (perms Rs.length Rs.length)))),(some (false,.lst ((perms Rs.length Rs.length).map λr=>fJ (tell s (pick Rs r) B)))),none]:=by
  unfold jk;refine zm (aD:=[(some (false,.tup [s,.tup Rs])),(some (false,bk B)),(some (false,.lst (rows (perms Rs.length Rs.length)))),(some (false,.lst ((perms Rs.length Rs.length).map λr=>fJ (tell s (pick Rs r) B)))),none]) (perms Rs.length Rs.length) (λr=>.tup [aR r,fJ (tell s (pick Rs r) B)]) (λr=>[(some (false,aR r)),(some (false,fJ (tell s (pick Rs r) B)))]) (tells s Rs B) aR ?_ rfl (λr hr=>?_) (Nat.le_trans hz (by decide))
  ·have ez:Es (rows (perms Rs.length Rs.length)) ((perms Rs.length Rs.length).map λr=>fJ (tell s (pick Rs r) B))=(perms Rs.length Rs.length).map λr=>D.tup [aR r,fJ (tell s (pick Rs r) B)]:=by
    unfold Es;generalize perms Rs.length Rs.length=P;clear h hB ha hP hz h4
    induction P with
    | nil=>rfl
    | cons a P ih=>exact congrArg (List.cons (D.tup [aR a,fJ (tell s (pick Rs a) B)])) ih
   rw[<-ez];generalize rows (perms Rs.length Rs.length)=P1;generalize(perms Rs.length Rs.length).map (λr=>fJ (tell s (pick Rs r) B))=P2
   rfl
  ·refine⟨rfl,λvs hv=>?_,?_,λ_=>?_⟩
   ·match vs,hv with
    | [_,_],_=>rfl
   ·have g:xE [fJ (tell s (pick Rs r) B)]=some (.bl (tells s Rs B r)):=by
     have:=SJ id (tell s (pick Rs r) B);have e:tells s Rs B r=(tell s (pick Rs r) B).all id:=by unfold tells tell;rw[List.all_map];rfl
     rw[e];exact this
    generalize fJ (tell s (pick Rs r) B)=TT at *;generalize bk B=BB at *;generalize aR r=RR at *;generalize rows (perms Rs.length Rs.length)=PP at *;generalize D.tup [s,.tup Rs]=O1 at *;generalize(perms Rs.length Rs.length).map (λr=>fJ (tell s (pick Rs r) B))=P2;generalize tells s Rs B r=b at *;clear h hB ha hP hr c1
    ac_rfl
   ·generalize fJ (tell s (pick Rs r) B)=TT at *;generalize rows (perms Rs.length Rs.length)=PP at *;generalize(perms Rs.length Rs.length).map (λr=>fJ (tell s (pick Rs r) B))=P2
    rfl
 have hq:=quarrel ((perms Rs.length Rs.length).map λr=>tell s (pick Rs r) B) B.length (λt ht=>by
  obtain⟨r,_,rfl⟩:=List.mem_map.mp ht;unfold tell;rw[List.length_map]) (by rw[List.length_map];exact Nat.le_trans ((by decide +kernel:∀n,n<=5->(perms n n).length<=200) _ h4) (by decide)) (by have:=hB.few;omega)
 rw[List.map_map] at hq;have eb:f9 [bk B]=some (.int (B.length:Int)):=by show some (D.int ((B.map encP).length:Int))=_;rw[List.length_map]
 have hn:=Lk (rows ((perms Rs.length Rs.length).filter (tells s Rs B)));unfold fQ rM told
 change kW [D.lst ((perms Rs.length Rs.length).map (λr=>fJ (tell s (pick Rs r) B))),_]=_ at hq
 generalize(perms Rs.length Rs.length).filter (tells s Rs B)=TA at *;generalize bk B=BB at *;generalize rows (perms Rs.length Rs.length)=PP at *;generalize qC ((perms Rs.length Rs.length).map λr=>tell s (pick Rs r) B) B.length=QQ at *;generalize(perms Rs.length Rs.length).map (λr=>fJ (tell s (pick Rs r) B))=P2 at *;clear h hB hP;cases TA with
 | nil=>
  show _=some (D.tup [.str [113,117,97,114,114,101,108],.tup (bF QQ)])
  replace hn:rJ (.lst []) (.lst [])=some (.bl false):=hn
  replace c2:jk _=R.ok (.lst []) _:=c2
  generalize bF QQ=NN at *
  ac_rfl
 | cons a l=>
  show _=some (D.tup [.str [116,111,108,100],.tup (rows (a::l))])
  replace hn:rJ (.lst (rows (a::l))) (.lst [])=some (.bl true):=hn
  generalize rows (a::l)=RL at *
  ac_rfl
end
theorem UL:aG=lZ.aG:=rfl
theorem uK:du=lZ.du:=rfl
theorem Ux:gZ=Mm.gZ:=rfl
theorem yh:eV=lZ.eV:=rfl
theorem vJ:dM=lZ.dM:=rfl
theorem yS:eY=X6.eY:=rfl
theorem drw(n:Int)(m:Nat)(h0:0<m)(h1:m<=200):∃(d:Nat) (n':Int),d<m/\aG [.lst [.int n],.int (m:Int)]=some (.int (d:Int),.lst [.int n']):=by have e1:=Int.emod_nonneg n (show(m:Int)≠0 by omega);have e2:=Int.emod_lt_of_pos n (show(0:Int)<(m:Int) by omega);refine⟨(n % (m:Int)).toNat,n / (m:Int),by omega,?_⟩;rw[UL,lZ.kZ n m h0 (by omega),Int.toNat_of_nonneg e1]
def ext(n:Nat)(r:List Nat):List D:=((List.range n).filter λi=>!decide (i∈r)).map λi=>aR (r++[i])
theorem Xa{n:Nat}(hn:n<=5)(r:List Nat):(ext n r).length<=5:=by unfold ext;rw[List.length_map];refine Nat.le_trans (List.length_filter_le _ _) ?_;rw[List.length_range];exact hn
theorem aaa(n:Nat)(hn:n<=5)(a1 a2:Option (Bool×D)):∀(l:List (List Nat)) (acc:List D) (a4:Option (Bool×D)),(∀r∈l,r.length<=100)->acc.length+5*l.length<=20000->∃b4,
  jb (ak 4) dG (l.map aR) [(some (false,.int (n:Int))),a1,a2,(some (true,.lst acc)),a4] = .nx [(some (false,.int (n:Int))),a1,a2,(some (true,.lst (acc++l.flatMap (ext n)))),b4]:=by
 intro l
 induction l with
 | nil=>intro acc a4 _ _;exact⟨a4,by rw[List.flatMap_nil,List.append_nil];rfl⟩
 | cons r l ih=>
  intro acc a4 hr hz;rw[List.length_cons] at hz;have hx:=Xa hn r;have c:∀v,fC [(some (false,.int (n:Int))),a1,a2,v,(some (false,aR r))] = .ok (.lst (ext n r)) [(some (false,.int (n:Int))),a1,a2,v,(some (false,aR r))]:=λv=>by
   unfold fC ext;have hrg:=CQ (n:=n) (by omega);refine DR (List.range n) (λ(i:Nat)=>.int (i:Int)) (λi=>!decide (i∈r)) (λi=>aR (r++[i])) ?_ rfl rfl (λi hi=>?_) (λi hi _=>?_) (by rw[List.length_range];exact Nat.le_trans hn (by decide))
   ·generalize aR r=RR;clear ih hx hr hz
    ac_rfl
   ·have:=wU i r;have er:aR r = .tup (r.map λ(k:Nat)=>D.int (k:Int)):=rfl;rw[er];clear ih hx hr hz er hrg
    ac_rfl
   ·have:=KD r i (hr r (by simp));generalize aR (r++[i])=R2 at *;generalize aR r=R1 at *;clear ih hx hr hz hrg
    ac_rfl
  obtain⟨b4,ih⟩:=ih (acc++ext n r) (some (false,aR r)) (λq hq=>hr q (by simp[hq])) (by rw[List.length_append];omega);refine⟨b4,?_⟩;have hb:dG [(some (false,.int (n:Int))),a1,a2,(some (true,.lst acc)),(some (false,aR r))] = .nx [(some (false,.int (n:Int))),a1,a2,(some (true,.lst (acc++ext n r))),(some (false,aR r))]:=by
   unfold dG;have c:=c (some (true,.lst acc));clear ih hr;generalize ext n r=EE at *;generalize aR r=RR at *;have hz2:acc.length+EE.length<=20000:=by omega
   clear hz hx
   ac_rfl
  have e1:ak 4 (aR r) [(some (false,.int (n:Int))),a1,a2,(some (true,.lst acc)),a4]=some [(some (false,.int (n:Int))),a1,a2,(some (true,.lst acc)),(some (false,aR r))]:=rfl;rw[List.map_cons,wk,e1,vS,JR,hb,kNx,ih,List.flatMap_cons,List.append_assoc]
theorem orderings(n:Nat)(hn:n<=5):cR [.int (n:Int)]=some (.lst (rows (perms n n))):=by
 have go:∀(m k:Nat) (o:Bool) (a2 a3 a4:Option (Bool×D)),∃o' b2 b3 b4,jb (ak 2) cV ((List.range' k m).map λ(i:Nat)=>D.int (i:Int)) [(some (false,.int (n:Int))),(some (o,.lst (rows (perms n k)))),a2,a3,a4] = .nx [(some (false,.int (n:Int))),(some (o',.lst (rows (perms n (k+m))))),b2,b3,b4]:=by
  intro m
  induction m with
  | zero=>intro k o a2 a3 a4;exact⟨o,a2,a3,a4,rfl⟩
  | succ m ih=>
   intro k o a2 a3 a4;have hz:=tV n k hn;obtain⟨b4,hi⟩:=aaa n hn (some (false,.lst (rows (perms n k)))) (some (false,.int (k:Int))) (perms n k) [] a4 (λr hr=>by rw[((bD _ _ _).mp hr).1];have:=mR hr;omega) (by show 0+_<=_;omega);have e:rows (perms n (k+1))=(perms n k).flatMap (ext n):=by
    show((perms n k).flatMap λr=>((List.range n).filter λi=>!decide (i∈r)).map λi=>r++[i]).map aR=_;rw[List.map_flatMap]
    congr 1
    funext r
    rw[List.map_map]
    rfl
   rw[List.nil_append,<-e] at hi;obtain⟨o',b2,b3,b4',ih⟩:=ih (k+1) false (some (false,.int (k:Int))) (some (false,.lst (rows (perms n (k+1))))) b4;refine⟨o',b2,b3,b4',?_⟩;rw[List.range'_succ,List.map_cons,wk];have hb:cV [(some (false,.int (n:Int))),(some (o,.lst (rows (perms n k)))),(some (false,.int (k:Int))),a3,a4] = .nx [(some (false,.int (n:Int))),(some (false,.lst (rows (perms n (k+1))))),(some (false,.int (k:Int))),(some (false,.lst (rows (perms n (k+1))))),b4]:=by unfold cV;have e2:rows (perms n k)=(perms n k).map aR:=rfl;rw[<-e2] at hi;generalize rows (perms n (k+1))=R2 at *;generalize rows (perms n k)=R1 at *;clear ih e e2;cases o<;>ac_rfl
   show p8 (cV [(some (false,.int (n:Int))),(some (o,.lst (rows (perms n k)))),(some (false,.int (k:Int))),a3,a4]) _=_;rw[hb,kNx,ih,show k+1+m=k+(m+1) by omega]
 obtain⟨o',b2,b3,b4,h⟩:=go n 0 false none none none;rw[Nat.zero_add,<-List.range_eq_range'] at h;have hr:=CQ (n:=n) (by omega);have e0:rows (perms n 0)=[.tup []]:=rfl;rw[e0] at h;unfold cR jG;generalize rows (perms n n)=RR at *;clear go;cases o'<;>ac_rfl
theorem Y6:∀x∈XS,0<x.length/\x.length<=100:=by
 have h:(XS.all λx=>decide (0<x.length/\x.length<=100))=true:=by decide +kernel
 intro x hx
 simpa using List.all_eq_true.mp h x hx
theorem Mh{P:List (List Nat)}{d:Nat}(h:d<P.length):∃r∈P,oA (rows P) (d:Int)=some (aR r):=by
 refine⟨P[d],List.getElem_mem h,?_⟩;rw[atN,List.getElem?_map,List.getElem?_eq_getElem h]
 rfl
theorem acI{x:List Nat}{d:Nat}(h:d<x.length):∃c∈x,oA x (d:Int)=some c:=by refine⟨x[d],List.getElem_mem h,?_⟩;rw[atN,List.getElem?_eq_getElem h]
def TX:bG:=dB (dw (au lV 8 (aQ (.int 1)))) (aK (au bU 6 (cD aG 11 (aa (az f9 (aa (aV 6) ao)) (ao)))) (ak 13)) (bK)
def TV:bG:=dB (cX (dw (au lV 8 (aQ (.int 2)))) (dw (aH lV (cD aG 11 (aa (aQ (.int 3)) (ao))) (aQ (.int 0))))) (aK (Hg (au bJ 14 (au bU 3 (cD aG 11 (aa (az f9 (aa (aV 3) ao)) (ao))))) (uV (cD aG 11 (aa (aQ (.int 2)) (ao)))) (lH)) (ak 14)) (bK)
theorem afj:eQ=aC (cT 11 (az du (aa (aq 0) (aa (aH bJ (au bJ 1 (aQ (.int 2))) (aV 10)) (ao))))) (aC (aK (cD gZ 11 (aa (aq 3) (aa (aQ (.int 7)) (ao)))) (ak 12)) (aC (aK (aq 7) (ak 13)) (aC TX (aC (aK (az gw (aa (az ig (aa (aq 2) (aa (aq 13) (ao)))) (aa (aq 12) (ao)))) (ak 14)) (aC TV (fX 9 (cI (aa (aq 12) (aa (qT (aq 14) (lH) (uV (aQ (.int 20)))) (ao)))))))))):=rfl
theorem acF{P:List (List Nat)}{f:List Nat}(hf:f∈P)(hP:P.length<=200)(kind:Nat)(n1:Int)(a0 a1 a2 a3 a4 a5 a7 a9 a10 a12 a14:Option (Bool×D)):∃r n2,r∈P/\TX [a0,a1,a2,a3,a4,a5,(some (false,.lst (rows P))),a7,(some (false,.int (kind:Int))),a9,a10,(some (true,.lst [.int n1])),a12,(some (false,aR f)),a14] = .nx [a0,a1,a2,a3,a4,a5,(some (false,.lst (rows P))),a7,(some (false,.int (kind:Int))),a9,a10,(some (true,.lst [.int n2])),a12,(some (false,aR r)),a14]:=by
 unfold TX;by_cases k1:kind=1
 ·obtain⟨d,n2,hd,t1⟩:=drw n1 P.length (List.length_pos_of_mem hf) hP;obtain⟨r,hr,gr⟩:=Mh hd;have e0:(rows P).length=P.length:=List.length_map _;rw[<-e0] at t1;refine⟨r,n2,hr,?_⟩
  replace k1:((kind:Int) == 1)=true:=by rw[beq_iff_eq];omega
  generalize aR r=RR at *;generalize aR f=R0 at *;generalize rows P=PP at *;clear hd hf hr e0 hP
  ac_rfl
 ·replace k1:((kind:Int) == 1)=false:=by rw[beq_eq_false_iff_ne];omega
  refine⟨f,n1,hf,?_⟩;generalize aR f=R0 at *;generalize rows P=PP at *;clear hf hP
  ac_rfl
theorem acE{x:List Nat}(hx:x∈XS)(kind:Nat)(n1:Int)(F:List Nat)(hF:F.length<=300)(a0 a1 a2 a4 a5 a6 a7 a9 a10 a12 a13:Option (Bool×D)):∃(G:List Nat) (n2:Int),TV [a0,a1,a2,(some (false,.str x)),a4,a5,a6,a7,(some (false,.int (kind:Int))),a9,a10,(some (true,.lst [.int n1])),a12,a13,(some (false,.str F))] = .nx [a0,a1,a2,(some (false,.str x)),a4,a5,a6,a7,(some (false,.int (kind:Int))),a9,a10,(some (true,.lst [.int n2])),a12,a13,(some (false,.str G))]:=by
 unfold TV;by_cases k2:kind=2
 ·replace k2:((kind:Int) == 2)=true:=by rw[beq_iff_eq];omega
  obtain⟨d,n2,hd,t1⟩:=drw n1 3 (by decide) (by decide)
  replace t1:aG [.lst [.int n1],.int 3]=some (.int (d:Int),.lst [.int n2]):=t1
  by_cases d0:d=0
  ·replace d0:((d:Int) == 0)=true:=by rw[beq_iff_eq];omega
   obtain⟨x1,x2⟩:=Y6 x hx;obtain⟨d1,n3,hd1,t2⟩:=drw n2 x.length x1 (by omega);obtain⟨c,hc,gc⟩:=acI hd1;obtain⟨d2,n4,hd2,t3⟩:=drw n3 2 (by decide) (by decide)
   replace t3:aG [.lst [.int n3],.int 2]=some (.int (d2:Int),.lst [.int n4]):=t3
   refine⟨cutD (F++[c]) (some (d2:Int)) none,n4,?_⟩;clear hd hd1 hd2 hc x1 hx
   ac_rfl
  ·replace d0:((d:Int) == 0)=false:=by rw[beq_eq_false_iff_ne];omega
   refine⟨F,n2,?_⟩;clear hd hx
   ac_rfl
 ·replace k2:((kind:Int) == 2)=false:=by rw[beq_eq_false_iff_ne];omega
  refine⟨F,n1,?_⟩;clear hx
  ac_rfl
section
variable(ns:List Int)(hl:ns.length<=63)(hb:Kh ns){x:List Nat}{s:D}{Rs:List D}(h:Ok x s Rs)
include hl hb h
theorem XJ(k j:Nat)(hk:k<=50)(hj:j<=50)(kind:Nat)(f:List Nat)(hf:f∈perms Rs.length Rs.length)(acc:List Pr)(ha:acc.length<=50)(a4 a5 a11 a12 a13 a14:Option (Bool×D)):∃p b11 Up b13 b14,
  eQ [(some (false,.arr (ns.map .int))),(some (false,.int (k:Int))),(some (false,.tup [s,.tup Rs])),(some (false,.str x)),a4,a5,(some (false,.lst (rows (perms Rs.length Rs.length)))),(some (false,aR f)),(some (false,.int (kind:Int))),(some (true,.lst (acc.map encP))),(some (false,.int (j:Int))),a11,a12,a13,a14]
   = .nx [(some (false,.arr (ns.map .int))),(some (false,.int (k:Int))),(some (false,.tup [s,.tup Rs])),(some (false,.str x)),a4,a5,(some (false,.lst (rows (perms Rs.length Rs.length)))),(some (false,aR f)),(some (false,.int (kind:Int))),(some (true,.lst ((acc++[p]).map encP))),(some (false,.int (j:Int))),b11,Up,b13,b14]/\((∀c∈p.1,c∈x)/\p.1.length<=7/\p.2.length<=100):=by
 obtain⟨p0,hp⟩:=lZ.pack ns hl hb ((k:Int)+2+(j:Int)) (by omega) (by omega);rw[<-uK] at hp;obtain⟨w,n1,hw,w1,w2⟩:=Mm.word p0 x h.hx 7 (by decide);rw[<-Ux] at hw
 replace hw:gZ [.lst [.int p0],.str x,.int 7]=some (.str w,.lst [.int n1]):=hw
 have h4:=h.h4;obtain⟨r,n2,hr,i1⟩:=acF hf ((by decide +kernel:∀n,n<=5->(perms n n).length<=200) _ h4) kind n1 (some (false,.arr (ns.map .int))) (some (false,.int (k:Int))) (some (false,.tup [s,.tup Rs])) (some (false,.str x)) a4 a5 (some (false,aR f)) (some (true,.lst (acc.map encP))) (some (false,.int (j:Int))) (some (false,.str w)) a14;obtain⟨q1,_,q2⟩:=(bD _ _ _).mp hr;have hO:=h.pick q2 (by omega);have m1:=Gy s Rs r q2 (by omega);have m2:=Gx hO w1 w2;obtain⟨G,n3,i2⟩:=acE h.hx kind n2 (fin s (pick Rs r) w) (DN hO w1 w2).2 (some (false,.arr (ns.map .int))) (some (false,.int (k:Int))) (some (false,.tup [s,.tup Rs])) a4 a5 (some (false,.lst (rows (perms Rs.length Rs.length)))) (some (false,aR f)) (some (true,.lst (acc.map encP))) (some (false,.int (j:Int))) (some (false,.str w)) (some (false,aR r));refine⟨(w,G.take 20),(some (true,.lst [.int n3])),(some (false,.str w)),(some (false,aR r)),(some (false,.str G)),?_,w1,w2,by rw[List.length_take];omega⟩;have e1:(acc++[(w,G.take 20)]).map encP=acc.map encP++[.tup [.str w,.str (G.take 20)]]:=by rw[List.map_append];rfl
 have hlen:(acc.map encP).length<=50:=by rw[List.length_map];exact ha
 have c20:cutD G none (some 20)=G.take 20:=Xz G 20;rw[afj,e1];generalize fin s (pick Rs r) w=FF at *;generalize G.take 20=FT at *;generalize D.tup [s,.tup (pick Rs r)]=O2 at *;generalize hO1:D.tup [s,.tup Rs]=O1 at *;generalize aR r=RR at *;generalize aR f=R0 at *;generalize rows (perms Rs.length Rs.length)=PP at *;generalize acc.map encP=AC at *;generalize ns.map D.int=NN at *;clear e1 hf hr w1 w2 ha hO1 h hb hO q2
 ac_rfl
theorem book(k:Nat)(hk:k<=50)(m:Nat)(hm:m<=9)(hm0:0<m):∃B,je [.arr (ns.map .int),.int (k:Int),.tup [s,.tup Rs],.str x,.int (m:Int)]=some (bk B)/\Bk x B/\1<=B.length/\B.length<=m:=by
 obtain⟨p,hp⟩:=lZ.pack ns hl hb (k:Int) (by omega) (by omega);rw[<-uK] at hp;have h4:=h.h4;have ho:=orderings Rs.length (by omega);obtain⟨d,n1,hd,t1⟩:=drw p (perms Rs.length Rs.length).length (List.length_pos_of_mem (jO Rs.length)) (by
  have:∀n,n<=5->(perms n n).length<=200:=by decide +kernel
  exact this _ h4)
 obtain⟨f,hf,gf⟩:=Mh hd;have e0:(rows (perms Rs.length Rs.length)).length=(perms Rs.length Rs.length).length:=List.length_map _;rw[<-e0] at t1;obtain⟨kd,n2,_,t2⟩:=drw n1 4 (by decide) (by decide);obtain⟨q,n3,hq,t3⟩:=drw n2 m hm0 (by omega);have hr:=CQ (n:=1+q) (by omega);have go:∀(is:List Nat) (acc:List Pr) (a10 a11 a12 a13 a14:Option (Bool×D)),(∀i∈is,i<=50)->acc.length+is.length<=10->(∀p∈acc,(∀c∈p.1,c∈x)/\p.1.length<=7/\p.2.length<=100)->∃(acc':List Pr) (b10 b11 Up b13 b14:Option (Bool×D)),jb (ak 10) eQ (is.map λ(i:Nat)=>D.int (i:Int)) [(some (false,.arr (ns.map .int))),(some (false,.int (k:Int))),(some (false,.tup [s,.tup Rs])),(some (false,.str x)),(some (false,.int (m:Int))),(some (true,.lst [.int n3])),(some (false,.lst (rows (perms Rs.length Rs.length)))),(some (false,aR f)),(some (false,.int (kd:Int))),(some (true,.lst (acc.map encP))),a10,a11,a12,a13,a14]
   = .nx [(some (false,.arr (ns.map .int))),(some (false,.int (k:Int))),(some (false,.tup [s,.tup Rs])),(some (false,.str x)),(some (false,.int (m:Int))),(some (true,.lst [.int n3])),(some (false,.lst (rows (perms Rs.length Rs.length)))),(some (false,aR f)),(some (false,.int (kd:Int))),(some (true,.lst (acc'.map encP))),b10,b11,Up,b13,b14]/\acc'.length=acc.length+is.length/\(∀p∈acc',(∀c∈p.1,c∈x)/\p.1.length<=7/\p.2.length<=100):=by
  intro is
  induction is with
  | nil=>intro acc a10 a11 a12 a13 a14 _ _ hg;exact⟨acc,a10,a11,a12,a13,a14,rfl,rfl,hg⟩
  | cons i is ih=>
   intro acc a10 a11 a12 a13 a14 hi hz hg;rw[List.length_cons] at hz;obtain⟨p,c11,c12,c13,c14,e1,g1⟩:=XJ ns hl hb h k i hk (hi i (by simp)) kd f hf acc (by omega) (some (false,.int (m:Int))) (some (true,.lst [.int n3])) a11 a12 a13 a14;obtain⟨acc',b10,b11,Up,b13,b14,e2,g2,g3⟩:=ih (acc++[p]) (some (false,.int (i:Int))) c11 c12 c13 c14 (λj hj=>hi j (by simp[hj])) (by rw[List.length_append];show acc.length+1+is.length<=10;omega) (λq hq=>by
    rcases List.mem_append.mp hq with hq|hq
    ·exact hg q hq
    ·rw[List.mem_singleton.mp hq];exact g1)
   refine⟨acc',b10,b11,Up,b13,b14,?_,?_,g3⟩
   ·have eg:ak 10 (.int (i:Int)) [(some (false,.arr (ns.map .int))),(some (false,.int (k:Int))),(some (false,.tup [s,.tup Rs])),(some (false,.str x)),(some (false,.int (m:Int))),(some (true,.lst [.int n3])),(some (false,.lst (rows (perms Rs.length Rs.length)))),(some (false,aR f)),(some (false,.int (kd:Int))),(some (true,.lst (acc.map encP))),a10,a11,a12,a13,a14]=some [(some (false,.arr (ns.map .int))),(some (false,.int (k:Int))),(some (false,.tup [s,.tup Rs])),(some (false,.str x)),(some (false,.int (m:Int))),(some (true,.lst [.int n3])),(some (false,.lst (rows (perms Rs.length Rs.length)))),(some (false,aR f)),(some (false,.int (kd:Int))),(some (true,.lst (acc.map encP))),(some (false,.int (i:Int))),a11,a12,a13,a14]:=rfl;have e1:eQ [(some (false,.arr (ns.map .int))),(some (false,.int (k:Int))),(some (false,.tup [s,.tup Rs])),(some (false,.str x)),(some (false,.int (m:Int))),(some (true,.lst [.int n3])),(some (false,.lst (rows (perms Rs.length Rs.length)))),(some (false,aR f)),(some (false,.int (kd:Int))),(some (true,.lst (acc.map encP))),(some (false,.int (i:Int))),a11,a12,a13,a14]=_:=e1;rw[List.map_cons,wk,eg,vS,JR,e1,kNx];exact e2
   ·rw[g2];simp only[List.length_append,List.length_cons,List.length_nil];omega
 obtain⟨B,b10,b11,Up,b13,b14,e1,g1,g2⟩:=go (List.range (1+q)) [] none none none none none (λi hi=>by have:=List.mem_range.mp hi;omega) (by rw[List.length_range];show 0+_<=_;omega) (λp hp=>by cases hp);rw[List.length_range] at g1;have g1:B.length=0+(1+q):=g1;refine⟨B,?_,⟨by omega,g2⟩,by omega,by omega⟩
 replace t2:aG [.lst [.int n1],.int 4]=some (.int (kd:Int),.lst [.int n2]):=t2
 unfold je pR bk;rw[List.map_nil] at e1;have ea:bJ (.int 1) (.int (q:Int))=some (.int ((1+q:Nat):Int)):=by show some (D.int (1+(q:Int)))=_;rw[Int.natCast_add];rfl
 generalize(List.range (1+q)).map (λ(i:Nat)=>D.int (i:Int))=RG at *;generalize((1+q:Nat):Int)=q1 at *;generalize aR f=R0 at *;generalize rows (perms Rs.length Rs.length)=PP at *;generalize B.map encP=AC at *;generalize ns.map D.int=NN at *;clear go g2 g1 hf hd hq h e0 hb;have il:bU (.tup [s,.tup Rs]) (.int 1)=some (.tup Rs):=rfl;have a0:=Bs
 ac_rfl
end
end oG
set_option maxHeartbeats 800000
namespace X5
open Ev PySem L2
open oG (perms bD tells pick rB uZ xC qC jz bF tell bk encP Ok Bk told rows jO)
open wH (fin)
abbrev Pq:=List Nat×List Nat
theorem aaF{q:List Nat}(hn:q.Nodup){i j:Nat}(hi:i<q.length)(hj:j<q.length)(e:q[i]=q[j]):i=j:=by
 have h:=List.pairwise_iff_getElem.mp hn;rcases Nat.lt_trichotomy i j with c|c|c
 ·exact absurd e (h i j hi hj c)
 ·exact c
 ·exact absurd e.symm (h j i hj hi c)
theorem nA{T:List (List Bool)}{A:List Nat}:xC T A=true ↔ ∀t∈T,∃i∈A,t.getD i false=false:=by
 unfold xC;rw[Bool.not_eq_true',List.any_eq_false];constructor
 ·intro h t ht;have:=h t ht;rw[Bool.not_eq_true,List.all_eq_false] at this;obtain⟨i,hi,e⟩:=this;exact⟨i,hi,by simpa using e⟩
 ·intro h t ht;rw[Bool.not_eq_true,List.all_eq_false];obtain⟨i,hi,e⟩:=h t ht;exact⟨i,hi,by simpa using e⟩
theorem Sd{T:List (List Bool)}{A B:List Nat}(h:∀i∈A,i∈B)(e:xC T A=true):xC T B=true:=
 nA.mpr λt ht=>by obtain⟨i,hi,q⟩:=nA.mp e t ht;exact⟨i,h i hi,q⟩
theorem QD(T:List (List Bool)):∀(l ns:List Nat),xC T ns=true->xC T (l.foldl (jz T) ns)=true/\(l.foldl (jz T) ns).Sublist ns/\∀i∈l,i∈l.foldl (jz T) ns->xC T ((l.foldl (jz T) ns).filter λj=>!decide (j=i))=false
 | [],ns,h=>⟨h,List.Sublist.refl _,λi hi=>by cases hi⟩
 | a::l,ns,h=>by
  rw[List.foldl_cons];by_cases c:xC T (ns.filter λj=>!decide (j=a))=true
  ·have e:jz T ns a=ns.filter λj=>!decide (j=a):=by unfold jz;rw[if_pos c]
   rw[e];obtain⟨h1,h2,h3⟩:=QD T l _ c;refine⟨h1,h2.trans List.filter_sublist,λi hi hq=>?_⟩;rcases List.mem_cons.mp hi with rfl|hi
   ·have:=List.mem_filter.mp (h2.subset hq);simp at this
   ·exact h3 i hi hq
  ·have e:jz T ns a=ns:=by unfold jz;rw[if_neg c]
   rw[e];obtain⟨h1,h2,h3⟩:=QD T l _ h;refine⟨h1,h2,λi hi hq=>?_⟩;rcases List.mem_cons.mp hi with rfl|hi
   ·rw[Bool.eq_false_iff];exact λz=>c (Sd (λj hj=>(h2.filter _).subset hj) z)
   ·exact h3 i hi hq
theorem CZ(T:List (List Bool))(m:Nat)(h:xC T (List.range m)=true):xC T (qC T m)=true/\(qC T m).Sublist (List.range m)/\∀i∈qC T m,xC T ((qC T m).filter λj=>!decide (j=i))=false:=by obtain⟨h1,h2,h3⟩:=QD T (List.range m) (List.range m) h;exact⟨h1,h2,λi hi=>h3 i (h2.subset hi) hi⟩
def sub(B:List Pq)(q:List Nat):List Pq:=q.map λi=>B.getD i ([],[])
theorem PN(s:D)(Rs:List D)(B:List Pq)(q:List Nat)(h:∀i∈q,i<B.length):tell s Rs (sub B q)=q.map λi=>(tell s Rs B).getD i false:=by unfold tell sub;rw[List.map_map];refine List.map_congr_left λi hi=>?_;have:=h i hi;simp[List.getD_eq_getElem?_getD,this]
theorem getD_map{α:Type}(q:List Nat)(f:Nat->α)(d:α){j:Nat}(h:j<q.length):(q.map f).getD j d=f (q.getD j 0):=by simp[List.getD_eq_getElem?_getD,h]
theorem Le{T:List (List Bool)}{q A:List Nat}(hA:∀i∈A,i<q.length):xC (T.map λt=>q.map λi=>t.getD i false) A=xC T (A.map λj=>q.getD j 0):=by
 rw[Bool.eq_iff_iff,nA,nA];constructor
 ·intro h t ht;obtain⟨i,hi,e⟩:=h _ (List.mem_map.mpr ⟨t,ht,rfl⟩);rw[getD_map q _ _ (hA i hi)] at e;exact⟨_,List.mem_map.mpr ⟨i,hi,rfl⟩,e⟩
 ·intro h t ht;obtain⟨u,hu,rfl⟩:=List.mem_map.mp ht;obtain⟨i,hi,e⟩:=h u hu;obtain⟨j,hj,rfl⟩:=List.mem_map.mp hi;exact⟨j,hj,by rw[getD_map q _ _ (hA j hj)];exact e⟩
section
variable(s:D)(Rs:List D)(B:List Pq)
def TL:List (List Bool):=(perms Rs.length Rs.length).map λr=>tell s (pick Rs r) B
theorem yd(r:List Nat):tells s Rs B r=(tell s (pick Rs r) B).all id:=by unfold tells tell;rw[List.all_map];rfl
theorem uL:(perms Rs.length Rs.length).filter (tells s Rs B)=[]↔xC (TL s Rs B) (List.range B.length)=true:=by
 rw[List.filter_eq_nil_iff,nA];constructor
 ·intro h t ht;obtain⟨r,hr,rfl⟩:=List.mem_map.mp ht;have:=h r hr;rw[yd,Bool.not_eq_true,List.all_eq_false] at this;obtain⟨b,hb,e⟩:=this;obtain⟨i,hi,rfl⟩:=List.mem_iff_getElem.mp hb;refine⟨i,List.mem_range.mpr (by have:=hi;unfold tell at this;rw[List.length_map] at this;exact this),?_⟩;rw[List.getD_eq_getElem?_getD,List.getElem?_eq_getElem hi]
  simpa using e
 ·intro h r hr;obtain⟨i,hi,e⟩:=h _ (List.mem_map.mpr ⟨r,hr,rfl⟩);rw[yd,Bool.not_eq_true,List.all_eq_false];have hi':i<(tell s (pick Rs r) B).length:=by unfold tell;rw[List.length_map];exact List.mem_range.mp hi
  refine⟨(tell s (pick Rs r) B)[i],List.getElem_mem hi',?_⟩;rw[List.getD_eq_getElem?_getD,List.getElem?_eq_getElem hi'] at e
  simpa using e
theorem Ig(q:List Nat)(h:∀i∈q,i<B.length):TL s Rs (sub B q)=(TL s Rs B).map λt=>q.map λi=>t.getD i false:=by unfold TL;rw[List.map_map];exact List.map_congr_left λr _=>PN s (pick Rs r) B q h
theorem oN(h:(perms Rs.length Rs.length).filter (tells s Rs B)=[]):told s Rs B = .tup [.str [113,117,97,114,114,101,108],.tup (bF (qC (TL s Rs B) B.length))]:=by
 unfold told;rw[h]
 rfl
theorem oM{a:List Nat}{l:List (List Nat)}(h:(perms Rs.length Rs.length).filter (tells s Rs B)=a::l):told s Rs B = .tup [.str [116,111,108,100],.tup (rows (a::l))]:=by unfold told;rw[h]
end
theorem Ro:∀{r q:List Nat} (i j:Nat),r.length=q.length->r<q->r++[i]<q++[j]
 | [],[],_,_,_,h=>absurd h (List.lt_irrefl _)
 | [],_::_,_,_,e,_=>by simp at e
 | _::_,[],_,_,e,_=>by simp at e
 | a::r,b::q,i,j,e,h=>by
  rw[List.cons_append,List.cons_append];rcases List.cons_lt_cons_iff.mp h with h|⟨h1,h2⟩
  ·exact List.cons_lt_cons_iff.mpr (.inl h)
  ·exact List.cons_lt_cons_iff.mpr (.inr ⟨h1,Ro i j (by simpa using e) h2⟩)
theorem K7:∀(r:List Nat) {i j:Nat},i<j->r++[i]<r++[j]
 | [],i,j,h=>List.cons_lt_cons_iff.mpr (.inl h)
 | a::r,i,j,h=>List.cons_lt_cons_iff.mpr (.inr ⟨rfl,K7 r h⟩)
theorem yN(n:Nat):∀k,(perms n k).Pairwise (·< ·)
 | 0=>List.pairwise_singleton _ _
 | k+1=>by
  unfold perms;refine List.pairwise_flatMap.mpr ⟨λr hr=>?_,?_⟩
  ·refine List.pairwise_map.mpr (List.Pairwise.imp (λh=>K7 r h) (List.Pairwise.filter _ List.pairwise_lt_range))
  ·refine List.Pairwise.imp_of_mem (λ{r q} hr hq h x hx y hy=>?_) (yN n k);obtain⟨i,_,rfl⟩:=List.mem_map.mp hx;obtain⟨j,_,rfl⟩:=List.mem_map.mp hy;exact Ro i j (by rw[((bD n k r).mp hr).1,((bD n k q).mp hq).1]) h
open oG (perms bD mR tells pick rB uZ xC qC jz bF tell bk encP Ok Bk told rows jO few)
def comp(o t:List Nat):List Nat:=t.map λi=>o.getD i 0
theorem WL{n:Nat}{o:List Nat}(h:o∈perms n n){i:Nat}(hi:i<n):i∈o:=by
 obtain⟨h1,h2,h3⟩:=(bD n n o).mp h;by_cases c:i∈o
 ·exact c
 ·have:i::o∈perms n (n+1):=(bD n (n+1) (i::o)).mpr ⟨by rw[List.length_cons,h1],List.nodup_cons.mpr ⟨c,h2⟩,λj hj=>by
   rcases List.mem_cons.mp hj with rfl|hj
   ·exact hi
   ·exact h3 j hj⟩
  have:=mR this;omega
theorem gd{q:List Nat}{j:Nat}(h:j<q.length):q.getD j 0=q[j]:=by simp[List.getD_eq_getElem?_getD,h]
theorem Tt{n:Nat}{o:List Nat}(h:o∈perms n n){t u:List Nat}(ht:∀i∈t,i<n)(hu:∀i∈u,i<n)(e:comp o t=comp o u):t=u:=by
 obtain⟨h1,h2,h3⟩:=(bD n n o).mp h;have hl:t.length=u.length:=by have:=congrArg List.length e;unfold comp at this;simpa using this
 refine List.ext_getElem hl λi a b=>?_;have e1:(comp o t)[i]? = (comp o u)[i]?:=by rw[e]
 unfold comp at e1;rw[List.getElem?_map,List.getElem?_map,List.getElem?_eq_getElem a,List.getElem?_eq_getElem b] at e1;simp only[Option.map_some,Option.some.injEq] at e1;have ha:=ht _ (List.getElem_mem a);have hb:=hu _ (List.getElem_mem b);rw[gd (by omega),gd (by omega)] at e1;exact aaF h2 _ _ e1
theorem Ox{n:Nat}{o r:List Nat}(h:o∈perms n n)(hr:r∈perms n n):∃t∈perms n n,comp o t=r:=by
 obtain⟨h1,h2,h3⟩:=(bD n n o).mp h;obtain⟨g1,g2,g3⟩:=(bD n n r).mp hr;have hm:∀i∈r,o.idxOf i<o.length/\o.getD (o.idxOf i) 0=i:=λi hi=>by
  have hi':=WL h (g3 i hi);have hl:o.idxOf i<o.length:=List.idxOf_lt_length_iff.mpr hi';exact⟨hl,by rw[gd hl];exact List.getElem_idxOf hl⟩
 have hc:comp o (r.map λi=>o.idxOf i)=r:=by
  unfold comp;rw[List.map_map]
  conv=>rhs;rw[<-List.map_id r]
  exact List.map_congr_left λi hi=>(hm i hi).2
 refine⟨r.map λi=>o.idxOf i,(bD n n _).mpr ⟨by rw[List.length_map,g1],?_,λj hj=>?_⟩,hc⟩
 ·refine List.pairwise_map.mpr (List.Pairwise.imp_of_mem (λ{a b} ha hb e=>?_) g2);intro z;apply e;rw[<-(hm a ha).2,<-(hm b hb).2,z]
 ·obtain⟨i,hi,rfl⟩:=List.mem_map.mp hj;have:=(hm i hi).1;omega
theorem yf(s:D)(Rs:List D)(B:List Pq)(o t:List Nat)(h:∀i∈t,i<o.length):tells s (pick Rs o) B t=tells s Rs B (comp o t):=by
 unfold tells;rw[rB Rs o t h]
 rfl
theorem FW(s:D)(Rs:List D)(B:List Pq){o:List Nat}(h:o∈perms Rs.length Rs.length) :
  ((perms Rs.length Rs.length).filter (tells s Rs B)).Perm (((perms Rs.length Rs.length).filter (tells s (pick Rs o) B)).map (comp o)):=by
 obtain⟨h1,h2,h3⟩:=(bD _ _ o).mp h;have nd:∀f:List Nat->Bool,((perms Rs.length Rs.length).filter f).Nodup:=λf=>(List.Pairwise.filter _ (yN _ _)).imp λ{a b} e z=>by subst z;exact List.lt_irrefl _ e
 refine(List.perm_ext_iff_of_nodup (nd _) ?_).mpr λr=>?_
 ·refine List.pairwise_map.mpr (List.Pairwise.imp_of_mem (λ{a b} ha hb e z=>e ?_) (nd _));have ha:=((bD _ _ a).mp (List.mem_filter.mp ha).1).2.2;have hb:=((bD _ _ b).mp (List.mem_filter.mp hb).1).2.2;exact Tt h ha hb z
 ·rw[List.mem_map,List.mem_filter];constructor
  ·rintro⟨hr,ht⟩;obtain⟨t,htm,rfl⟩:=Ox h hr;have:=((bD _ _ t).mp htm).2.2;exact⟨t,List.mem_filter.mpr ⟨htm,by rw[yf s Rs B o t (by rw[h1];exact this)];exact ht⟩,rfl⟩
  ·rintro⟨t,ht,rfl⟩;obtain⟨htm,ht⟩:=List.mem_filter.mp ht;have g:=(bD _ _ t).mp htm;rw[yf s Rs B o t (by rw[h1];exact g.2.2)] at ht;refine⟨?_,ht⟩;have:=uZ (n:=Rs.length) (r:=o) (q:=t) (by rw[h1];exact h) (by rw[h1,g.1];exact htm);rw[g.1] at this;exact this
theorem ye(s:D)(Rs:List D)(A B:List Pq)(h:∀p,p∈A↔p∈B)(P:List (List Nat)):P.filter (tells s Rs A)=P.filter (tells s Rs B):=by refine List.filter_congr λr _=>?_;unfold tells;rw[Bool.eq_iff_iff,List.all_eq_true,List.all_eq_true];exact⟨λz p hp=>z p ((h p).mpr hp),λz p hp=>z p ((h p).mp hp)⟩
end X5
namespace jE
open Ev PySem L2
open oG (perms bD mR tells pick xC qC bF tell bk encP Ok Bk told rows jO rC)
open X5 (TL sub Ig uL CZ nA oN oM)
open wH (fin)
theorem UJ:fQ=oG.fQ:=rfl
theorem XH:je=oG.je:=rfl
theorem V3:cR=oG.cR:=rfl
theorem Wh:ig=oG.ig:=rfl
theorem Ds:gw=oG.gw:=rfl
theorem uK:du=oG.du:=rfl
theorem yh:eV=oG.eV:=rfl
theorem vJ:dM=oG.dM:=rfl
theorem yS:eY=oG.eY:=rfl
theorem S5{g:GV}{b:bG}{d:D}{ds:List D}{env e1 e2:Ev.Env}(h1:g d env=some e1)(h2:b e1 = .nx e2):jb g b (d::ds) env=jb g b ds e2:=by rw[jb];simp only[h1,h2]
section
variable{x:List Nat}{s:D}{Rs:List D}(h:Ok x s Rs){B:List (List Nat×List Nat)}(hB:Bk x B){BV:D}(hv:WK BV=some (B.map encP))
include h hB hv
theorem PQ{r:List Nat}(hr:∀i∈r,i<Rs.length)(hl:r.length<=5)(A0 A2 A3:Option (Bool×D)) :
  az xE (aa (oY) ao) [A0,(some (false,BV)),A2,A3,(some (false,.tup [s,.tup (pick Rs r)]))] = .ok (.bl (tells s Rs B r)) [A0,(some (false,BV)),A2,A3,(some (false,.tup [s,.tup (pick Rs r)]))]:=by
 have hp:=h.pick hr hl;refine bw (ds:=[.lst (B.map λp=>.bl (fin s (pick Rs r) p.1 == p.2))]) (aX ?_ cB) (SJ (λp:List Nat×List Nat=>fin s (pick Rs r) p.1 == p.2) B);generalize hO:D.tup [s,.tup (pick Rs r)]=O;have:=zm (lo:=5) (n:=7) (it:=d8 (aq 1)) (g:=eE 2 (aW (ak 5) (aW (ak 6) (fG)))) (c:=cu) (e:=aH lV (az gw (aa (aq 4) (aa (aq 5) (ao)))) (aV 6)) (env:=[A0,(some (false,BV)),A2,A3,(some (false,O))]) B encP (λp=>[(some (false,.str p.1)),(some (false,.str p.2))]) (λ_=>true) (λp=>.bl (fin s (pick Rs r) p.1 == p.2)) (xP (d:=BV) (by rfl) hv) rfl (λp hp'=>by
  refine⟨rfl,λvs hv=>?_,rfl,λ_=>?_⟩
  ·match vs,hv with
   | [_,_],_=>rfl
  ·obtain⟨w1,w2,w3⟩:=hB.pZ p hp';have hm:=oG.Gx hp w1 w2;rw[hO,<-Ds] at hm;clear hO hp' h hp hv hB
   ac_rfl) (Nat.le_trans hB.few (by decide))
 rw[List.filter_eq_self.mpr (λ_ _=>rfl)] at this;exact this
theorem Ks(hm:Rs.length<=5):∀(P acc:List (List Nat)) (a3 a4:Option (Bool×D)),(∀r∈P,(∀i∈r,i<Rs.length)/\r.length<=5)->acc.length+P.length<=4000->∃b3 b4,
  jb (ak 3) jl (rows P) [(some (false,.tup [s,.tup Rs])),(some (false,BV)),(some (true,.lst (rows acc))),a3,a4] = .nx [(some (false,.tup [s,.tup Rs])),(some (false,BV)),(some (true,.lst (rows (acc++P.filter (tells s Rs B))))),b3,b4]
 | [],acc,a3,a4,_,_=>⟨a3,a4,by rw[List.filter_nil,List.append_nil];rfl⟩
 | r::P,acc,a3,a4,hP,hz=>by
  obtain⟨hr,hl⟩:=hP r (List.mem_cons_self ..);have hz2:acc.length+(P.length+1)<=4000:=hz;have ht:=PQ h hB hv hr hl (some (false,.tup [s,.tup Rs])) (some (true,.lst (rows acc))) (some (false,aR r));have hla:=oG.Gy s Rs r hr (by omega);rw[<-Wh] at hla;have hb:jl [(some (false,.tup [s,.tup Rs])),(some (false,BV)),(some (true,.lst (rows acc))),(some (false,aR r)),a4] = .nx [(some (false,.tup [s,.tup Rs])),(some (false,BV)),(some (true,.lst (rows (acc++[r].filter (tells s Rs B))))),(some (false,aR r)),(some (false,.tup [s,.tup (pick Rs r)]))]:=by
   unfold jl;refine(aL (e:=[(some (false,.tup [s,.tup Rs])),(some (false,BV)),(some (true,.lst (rows acc))),(some (false,aR r)),(some (false,.tup [s,.tup (pick Rs r)]))]) (cY (e:=[(some (false,.tup [s,.tup Rs])),(some (false,BV)),(some (true,.lst (rows acc))),(some (false,aR r)),a4]) (bw (ds:=[.tup [s,.tup Rs],aR r]) (by rfl) hla) (by rfl))).trans ?_;cases hc:tells s Rs B r with
   | true=>
    rw[hc] at ht;refine(jX (iJ ht)).trans ?_;have e:[r].filter (tells s Rs B)=[r]:=by rw[List.filter_cons,if_pos hc];rfl
    rw[e];have e2:rows (acc++[r])=rows acc++[aR r]:=by unfold oG.rows;rw[List.map_append];rfl
    rw[e2];have hlen:(rows acc).length<=4000:=by unfold oG.rows;rw[List.length_map];omega
    clear ht hla hP hz hv hB h hc e e2;generalize rows acc=ac at *;generalize aR r=er at *
    ac_rfl
   | false=>
    rw[hc] at ht;refine(jr (iJ ht)).trans ?_;have e:[r].filter (tells s Rs B)=[]:=by rw[List.filter_cons,if_neg (by rw[hc];exact Bool.false_ne_true)];rfl
    rw[e,List.append_nil]
    rfl
  obtain⟨b3,b4,ih⟩:=Ks hm P (acc++[r].filter (tells s Rs B)) (some (false,aR r)) (some (false,.tup [s,.tup (pick Rs r)])) (λq hq=>hP q (List.mem_cons_of_mem _ hq)) (by
   have:([r].filter (tells s Rs B)).length<=1:=List.length_filter_le _ _;rw[List.length_append];omega)
  refine⟨b3,b4,(S5 (e1:=[(some (false,.tup [s,.tup Rs])),(some (false,BV)),(some (true,.lst (rows acc))),(some (false,aR r)),a4]) (by rfl) hb).trans (ih.trans ?_)⟩;rw[List.append_assoc,<-List.filter_append]
  rfl
theorem telling:iC [.tup [s,.tup Rs],BV]=some (.lst (rows ((perms Rs.length Rs.length).filter (tells s Rs B)))):=by
 have ho:=oG.orderings Rs.length h.h4;rw[<-V3] at ho;obtain⟨b3,b4,g⟩:=Ks h hB hv h.h4 (perms Rs.length Rs.length) [] none none (λr hr=>by
  obtain⟨h1,h2,h3⟩:=(bD _ _ r).mp hr;exact⟨h3,by rw[h1];exact h.h4⟩) (by rw[List.length_nil];have h5:=rC Rs.length h.h4 Rs.length;have h6:5^Rs.length<=5^5:=Nat.pow_le_pow_right (by decide) h.h4;omega)
 rw[List.nil_append] at g;refine fK (env:=[(some (false,.tup [s,.tup Rs])),(some (false,BV)),(some (false,.lst (rows ((perms Rs.length Rs.length).filter (tells s Rs B))))),b3,b4]) ?_;unfold su;refine(aL (e:=[(some (false,.tup [s,.tup Rs])),(some (false,BV)),(some (true,.lst [])),none,none]) (by rfl)).trans ?_;refine(aL ((iR (ds:=rows (perms Rs.length Rs.length)) (xP (d:=.lst (rows (perms Rs.length Rs.length))) (bw (ds:=[.int (Rs.length:Int)]) (by rfl) ho) (by rfl))).trans g)).trans ?_;exact cL (by rfl)
end
open oG (perms bD tells pick xC qC bF tell bk encP Ok Bk told rows jO xK)
open X5 (TL sub Ig uL CZ nA Le oN oM)
open wH (fin j5 o8)
theorem Gm(s:D)(Rs:List D)(B:List (List Nat×List Nat)){A:List Nat}(hA:∀i∈A,i<B.length):(perms Rs.length Rs.length).filter (tells s Rs (sub B A))=[]↔xC (TL s Rs B) A=true:=by
 rw[uL,Ig s Rs B A hA];have hl:(sub B A).length=A.length:=by unfold X5.sub;rw[List.length_map]
 rw[hl,Le (λi hi=>List.mem_range.mp hi)];have e:(List.range A.length).map (λj=>A.getD j 0)=A:=by
  apply List.ext_getElem
  ·simp
  ·intro i h1 h2;simp[List.getD_eq_getElem?_getD,h2]
 rw[e]
theorem Qd{x:List Nat}{B:List (List Nat×List Nat)}(hB:Bk x B){A:List Nat}(hA:∀i∈A,i<B.length)(hl:A.length<=10):Bk x (sub B A):=by refine⟨by unfold X5.sub;rw[List.length_map];exact hl,λp hp=>?_⟩;unfold X5.sub at hp;obtain⟨i,hi,rfl⟩:=List.mem_map.mp hp;have:=hA i hi;rw[List.getD_eq_getElem?_getD,List.getElem?_eq_getElem this];exact hB.pZ _ (List.getElem_mem this)
theorem Rh:∀{q:List Nat},q.Pairwise (·< ·)->(q.map λ(k:Nat)=>(k:Int)).Pairwise (·< ·):=λh=>List.pairwise_map.mpr (h.imp λ{a b} c=>by omega)
theorem MK{q:List Nat}(h:q.Pairwise (·< ·))(hl:q.length<64):qN (.tup (bF q))=some (.lst (bF q)):=by
 have e:bF q=(q.map λ(k:Nat)=>(k:Int)).map D.int:=by unfold oG.bF;rw[List.map_map];rfl
 rw[e];show(zc _).bind _=_;rw[GR];exact if_pos ⟨by rw[List.length_map];exact hl,Rh h⟩
theorem V9(q:List Nat):okN 60 (.lst (bF q))=true:=by
 refine List.all_eq_true.mpr λd hd=>?_;unfold oG.bF at hd;obtain⟨k,_,rfl⟩:=List.mem_map.mp hd
 rfl
section
variable{x:List Nat}{s:D}{Rs:List D}(h:Ok x s Rs){B:List (List Nat×List Nat)}(hB:Bk x B)
include h hB
theorem YG{i:Nat}(hi:i<B.length):bU (bk B) (.int (i:Int))=some (encP (B.getD i ([],[]))):=by
 have:=xK (Rs:=B.map encP) (i:=i) (by rw[List.length_map];exact hi);unfold oG.bk;rw[this,List.getD_eq_getElem?_getD,List.getD_eq_getElem?_getD,List.getElem?_map,List.getElem?_eq_getElem hi]
 rfl
theorem lc2{q:List Nat}(hq:∀i∈q,i<B.length)(hl:q.length<=10)(A0 A2 A4:Option (Bool×D)):gU [A0,(some (false,bk B)),A2,(some (false,.tup (bF q))),A4] = .ok (.lst ((sub B q).map encP)) [A0,(some (false,bk B)),A2,(some (false,.tup (bF q))),A4]:=by
 have e:(sub B q).map encP=q.map λi=>encP (B.getD i ([],[])):=by unfold X5.sub;rw[List.map_map];rfl
 rw[e];unfold gU;refine ud q (λ(i:Nat)=>.int (i:Int)) _ (by rfl) rfl rfl (λi hi=>?_) (Nat.le_trans hl (by decide));have:=YG h hB (hq i hi);exact bH (o:=false) (o':=false) (x:=bk B) (x0:=bk B) (y:=.int (i:Int)) (by rfl) (by rfl) (by rfl) this
theorem lc3{q:List Nat}(hq:∀i∈q,i<B.length)(hl:q.length<=10)(n:Nat)(A0 A2:Option (Bool×D)):gR [A0,(some (false,bk B)),A2,(some (false,.tup (bF q))),(some (false,.int (n:Int)))] = .ok (.lst ((sub B (q.filter λj=>!decide (j=n))).map encP)) [A0,(some (false,bk B)),A2,(some (false,.tup (bF q))),(some (false,.int (n:Int)))]:=by
 have e:(sub B (q.filter λj=>!decide (j=n))).map encP=(q.filter λj=>!decide (j=n)).map λi=>encP (B.getD i ([],[])):=by unfold X5.sub;rw[List.map_map];rfl
 rw[e];unfold gR;refine DR q (λ(i:Nat)=>.int (i:Int)) _ _ (by rfl) rfl rfl (λi hi=>?_) (λi hi _=>?_) (Nat.le_trans hl (by decide))
 ·have e2:rJ (.int (i:Int)) (.int (n:Int))=some (.bl (!decide (i=n))):=by
   rw[YH];by_cases c:i=n
   ·subst c;simp
   ·have:¬(i:Int)=(n:Int):=by omega
    simp[c,this]
  exact iJ (bH (o:=false) (o':=false) (x:=.int (i:Int)) (x0:=.int (i:Int)) (y:=.int (n:Int)) (by rfl) (by rfl) (by rfl) e2)
 ·have:=YG h hB (hq i hi);exact bH (o:=false) (o':=false) (x:=bk B) (x0:=bk B) (y:=.int (i:Int)) (by rfl) (by rfl) (by rfl) this
theorem lc1{q:List Nat}(hq:∀i∈q,i<B.length)(hl:q.length<=10)(A0 A2 A4:Option (Bool×D)):az Ak (aa (gV) ao) [A0,(some (false,bk B)),A2,(some (false,.tup (bF q))),A4] = .ok (.bl false) [A0,(some (false,bk B)),A2,(some (false,.tup (bF q))),A4]:=by
 have ha:Ak [.lst (q.map λ_=>D.bl false)]=some (.bl false):=by rw[YJ (λ_:Nat=>false) q];simp
 refine bw (ds:=[.lst (q.map λ_=>D.bl false)]) (aX ?_ cB) ha;unfold gV;refine ud q (λ(i:Nat)=>.int (i:Int)) _ (by rfl) rfl rfl (λi hi=>?_) (Nat.le_trans hl (by decide));have hi2:=hq i hi;have g1:uR (.int (i:Int)) (.int ((B.map encP).length:Int))=some (.bl false):=by
  rw[List.length_map];show(if (0:Int)<=(B.length:Int) then some (D.bl (!decide (0<=(i:Int)/\(i:Int)<(B.length:Int)))) else none)=_;rw[if_pos (by omega),decide_eq_true (show 0<=(i:Int)/\(i:Int)<(B.length:Int) by omega)]
  rfl
 have g2:o6 (.int (i:Int)) "bool" = false:=rfl;unfold oG.bk;generalize B.map encP=bb at *;clear ha hq hi hi2 h hB;generalize bF q=nn
 ac_rfl
theorem Ae(hnone:(perms Rs.length Rs.length).filter (tells s Rs B)=[]):gK [.tup [s,.tup Rs],bk B,.tup [.str [113,117,97,114,114,101,108],.tup (bF (qC (TL s Rs B) B.length))]]=some (.bl true):=by
 obtain⟨h1,h2,h3⟩:=CZ (TL s Rs B) B.length ((uL s Rs B).mp hnone);generalize qC (TL s Rs B) B.length=q at *;have hq:∀i∈q,i<B.length:=λi hi=>List.mem_range.mp (h2.subset hi);have hl:q.length<=10:=Nat.le_trans h2.length_le (by rw[List.length_range];exact hB.few);have aeK:q.Pairwise (·< ·):=List.pairwise_lt_range.sublist h2;have hne:q≠[]:=λz=>by
  rw[z] at h1;have:=nA.mp h1 (tell s (pick Rs (List.range Rs.length)) B) (List.mem_map.mpr ⟨_,jO _,rfl⟩);obtain⟨i,hi,_⟩:=this;simp at hi
 have t0:=telling h (Qd hB hq hl) (BV:=.lst ((sub B q).map encP)) (by rfl);rw[(Gm s Rs B hq).mpr h1] at t0;have hgt:lV (.tup (bF q)) (.tup [])=some (.bl false):=by
  cases q with
  | nil=>exact absurd rfl hne
  | cons a r=>rfl
 have e1:∀A0 A2 A4,_:=λA0 A2 A4=>lc1 h hB hq hl A0 A2 A4;have e2:=lc2 h hB hq hl (some (false,.tup [s,.tup Rs])) (some (false,.tup [.str [113,117,97,114,114,101,108],.tup (bF q)])) none;have e3:=MK aeK (by omega);have e4:rJ (.lst (bF q)) (.lst (bF q))=some (.bl false):=j5 (V9 q);have e5:=lc1 h hB hq hl (some (false,.tup [s,.tup Rs])) (some (false,.tup [.str [113,117,97,114,114,101,108],.tup (bF q)])) none;obtain⟨e',f1,b4,rfl⟩:=Hd (g:=ak 4) (b:=gY) (λenv=>∃b4,env=[(some (false,.tup [s,.tup Rs])),(some (false,bk B)),(some (false,.tup [.str [113,117,97,114,114,101,108],.tup (bF q)])),(some (false,.tup (bF q))),b4]) (bF q)
  (λd hd env ⟨b4,he⟩=>by
   subst he;unfold oG.bF at hd;obtain⟨n,hn,rfl⟩:=List.mem_map.mp hd;refine⟨_,[(some (false,.tup [s,.tup Rs])),(some (false,bk B)),(some (false,.tup [.str [113,117,97,114,114,101,108],.tup (bF q)])),(some (false,.tup (bF q))),(some (false,.int (n:Int)))],rfl,?_,_,rfl⟩;have hqn:∀i∈q.filter (λj=>!decide (j=n)),i<B.length:=λi hi=>hq i (List.mem_filter.mp hi).1;have t1:=telling h (Qd hB hqn (Nat.le_trans (List.length_filter_le _ _) hl)) (BV:=.lst ((sub B (q.filter λj=>!decide (j=n))).map encP)) (by rfl);have c3:=lc3 h hB hq hl n (some (false,.tup [s,.tup Rs])) (some (false,.tup [.str [113,117,97,114,114,101,108],.tup (bF q)]));have hf:(perms Rs.length Rs.length).filter (tells s Rs (sub B (q.filter λj=>!decide (j=n))))≠[]:=λz=>by
    have:=(Gm s Rs B hqn).mp z;rw[h3 n hn] at this;cases this
   cases hff:(perms Rs.length Rs.length).filter (tells s Rs (sub B (q.filter λj=>!decide (j=n)))) with
   | nil=>exact absurd hff hf
   | cons a l=>
    rw[hff] at t1;have g0:lV (.lst (rows (a::l))) (.lst [])=some (.bl false):=rfl;unfold gY;refine(jr (e:=[(some (false,.tup [s,.tup Rs])),(some (false,bk B)),(some (false,.tup [.str [113,117,97,114,114,101,108],.tup (bF q)])),(some (false,.tup (bF q))),(some (false,.int (n:Int)))]) (iJ (cz (x:=.lst (rows (a::l))) (y:=.lst []) (bw (ds:=[.tup [s,.tup Rs],.lst ((sub B (q.filter λj=>!decide (j=n))).map encP)]) (aX (d:=.tup [s,.tup Rs]) (by rfl) (aX c3 cB)) t1) (by rfl) g0))).trans rfl)
  [(some (false,.tup [s,.tup Rs])),(some (false,bk B)),(some (false,.tup [.str [113,117,97,114,114,101,108],.tup (bF q)])),(some (false,.tup (bF q))),none] ⟨_,rfl⟩
 refine fK (env:=[(some (false,.tup [s,.tup Rs])),(some (false,bk B)),(some (false,.tup [.str [113,117,97,114,114,101,108],.tup (bF q)])),(some (false,.tup (bF q))),b4]) ?_;clear h2 h3 aeK hne hnone h1 e1;unfold lX;refine(aL (e:=[(some (false,.tup [s,.tup Rs])),(some (false,bk B)),(some (false,.tup [.str [113,117,97,114,114,101,108],.tup (bF q)])),none,none]) ?_).trans ?_
 ·clear f1 t0 e2 e3 e4 e5 hq hl hB h;generalize bk B=bb;generalize bF q=nn at *;have gi:o6 (.tup nn) "tuple" = true:=rfl
  ac_rfl
 refine(aL (e:=[(some (false,.tup [s,.tup Rs])),(some (false,bk B)),(some (false,.tup [.str [113,117,97,114,114,101,108],.tup (bF q)])),(some (false,.tup (bF q))),none]) (by rfl)).trans ?_;refine(aL ((jr (iJ e5)).trans rfl)).trans ?_;refine(aL (e:=[(some (false,.tup [s,.tup Rs])),(some (false,bk B)),(some (false,.tup [.str [113,117,97,114,114,101,108],.tup (bF q)])),(some (false,.tup (bF q))),none]) ?_).trans ?_
 ·clear f1 e5 hq hl hB h;generalize bk B=bb at *;generalize(sub B q).map encP=sb at *;have g0:rJ (.lst (rows ([]:List (List Nat)))) (.lst [])=some (.bl false):=rfl;generalize rows ([]:List (List Nat))=rr at *;generalize bF q=nn at *
  ac_rfl
 exact(aL ((iR (ds:=bF q) (by rfl)).trans f1)).trans rfl
end
open oG (perms bD tells pick xC qC bF tell bk encP Ok Bk told rows jO Lk)
open X5 (TL oN oM FW ye)
theorem yw(Rs:List D):pick Rs (List.range Rs.length).reverse=Rs.reverse:=by
 unfold oG.pick;rw[List.map_reverse]
 congr 1
 apply List.ext_getElem
 ·simp
 ·intro i h1 h2;simp[List.getD_eq_getElem?_getD,h2]
theorem Qs(s:D)(Rs:List D)(B:List (List Nat×List Nat)):(perms Rs.reverse.length Rs.reverse.length).filter (tells s Rs.reverse B.reverse)=[]↔(perms Rs.length Rs.length).filter (tells s Rs B)=[]:=by
 have ho:(List.range Rs.length).reverse∈perms Rs.length Rs.length:=(bD _ _ _).mpr ⟨by simp,List.pairwise_reverse.mpr (List.Pairwise.imp (λ{a b} h=>Ne.symm h) List.nodup_range),λi hi=>by simpa using hi⟩;have hr:=FW s Rs B ho;rw[yw] at hr;rw[List.length_reverse,ye s Rs.reverse B.reverse B (λp=>List.mem_reverse)];constructor
 ·intro e;rw[e] at hr;exact hr.eq_nil
 ·intro e;rw[e] at hr;exact List.map_eq_nil_iff.mp hr.symm.eq_nil
theorem K1(c:List Nat)(L:List (List Nat)):okN 60 (.tup [.str c,.tup (rows L)])=true:=by
 refine List.all_eq_true.mpr λd hd=>?_;rcases List.mem_cons.mp hd with rfl|hd
 ·rfl
 ·rw[List.mem_singleton.mp hd];refine List.all_eq_true.mpr λd hd=>?_;obtain⟨r,_,rfl⟩:=List.mem_map.mp hd;refine List.all_eq_true.mpr λd hd=>?_;obtain⟨k,_,rfl⟩:=List.mem_map.mp hd
  rfl
theorem V8(c:List Nat)(q:List Nat):okN 60 (.tup [.str c,.tup (bF q)])=true:=by
 refine List.all_eq_true.mpr λd hd=>?_;rcases List.mem_cons.mp hd with rfl|hd
 ·rfl
 ·rw[List.mem_singleton.mp hd];refine List.all_eq_true.mpr λd hd=>?_;unfold oG.bF at hd;obtain⟨k,_,rfl⟩:=List.mem_map.mp hd
  rfl
theorem Rw{AR ST s:D}{Rs RR:List D}{x c:List Nat}{p n n1:Int}{BB BR V V':D}(h0:du [AR,.int 0]=some (.lst [.int p]))(h1:eV [.lst [.int p]]=some (ST,.lst [.int n]))(h2:dM [ST]=some (.str x))(h3:eY [.lst [.int n],.str x,.int 4]=some (.tup [s,.tup Rs],.lst [.int n1]))
  (h4:je [AR,.int 2,.tup [s,.tup Rs],.str x,.int 6]=some BB) (t1:fQ [.tup [s,.tup Rs],BB]=some (.tup [.str c,V])) (r1:wR (.tup Rs)=some (.tup Rs.reverse)) (r2:wR BB=some BR) (t2:fQ [.tup [s,.tup Rs.reverse],BR]=some (.tup [.str c,V'])) (n0:rJ (.tup [.str c,V]) (.tup [.str c,V])=some (.bl false))
  (te:iC [.tup [s,.tup Rs],BB]=some (.lst RR)) (b:Bool) (n2:rJ (.lst RR) (.lst [])=some (.bl b)) (k1:b=true->lV (.tup [.str c,V]) (.tup [.str [116,111,108,100],.tup RR])=some (.bl true)) (k2:b=false->gK [.tup [s,.tup Rs],BB,.tup [.str c,V]]=some (.bl true)):Bt [AR]=some (.bl true):=by
 have g1:lV (.tup [.str c,V]) (.tup [])=some (.bl false):=rfl;have g2:o6 (.tup [.str c,V]) "tuple" = true:=rfl;have g3:rJ (.str c) (.str c)=some (.bl false):=j5 rfl;generalize hR:Rs.reverse=Rr at *;clear hR;unfold Bt YT;cases b with
 | true=>
  replace k1:=k1 rfl
  clear k2
  ac_rfl
 | false=>
  replace k2:=k2 rfl
  clear k1
  ac_rfl
theorem PK(ns:List Int)(hl:ns.length<=63)(hb:Kh ns):Bt [.arr (ns.map .int)]=some (.bl true):=by
 obtain⟨p,hp⟩:=lZ.pack ns hl hb 0 (by decide) (by decide);rw[<-oG.uK,<-uK] at hp;obtain⟨x,rs,n0,hx,hst,hrs⟩:=lZ.stock p;have hsd:=lZ.JP hx hrs;rw[<-oG.vJ,<-vJ] at hsd;rw[<-oG.yh,<-yh] at hst;obtain⟨s,Rs,n1,ho,hs,hR,h4⟩:=X6.order n0 x hx 4 (by decide);rw[<-oG.yS,<-yS] at ho;have hO:Ok x s Rs:=⟨hx,hs,hR,by omega⟩;obtain⟨B,hbB,hB,_,lB⟩:=oG.book ns hl hb hO 2 (by decide) 6 (by decide) (by decide);rw[<-XH] at hbB;have hO2:Ok x s Rs.reverse:=⟨hx,hs,λR hm=>hR R (List.mem_reverse.mp hm),by rw[List.length_reverse];omega⟩;have hB2:Bk x B.reverse:=⟨by rw[List.length_reverse];exact hB.few,λp hm=>hB.pZ p (List.mem_reverse.mp hm)⟩;have t1:=oG.PL hO hB;have t2:=oG.PL hO2 hB2;rw[<-UJ] at t1 t2;have te:=telling hO hB (BV:=bk B) (by rfl);have r2:wR (bk B)=some (bk B.reverse):=by unfold oG.bk;rw[List.map_reverse];rfl
 have hrn:=Qs s Rs B;cases hf:(perms Rs.length Rs.length).filter (tells s Rs B) with
 | nil=>
  have hf2:=hrn.mpr hf;have hqr:=Ae hO hB hf;rw[oN s Rs B hf] at t1;rw[oN s Rs.reverse B.reverse hf2] at t2;rw[hf] at te;exact Rw hp hst hsd ho hbB t1 rfl r2 t2 (j5 (V8 _ _)) te false rfl (λh=>by cases h) (λ_=>hqr)
 | cons a l=>
  cases hf2:(perms Rs.reverse.length Rs.reverse.length).filter (tells s Rs.reverse B.reverse) with
  | nil=>rw[hrn.mp hf2] at hf;cases hf
  | cons a2 l2=>
   rw[oM s Rs B hf] at t1;rw[oM s Rs.reverse B.reverse hf2] at t2;rw[hf] at te;exact Rw hp hst hsd ho hbB t1 rfl r2 t2 (j5 (K1 _ _)) te true rfl (λ_=>o8 (K1 _ _)) (λh=>by cases h)
end jE
end
namespace jE
open PySem PySem.Spec PyProof.Rows L2 Ev
theorem all_mk{P:Program}{w:World}{K:Fg}{h:Heap}{mg:Str->Option Value}{fa:Addr}(X:K.In h)(G:h.Ns mainGlobals mg)(hfa:mg "law" = some (.ref fa))
  {Zi:Tok}
  (Yi:PySem.W.nsIn K mainGlobals "all" = some none) (Yh:PySem.W.nsIn K mainGlobals "any" = some none) (Pn:PySem.W.nsIn K mainGlobals "bool" = some none) (Pk:PySem.W.nsIn K mainGlobals "dict" = some none) (Eu:PySem.W.nsIn K mainGlobals "divmod" = some none) (wI:PySem.W.nsIn K mainGlobals "enumerate" = some none) (uy:PySem.W.nsIn K mainGlobals "isinstance" = some none) (Yg:PySem.W.nsIn K mainGlobals "len" = some none) (Pj:PySem.W.nsIn K mainGlobals "list" = some none) (Km:PySem.W.nsIn K mainGlobals "range" = some none) (Ye:PySem.W.nsIn K mainGlobals "set" = some none) (Et:PySem.W.nsIn K mainGlobals "sorted" = some none) (Kl:PySem.W.nsIn K mainGlobals "tuple" = some none) (Yd:PySem.W.nsIn K mainGlobals "zip" = some none) (qL:∀d:D,PySem.W.kitOne K (.type (Uk d)) (.type "bool")=some (o6 d "bool")) (mJ:∀d:D,PySem.W.kitOne K (.type (Uk d)) (.type "tuple")=some (o6 d "tuple")) (J1:PySem.W.nsIn K mainGlobals "EDGE" = some (some (.str "#" Zi))) (Ua:FA K "fits" Jh) (Hu:FA K "turned" yu) (BW:FA K "puts_in" vQ) (sE:FA K "with_put_in" nJ) (rm:FA K "with_changes" mL) (xn:FA K "from_left" qz) (BX:FA K "changed" vR) (T7:FA K "walk" Je) (T8:FA K "made" Jf) (qe:FA K "all_orderings" lM) (T9:FA K "laid" Jg) (vg:FA K "pairs_told" pC) (vp:FA K "is_quarrel" pH) (BP:FA K "quarrel" vP) (BL:FA K "told_by" vO) (xm:FA K "_law_mixed" qy) (zL:FA K "_law_pack" tH) (zJ:FA K "_law_take" tu) (xf:FA K "_law_stock" qu) (vm:FA K "_law_sounds" pF) (xg:FA K "_law_signs" qw) (sH:FA K "_law_changes" nO) (zK:FA K "_law_rule" tD) (xj:FA K "_law_order" qx) (zG:FA K "_law_word" sY) (zP:FA K "_law_fits" tM) (vo:FA K "_law_put_in" pG) (sI:FA K "_law_changed" nQ) (vh:FA K "_law_turned" pD) (sJ:FA K "_law_by_side" nR) (zH:FA K "_law_walk" sZ) (zM:FA K "_law_made" tK) (qd:FA K "_law_orderings" lL) (zN:FA K "_law_laid" tL) (zQ:FA K "_law_book" tO) (sG:FA K "_law_telling" nM) (lY:FA K "_law_quarrel_right" jt) (YX:FA K "law" Qo) :
  ∃fd:FuncData,(∀(s:Shared) (v:Value),BindsTo s fd ⟨[v],[]⟩ [("_law_script",v)])/\∀base:Heap,K.In base->base.Ns mainGlobals mg->ph P w K mg base Ep 9 fa fd ["_law_script"] (oR K 1 Bt):=
 YX.law X G hfa (λs v=>.of_eq rfl) λbase F=>ace ⟨uM X G Yi,
  uM X G Yh,
  uM X G Pn,
  uM X G Pk,
  uM X G Eu,
  uM X G wI,
  uM X G uy,
  uM X G Yg,
  uM X G Pj,
  uM X G Km,
  uM X G Ye,
  uM X G Et,
  uM X G Kl,
  uM X G Yd,
  qL,
  mJ,
  WW X G J1 (by decide +kernel) (by decide),
  Ua.at X G (fun|[_,_],_=>rfl),
  Hu.at X G (fun|[_],_=>rfl),
  BW.at X G (fun|[_],_=>rfl),
  sE.at X G (fun|[_,_],_=>rfl),
  rm.at X G (fun|[_,_],_=>rfl),
  xn.at X G (fun|[_,_],_=>rfl),
  BX.at X G (fun|[_,_,_],_=>rfl),
  T7.at X G (fun|[_,_],_=>rfl),
  T8.at X G (fun|[_,_],_=>rfl),
  qe.at X G (fun|[_],_=>rfl),
  T9.at X G (fun|[_,_],_=>rfl),
  vg.at X G (fun|[_,_],_=>rfl),
  vp.at X G (fun|[_,_],_=>rfl),
  BP.at X G (fun|[_,_],_=>rfl),
  BL.at X G (fun|[_,_],_=>rfl),
  xm.at X G (fun|[_],_=>rfl),
  zL.at X G (fun|[_,_],_=>rfl),
  zJ.at X G (fun|[_,_],_=>rfl),
  xf.at X G (fun|[_],_=>rfl),
  vm.at X G (fun|[_],_=>rfl),
  xg.at X G (fun|[_,_],_=>rfl),
  sH.at X G (fun|[_,_],_=>rfl),
  zK.at X G (fun|[_,_],_=>rfl),
  xj.at X G (fun|[_,_,_],_=>rfl),
  zG.at X G (fun|[_,_,_],_=>rfl),
  zP.at X G (fun|[_,_],_=>rfl),
  vo.at X G (fun|[_,_],_=>rfl),
  sI.at X G (fun|[_,_],_=>rfl),
  vh.at X G (fun|[_],_=>rfl),
  sJ.at X G (fun|[_,_,_],_=>rfl),
  zH.at X G (fun|[_,_],_=>rfl),
  zM.at X G (fun|[_,_],_=>rfl),
  qd.at X G (fun|[_],_=>rfl),
  zN.at X G (fun|[_,_],_=>rfl),
  zQ.at X G (fun|[_,_,_,_,_],_=>rfl),
  sG.at X G (fun|[_,_],_=>rfl),
  lY.at X G (fun|[_,_,_],_=>rfl)⟩ F
end jE
theorem PySem.W.Fast.tw12574478964011778015:True:=trivial
theorem PySem.W.Fast.tw15254907126570976072:True:=trivial
theorem PySem.W.Fast.tw3613916538135360506:True:=trivial
theorem PySem.W.Fast.tw1118254138544587654:True:=trivial
theorem PySem.W.Fast.tw17644192356423907425:True:=trivial
theorem PySem.W.Fast.tw10799864306889957453:True:=trivial
theorem PySem.W.Fast.tw11293872720438580661:True:=trivial
theorem PySem.W.Fast.tw1460940988928422976:True:=trivial
theorem PySem.W.Fast.tw18049418268230012878:True:=trivial
theorem PySem.W.Fast.tw13991717790797026718:True:=trivial
theorem PySem.W.Fast.tw15799764722202068574:True:=trivial
theorem PySem.W.Fast.tw16814670063367329736:True:=trivial
theorem PySem.W.Fast.tw12621044849280547519:True:=trivial
theorem PySem.W.Fast.tw7024544442884162059:True:=trivial
theorem PySem.W.Fast.tw16175247284075396075:True:=trivial
theorem PySem.W.Fast.tw4587542797600332463:True:=trivial
theorem PySem.W.Fast.tw4922694660255251266:True:=trivial
theorem PySem.W.Fast.tw382573211758640697:True:=trivial
theorem PySem.W.Fast.tw5116068348303795300:True:=trivial
theorem PySem.W.Fast.tw9530772123261346548:True:=trivial
theorem PySem.W.Fast.tw17564257790687945267:True:=trivial
theorem PySem.W.Fast.tw9646694925044625630:True:=trivial
theorem PySem.W.Fast.tw2393858695870529688:True:=trivial
theorem PySem.W.Fast.tw14597352798076170222:True:=trivial
theorem PySem.W.Fast.tw18267717645202151248:True:=trivial
theorem PySem.W.Fast.tw4122007321952685139:True:=trivial
theorem PySem.W.Fast.tw10057059588424727669:True:=trivial
theorem PySem.W.Fast.tw8185846078787161977:True:=trivial
theorem PySem.W.Fast.tw4381988998411448350:True:=trivial
theorem PySem.W.Fast.tw10374174157911652367:True:=trivial
theorem PySem.W.Fast.tw13371809447572913296:True:=trivial
theorem PySem.W.Fast.tw9639742328071127912:True:=trivial
theorem PySem.W.Fast.tw13956999016681872223:True:=trivial
theorem PySem.W.Fast.tw3130784400362496728:True:=trivial
theorem PySem.W.Fast.tw15907139547721817326:True:=trivial
theorem PySem.W.Fast.tw10393932021113045868:True:=trivial
theorem PySem.W.Fast.tw15681032405371159025:True:=trivial
theorem PySem.W.Fast.tw17187056698830587395:True:=trivial
theorem PySem.W.Fast.tw15157543120962339028:True:=trivial
theorem PySem.W.Fast.tw6306973938615243518:True:=trivial
theorem PySem.W.Fast.tw12423191992474223092:True:=trivial
theorem PySem.W.Fast.tw2562700527234070802:True:=trivial
theorem PySem.W.Fast.tw11275187843145208445:True:=trivial
theorem PySem.W.Fast.tw2107380948019437248:True:=trivial
theorem PySem.W.Fast.tw4166213541476518029:True:=trivial
theorem PySem.W.Fast.tw14673454208202822684:True:=trivial
open PySem PySem.W PyProof.Rows
set_option maxRecDepth 100000 in
set_option maxHeartbeats 0 in
theorem PySem.Challenge.cw_soundrules_k45_orderings_that_tell_a_boo_holds : PySem.Challenge.rw_soundrules_k45_orderings_that_tell_a_boo.Holds := by
 w_on;o_law;k_head;(case hw=>w_witness2)
 k_fill
 refine Ev.acW (l:=PySem.Challenge.rw_soundrules_k45_orderings_that_tell_a_boo) (k:=9) (x:="_law_script") (f:=jE.Bt) rfl (by decide) rfl ⟨rfl,by decide,by decide⟩ (λw h Y=>PySem.W.kIn_of Y) jE.PK ?F
 case F=>
  intro w mg fa h KX G hmg
  refine' jE.all_mk KX G hmg ?Yi ?Yh ?Pn ?Pk ?Eu ?wI ?uy ?Yg ?Pj ?Km ?Ye ?Et ?Kl ?Yd ?qL ?mJ ?J1 ?Ua ?Hu ?BW ?sE ?rm ?xn ?BX ?T7 ?T8 ?qe ?T9 ?vg ?vp ?BP ?BL ?xm ?zL ?zJ ?xf ?vm ?xg ?sH ?zK ?xj ?zG ?zP ?vo ?sI ?vh ?sJ ?zH ?zM ?qd ?zN ?zQ ?sG ?lY ?YX
  (case qL=>(intro d;cases d with|non=>(show PySem.W.kitOne _ (.type "NoneType") (.type "bool")=some false;kit_is)|bl=>(show PySem.W.kitOne _ (.type "bool") (.type "bool")=some true;kit_is)|int=>(show PySem.W.kitOne _ (.type "int") (.type "bool")=some false;kit_is)|str=>(show PySem.W.kitOne _ (.type "str") (.type "bool")=some false;kit_is)|tup=>(show PySem.W.kitOne _ (.type "tuple") (.type "bool")=some false;kit_is)|lst=>(show PySem.W.kitOne _ (.type "list") (.type "bool")=some false;kit_is)|arr=>(show PySem.W.kitOne _ (.type "list") (.type "bool")=some false;kit_is)|dct=>(show PySem.W.kitOne _ (.type "dict") (.type "bool")=some false;kit_is)|m9=>(show PySem.W.kitOne _ (.type "dict") (.type "bool")=some false;kit_is)))
  (case mJ=>(intro d;cases d with|non=>(show PySem.W.kitOne _ (.type "NoneType") (.type "tuple")=some false;kit_is)|bl=>(show PySem.W.kitOne _ (.type "bool") (.type "tuple")=some false;kit_is)|int=>(show PySem.W.kitOne _ (.type "int") (.type "tuple")=some false;kit_is)|str=>(show PySem.W.kitOne _ (.type "str") (.type "tuple")=some false;kit_is)|tup=>(show PySem.W.kitOne _ (.type "tuple") (.type "tuple")=some true;kit_is)|lst=>(show PySem.W.kitOne _ (.type "list") (.type "tuple")=some false;kit_is)|arr=>(show PySem.W.kitOne _ (.type "list") (.type "tuple")=some false;kit_is)|dct=>(show PySem.W.kitOne _ (.type "dict") (.type "tuple")=some false;kit_is)|m9=>(show PySem.W.kitOne _ (.type "dict") (.type "tuple")=some false;kit_is)))
  (case J1=>k_is)
  all_goals first|k_is|(refine' Ev.FA.mk ?a ?l ?c ?k;(case a=>k_is);(case l=>k_is);(case c=>k_is);(case k=>k_is))
