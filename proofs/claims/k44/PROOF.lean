import PyProof.Rows.All
import Wide.All
import OpenK.AllK
import Wide.FinOn
import Lean
import PyProof.EqAt
import PyProof.EqKinds
import PyProof.TupleCall
import PyProof.TupleKey
import PyProof.DictRoadsH
import PyProof.FactsAll.bool_1
import PyProof.AttrMissHeap
import KE.KDictOf
import PyProof.ListMulRoad
import PyProof.FactsAll.tuple_2
import KE.KSortTup
import PyProof.TupleOfSeq
import PyProof.Rows.SortRuns
import PyProof.ListRange
import PyProof.DictTable
import PyProof.Rows.TupTab
import PyProof.FactsAll.range_1
import KE.KDictList
import PyProof.SetRoads
import PyProof.DictTruth
import PyProof.RulesTry
import PySem.Challenge.RW_soundrules_k44_whole_rules_that_act
noncomputable section
set_option Elab.async false
set_option linter.all false
set_option maxRecDepth 100000
set_option maxHeartbeats 4000000
theorem Qqq:type_of% @List.mem_cons_of_mem:=@List.mem_cons_of_mem
theorem Qqx:type_of% @PySem.wpAny_bind:=@PySem.wpAny_bind
theorem Qqz:type_of% @Array.length_toList:=@Array.length_toList
theorem Qqj:type_of% @List.mem_cons_self:=@List.mem_cons_self
theorem Qqk:type_of% @List.length_append:=@List.length_append
theorem Qqv:type_of% @List.getElem?_eq_getElem:=@List.getElem?_eq_getElem
theorem Qqw:type_of% @List.length_cons:=@List.length_cons
theorem Qqy:type_of% @List.getElem?_eq_some_iff:=@List.getElem?_eq_some_iff
theorem Qq0:type_of% @PySem.Heap.get?_push_of_some:=@PySem.Heap.get?_push_of_some
theorem Qq1:type_of% @Nat.le_refl:=@Nat.le_refl
theorem Qq2:type_of% @List.mem_singleton:=@List.mem_singleton
theorem Qq3:type_of% @List.length_map:=@List.length_map
theorem Qq4:type_of% @Nat.le_trans:=@Nat.le_trans
theorem Qq5:type_of% @List.size_toArray:=@List.size_toArray
theorem Qq6:type_of% @PySem.wpAny_pure:=@PySem.wpAny_pure
theorem Qq7:type_of% @List.mem_cons:=@List.mem_cons
theorem Qq8:type_of% @List.getElem?_set_ne:=@List.getElem?_set_ne
theorem Qq9:type_of% @decide_eq_false:=@decide_eq_false
theorem Qwq:type_of% @List.map_cons:=@List.map_cons
theorem Qwx:type_of% @PySem.Heap.lt_size:=@PySem.Heap.lt_size
theorem Qwz:type_of% @Nat.lt_of_lt_of_le:=@Nat.lt_of_lt_of_le
theorem Qwj:type_of% @decide_eq_true:=@decide_eq_true
theorem Qwk:type_of% @List.append_assoc:=@List.append_assoc
theorem Qwv:type_of% @List.getD_eq_getElem?_getD:=@List.getD_eq_getElem?_getD
theorem Qww:type_of% @List.mem_append:=@List.mem_append
theorem Qwy:type_of% @List.length_take:=@List.length_take
theorem Qw0:type_of% @List.getElem?_set_self:=@List.getElem?_set_self
theorem Qw1:type_of% @List.length_singleton:=@List.length_singleton
theorem Qw2:type_of% @PySem.Heap.get?_push_size:=@PySem.Heap.get?_push_size
theorem Qw3:type_of% @List.mem_map:=@List.mem_map
theorem Qw4:type_of% @Option.some.inj:=@Option.some.inj
theorem Qw5:type_of% @Nat.lt_of_le_of_lt:=@Nat.lt_of_le_of_lt
theorem Qw6:type_of% @List.append_nil:=@List.append_nil
theorem Qw7:type_of% @List.getElem?_append_left:=@List.getElem?_append_left
theorem Qw8:type_of% @Option.map_eq_some_iff:=@Option.map_eq_some_iff
theorem Qw9:type_of% @congrArg:=@congrArg
theorem Qxq:type_of% @Option.some.injEq:=@Option.some.injEq
theorem Qxx:type_of% @List.mem_append_right:=@List.mem_append_right
theorem Qxz:type_of% @List.getElem?_map:=@List.getElem?_map
theorem Qxj:type_of% @of_decide_eq_true:=@of_decide_eq_true
theorem Qxk:type_of% @List.nodup_cons:=@List.nodup_cons
theorem Qxv:type_of% @Nat.ne_of_lt:=@Nat.ne_of_lt
theorem Qxw:type_of% @List.not_mem_nil:=@List.not_mem_nil
theorem Qxy:type_of% @List.length_drop:=@List.length_drop
theorem Qx0:type_of% @Nat.zero_le:=@Nat.zero_le
theorem Qx1:type_of% @Bool.false_ne_true:=@Bool.false_ne_true
theorem Qx2:type_of% @List.lookup_cons:=@List.lookup_cons
theorem Qx3:type_of% @Nat.le_of_lt:=@Nat.le_of_lt
theorem Qx4:type_of% @List.getElem?_append_right:=@List.getElem?_append_right
theorem Qx5:type_of% @List.all_eq_true:=@List.all_eq_true
theorem Qx6:type_of% @List.length_set:=@List.length_set
theorem Qx7:type_of% @List.mem_of_getElem?:=@List.mem_of_getElem?
theorem Qx8:type_of% @List.drop_eq_getElem_cons:=@List.drop_eq_getElem_cons
theorem Qx9:type_of% @List.getElem_mem:=@List.getElem_mem
theorem Qzq:type_of% @Bool.and_eq_true:=@Bool.and_eq_true
theorem Qzx:type_of% @List.length_replicate:=@List.length_replicate
theorem Qzz:type_of% @Nat.le_of_ble_eq_true:=@Nat.le_of_ble_eq_true
theorem Qzj:type_of% @Option.bind_eq_some_iff:=@Option.bind_eq_some_iff
theorem Qzk:type_of% @List.length_nil:=@List.length_nil
theorem Qzv:type_of% @List.mem_append_left:=@List.mem_append_left
theorem Qzw:type_of% @beq_eq_false_iff_ne:=@beq_eq_false_iff_ne
theorem Qzy:type_of% @List.length_reverse:=@List.length_reverse
theorem Qz0:type_of% @Nat.lt_irrefl:=@Nat.lt_irrefl
theorem Qz1:type_of% @List.getElem?_replicate:=@List.getElem?_replicate
theorem Qz2:type_of% @List.cons.inj:=@List.cons.inj
theorem Qz3:type_of% @List.pairwise_cons:=@List.pairwise_cons
theorem Qz4:type_of% @List.map_append:=@List.map_append
theorem Qz5:type_of% @List.find?_cons:=@List.find?_cons
theorem Qz6:type_of% @PySem.wpAny_call_entry:=@PySem.wpAny_call_entry
theorem Qz7:type_of% @Option.isSome_iff_exists:=@Option.isSome_iff_exists
theorem Qz8:type_of% @List.getElem?_take_of_lt:=@List.getElem?_take_of_lt
theorem Qz9:type_of% @PySem.wpAny_mono:=@PySem.wpAny_mono
theorem Qjq:type_of% @PySem.Heap.size_push:=@PySem.Heap.size_push
theorem Qjx:type_of% @PySem.wpAny_holding:=@PySem.wpAny_holding
theorem Qjz:type_of% @PySem.wpAny_callSpecial?_slot:=@PySem.wpAny_callSpecial?_slot
theorem Qjj:type_of% @PySem.wpAny_field:=@PySem.wpAny_field
theorem Qjk:type_of% @List.map_congr_left:=@List.map_congr_left
theorem Qjv:type_of% @PyProof.Rows.slot_tuple_getitem:=@PyProof.Rows.slot_tuple_getitem
theorem Qjw:type_of% @PySem.wpAny_newObj_type:=@PySem.wpAny_newObj_type
theorem Qjy:type_of% @PySem.mem_of_lookup:=@PySem.mem_of_lookup
theorem Qj0:type_of% @List.mem_flatMap:=@List.mem_flatMap
theorem Qj1:type_of% @List.eq_nil_of_length_eq_zero:=@List.eq_nil_of_length_eq_zero
theorem Qj2:type_of% @PySem.wpAny_seqItems:=@PySem.wpAny_seqItems
theorem Qj3:type_of% @Int.toNat_natCast:=@Int.toNat_natCast
theorem Qj4:type_of% @PySem.wpAny_truthy_bool:=@PySem.wpAny_truthy_bool
theorem Qj5:type_of% @Nat.not_lt_zero:=@Nat.not_lt_zero
theorem Qj6:type_of% @List.nil_append:=@List.nil_append
theorem Qj7:type_of% @List.take_of_length_le:=@List.take_of_length_le
theorem Qj8:type_of% @PySem.wpAny_rule:=@PySem.wpAny_rule
theorem Qj9:type_of% @or_false:=@or_false
theorem Qkq:type_of% @PySem.wpAny_setField_rec:=@PySem.wpAny_setField_rec
theorem Qkx:type_of% @Array.getElem?_toList:=@Array.getElem?_toList
theorem Qkz:type_of% @List.forIn_nil:=@List.forIn_nil
theorem Qkj:type_of% @PySem.sizeLine_eq:=@PySem.sizeLine_eq
theorem Qkk:type_of% @Bool.and_eq_true_iff:=@Bool.and_eq_true_iff
theorem Qkv:type_of% @PySem.wpAny_passesOwn:=@PySem.wpAny_passesOwn
theorem Qkw:type_of% @List.map_map:=@List.map_map
theorem Qky:type_of% @Nat.ne_of_gt:=@Nat.ne_of_gt
theorem Qk0:type_of% @List.forIn_cons:=@List.forIn_cons
theorem Qk1:type_of% @Bool.eq_iff_iff:=@Bool.eq_iff_iff
theorem Qk2:type_of% @Option.map_some:=@Option.map_some
theorem Qk3:type_of% @Option.isSome_map:=@Option.isSome_map
theorem Qk4:type_of% @Nat.le_of_succ_le:=@Nat.le_of_succ_le
theorem Qk5:type_of% @List.mem_range:=@List.mem_range
abbrev lK(x:PySem.Str):Prop:=(x == ("__debug__" : PySem.Str))=false
abbrev vJ(x:PySem.Str):Prop:=(x == ("__classdict__" : PySem.Str))=false
open PySem PySem.Spec PyProof.Rows in
abbrev Qt(e:Expr)(E:PySem.Env):Prop:=starEach [e] E=(false,eval e E)::starEach [] E
namespace L2
open PySem PySem.Spec PyProof.Rows
inductive NK where
 |num (i:Int)|txt (x:Str)|tup (xs:List NK)
noncomputable instance:DecidableEq NK:=λ_ _=>Classical.propDecidable _
mutual
noncomputable def Az(h:Heap):NK->Value->Prop
 |.num i,v=>(∃t,v=.int i t)\/∃b:Bool,v=.bool b/\i=if b then 1 else 0|.txt x,v=>∃t,v=.str x t|.tup ks,v=>∃a o items n,v=.ref a/\h.get? a=some o/\o.cls=.type "tuple"/\o.data=.seq items n/\nY h ks items.toList
noncomputable def nY(h:Heap):List NK->List Value->Prop
 |[],vs=>vs=[]|k::ks,vs=>∃v r,vs=v::r/\Az h k v/\nY h ks r
end
mutual
noncomputable def NK.dep:NK->Nat
 |.num _=>0|.txt _=>0|.tup ks=>1+NK.qR ks
noncomputable def NK.qR:List NK->Nat
 |[]=>0|k::ks=>max (NK.dep k) (NK.qR ks)
end
mutual
noncomputable def NK.draws:NK->Nat
 |.num _=>1|.txt _=>1|.tup ks=>NK.pq ks+1
noncomputable def NK.pq:List NK->Nat
 |[]=>0|k::ks=>NK.draws k+NK.pq ks
end
section
variable(P:Program)(w:World)
mutual
noncomputable def NK.hash:NK->Int
 |.num i=>hashInt i|.txt x=>(strKind P w).hash x|.tup ks=>reduceHash (Builtin.Tuple.tupleHashOf (NK.hashes ks))
noncomputable def NK.hashes:List NK->List Int
 |[]=>[]|k::ks=>NK.hash k::NK.hashes ks
end
end
theorem nY.length:∀{ks} {vs},nY h ks vs->vs.length=ks.length
 |[],_,e=>by cases e;rfl|k::ks,_,e=>by obtain⟨v,r,rfl,_,q⟩:=e;rw[Qqw,Qqw,q.length]
theorem nY.get:∀{ks} {vs} {j:Nat} {v},nY h ks vs->vs[j]?=some v->∃k,ks[j]?=some k/\Az h k v
 |[],_,_,_,e,g=>by cases e;simp at g
 |k::ks,_,j,v,e,g=>by
  obtain⟨u,r,rfl,h1,h2⟩:=e;cases j with
  |zero=>simp at g;subst g;exact⟨k,rfl,h1⟩|succ j=>obtain⟨k',e1,e2⟩:=nY.get h2 (j:=j) (by simpa using g);exact⟨k',by simpa using e1,e2⟩
theorem NK.Ad:∀{ks} {j:Nat} {k},ks[j]?=some k->k.dep<=NK.qR ks
 |[],_,_,e=>by simp at e
 |c::ks,j,k,e=>by
  unfold NK.qR;cases j with
  |zero=>simp at e;subst e;exact Nat.le_max_left _ _|succ j=>exact Qq4 (NK.Ad (j:=j) (by simpa using e)) (Nat.le_max_right _ _)
mutual
theorem Az.inj{h:Heap}:∀{x y:NK} {v:Value},Az h x v->Az h y v->x=y
 |.num i,.num j,v,a,b=>by
  rcases a with ⟨t,rfl⟩|⟨c,rfl,rfl⟩
  .rcases b with ⟨t',e⟩|⟨c,e,_⟩
   .cases e;rfl
   .cases e
  .rcases b with ⟨t',e⟩|⟨c,e,rfl⟩
   .cases e
   .cases e;rfl
 |.num i,.txt x,v,a,b=>by obtain⟨t,rfl⟩:=b;rcases a with ⟨t',e⟩|⟨c,e,_⟩<;>cases e
 |.num i,.tup ks,v,a,b=>by obtain⟨_,_,_,_,rfl,_⟩:=b;rcases a with ⟨t',e⟩|⟨c,e,_⟩<;>cases e
 |.txt x,.num i,v,a,b=>by obtain⟨t,rfl⟩:=a;rcases b with ⟨t',e⟩|⟨c,e,_⟩<;>cases e
 |.txt x,.txt y,v,a,b=>by obtain⟨t,rfl⟩:=a;obtain⟨t',e⟩:=b;cases e;rfl|.txt x,.tup ks,v,a,b=>by obtain⟨t,rfl⟩:=a;obtain⟨_,_,_,_,e,_⟩:=b;cases e|.tup ks,.num i,v,a,b=>by obtain⟨_,_,_,_,rfl,_⟩:=a;rcases b with ⟨t',e⟩|⟨c,e,_⟩<;>cases e
 |.tup ks,.txt y,v,a,b=>by obtain⟨_,_,_,_,rfl,_⟩:=a;obtain⟨t',e⟩:=b;cases e
 |.tup ks,.tup ls,v,a,b=>by
  obtain⟨p,o,items,n,rfl,h1,_,h3,h4⟩:=a;obtain⟨p',o',items',n',e,h1',_,h3',h4'⟩:=b;cases e;rw[h1] at h1';cases h1';rw[h3] at h3';cases h3';rw[nY.inj h4 h4']
theorem nY.inj{h:Heap}:∀{x y:List NK} {v:List Value},nY h x v->nY h y v->x=y
 |[],[],_,_,_=>rfl|[],k::ks,_,a,b=>by cases a;obtain⟨_,_,e,_⟩:=b;cases e|k::ks,[],_,a,b=>by cases b;obtain⟨_,_,e,_⟩:=a;cases e
 |k::ks,l::ls,_,a,b=>by
  obtain⟨v,r,rfl,h1,h2⟩:=a;obtain⟨v',r',e,h1',h2'⟩:=b;cases e;rw[Az.inj h1 h1',nY.inj h2 h2']
end
mutual
theorem Az.keeps{h h':Heap}{d:Addr}{o:Obj}{es ep}(ho:h.get? d=some o)(hd:o.data=.dict es ep)(hs:Heap.SameBut d h h'):∀{k:NK} {v:Value},Az h k v->Az h' k v
 |.num _,_,e=>e|.txt _,_,e=>e
 |.tup ks,_,e=>by
  obtain⟨a,o',items,n,rfl,h1,h2,h3,h4⟩:=e;have hne:a≠d:=by rintro rfl;rw[h1] at ho;cases ho;rw[h3] at hd;cases hd
  exact⟨a,o',items,n,rfl,(hs.2 a hne).trans h1,h2,h3,nY.keeps ho hd hs h4⟩
theorem nY.keeps{h h':Heap}{d:Addr}{o:Obj}{es ep}(ho:h.get? d=some o)(hd:o.data=.dict es ep)(hs:Heap.SameBut d h h'):∀{ks:List NK} {vs:List Value},nY h ks vs->nY h' ks vs
 |[],_,e=>e|k::ks,_,e=>by obtain⟨v,r,rfl,h1,h2⟩:=e;exact⟨v,r,rfl,Az.keeps ho hd hs h1,nY.keeps ho hd hs h2⟩
end
section
variable{P:Program}{w:World}
theorem PN(h:Q (hashInt (if b then 1 else 0)) { s with toks:=s.toks+1 }):wpAny (model P w) A (pyHash (.bool b)) Q E s:=by
 have hT:s.TypeIs (.bool b) "bool":=rfl;have hr:=rawHash_range (if b then 1 else 0);unfold pyHash;have hv:[Value.bool b].any Value.onHeap=false:=rfl;refine Qqx ?_;rw[cRoomFor,if_neg (by rw[hv];exact Qx1)];refine Qq6 ?_;refine Qqx (wpAny_specialOf hT F.slot_bool_hash.lookup ?_);show wpAny _ _ (if (some (Value.builtin "int.__hash__") == some Value.none)=true then _ else _) Q E s;rw[if_neg (by rw[beq_builtin_none];exact Qx1)];refine Qqx (wpAny_specialOf hT F.slot_bool_hash.lookup ?_);show wpAny _ _ (callSpecialIfBoundUnlessNone? (.bool b) "__hash__" _ >>= _) Q E s;refine Qqx (wpAny_callSpecialIfBoundUnlessNone?_slot hT F.slot_bool_hash
  (Qz6 F.slot_bool_hash hT entry_int_hash
   (show wpAny _ _ (do ret (<-mkInt (rawHash (if b then 1 else 0)))) _ _ s from wpAny_ret_mkInt ?_) (args_int_hash _)))
 show wpAny _ _ (if (decide (-(2:Int)^63<=rawHash (if b then 1 else 0))&&decide (rawHash (if b then 1 else 0)<2^63))=true then _ else _) Q E _;rw[if_pos (by rw[Qwj hr.1,Qwj hr.2];rfl)];exact Qq6 h
mutual
theorem Tn:∀(k:NK) (v:Value) (A:Around) (E:Value->Shared->Prop) (s:Shared) (Q:Int->Shared->Prop),A.units+k.dep<cLine->Az s.heap k v->Q (k.hash P w) { s with toks:=s.toks+k.draws }->wpAny (model P w) A (pyHash v) Q E s
 |.num i,v,A,E,s,Q,hu,e,h=>by
  rcases e with ⟨t,rfl⟩|⟨b,rfl,rfl⟩
  .exact wpAny_pyHash_int h
  .exact PN h
 |.txt x,v,A,E,s,Q,hu,e,h=>by
  obtain⟨t,rfl⟩:=e;exact wpAny_pyHash_str h
 |.tup ks,v,A,E,s,Q,hu,e,h=>by
  obtain⟨a,o,items,n,rfl,ho,hc,hd,hi⟩:=e;have hT:s.TypeIs (.ref a) "tuple":=⟨o,ho,hc⟩;have aco:(NK.tup ks).dep=1+NK.qR ks:=by rw[NK.dep]
  rw[aco] at hu;have hu0:A.units<cLine:=by omega
  have hin:A.in1.units+NK.qR ks<cLine:=by show A.units+1+NK.qR ks<cLine;omega
  unfold pyHash
  first|unfold pyHashByItsType|skip
  first|refine Qqx (wpAny_cRoomFor_or (.inr hu0) ?_)|skip
  refine Qqx (wpAny_specialOf hT F.slot_tuple_hash.lookup ?_);show wpAny _ _ (if (some (Value.builtin "tuple.__hash__") == some Value.none)=true then _ else _) Q E s;rw[if_neg (by rw[beq_builtin_none];exact Qx1)];refine Qqx (wpAny_specialOf hT F.slot_tuple_hash.lookup ?_);show wpAny _ _ (callSpecialIfBoundUnlessNone? (.ref a) "__hash__" _ >>= _) Q E s;refine Qqx (wpAny_callSpecialIfBoundUnlessNone?_slot hT F.slot_tuple_hash (Qz6 F.slot_tuple_hash hT F.entry_tuple_hash ?_ (F.args_tuple_hash_1 _)));show wpAny _ _ (Builtin.Tuple.tupleItemsOf (.ref a) >>= _) _ _ s;refine Qqx (wpAny_tupleItemsOf ho hd ?_);refine Qqx ?_;rw[<-Array.forIn_toList];refine HR ks items.toList A.in1 _ s _ _ #[] hin hi (λx b s' R q=>?_) ?_
  .first
    |exact Qqx (Qz9 q (λz s2 hz=>Qq6 hz) λ_ _ z=>z)|exact Qqx (Qz9 q (λz s2 hz=>Qqx (Qq6 (Qq6 hz))) λ_ _ z=>z)
  .show wpAny _ _ (retInt (Builtin.Tuple.tupleHashOf ((#[]:Array Int).toList++NK.hashes P w ks))) _ _ _;have hh:(NK.tup ks).hash P w=reduceHash (Builtin.Tuple.tupleHashOf (NK.hashes P w ks)):=by rw[NK.hash]
   have hdr:(NK.tup ks).draws=NK.pq ks+1:=by rw[NK.draws]
   rw[hh,hdr] at h;rw[show(#[]:Array Int).toList++NK.hashes P w ks=NK.hashes P w ks from rfl];refine wpAny_ret_mkInt ?_;show wpAny _ _ (if (decide (-(2:Int)^63<=Builtin.Tuple.tupleHashOf (NK.hashes P w ks))&&decide (Builtin.Tuple.tupleHashOf (NK.hashes P w ks)<2^63))=true then _ else _) Q E _;unfold reduceHash at h;by_cases hr:(decide (-(2:Int)^63<=Builtin.Tuple.tupleHashOf (NK.hashes P w ks))&&decide (Builtin.Tuple.tupleHashOf (NK.hashes P w ks)<2^63))=true
   .rw[if_pos hr];rw[if_pos hr] at h;exact Qq6 (by simpa[Nat.add_assoc] using h)
   .rw[if_neg hr];rw[if_neg hr] at h;exact Qqx (Qj8 (Qq6 (by simpa[Nat.add_assoc] using h)))
theorem HR:∀(ks:List NK) (vs:List Value) (A:Around) (E:Value->Shared->Prop) (s:Shared) (body:Value->Array Int->Sem (ForInStep (Array Int))) (Q:Array Int->Shared->Prop) (acc:Array Int),A.units+NK.qR ks<cLine->nY s.heap ks vs->
  (∀x b s' (R:ForInStep (Array Int)->Shared->Prop),wpAny (model P w) A (pyHash x) (λz s2=>R (.yield (b.push z)) s2) E s'->wpAny (model P w) A (body x b) R E s')->
  Q (acc.toList++NK.hashes P w ks).toArray { s with toks:=s.toks+NK.pq ks }->wpAny (model P w) A (forIn vs acc body) Q E s
 |[],vs,A,E,s,body,Q,acc,hu,e,hb,q=>by
  cases e;rw[Qkz];refine Qq6 ?_;have:(acc.toList++NK.hashes P w []).toArray=acc:=by rw[NK.hashes];simp
  rw[this] at q;have e0:NK.pq []=0:=by rw[NK.pq]
  rw[e0] at q;exact q
 |k::ks,vs,A,E,s,body,Q,acc,hu,e,hb,q=>by
  obtain⟨v,r,rfl,h1,h2⟩:=e;have aco:NK.qR (k::ks)=max k.dep (NK.qR ks):=by rw[NK.qR]
  rw[aco] at hu;rw[Qk0];refine Qqx (hb v acc s _ (Tn k v A E s _ (by omega) h1 ?_));refine HR ks r A E { s with toks:=s.toks+k.draws } body Q (acc.push (k.hash P w)) (by omega) h2 hb ?_;have e1:NK.hashes P w (k::ks)=k.hash P w::NK.hashes P w ks:=by rw[NK.hashes]
  have e2:NK.pq (k::ks)=k.draws+NK.pq ks:=by rw[NK.pq]
  rw[e1,e2] at q
  simpa[Nat.add_assoc] using q
end
theorem aeU:∀n x y u v A s,x.dep<=n->A.units+n+1<cLine->Az s.heap x u->Az s.heap y v->SeqAt.EqAt A s u v (decide (x=y))
 |n,.num i,.num j,u,v,A,s,hn,hu,hx,hy=>by
  have e:decide (NK.num i=NK.num j)=(i == j):=by rw[Qk1];simp
  rw[e];rcases hx with ⟨t,rfl⟩|⟨b,rfl,rfl⟩;rcases hy with ⟨t',rfl⟩|⟨c,rfl,rfl⟩;exact SeqAt.EqAt.int_int i t j t';exact SeqAt.EqAt.int_bool i t c;rcases hy with ⟨t',rfl⟩|⟨c,rfl,rfl⟩;exact SeqAt.EqAt.bool_int b j t';have:((if b then (1:Int) else 0) == (if c then 1 else 0))=(b == c):=by cases b<;>cases c<;>rfl
  rw[this];exact SeqAt.EqAt.bool_bool b c
 |n,.num i,.txt z,u,v,A,s,hn,hu,hx,hy=>by
  rw[Qq9 (λe=>by cases e)];obtain⟨t,rfl⟩:=hy;rcases hx with ⟨t',rfl⟩|⟨b,rfl,rfl⟩;exact SeqAt.EqAt.int_str i t' _ t;exact SeqAt.EqAt.bool_str b _ t
 |n,.num i,.tup ks,u,v,A,s,hn,hu,hx,hy=>by
  rw[Qq9 (λe=>by cases e)];obtain⟨a,o,items,m,rfl,h1,h2,h3,_⟩:=hy;have p:s.heap.IsTuple a items:=⟨o,h1,h2,m,h3⟩;rcases hx with ⟨t',rfl⟩|⟨b,rfl,rfl⟩;exact SeqAt.EqAt.int_tuple i t' p (by omega);exact SeqAt.EqAt.bool_tuple b p (by omega)
 |n,.txt z,.num i,u,v,A,s,hn,hu,hx,hy=>by
  rw[Qq9 (λe=>by cases e)];obtain⟨t,rfl⟩:=hx;rcases hy with ⟨t',rfl⟩|⟨b,rfl,rfl⟩;exact SeqAt.EqAt.str_int _ t i t';exact SeqAt.EqAt.str_bool _ t b
 |n,.txt z,.txt z',u,v,A,s,hn,hu,hx,hy=>by
  have e:decide (NK.txt z=NK.txt z')=(z == z'):=by rw[Qk1];simp
  rw[e];obtain⟨t,rfl⟩:=hx;obtain⟨t',rfl⟩:=hy;exact SeqAt.EqAt.str_str _ t _ t'
 |n,.txt z,.tup ks,u,v,A,s,hn,hu,hx,hy=>by
  rw[Qq9 (λe=>by cases e)];obtain⟨t,rfl⟩:=hx;obtain⟨a,o,items,m,rfl,h1,h2,h3,_⟩:=hy;have p:s.heap.IsTuple a items:=⟨o,h1,h2,m,h3⟩;exact SeqAt.EqAt.str_tuple _ t p (by omega)
 |n,.tup ks,.num i,u,v,A,s,hn,hu,hx,hy=>by
  rw[Qq9 (λe=>by cases e)];obtain⟨a,o,items,m,rfl,h1,h2,h3,_⟩:=hx;have p:s.heap.IsTuple a items:=⟨o,h1,h2,m,h3⟩;rcases hy with ⟨t',rfl⟩|⟨b,rfl,rfl⟩;exact SeqAt.EqAt.tuple_int i t' p (by omega);exact SeqAt.EqAt.tuple_bool b p (by omega)
 |n,.tup ks,.txt z,u,v,A,s,hn,hu,hx,hy=>by
  rw[Qq9 (λe=>by cases e)];obtain⟨a,o,items,m,rfl,h1,h2,h3,_⟩:=hx;have p:s.heap.IsTuple a items:=⟨o,h1,h2,m,h3⟩;obtain⟨t,rfl⟩:=hy;exact SeqAt.EqAt.tuple_str _ t p (by omega)
 |0,.tup ks,.tup ls,u,v,A,s,hn,hu,hx,hy=>by
  rw[NK.dep] at hn;omega
 |n+1,.tup ks,.tup ls,u,v,A,s,hn,hu,hx,hy=>by
  have hx0:=hx;have hy0:=hy;obtain⟨a,o,items,m,rfl,h1,h2,h3,h4⟩:=hx;obtain⟨a',o',items',m',rfl,h1',h2',h3',h4'⟩:=hy;have p:s.heap.IsTuple a items:=⟨o,h1,h2,m,h3⟩;have p':s.heap.IsTuple a' items':=⟨o',h1',h2',m',h3'⟩;rw[NK.dep] at hn;by_cases haa:a=a';subst haa;rw[Qwj (Az.inj hx0 hy0)];exact SeqAt.EqAt.same _;refine SeqAt.EqAt.of_refs haa ?_;have l1:=h4.length;have l2:=h4'.length;rw[Qqz] at l1 l2;have hu0:A.units<cLine:=by omega
  have:=SeqAt.RcAt.tuples (e:=λj=>decide (ks[j]?=ls[j]?)) p p' hu0 λj q1 q2=>?_;have e:((List.range (min items.size items'.size)).all (λj=>decide (ks[j]?=ls[j]?))&&items.size == items'.size)=decide (NK.tup ks=NK.tup ls):=by
   rw[Qk1];simp only[Qzq,Qx5,Qk5,decide_eq_true_eq,beq_iff_eq,NK.tup.injEq];constructor;rintro⟨g1,g2⟩;apply List.ext_getElem?;intro j;by_cases hj:j<min items.size items'.size;exact g1 j hj;rw[List.getElem?_eq_none (by omega),List.getElem?_eq_none (by omega)];rintro rfl;exact⟨λ_ _=>rfl,by omega⟩
  rw[<-e];exact this;have g1:items.toList[j]?=some items[j]:=by simp
  have g2:items'.toList[j]?=some items'[j]:=by simp
  obtain⟨k,r1,r2⟩:=h4.get g1;obtain⟨l,r3,r4⟩:=h4'.get g2;have e:decide (ks[j]?=ls[j]?)=decide (k=l):=by rw[r1,r3];simp
  rw[e];exact aeU n k l _ _ A.in1 s (Qq4 (NK.Ad r1) (by omega)) (by show A.units+1+n+1<cLine;omega) r2 r4
theorem Mt:∀n k v A E s Q,k.dep<=n->Az s.heap k v->Q true s->wpAny (model P w) A (eqIsQuiet n v) Q E s
 |n,.num i,v,A,E,s,Q,hn,e,h=>by
  rcases e with ⟨t,rfl⟩|⟨b,rfl,rfl⟩;rw[eqIsQuiet_byValue n rfl];exact Qq6 h;rw[eqIsQuiet_byValue n rfl];exact Qq6 h
 |n,.txt x,v,A,E,s,Q,hn,e,h=>by
  obtain⟨t,rfl⟩:=e;rw[eqIsQuiet_byValue n rfl];exact Qq6 h
 |0,.tup ks,v,A,E,s,Q,hn,e,h=>by
  rw[NK.dep] at hn;omega
 |n+1,.tup ks,v,A,E,s,Q,hn,e,h=>by
  obtain⟨a,o,items,m,rfl,ho,hc,hd,hi⟩:=e;rw[NK.dep] at hn;have hT:s.TypeIs (.ref a) "tuple":=⟨o,ho,hc⟩;unfold eqIsQuiet;refine Qqx (wpAny_specialOf hT F.slot_tuple_eq.lookup ?_);show wpAny _ _ (isInstance (.ref a) (.type "tuple") >>= _) _ _ s;refine Qqx (wpAny_isInstance hT isSubtype_tuple_tuple ?_);simp only[Bool.not_true,Bool.false_eq_true,if_false];refine Qqx (Qj2 ho hd ?_);refine Qqx ?_;show wpAny _ _ (forIn items _ _) _ _ s;rw[<-Array.forIn_toList];refine wpAny_forIn_list _ (λrest r s'=>r.1=none/\s'=s/\∀v∈rest,∃k:NK,k.dep<=n/\Az s.heap k v) _ ?_ ?_ _ _ ⟨rfl,rfl,λv hv=>?_⟩;rintro v rest r s' ⟨hr,rfl,hall⟩;obtain⟨k,hk1,hk2⟩:=hall v Qqj;refine Qqx (Mt n k v A E _ _ hk1 hk2 ?_);simp only[Bool.not_true,Bool.false_eq_true,if_false];exact Qq6 ⟨rfl,rfl,λu hu'=>hall u (Qqq _ hu')⟩;rintro⟨r1,r2⟩ s' ⟨hr,rfl,_⟩;simp only at hr;subst hr;exact Qq6 h;obtain⟨j,hj,rfl⟩:=List.mem_iff_getElem.mp hv;obtain⟨k,r1,r2⟩:=hi.get (Qqv hj);exact⟨k,Qq4 (NK.Ad r1) (by omega),r2⟩
noncomputable def qy(P:Program)(w:World):HeapKind P w NK where
 is:=λh k a=>Az h k (.ref a)/\k.dep<=8
 hash:=NK.hash P w
 draws:=NK.draws
 room:=λA=>A.units+10<cLine
 inj:=λhx hy=>hx.1.inj hy.1
 keeps:=λx ho hd hs=>⟨x.1.keeps ho hd hs,x.2⟩
 pyHash:=λhu hk h=>Tn _ _ _ _ _ _ (by have:=hk.2;omega) hk.1 h
 eqBool:=λhu hx hy h=>aeU 8 _ _ _ _ _ _ hx.2 (by omega) hx.1 hy.1 P w _ _ h
 quiet:=λhk h=>Mt 8 _ _ _ _ _ _ hk.2 hk.1 h
end
abbrev Key:=Sum Int Str
noncomputable def zE:Key->Value->Bool
 |.inl k,v=>Value.isInt k v|.inr x,v=>Value.isStrOf x v
noncomputable def ag8(w:World):Key->Int
 |.inl k=>hashInt k|.inr x=>hashStr w x
theorem eO:∀{k} {v},zE k v=true->(∃i t,k=Sum.inl i/\v=Value.int i t)\/(∃x t,k=Sum.inr x/\v=Value.str x t)
 |.inl i,v,h=>by
  obtain⟨t,e⟩:=Value.isInt_shape (k:=i) (v:=v) h;exact .inl ⟨i,t,rfl,e⟩
 |.inr x,v,h=>by
  obtain⟨t,e⟩:=Value.isStrOf_shape (x:=x) (v:=v) h;exact .inr ⟨x,t,rfl,e⟩
theorem Pu(i)(t):zE (.inl i) (.int i t)=true:=by simp[zE,Value.isInt]
theorem Pq(x)(t):zE (.inr x) (.str x t)=true:=by simp[zE,Value.isStrOf]
theorem ab5(a b):decide ((Sum.inl a:Key)=Sum.inl b)=(a == b):=by
 by_cases e:a=b;subst e;simp;have h:¬(Sum.inl a:Key)=Sum.inl b:=λq=>e (Sum.inl.inj q);rw[Qq9 h];exact(Qzw.mpr e).symm
theorem ab2(a b):decide ((Sum.inr a:Key)=Sum.inr b)=decide (a=b):=by
 by_cases e:a=b;subst e;simp;have h:¬(Sum.inr a:Key)=Sum.inr b:=λq=>e (Sum.inr.inj q);rw[Qq9 h,Qq9 e]
theorem ab4(a)(b):decide ((Sum.inl a:Key)=Sum.inr b)=false:=Qq9 (λq=>nomatch q)
theorem ab3(a)(b):decide ((Sum.inr a:Key)=Sum.inl b)=false:=Qq9 (λq=>nomatch q)
noncomputable def dO(prog:Program)(w:World):PySem.KeyKind prog w Key where
 is:=zE
 hash:=ag8 w;inj:=λv a b ha hb=>by
  rcases eO ha with ⟨i,t,rfl,rfl⟩|⟨x,t,rfl,rfl⟩;rcases eO hb with ⟨j,u,rfl,e⟩|⟨y,u,rfl,e⟩;injection e with e1 _;rw[e1]
  exact nomatch e;rcases eO hb with ⟨j,u,rfl,e⟩|⟨y,u,rfl,e⟩;exact nomatch e;injection e with e1 _;rw[e1]
 byValue:=λk v h=>by
  rcases eO h with ⟨i,t,rfl,rfl⟩|⟨x,t,rfl,rfl⟩<;>rfl
 pyHash:=λhv h=>by
  rcases eO hv with ⟨i,t,rfl,rfl⟩|⟨x,t,rfl,rfl⟩;exact wpAny_pyHash_int h;exact wpAny_pyHash_str h
 eqBool:=λhu hv h=>by
  rcases eO hu with ⟨i,t,rfl,rfl⟩|⟨x,t,rfl,rfl⟩;rcases eO hv with ⟨j,u,rfl,rfl⟩|⟨y,u,rfl,rfl⟩;rw[ab5] at h;exact wpAny_eqBool_int h;rw[ab4] at h;exact SeqAt.EqAt.int_str i t y u _ _ _ _ h;rcases eO hv with ⟨j,u,rfl,rfl⟩|⟨y,u,rfl,rfl⟩;rw[ab3] at h;exact SeqAt.EqAt.str_int x t j u _ _ _ _ h;rw[ab2] at h;exact wpAny_eqBool_str h
 «strs»:=λk x t v h=>by
  rcases eO h with ⟨i,u,rfl,e⟩|⟨y,u,rfl,e⟩;exact nomatch e;injection e with e1 _
  subst e1;cases v<;>rfl
theorem HX(prog)(w)(i)(t):(dO prog w).is (.inl i) (.int i t)=true:=Pu i t
theorem HW(prog)(w)(x)(t):(dO prog w).is (.inr x) (.str x t)=true:=Pq x t
inductive V where
 |non|bl (b:Bool)|int (i:Int)|str (x:Str)|byt (b:Array UInt8)|flt (b:UInt64)|ref (a:Addr)|ty (n:String)
 deriving DecidableEq
def RelV:V->Value->Prop
 |.non,u=>u=Value.none|.bl b,u=>u=Value.bool b|.int i,u=>∃t,u=Value.int i t|.str x,u=>∃t,u=Value.str x t|.byt b,u=>∃t,u=Value.bytes b t|.flt b,u=>∃t,u=Value.float b t|.ref a,u=>u=Value.ref a|.ty n,u=>u=Value.type n
abbrev Vals:List V->List Value->Prop:=Paired RelV
theorem Vals.length(r:Vals xs us):xs.length=us.length:=Paired.length r
theorem Vals.get:∀{xs} {us} {i:Nat} {x},Vals xs us->xs[i]?=some x->∃u,us[i]?=some u/\RelV x u
 |_,_,_,_,.nil,e=>by simp at e|_,_,0,_,.cons r _,e=>by simp at e;subst e;exact⟨_,rfl,r⟩
 |_,_,i+1,x,.cons _ t,e=>by
  obtain⟨u,h1,h2⟩:=Vals.get t (by simpa using e);exact⟨u,by simpa using h1,h2⟩
theorem Vals.set(r:RelV x u):∀{xs} {us} i,Vals xs us->Vals (xs.set i x) (us.set i u)
 |_,_,_,.nil=>.nil|_,_,0,.cons _ t=>.cons r t|_,_,i+1,.cons q t=>.cons q<|Vals.set r i t
theorem Vals.append:∀{xs ys} {us ws},Vals xs us->Vals ys ws->Vals (xs++ys) (us++ws)
 |_,_,_,_,.nil,s=>s|_,_,_,_,.cons r t,s=>.cons r<|Vals.append t s
theorem Vals.take:∀{xs} {us} n,Vals xs us->Vals (xs.take n) (us.take n)
 |_,_,0,_=>.nil|_,_,_+1,.nil=>.nil|_,_,n+1,.cons r t=>.cons r<|Vals.take n t
theorem Vals.drop:∀{xs} {us} n,Vals xs us->Vals (xs.drop n) (us.drop n)
 |_,_,0,r=>r|_,_,_+1,.nil=>.nil|_,_,n+1,.cons _ t=>Vals.drop n t
def vD:Option V->Option Value->Prop
 |some v,some u=>RelV v u|none,none=>True|_,_=>False
def KV{κ:Type}:List (κ×V)->List (κ×Value)->Prop:=Paired λ(p:κ×V) (q:κ×Value)=>p.1=q.1/\RelV p.2 q.2
noncomputable def kV:Key->V
 |.inl i=>.int i|.inr x=>.str x
inductive HO where
 /-- a list -/
 |lst (xs:List V)
 /-- a tuple (never changes) -/
 |tup (xs:List V)
 /-- a dict whose keys are ints and texts;one whose keys are tuples of ints and texts (the empty one is both) -/
 |dK (kvs:List (Key×V))|dT (kvs:List (List Key×V))|dN (kvs:List (NK×V×V))
 /-- a set of ints: its members,its size -/
 |set (S:Int->Bool) (n:Nat)
 /-- an instance of the class at C,its dict at dx,its attributes -/
 |ins (C dx:Addr) (fs:List (Str×V))
 /-- the dict of the instance at x -/
 |own (x:Addr)
 /-- the dict of an exception -/
 |xd (fs:List (Str×V))
 /-- a bound method,f of x -/
 |met (f x:Addr)
 /-- a range object lo,lo+1,.. below hi -/
 |rng (lo hi:Int)
 /-- a thing that is known to the object (the script;a dict while a loop walks it): read,never written while it is so -/
 |lg (o:Obj) (u:HO)
 /-- a code object's table -/
 |tbl (ps:Array Value)
 /-- a code object's table: whatever it holds,the codes made at these places are known and bear these names -/
 |tab (qs:List (Pos×Str))
 /-- any other thing,by what is true of its one object (a def of one's own: afI a S n:=HO.ext λh=>..) -/
 |ext (φ:Heap->Prop)
abbrev Hp:=Addr->Option HO
noncomputable def upd(H:Hp)(a:Addr)(o:HO):Hp:=λb=>if b=a then some o else H b
theorem aU:upd H a o a=some o:=by unfold upd;rw[if_pos rfl]
theorem bj(h:b≠a):upd H a o b=H b:=by unfold upd;rw[if_neg h]
theorem VF:upd (upd H a o) a u=upd H a u:=by funext b;unfold upd;split<;>rfl
theorem aeR{H:Hp}(h:H a=some o)(h':H b=some u)(d:o≠u):a≠b:=by intro e;subst e;rw[h] at h';exact d<|Qw4 h'
theorem cW{H:Hp}(h:H a=some o)(h':H b=none):a≠b:=by intro e;subst e;rw[h] at h';cases h'
def BJ(h:Heap)(a:Addr)(items:Array Value):Prop:=∃o,h.get? a=some o/\o.cls=.type "tuple"/\(∃n,o.data=.seq items n)/\o.dict=none
theorem BJ.is(x:BJ h a items):IsTup h a items:=let ⟨o,h1,h2,h3,_⟩:=x;⟨o,h1,h2,h3⟩
theorem BJ.new(h:Heap)(items):BJ (h.push { cls:=.type "tuple",data:=.seq items }) h.objs.size items:=⟨_,Qw2 _ rfl,rfl,⟨_,rfl⟩,rfl⟩
section
variable(P:Program)(w:World)
def gf(H:Hp)(h:Heap)(a:Addr):HO->Prop
 |.lst xs=>xs.length<=sizeLine/\∃(its:List Value) (n:Nat),Vals xs its/\h.get? a=some { cls:=.type "list",data:=.seq its.toArray n }|.tup xs=>xs.length<=sizeLine/\∃its:List Value,Vals xs its/\BJ h a its.toArray|.dK kvs=>kvs.length<=sizeLine/\(a == sysModules)=false/\∃vs,KV kvs vs/\h.DictOf (dO P w) a vs
 |.dT kvs=>kvs.length<=sizeLine/\(a == sysModules)=false/\∃xs:List (List Key×Addr×Value),
   Paired (λ(p:List Key×V) (q:List Key×Addr×Value)=>p.1=q.1/\H q.2.1=some (.tup (p.1.map kV))/\RelV p.2 q.2.2) kvs xs/\
   ∃o es ep,h.get? a=some o/\o.ExactDict/\o.data=.dict es ep/\es.toList=xs.map (entryOfKey (tupleKind (dO P w)))/\(xs.map (·.1)).Nodup
 |.dN kvs=>kvs.length<=sizeLine/\(a == sysModules)=false/\∃xs:List (NK×Addr×Value),
   Paired (λ(p:NK×V×V) (q:NK×Addr×Value)=>p.1=q.1/\p.2.1=.ref q.2.1/\RelV p.2.2 q.2.2) kvs xs/\
   ∃o es ep,h.get? a=some o/\o.ExactDict/\o.data=.dict es ep/\es.toList=xs.map (entryOfKey (qy P w))/\(xs.map (·.1)).Nodup
 |.set S n=>h.SetOf (intKind P w) a S n
 |.ins C dx fs=>H dx=some (.own a)/\fs.length<=1000/\dx≠a/\h.get? a=some (PySem.W.instObj C dx)/\
   ∃mA,h.Ns1 dx mA/\(∀f,vD (fs.lookup f) (mA f))/\PySem.Within mA (fs.map (·.1))
 |.own _=>∃o,h.get? a=some o|.xd fs=>∃mA,h.Ns1 a mA/\∀f,vD (fs.lookup f) (mA f)|.rng lo hi=>∃t u v,h.get? a=some { cls:=.type "range",data:=.fields #[.int lo t,.int hi u,.int 1 v] }|.lg o u=>h.get? a=some o/\gf H h a u|.tbl ps=>h.get? a=some { cls:=.none,data:=.fields ps }|.tab qs=>∃ps:Array Value,h.get? a=some { cls:=.none,data:=.fields ps }/\TriplesOk ps.toList/\∀q∈qs,codeAmong q.1 ps.toList=none\/∃(c:Addr) (o:Obj) (u:HO) (vs:Array Value) (t:Tok),codeAmong q.1 ps.toList=some (.ref c)/\H c=some (.lg o u)/\o.data=.fields vs/\vs[1]?=some (.str q.2 t)|.met f x=>h.get? a=some (PySem.W.methodObj (.ref f) (.ref x))|.ext φ=>φ h/\(∃o,h.get? a=some o)/\∀h1 h2:Heap,φ h1->(∀o,h1.get? a=some o->h2.get? a=some o)->φ h2
def tY(H:Hp)(h:Heap):Prop:=∀a o,H a=some o->gf P w H h a o
end
section
variable{P:Program}{w:World}{H H':Hp}{h h':Heap}{a:Addr}{o:HO}
theorem gf.lt(x:gf P w H h a o):a<h.objs.size:=by
 cases o with
 |lst xs=>obtain⟨_,_,_,_,e⟩:=x;exact Qwx e|tup xs=>obtain⟨_,_,_,p⟩:=x;exact p.is.lt|dK kvs=>obtain⟨_,_,_,_,o,_,_,e,_⟩:=x;exact Qwx e|dT kvs=>obtain⟨_,_,_,_,o,_,_,e,_⟩:=x;exact Qwx e|dN kvs=>obtain⟨_,_,_,_,o,_,_,e,_⟩:=x;exact Qwx e|set S n=>obtain⟨o,_,_,_,e,_⟩:=x;exact Qwx e|ins C dx fs=>obtain⟨_,_,_,e,_⟩:=x;exact Qwx e|own y=>obtain⟨_,e⟩:=x;exact Qwx e|xd fs=>obtain⟨_,⟨_,_,_,e,_⟩,_⟩:=x;exact Qwx e|rng lo hi=>obtain⟨_,_,_,e⟩:=x;exact Qwx e|lg ob u=>obtain⟨e,_⟩:=x;exact Qwx e|tbl ps=>exact Qwx<|show h.get? a=some _ from x|tab qs=>obtain⟨_,e,_⟩:=x;exact Qwx e|met f y=>exact Qwx<|show h.get? a=some _ from x|ext φ=>obtain⟨_,⟨_,e⟩,_⟩:=x;exact Qwx e
theorem Paired.abR{α β:Type}{F G:α->β->Prop}:∀{l₁} {l₂},Paired F l₁ l₂->(∀a b,F a b->G a b)->Paired G l₁ l₂
 |_,_,.nil,_=>.nil|_,_,.cons r t,f=>.cons (f _ _ r)<|Paired.abR t f
theorem gf.stay(x:gf P w H h a o)(k:∀b u,(b=a\/H b=some (.own a))->h.get? b=some u->h'.get? b=some u)
  (ho:∀b,H b=some (.own a)->H' b=some (.own a)) (ht:∀b xs,H b=some (.tup xs)->H' b=some (.tup xs))
  (hz:∀b o u vs,o.data=.fields vs->H b=some (.lg o u)->H' b=some (.lg o u):=by intro _ _ _ _ _ q;exact q):gf P w H' h' a o:=by
 induction o with
 |lst xs=>obtain⟨z,its,n,r,e⟩:=x;exact⟨z,its,n,r,k _ _ (.inl rfl) e⟩|tup xs=>obtain⟨z,its,r,ob,e,c⟩:=x;exact⟨z,its,r,ob,k _ _ (.inl rfl) e,c⟩|dK kvs=>obtain⟨z,y,vs,r,ob,es,ep,e,c⟩:=x;exact⟨z,y,vs,r,ob,es,ep,k _ _ (.inl rfl) e,c⟩|dT kvs=>obtain⟨z,y,xs,r,ob,es,ep,e,c⟩:=x;exact⟨z,y,xs,Paired.abR r λp q z=>⟨z.1,ht _ _ z.2.1,z.2.2⟩,ob,es,ep,k _ _ (.inl rfl) e,c⟩|dN kvs=>obtain⟨z,y,xs,r,ob,es,ep,e,c⟩:=x;exact⟨z,y,xs,r,ob,es,ep,k _ _ (.inl rfl) e,c⟩|set S n=>obtain⟨ob,es,ep,t,e,c⟩:=x;exact⟨ob,es,ep,t,k _ _ (.inl rfl) e,c⟩|ins C dx fs=>obtain⟨d,z,ne,e,mA,⟨od,es,ep,e2,c⟩,r⟩:=x;exact⟨ho _ d,z,ne,k _ _ (.inl rfl) e,mA,⟨od,es,ep,k _ _ (.inr d) e2,c⟩,r⟩|own y=>obtain⟨ob,e⟩:=x;exact⟨ob,k _ _ (.inl rfl) e⟩|xd fs=>obtain⟨mA,⟨od,es,ep,e,c⟩,r⟩:=x;exact⟨mA,⟨od,es,ep,k _ _ (.inl rfl) e,c⟩,r⟩|rng lo hi=>obtain⟨t,u,v,e⟩:=x;exact⟨t,u,v,k _ _ (.inl rfl) e⟩|lg ob u ih=>obtain⟨e,q⟩:=x;exact⟨k _ _ (.inl rfl) e,ih q⟩|tbl ps=>have e:=x;exact k a _ (.inl rfl) e
 |tab qs=>
  obtain⟨ps,e,t,r⟩:=x;refine⟨ps,k a _ (.inl rfl) e,t,λq hq=>?_⟩;rcases r q hq with z|⟨c,o,u,vs,t,h1,h2,h3,h4⟩
  .exact .inl z
  .exact .inr ⟨c,o,u,vs,t,h1,hz c o u vs h3 h2,h3,h4⟩
 |met f y=>have e:=x;show h'.get? a=some (PySem.W.methodObj (.ref f)<|.ref y);exact k a _ (.inl rfl) e|ext φ=>obtain⟨p,⟨o,e⟩,st⟩:=x;exact⟨st _ _ p λo q=>k _ _ (.inl rfl) q,⟨o,k _ _ (.inl rfl) e⟩,st⟩
theorem tY.lt(x:tY P w H h)(e:H a=some o):a<h.objs.size:=(x a o e).lt
theorem tY.fresh(x:tY P w H h)(e:h.objs.size<=a):H a=none:=by
 cases q:H a with
 |none=>rfl|some u=>exact absurd (Qwz (x.lt q) e)<|Qz0 _
theorem tY.kept(x:tY P w H h)(k:∀b u,h.get? b=some u->h'.get? b=some u):tY P w H h':=λa o e=>
 (x a o e).stay (λb u _ q=>k b u q) (λ_ q=>q) λ_ _ q=>q
theorem tY.laid(x:tY P w H h)(k:∀b u,h.get? b=some u->h'.get? b=some u)(hp:h.objs.size<=a)(new:gf P w (upd H a o) h' a o):tY P w (upd H a o) h':=λb u e=>by
 have hn:=x.fresh hp;by_cases hb:b=a;subst hb;rw[aU] at e;cases e;exact new;rw[bj hb] at e;exact(x b u e).stay (λc v _ q=>k c v q) (λc q=>by rw[bj (cW q hn)];exact q) (λc xs q=>by rw[bj (cW q hn)];exact q) λc _ _ _ _ q=>by rw[bj (cW q hn)];exact q
end
def Rd(H:Hp)(a:Addr)(u:HO):Prop:=H a=some u\/∃o,H a=some (.lg o u)
theorem Rd.ok(r:Rd H a u)(x:tY P w H h):gf P w H h a u:=by
 rcases r with r|⟨o,r⟩;exact x a u r;obtain⟨_,q⟩:=x a _ r;exact q
def Mut:Option HO->Prop
 |some (.lst _)=>True|some (.dK _)=>True|some (.dT _)=>True|some (.dN _)=>True|some (.set _ _)=>True|some (.ins _ _ _)=>True|some (.ext _)=>True|_=>False
section
variable{P:Program}{w:World}{H:Hp}{h h':Heap}{x e:Addr}{o':HO}
theorem tY.write(ok:tY P w H h)(mu:Mut (H x))(he:e=x\/H e=some (.own x))(k:∀b u,b≠e->h.get? b=some u->h'.get? b=some u)(heo:∃u,h'.get? e=some u)
  (new:gf P w (upd H x o') h' x o'):tY P w (upd H x o') h':=λb u q=>by
 have aeO:∀c y,H c=some (.own y)->c≠x:=λc y r z=>by subst z;rw[r] at mu;exact mu
 have agZ:∀c xs,H c=some (.tup xs)->c≠x:=λc xs r z=>by subst z;rw[r] at mu;exact mu
 by_cases hb:b=x;subst hb;rw[aU] at q;cases q;exact new;rw[bj hb] at q;by_cases hbe:b=e;have q':H b=some (.own x):=by
  rcases he with z|z;exact absurd (hbe.trans z) hb;rw[hbe];exact z
 rw[q] at q';cases q';obtain⟨v,hv⟩:=heo;exact⟨v,by rw[hbe];exact hv⟩;refine(ok b u q).stay (λc v hc r=>k c v ?_ r) (λc r=>by rw[bj (aeO c b r)];exact r) (λc xs r=>by rw[bj (agZ c xs r)];exact r) λc _ _ _ _ r=>by rw[bj (λz=>by subst z;rw[r] at mu;exact mu)];exact r
 rcases hc with rfl|hc;exact hbe;rintro rfl;rcases he with z|z;exact aeO c b hc z;rw[hc] at z;cases z;exact hb rfl
end
structure Un(fs ex:List Addr)(H H':Hp)(h h':Heap):Prop where
 keep:∀b o,h.get? b=some o->H b=none->b ∉ fs->b ∉ ex->h'.get? b=some o
 slot:∀b o,h.get? b=some o->H b=none->b∈fs->b ∉ ex->∃sl,h'.get? b=some { o with slots:=sl }
 free:∀b o,h.get? b=some o->H b=none->b ∉ ex->H' b=none
 there:∀b o,h.get? b=some o->b ∉ ex->∃o',h'.get? b=some o'
 tups:∀b xs,H b=some (.tup xs)->H' b=some (.tup xs)
 wU:∀b o u,H b=some (.lg o u)->H' b=some (.lg o u)
 Dr:∀b ps,H b=some (.tbl ps)->∃more,H' b=some (.tbl (ps++more))
 tabs:∀b qs,H b=some (.tab qs)->H' b=some (.tab qs)
section
variable{fs fs' ex ex':List Addr}{H H1 H2:Hp}{h h1 h2 h':Heap}{a x e:Addr}{o:HO}
theorem Un.any(u:Un fs ex H H1 h h1)(q:h.get? b=some ob)(n:H b=none)(hx:b ∉ ex):∃sl,h1.get? b=some { ob with slots:=sl }:=by
 by_cases hb:b∈fs;exact u.slot b ob q n hb hx;exact⟨ob.slots,u.keep b ob q n hb hx⟩
theorem Un.kept(k:∀b u,h.get? b=some u->h'.get? b=some u):Un fs ex H H h h':=
 ⟨λb ob q _ _ _=>k b ob q,λb ob q _ _ _=>⟨ob.slots,k b ob q⟩,λ_ _ _ n _=>n,λb ob q _=>⟨ob,k b ob q⟩,λ_ _ q=>q,λ_ _ _ q=>q,λ_ ps q=>⟨#[],by rw[q];simp⟩,λ_ _ q=>q⟩
theorem Un.refl:Un fs ex H H h h:=Un.kept λ_ _ q=>q
theorem Un.laid(k:∀b u,h.get? b=some u->h'.get? b=some u)(hp:h.objs.size<=a)(hn:H a=none):Un fs ex H (upd H a o) h h' where
 keep:=λb u q _ _ _=>k b u q
 slot:=λb u q _ _ _=>⟨u.slots,k b u q⟩
 free:=λb u q n _=>by rw[bj (Qxv<|Qwz (Qwx q) hp)];exact n
 there:=λb u q _=>⟨u,k b u q⟩
 tups:=λb xs q=>by rw[bj (cW q hn)];exact q
 wU:=λb u xs q=>by rw[bj (cW q hn)];exact q
 Dr:=λb ps q=>⟨#[],by rw[bj (cW q hn),q];simp⟩
 tabs:=λb qs q=>by rw[bj (cW q hn)];exact q
theorem Un.write(mu:Mut (H x))(he:e=x\/H e=some (.own x))(k:∀b u,b≠e->h.get? b=some u->h'.get? b=some u)(heo:∃u,h'.get? e=some u):Un fs ex H (upd H x o) h h':=by
 have hx:∀b,H b=none->b≠x:=λb n z=>by subst z;rw[n] at mu;exact mu
 have hb:∀b,H b=none->b≠e:=λb n z=>by
  subst z;rcases he with r|r;exact hx b n r;rw[n] at r;cases r
 have hm:∀b u,H b=some u->¬Mut (some u)->b≠x:=λb u q nm z=>by subst z;rw[q] at mu;exact nm mu
 refine⟨λb u q n _ _=>k b u (hb b n) q,λb u q n _ _=>⟨u.slots,k b u (hb b n) q⟩,λb u q n _=>by rw[bj (hx b n)];exact n,λb u q _=>?_,
  λb xs q=>by rw[bj (hm b _ q λz=>z)];exact q,λb u xs q=>by rw[bj (hm b _ q λz=>z)];exact q,λb ps q=>⟨#[],by rw[bj (hm b _ q λz=>z),q];simp⟩,λb qs q=>by rw[bj (hm b _ q λz=>z)];exact q⟩
 by_cases hbe:b=e;subst hbe;exact heo;exact⟨u,k b u hbe q⟩
end
noncomputable def trk(h:Heap)(H:Hp):List Addr:=(List.range h.objs.size).filter λa=>(H a).isSome
noncomputable def Bv(h:Heap)(H:Hp):Heap:=PySem.W.hideAll h (trk h H)
theorem PL(h)(H):(Bv h H).objs.size=h.objs.size:=PySem.W.hideAll_size _ _
theorem Ue(e:h.get? b=some o)(n:H b=none):(Bv h H).get? b=some o:=
 PySem.W.hideAll_get _ e λhm=>by
  have q:=(List.mem_filter.mp hm).2;rw[n] at q;simp at q
theorem W5(e:(Bv h H).get? b=some o):h.get? b=some o/\H b=none:=by
 have e':=PySem.W.of_hideAll (trk h H) e;refine⟨e',?_⟩;cases q:H b with
 |none=>rfl|some x=>have hm:b∈trk h H:=List.mem_filter.mpr ⟨Qk5.mpr<|Qwx e',by simp[q]⟩;have z:(Bv h H).get? b=none:=PySem.W.hideAll_none (trk h H) hm;rw[z] at e;cases e
noncomputable def Ym(g h:Heap)(L:Addr):List (Addr×Obj):=(List.range h.objs.size).filterMap λa=>if a=L\/(g.get? a).isSome=true then none else (h.get? a).map λo=>(a,o)
noncomputable def rest(g h:Heap)(L d:Addr):List (Addr×Obj):=(Ym g h L).filter λp=>decide (p.1≠d)
structure Mod(K:PySem.W.Frag)(mg:Str->Option Value)(base:Heap):Prop where
 Jz:K.In base
 glob:base.Ns mainGlobals mg
 blt:∃mb,base.Ns builtinsNs mb/\∀x:Str,x ≠ "__name__"->mb x=bootBuiltins x
 nolimit:base.NoLimit
structure Cx where
 prog:Program
 w:World
 K:PySem.W.Frag
 mg:Str->Option Value
 base:Heap
 A:Around
 N:List Str
 s₀:Shared
 H₀:Hp
 env:Env
 outer:List Env
 stack:List Env
 ex:List Addr
 fn:Str->Bool
 calm:Bool
 pn:List (Addr×Obj)
 xe:Value->Shared->Prop
noncomputable def frs(l:List Env):List Addr:=l.filterMap (·.frame)
abbrev Cx.fs(X:Cx):List Addr:=frs X.outer
def vM(sc:Scope)(x:Str):Prop:=sc.names.lookup x=some .local\/sc.names.lookup x=some .cell\/sc.names.lookup x=some .free
def Loc(sc:Scope)(x:Str):Prop:=sc.names.lookup x=some .local\/sc.names.lookup x=some .cell
def Look(env:Env)(h:Heap)(m:Str->Option Value)(x:Str)(u:Value):Prop:=
 (env.kindOf x=some .local/\m x=some u)\/((env.kindOf x=some .cell\/env.kindOf x=some .free)/\∃c,env.cells.lookup x=some c/\h.IsCell c (some u))
structure Cx.Ok(X:Cx):Prop where
 mod:Mod X.K X.mg X.base
 kind:X.env.scope.kind=.function
 glob:X.env.globals=mainGlobals
 blt:X.env.builtins=builtinsNs
 above:X.s₀.heap.objs.size<=X.env.locals
 inj:∀x y c,X.env.cells.lookup x=some c->X.env.cells.lookup y=some c->x=y
 has:∀x,(X.env.kindOf x=some .cell\/X.env.kindOf x=some .free)->∃c,X.env.cells.lookup x=some c
 cab:∀x c,X.fn x=true->X.env.cells.lookup x=some c->X.s₀.heap.objs.size<=c
 hd:X.calm=true->X.A.handled=none
 frames:X.A.frames=some X.stack
 bQ:X.stack=X.outer\/(X.stack=X.env::X.outer/\X.env.frame=some X.env.locals)
 exf:∀b∈X.ex,b≠X.env.locals/\∀x c,X.env.cells.lookup x=some c->c≠b
 bs:∀b o,X.base.get? b=some o->X.s₀.heap.get? b=some o/\X.H₀ b=none
 U6:X.base.objs.size<=X.s₀.heap.objs.size
 Tf:∀b o,X.base.get? b=some o->b ∉ X.ex
 Uo:∀b∈X.ex,b ∉ X.fs
 uW:X.s₀.heap.FunFrames X.base X.outer
 ZF:∀b∈X.fs,X.H₀ b=none
structure Inv(X:Cx)(pins:List (Addr×Obj))(σ:List (Option V))(H:Hp)(s:Shared):Prop where
 ok:X.Ok
 os:s.os=X.s₀.os
 bare:AllBare s.gens
 base:Un X.fs X.ex X.H₀ H X.s₀.heap s.heap
 loc:∃m,s.heap.Ns X.env.locals m/\∀(i:Nat) (x:Str) (v:V),X.N[i]?=some x->σ[i]?=some (some v)->vM X.env.scope x->∃u,RelV v u/\Look X.env s.heap m x u
 cell:∀x c,X.env.cells.lookup x=some c->∃v,s.heap.IsCell c v
 free:H X.env.locals=none
 qL:∀x c,X.env.cells.lookup x=some c->H c=none\/(X.fn x=false/\∃o u,H c=some (.lg o u))
 pin:∀p∈X.pn++pins,s.heap.get? p.1=some p.2/\H p.1=none/\p.1≠X.env.locals/\p.1 ∉ X.fs/\∀v,p.2.data ≠ .cell v
 hok:tY X.prog X.w H s.heap
 len:σ.length=X.N.length
section
variable{X:Cx}{pins:List (Addr×Obj)}{σ:List (Option V)}{H H':Hp}{s:Shared}{h':Heap}
theorem Cx.Ok.ag2(ok:X.Ok)(e:X.base.get? b=some o):b ∉ X.fs:=λhb=>by
 have:=(ok.uW.mem hb).1;rw[e] at this;cases this
theorem Inv.bs(I:Inv X pins σ H s):∀b o,X.base.get? b=some o->s.heap.get? b=some o/\H b=none:=λb o e=>
 ⟨I.base.keep b o (I.ok.bs b o e).1 (I.ok.bs b o e).2 (I.ok.ag2 e)<|I.ok.Tf b o e,I.base.free b o (I.ok.bs b o e).1 (I.ok.bs b o e).2<|I.ok.Tf b o e⟩
theorem Inv.bk(I:Inv X pins σ H s):∀b o,X.base.get? b=some o->s.heap.get? b=some o:=λb o e=>(I.bs b o e).1
theorem Inv.mod(I:Inv X pins σ H s):Mod X.K X.mg X.base:=I.ok.mod
theorem Inv.Px(I:Inv X pins σ H s):X.K.In s.heap:=I.ok.mod.Jz.keeps I.bk
theorem Inv.lt(I:Inv X pins σ H s):X.env.locals<s.heap.objs.size:=let ⟨_,hn,_⟩:=I.loc;hn.lt
theorem Inv.sz(I:Inv X pins σ H s):X.s₀.heap.objs.size<=s.heap.objs.size:=Qq4 I.ok.above<|Qx3 I.lt
theorem Inv.ag1(I:Inv X pins σ H s){a:Addr}(h:s.heap.objs.size<=a):a ∉ X.fs:=λhb=>by
 obtain⟨_,o,ho,_⟩:=I.ok.uW.mem hb;exact absurd (Qwz (Qwx ho)<|Qq4 I.sz h)<|Qz0 _
theorem Inv.ZP(I:Inv X pins σ H s):∀x c,X.env.cells.lookup x=some c->c≠X.env.locals:=λx c e z=>by
 obtain⟨v,o,ho,hd⟩:=I.cell x c e;obtain⟨m,⟨o',es,ep,ho',hd',_⟩,_⟩:=I.loc;rw[z,ho'] at ho;cases ho;rw[hd'] at hd;cases hd
theorem Inv.uW(I:Inv X pins σ H s):s.heap.FunFrames X.base X.outer:=by
 have all:∀l,(∀b∈frs l,b∈X.fs)->X.s₀.heap.FunFrames X.base l->s.heap.FunFrames X.base l:=by
  intro l
  induction l with
  |nil=>intro _ _;trivial|cons env r ih=>intro hs hl;obtain⟨hk,⟨L,o,hf,hn,ho,hd⟩,hr⟩:=hl;have hL:=hs L (by unfold frs;rw[List.filterMap_cons,hf];exact Qqj);obtain⟨sl,e⟩:=I.base.slot L o ho (I.ok.ZF L hL) hL λz=>I.ok.Uo L z hL;exact⟨hk,⟨L,_,hf,hn,e,hd⟩,ih (λb hb=>hs b (by unfold frs;rw[List.filterMap_cons,hf];exact Qqq _ hb)) hr⟩
 exact all X.outer (λ_ hb=>hb) I.ok.uW
theorem Inv.stack(I:Inv X pins σ H s):s.heap.FunFrames X.base X.stack:=by
 rcases I.ok.bQ with e|⟨e,hf⟩;rw[e];exact I.uW;rw[e];obtain⟨m,hn,_⟩:=I.loc;refine .cons (by rw[I.ok.kind];decide) hf hn ?_ I.uW;exact Heap.get?_none_of_le<|Qq4 I.ok.U6 I.ok.above
theorem Inv.Dy(I:Inv X pins σ H s):∀b∈frs X.stack,b∈X.env.locals::X.fs:=λb hb=>by
 rcases I.ok.bQ with e|⟨e,hf⟩;rw[e] at hb;exact Qqq _ hb;rw[e] at hb;unfold frs at hb;rw[List.filterMap_cons,hf] at hb;exact hb
theorem Inv.LK(I:Inv X pins σ H s):∀b∈frs X.stack,H b=none:=λb hb=>by
 rcases Qq7.mp (I.Dy b hb) with e|hb;rw[e];exact I.free;obtain⟨_,o,ho,_⟩:=I.ok.uW.mem hb;exact I.base.free b o ho (I.ok.ZF b hb) λz=>I.ok.Uo b z hb
theorem Inv.step{ch:List Addr}(I:Inv X pins σ H s)
  (hch:∀b∈ch,(b∈X.ex\/X.s₀.heap.objs.size<=b)/\b≠X.env.locals/\(∀x c,X.env.cells.lookup x=some c->c≠b)/\∀p∈X.pn++pins,p.1≠b)
  (keep:∀b o,b≠X.env.locals->b ∉ X.fs->b ∉ ch->s.heap.get? b=some o->H b=none->h'.get? b=some o)
  (slot:∀b o,b≠X.env.locals->b∈X.fs->b ∉ ch->s.heap.get? b=some o->H b=none->∃sl,h'.get? b=some { o with slots:=sl }) (free:∀b o,b ∉ ch->s.heap.get? b=some o->H b=none->H' b=none)
  (there:∀b o,b ∉ ch->s.heap.get? b=some o->∃o',h'.get? b=some o')
  (tups:∀b xs,H b=some (.tup xs)->H' b=some (.tup xs)) (wU:∀b o u,H b=some (.lg o u)->H' b=some (.lg o u)) (Dr:∀b ps,H b=some (.tbl ps)->∃more,H' b=some (.tbl (ps++more)))
  (ns:∀m,s.heap.Ns X.env.locals m->h'.Ns X.env.locals m) (hok:tY X.prog X.w H' h') (hg:AllBare g')
  (tabs:∀b qs,H b=some (.tab qs)->H' b=some (.tab qs):=by intro _ _ q;exact q) :
  Inv X pins σ H' { s with heap:=h',gens:=g',drawn:=d',toks:=t' }:=by
 have neL:∀b o,X.s₀.heap.get? b=some o->b≠X.env.locals:=λb o e=>Qxv<|Qwz (Qwx e) I.ok.above;have neC:∀b o,X.s₀.heap.get? b=some o->b ∉ X.ex->b ∉ ch:=λb o e hx hb=>by
  rcases(hch b hb).1 with z|z
  .exact hx z
  .exact absurd (Qwz (Qwx e) z)<|Qz0 _
 have cellK:∀x c,X.env.cells.lookup x=some c->∀v,s.heap.IsCell c v->h'.IsCell c v:=λx c e v ⟨o,ho,hd⟩=>by
  have nch:=λz=>(hch c z).2.2.1 x c e rfl;rcases I.qL x c e with hn|⟨_,fo,fu,hz⟩
  .by_cases hc:c∈X.fs
   .obtain⟨sl,q⟩:=slot c o (I.ZP x c e) hc nch ho hn;exact⟨_,q,hd⟩
   .exact⟨o,keep c o (I.ZP x c e) hc nch ho hn,hd⟩
  .have e1:=(I.hok c _ hz).1;rw[ho] at e1;cases e1;exact⟨o,(hok c _<|wU c o fu hz).1,hd⟩
 refine⟨I.ok,I.os,hg,⟨λb o e n hb hx=>?_,λb o e n hb hx=>?_,λb o e n hx=>?_,λb o e hx=>?_,λb xs e=>tups b xs<|I.base.tups b xs e,λb o xs e=>wU b o xs<|I.base.wU b o xs e,λb ps e=>?_,λb qs e=>tabs b qs<|I.base.tabs b qs e⟩,?_,λx c e=>?_,?_,λx c e=>?_,λp hp=>?_,hok,I.len⟩
 .exact keep b o (neL b o e) hb (neC b o e hx) (I.base.keep b o e n hb hx)<|I.base.free b o e n hx
 .obtain⟨sl,e1⟩:=I.base.slot b o e n hb hx;obtain⟨sl',e2⟩:=slot b _ (neL b o e) hb (neC b o e hx) e1<|I.base.free b o e n hx;exact⟨sl',e2⟩
 .obtain⟨o',e1⟩:=I.base.there b o e hx;exact free b o' (neC b o e hx) e1<|I.base.free b o e n hx
 .obtain⟨o',e1⟩:=I.base.there b o e hx;exact there b o' (neC b o e hx) e1
 .obtain⟨m1,e1⟩:=I.base.Dr b ps e;obtain⟨m2,e2⟩:=Dr b _ e1;exact⟨m1++m2,by rw[e2,Array.append_assoc]⟩
 .obtain⟨m,hn,hl⟩:=I.loc;refine⟨m,ns m hn,λi x v e1 e2 e3=>?_⟩;obtain⟨u,r,l⟩:=hl i x v e1 e2 e3;refine⟨u,r,?_⟩;rcases l with l|⟨k,c,e,z⟩
  .exact .inl l
  .exact .inr ⟨k,c,e,cellK x c e _ z⟩
 .obtain⟨v,z⟩:=I.cell x c e;exact⟨v,cellK x c e v z⟩
 .obtain⟨m,⟨o,_,_,ho,_⟩,_⟩:=I.loc;exact free _ o (λz=>(hch _ z).2.1 rfl) ho I.free
 .rcases I.qL x c e with hn|⟨h1,fo,fu,hz⟩
  .obtain⟨v,o,ho,hd⟩:=I.cell x c e;exact .inl<|free c o (λz=>(hch c z).2.2.1 x c e rfl) ho hn
  .exact .inr ⟨h1,fo,fu,wU c fo fu hz⟩
 .obtain⟨e,n,ne,nf,d⟩:=I.pin p hp;have nch:=λz=>(hch p.1 z).2.2.2 p hp rfl;exact⟨keep p.1 p.2 ne nf nch e n,free p.1 p.2 nch e n,ne,nf,d⟩
theorem Inv.un(I:Inv X pins σ H s)(u:Un X.fs [] H H' s.heap h')(hok:tY X.prog X.w H' h'):Inv X pins σ H' { s with heap:=h',toks:=t' }:=by
 obtain⟨m,⟨o,es,ep,ho,r⟩,_⟩:=id I.loc;obtain⟨sl,hL⟩:=u.any ho I.free (by simp);exact I.step (ch:=[]) (λ_ z=>nomatch z) (λb o _ hb _ e n=>u.keep b o e n hb (by simp)) (λb o _ hb _ e n=>u.slot b o e n hb (by simp)) (λb o _ e n=>u.free b o e n (by simp)) (λb o _ e=>u.there b o e (by simp)) u.tups u.wU u.Dr (λm' hm=>by
  obtain⟨o',es',ep',ho',r'⟩:=hm;rw[ho] at ho';cases ho';exact⟨_,es',ep',hL,r'⟩) hok I.bare u.tabs
theorem Inv.call(I:Inv X pins σ H s)(u:Un (frs X.stack) ch H H' s.heap h')(hok:tY X.prog X.w H' h')(hg:AllBare g')
  (hch:∀b∈ch,(b∈X.ex\/X.s₀.heap.objs.size<=b)/\b≠X.env.locals/\(∀x c,X.env.cells.lookup x=some c->c≠b)/\∀p∈X.pn++pins,p.1≠b) :
  Inv X pins σ H' { s with heap:=h',gens:=g',drawn:=d',toks:=t' }:=by
 obtain⟨m,⟨o,es,ep,ho,r⟩,_⟩:=id I.loc;obtain⟨sl,hL⟩:=u.any ho I.free λz=>(hch _ z).2.1 rfl;exact I.step hch (λb o hL hb hc e n=>u.keep b o e n (λz=>(Qq7.mp<|I.Dy b z).elim hL hb) hc) (λb o _ _ hc e n=>u.any e n hc) (λb o hc e n=>u.free b o e n hc) (λb o hc e=>u.there b o e hc) u.tups u.wU u.Dr (λm' hm=>by
  obtain⟨o',es',ep',ho',r'⟩:=hm;rw[ho] at ho';cases ho';exact⟨_,es',ep',hL,r'⟩) hok hg u.tabs
theorem Inv.turned(I:Inv X pins σ H s)(k:∀b o,b≠it->s.heap.get? b=some o->h'.get? b=some o)(hn:H it=none)(hL:it≠X.env.locals)
  (h1:it∈X.ex\/X.s₀.heap.objs.size<=it) (h2:∀x c,X.env.cells.lookup x=some c->c≠it) (h3:∀p∈X.pn++pins,p.1≠it):Inv X pins σ H { s with heap:=h',toks:=t' }:=by
 have Zk:∀b u,H b=some u->b≠it:=λb u e z=>by rw[z,hn] at e;cases e
 refine I.step (ch:=[it]) (λb hb=>?_) (λb o _ _ hc e _=>k b o (λz=>hc (by simp[z])) e) (λb o _ _ hc e _=>⟨o.slots,k b o (λz=>hc (by simp[z])) e⟩) (λ_ _ _ _ n=>n)
  (λb o hc e=>⟨o,k b o (λz=>hc (by simp[z])) e⟩) (λ_ _ e=>e) (λ_ _ _ e=>e) (λb ps e=>⟨#[],by rw[e];simp⟩) (λm hm=>?_) (λb u e=>?_) I.bare
 have e:b=it:=by simpa using hb
 subst e;exact⟨h1,hL,h2,h3⟩;obtain⟨o,es,ep,ho,r⟩:=hm;exact⟨o,es,ep,k _ o (Ne.symm hL) ho,r⟩;refine(I.hok b u e).stay (λc v hc q=>k c v ?_ q) (λ_ q=>q) λ_ _ q=>q;rcases hc with z|z;rw[z];exact Zk b u e;exact Zk c _ z
theorem Inv.tok(I:Inv X pins σ H s)(t):Inv X pins σ H { s with toks:=t }:=I.un Un.refl I.hok
theorem Inv.kept(I:Inv X pins σ H s)(k:∀b u,s.heap.get? b=some u->h'.get? b=some u):Inv X pins σ H { s with heap:=h',toks:=t' }:=I.un (Un.kept k)<|I.hok.kept k
theorem Inv.laid{a:Addr}(I:Inv X pins σ H s)(k:∀b u,s.heap.get? b=some u->h'.get? b=some u)(hp:s.heap.objs.size<=a)(new:gf X.prog X.w (upd H a o) h' a o) :
  Inv X pins σ (upd H a o) { s with heap:=h',toks:=t' }:=I.un (Un.laid k hp<|I.hok.fresh hp)<|I.hok.laid k hp new
theorem Inv.write(I:Inv X pins σ H s)(mu:Mut (H x))(he:e=x\/H e=some (.own x))(k:∀b u,b≠e->s.heap.get? b=some u->h'.get? b=some u)(heo:∃u,h'.get? e=some u)
  (new:gf X.prog X.w (upd H x o) h' x o):Inv X pins σ (upd H x o) { s with heap:=h',toks:=t' }:=I.un (Un.write mu he k heo)<|I.hok.write mu he k heo new
theorem Inv.Mq(I:Inv X pins σ H s)(h:∀p∈Y8,s.heap.get? p.1=some p.2/\H p.1=none/\p.1≠X.env.locals/\p.1 ∉ X.fs/\∀v,p.2.data ≠ .cell v):Inv X Y8 σ H s:=
 ⟨I.ok,I.os,I.bare,I.base,I.loc,I.cell,I.free,I.qL,λp hp=>(Qww.mp hp).elim (λz=>I.pin p<|Qzv _ z)<|h p,I.hok,I.len⟩
theorem HN{N:List Str}(hN:N.Nodup){i j:Nat}(a:N[i]?=some x)(b:N[j]?=some x):i=j:=by obtain⟨h1,e1⟩:=Qqy.mp a;obtain⟨h2,e2⟩:=Qqy.mp b;exact(List.getElem_inj hN).mp<|e1.trans e2.symm
theorem Cg(I:Inv X pins σ H s)(hN:X.N.Nodup)(hi:X.N[i]?=some x)(hx:Loc X.env.scope x)(r:RelV v u)
  (h:∀s',Inv X pins (σ.set i (some v)) H s'->(∃a,Heap.SameBut a s.heap s'.heap/\(a=X.env.locals\/X.env.cells.lookup x=some a))->Q () s') (hf:X.fn x=true\/X.env.scope.names.lookup x=some .local:=by first|exact .inl rfl|exact .inr rfl|assumption):wpAny M A (storeName X.env x u) Q E s:=by
 obtain⟨m,hn,hl⟩:=id I.loc;have hcls:(X.env.scope.kind == .class||(X.env.scope.kind == .module&&X.env.locals != X.env.globals))=false:=by rw[I.ok.kind];rfl
 have hiσ:i<σ.length:=by rw[I.len];exact(Qqy.mp hi).1
 have ZP:=I.ZP;have tracked:∀{a} {h'},(∃o,s.heap.get? a=some o/\H a=none)->Heap.SameBut a s.heap h'->tY X.prog X.w H h':=λ{a h'} ha hs b ob e=>by
  obtain⟨_,_,hfree⟩:=ha;refine(I.hok b ob e).stay (λc w' hc q=>(hs.2 c ?_).trans q) (λ_ q=>q) λ_ _ q=>q;rintro rfl;rcases hc with rfl|hc;rw[hfree] at e;cases e;rw[hfree] at hc;cases hc
 rcases hx with hk|hk;refine wpAny_storeName_local hk hn (λh' hn' hs=>?_) hcls;obtain⟨oL,_,_,hoL,_⟩:=id hn;refine h _ ⟨I.ok,I.os,I.bare,⟨λb o e n hb hx=>?_,λb o e n hb hx=>?_,I.base.free,λb o e hx=>?_,I.base.tups,I.base.wU,I.base.Dr,I.base.tabs⟩,⟨_,hn',λj y v' e1 e2 e3=>?_⟩,λy c e=>?_,I.free,I.qL,λp hp=>?_,tracked ⟨oL,hoL,I.free⟩ hs,by simpa using I.len⟩ ⟨_,hs,.inl rfl⟩;exact(hs.2 b<|Qxv<|Qwz (Qwx e) I.ok.above).trans<|I.base.keep b o e n hb hx;obtain⟨sl,e1⟩:=I.base.slot b o e n hb hx;exact⟨sl,(hs.2 b<|Qxv<|Qwz (Qwx e) I.ok.above).trans e1⟩;obtain⟨o',e1⟩:=I.base.there b o e hx;exact⟨o',(hs.2 b<|Qxv<|Qwz (Qwx e) I.ok.above).trans e1⟩;by_cases hj:j=i;subst hj;rw[hi] at e1;cases e1;rw[Qw0 hiσ] at e2;cases e2;exact⟨u,r,.inl ⟨hk,by simp⟩⟩;rw[Qq8 (Ne.symm hj)] at e2;obtain⟨u',r',q⟩:=hl j y v' e1 e2 e3;refine⟨u',r',?_⟩;rcases q with ⟨k,e⟩|⟨k,c,e,z⟩;refine .inl ⟨k,?_⟩;have:y≠x:=λe=>hj<|HN hN e1<|e ▸ hi;simp[this,e];exact .inr ⟨k,c,e,z.sameBut hs<|ZP y c e⟩;obtain⟨w',z⟩:=I.cell y c e;exact⟨w',z.sameBut hs<|ZP y c e⟩;obtain⟨e,n,ne,nf,d⟩:=I.pin p hp;exact⟨(hs.2 p.1 ne).trans e,n,ne,nf,d⟩;have hfn:X.fn x=true:=by
  rcases hf with z|z;exact z;rw[z] at hk;cases hk
 obtain⟨c,hc⟩:=I.ok.has x<|.inl hk;obtain⟨w',z⟩:=I.cell x c hc;refine wpAny_storeName_cell I.ok.kind hk hc z<|λh' hc' hs=>?_;obtain⟨oc,hoc,ahj⟩:=id z;refine h { s with heap:=h' } ⟨I.ok,I.os,I.bare,⟨λb o e n hb hx=>?_,λb o e n hb hx=>?_,I.base.free,λb o e hx=>?_,I.base.tups,I.base.wU,I.base.Dr,I.base.tabs⟩,⟨m,hn.sameBut hs<|Ne.symm<|ZP x c hc,λj y v' e1 e2 e3=>?_⟩,λy c' e=>?_,I.free,I.qL,λp hp=>?_,tracked ⟨oc,hoc,(I.qL x c hc).resolve_right λz=>by rw[hfn] at z;cases z.1⟩ hs,by simpa using I.len⟩ ⟨c,hs,.inr hc⟩;exact(hs.2 b<|Qxv<|Qwz (Qwx e)<|I.ok.cab x c hfn hc).trans<|I.base.keep b o e n hb hx;obtain⟨sl,e1⟩:=I.base.slot b o e n hb hx;exact⟨sl,(hs.2 b<|Qxv<|Qwz (Qwx e)<|I.ok.cab x c hfn hc).trans e1⟩;obtain⟨o',e1⟩:=I.base.there b o e hx;exact⟨o',(hs.2 b<|Qxv<|Qwz (Qwx e)<|I.ok.cab x c hfn hc).trans e1⟩;by_cases hj:j=i;subst hj;rw[hi] at e1;cases e1;rw[Qw0 hiσ] at e2;cases e2;exact⟨u,r,.inr ⟨.inl hk,c,hc,hc'⟩⟩;rw[Qq8 (Ne.symm hj)] at e2;obtain⟨u',r',q⟩:=hl j y v' e1 e2 e3;refine⟨u',r',?_⟩;rcases q with q|⟨k,c',e,z'⟩;exact .inl q;refine .inr ⟨k,c',e,z'.sameBut hs ?_⟩;rintro rfl;exact hj<|HN hN e1<|I.ok.inj _ _ _ e hc ▸ hi;by_cases hcc:c'=c;subst hcc;exact⟨_,hc'⟩;obtain⟨w2,z2⟩:=I.cell y c' e;exact⟨w2,z2.sameBut hs hcc⟩;obtain⟨e,n,ne,nf,d⟩:=I.pin p hp;refine⟨(hs.2 p.1 ?_).trans e,n,ne,nf,d⟩;intro q;rw[q,hoc] at e;have q':=Qw4 e;exact d w' (by rw[<-q'];exact ahj)
theorem oh(I:Inv X pins σ H s)(hN:X.N.Nodup)(hi:X.N[i]?=some x)(hx:Loc X.env.scope x)(r:RelV v u)
  (h:∀s',Inv X pins (σ.set i (some v)) H s'->Q () s') (hf:X.fn x=true\/X.env.scope.names.lookup x=some .local:=by first|exact .inl rfl|exact .inr rfl|assumption):wpAny M A (storeName X.env x u) Q E s:=
 Cg I hN hi hx r (λs' I' _=>h s' I') hf
theorem Inv.call'(I:Inv X pins σ H s)(ho:s'.os=s.os)(u:Un (frs X.stack) ch H H' s.heap s'.heap)(hok:tY X.prog X.w H' s'.heap)(hg:AllBare s'.gens)
  (hch:∀b∈ch,(b∈X.ex\/X.s₀.heap.objs.size<=b)/\b≠X.env.locals/\(∀x c,X.env.cells.lookup x=some c->c≠b)/\∀p∈X.pn++pins,p.1≠b):Inv X pins σ H' s':=by
 obtain⟨h',g',d',t',o'⟩:=s';have e:=ho;subst e;exact I.call u hok hg hch
end
abbrev XK:=Value->Option Addr->Hp->Prop
abbrev St:=List (Option V)
abbrev VK:=V->Hp->Prop
abbrev TE:=St->Hp->VK->Prop
abbrev TT:=St->Hp->(Bool->Hp->Prop)->Prop
abbrev TA:=St->Hp->(List V->Hp->Prop)->Prop
structure Ends where
 nx:St->Hp->Prop
 rt:VK
 bk:St->Hp->Prop:=λ_ _=>False
 ct:St->Hp->Prop:=λ_ _=>False
abbrev TS:=Ends->St->Hp->Prop
def EP(X:Cx)(pins:List (Addr×Obj))(σ:St)(Q:VK)(u:Value)(s':Shared):Prop:=∃v H',Inv X pins σ H' s'/\RelV v u/\Q v H'
def TP(X:Cx)(pins:List (Addr×Obj))(σ:St)(Q:Bool->Hp->Prop)(b:Bool)(s':Shared):Prop:=∃H',Inv X pins σ H' s'/\Q b H'
def AP(X:Cx)(pins:List (Addr×Obj))(σ:St)(Q:List V->Hp->Prop)(us:List Value)(s':Shared):Prop:=∃vs H',Inv X pins σ H' s'/\Vals vs us/\Q vs H'
noncomputable def SP(X:Cx)(pins:List (Addr×Obj))(D:Ends)(f:Flow)(s':Shared):Prop:=
 match f with
 |.next=>∃σ' H',Inv X pins σ' H' s'/\D.nx σ' H'|.brk=>∃σ' H',Inv X pins σ' H' s'/\D.bk σ' H'|.cont=>∃σ' H',Inv X pins σ' H' s'/\D.ct σ' H'|.ret u=>∃v σ' H',Inv X pins σ' H' s'/\RelV v u/\D.rt v H'
def PE(X:Cx)(e:Expr)(t:TE):Prop:=
 ∀(pins:List (Addr×Obj)) (s:Shared) (σ:St) (H:Hp) (Q:VK),Inv X pins σ H s->t σ H Q->wpAny (model X.prog X.w) X.A (eval e X.env) (EP X pins σ Q) X.xe s
def PT(X:Cx)(e:Expr)(t:TT):Prop:=
 ∀(pins:List (Addr×Obj)) (s:Shared) (σ:St) (H:Hp) (Q:Bool->Hp->Prop),Inv X pins σ H s->t σ H Q->wpAny (model X.prog X.w) X.A (isTrue e X.env (eval e X.env)) (TP X pins σ Q) X.xe s
def PW(X:Cx)(e:Expr)(t:TT):Prop:=
 ∀(whole:Sem Value) (pins:List (Addr×Obj)) (s:Shared) (σ:St) (H:Hp) (Q:Bool->Hp->Prop),Inv X pins σ H s->t σ H Q->wpAny (model X.prog X.w) X.A (isTrue e X.env whole) (TP X pins σ Q) X.xe s
theorem PW.pt(h:PW X e t):PT X e t:=h _
def PA(X:Cx)(es:List Expr)(t:TA):Prop:=
 ∀(pos:Pos) (pins:List (Addr×Obj)) (s:Shared) (σ:St) (H:Hp) (Q:List V->Hp->Prop),Inv X pins σ H s->t σ H Q->wpAny (model X.prog X.w) X.A (spliced (backTo pos (starEach es X.env))) (AP X pins σ Q) X.xe s
def PS(X:Cx)(st:Stmt)(t:TS):Prop:=
 ∀(pins:List (Addr×Obj)) (s:Shared) (σ:St) (H:Hp) (D:Ends),Inv X pins σ H s->t D σ H->wpAny (model X.prog X.w) X.A (exec st X.env) (SP X pins D) X.xe s
def Gp(X:Cx)(st:List Stmt)(t:TS):Prop:=
 ∀(pins:List (Addr×Obj)) (s:Shared) (σ:St) (H:Hp) (D:Ends),Inv X pins σ H s->t D σ H->wpAny (model X.prog X.w) X.A (execs st X.env) (SP X pins D) X.xe s
theorem fG{α:Type}{t:Sem α}{Q Q':α->Shared->Prop}(h:wpAny M A t Q E s)(hQ:∀a s,Q a s->Q' a s):wpAny M A t Q' E s:=Qz9 h hQ λ_ _ x=>x
section
variable{X:Cx}
def VN(i:Nat):TE:=λσ H Q=>∃v,σ[i]?=some (some v)/\Q v H
def tC(v:V):TE:=λ_ H Q=>Q v H
theorem jb{pos:Pos}(hN:X.N[i]?=some x)(hv:vM X.env.scope x)(hd:lK x:=by decide)(hcd:vJ x:=by decide):PE X (.Name x pos) (VN i):=by
 intro pins s σ H Q I h;obtain⟨v,e,h⟩:=h;obtain⟨m,hn,hl⟩:=I.loc;obtain⟨u,r,l⟩:=hl i x v hN e hv;have fin:EP X pins σ Q u s:=⟨v,H,I,r,h⟩;rcases l with ⟨hk,hm⟩|⟨hk,c,hc,hcell⟩;exact wpAny_Name (wpAny_loadName_local I.ok.kind hk hn hm fin) hd;rcases hk with hk|hk;exact wpAny_Name (wpAny_loadName_cell I.ok.kind hk hc hcell fin) hd;exact wpAny_Name (wpAny_loadName_free I.ok.kind hk hc hcell fin hcd) hd
theorem Sy{i j pos}:PE X (.Constant (.int i) j pos) (tC (.int i)):=λ_ _ _ H _ I h=>wpAny_Constant_int ⟨.int i,H,I.tok _,⟨_,rfl⟩,h⟩
theorem aeC{b j pos}:PE X (.Constant (.bool b) j pos) (tC (.bl b)):=λ_ _ _ H _ I h=>Constant_bool ⟨.bl b,H,I,rfl,h⟩
theorem aa8{j pos}:PE X (.Constant .none j pos) (tC .non):=λ_ _ _ H _ I h=>Constant_none ⟨.non,H,I,rfl,h⟩
theorem aa4{x j pos}:PE X (.Constant (.str x) j pos) (tC (.str x)):=λ_ _ _ H _ I h=>Calls.Constant_str ⟨.str x,H,I.tok _,⟨_,rfl⟩,h⟩
def Gl(X:Cx)(x:Str):Prop:=X.env.kindOf x=some .globalImplicit
theorem yp{σ:St}(I:Inv X pins σ H s)(hg:Gl X x)(hm:X.mg x=some u)(h:Q u s)
  (hd:lK x:=by decide):wpAny (model X.prog X.w) X.A (eval (.Name x pos) X.env) Q E s:=
 Calls.Name_function_global I.ok.kind hg (Calls.loadGlobal_global (by rw[I.ok.glob];exact I.mod.glob.keeps I.bk) hm h) hd
theorem zx{E:Value->Shared->Prop}{σ:St}{pos:Pos}(I:Inv X pins σ H s)(hg:Gl X x)(hm:X.mg x=none)(hv:bootBuiltins x=some u)(h:Q u s)
  (hn:x ≠ "__name__":=by decide) (hd:lK x:=by decide):wpAny (model X.prog X.w) X.A (eval (.Name x pos) X.env) Q E s:=by
 obtain⟨mb,h1,h2⟩:=I.mod.blt;exact Calls.Name_function_global I.ok.kind hg (Calls.loadGlobal_builtin (by rw[I.ok.glob];exact I.mod.glob.keeps I.bk) hm (by rw[I.ok.blt];exact h1.keeps I.bk) ((h2 x hn).trans hv) h) hd
theorem WM(hg:Gl X x)(hm:X.mg x=some u)(r:RelV v u)(hd:lK x:=by decide):PE X (.Name x pos) (tC v):=
 λ_ _ _ H _ I h=>yp I hg hm ⟨v,H,I,r,h⟩ hd
theorem WR{pos:Pos}(hg:Gl X x)(hm:X.mg x=none)(hv:bootBuiltins x=some u)(r:RelV v u)(hn:x ≠ "__name__":=by decide)(hd:lK x:=by decide):PE X (.Name x pos) (tC v):=
 λ_ _ _ H _ I h=>zx I hg hm hv ⟨v,H,I,r,h⟩ hn hd
variable{a b:Expr}{ta tb:TE}{pos:Pos}
def tB(t:TE):TT:=λσ H Q=>t σ H λx H1=>∃c,x=.bl c/\Q c H1
theorem aaP(h:PE X e t)(he:∀whole,isTrue e X.env whole=(do let v <-whole;standAt e.pos;holding [v] (truthy v)):=by intro _;rfl):PT X e (tB t):=by intro pins s σ H Q I hw;refine isTrue_plain (fG (h pins s σ H _ I hw) λv s1 ⟨x,H1,I1,r1,q1⟩=>?_)<|he _;obtain⟨d,rfl,q⟩:=q1;cases r1;exact Qj4 ⟨H1,I1,q⟩
variable{tA tB':TT}{rest:List Expr}
def agO(t u:TT):TT:=λσ H Q=>t σ H λc H1=>if c=true then u σ H1 Q else Q false H1
def tOr(t u:TT):TT:=λσ H Q=>t σ H λc H1=>if c=true then Q true H1 else u σ H1 Q
def agH(t:TT):TT:=λσ H Q=>t σ H λc H1=>Q (!c) H1
theorem pw_and1(ha:PT X a tA):PW X (.BoolOp .And [a] pos) tA:=by
 intro wh pins s σ H Q I h;refine isTrue_and<|fG (ha pins s σ H Q I h) λc s1 e=>?_;cases c with
 |true=>exact isTrue_and_nil e|false=>exact e
theorem pw_or1(ha:PT X a tA):PW X (.BoolOp .Or [a] pos) tA:=by
 intro wh pins s σ H Q I h;refine isTrue_or<|fG (ha pins s σ H Q I h) λc s1 e=>?_;cases c with
 |false=>exact isTrue_or_nil e|true=>exact e
theorem pw_and(ha:PT X a tA)(hb:PW X (.BoolOp .And (b::rest) pos) tB'):PW X (.BoolOp .And (a::b::rest) pos) (agO tA tB'):=by
 intro wh pins s σ H Q I h;refine isTrue_and<|fG (ha pins s σ H _ I h) λc s1 ⟨H1,I1,q1⟩=>?_;cases c with
 |true=>exact hb wh pins s1 σ H1 Q I1 q1|false=>exact⟨H1,I1,q1⟩
theorem pw_or(ha:PT X a tA)(hb:PW X (.BoolOp .Or (b::rest) pos) tB'):PW X (.BoolOp .Or (a::b::rest) pos) (tOr tA tB'):=by
 intro wh pins s σ H Q I h;refine isTrue_or<|fG (ha pins s σ H _ I h) λc s1 ⟨H1,I1,q1⟩=>?_;cases c with
 |true=>exact⟨H1,I1,q1⟩|false=>exact hb wh pins s1 σ H1 Q I1 q1
theorem aaQ(ha:PT X a tA):PT X (.UnaryOp .Not a pos) (agH tA):=by intro pins s σ H Q I h;exact isTrue_not<|ha pins s σ H (λc H1=>Q (!c) H1) I h
def adY(ta tb:TE):TE:=λσ H Q=>ta σ H λx H1=>∃c,x=.bl c/\if c=true then tb σ H1 Q else Q (.bl false) H1
def agG(ta tb:TE):TE:=λσ H Q=>ta σ H λx H1=>∃c,x=.bl c/\if c=true then Q (.bl true) H1 else tb σ H1 Q
def adS(ta:TE):TE:=λσ H Q=>ta σ H λx H1=>∃c,x=.bl c/\Q (.bl (!c)) H1
theorem aa6{op}(h:PE X a t):PE X (.BoolOp op [a] pos) t:=λpins s σ H Q I hw=>BoolOp_one<|h pins s σ H Q I hw
theorem aba(ha:PE X a ta)(hb:PE X (.BoolOp .And (b::rest) pos) tb):PE X (.BoolOp .And (a::b::rest) pos) (adY ta tb):=by
 intro pins s σ H Q I h;refine BoolOp_and<|fG (ha pins s σ H _ I h) λv s1 ⟨x,H1,I1,r1,q1⟩=>?_;obtain⟨c,rfl,q1⟩:=q1;cases r1;refine Qj4 ?_;cases c with
 |true=>exact hb pins s1 σ H1 Q I1 q1|false=>exact⟨.bl false,H1,I1,rfl,q1⟩
theorem aeA(ha:PE X a ta)(hb:PE X (.BoolOp .Or (b::rest) pos) tb):PE X (.BoolOp .Or (a::b::rest) pos) (agG ta tb):=by
 intro pins s σ H Q I h;refine BoolOp_or<|fG (ha pins s σ H _ I h) λv s1 ⟨x,H1,I1,r1,q1⟩=>?_;obtain⟨c,rfl,q1⟩:=q1;cases r1;refine Qj4 ?_;cases c with
 |false=>exact hb pins s1 σ H1 Q I1 q1|true=>exact⟨.bl true,H1,I1,rfl,q1⟩
theorem aa7(ha:PE X a ta):PE X (.UnaryOp .Not a pos) (adS ta):=by intro pins s σ H Q I h;refine UnaryOp_<|fG (ha pins s σ H _ I h) λv s1 ⟨x,H1,I1,r1,q1⟩=>?_;obtain⟨c,rfl,q1⟩:=q1;cases r1;exact not_of<|Qj4 ⟨.bl<|!c,H1,I1,rfl,q1⟩
def tIf(t:TT)(ta tb:TE):TE:=λσ H Q=>t σ H λc H1=>if c=true then ta σ H1 Q else tb σ H1 Q
theorem SJ(hc:PT X c tA)(ha:PE X a ta)(hb:PE X b tb):PE X (.IfExp c a b pos) (tIf tA ta tb):=by
 intro pins s σ H Q I h;refine wpAny_IfExp<|fG (hc pins s σ H _ I h) λd s1 ⟨H1,I1,q1⟩=>?_;cases d with
 |true=>exact ha pins s1 σ H1 Q I1 q1|false=>exact hb pins s1 σ H1 Q I1 q1
end
def oR(K:PySem.W.Frag)(H:Hp)(a:Addr)(xs:List V):Prop:=
 Rd H a (.lst xs)\/
  ∃(o:Obj) (its:Array Value) (n:Nat),K.lookup a=some o/\o.cls=.type "list"/\o.dict=none/\o.data=.seq its n/\its.size<=sizeLine/\Vals xs its.toList
def lG(K:PySem.W.Frag)(H:Hp)(a:Addr)(xs:List V):Prop:=
 Rd H a (.tup xs)\/
  ∃(o:Obj) (its:Array Value) (n:Nat),K.lookup a=some o/\o.cls=.type "tuple"/\o.dict=none/\o.data=.seq its n/\its.size<=sizeLine/\Vals xs its.toList
noncomputable def ahJ:Value->Option V
 |.none=>some .non|.bool b=>some (.bl b)|.int i _=>some (.int i)|.str x _=>some (.str x)|.bytes b _=>some (.byt b)|.float b _=>some (.flt b)|.ref a=>some (.ref a)|.type n=>some (.ty n)|_=>none
theorem RelV.abs(r:RelV x u):ahJ u=some x:=by
 cases x with
 |non=>cases r;rfl|bl _=>cases r;rfl|int _=>obtain⟨t,rfl⟩:=r;rfl|str _=>obtain⟨t,rfl⟩:=r;rfl|byt _=>obtain⟨t,rfl⟩:=r;rfl|flt _=>obtain⟨t,rfl⟩:=r;rfl|ref _=>cases r;rfl|ty _=>cases r;rfl
theorem RelV.inj(r:RelV x u)(q:RelV y u):x=y:=Qw4<|r.abs.symm.trans q.abs
theorem Vals.inj:∀{xs ys} {us},Vals xs us->Vals ys us->xs=ys
 |_,_,_,.nil,.nil=>rfl|_,_,_,.cons r t,.cons r' t'=>by rw[r.inj r',Vals.inj t t']
section
variable{X:Cx}{pins:List (Addr×Obj)}{σ:St}{H:Hp}{s:Shared}{a:Addr}{xs ys:List V}
theorem oR.of{K:PySem.W.Frag}(h:H a=some (.lst xs)):oR K H a xs:=.inl<|.inl h
theorem lG.of{K:PySem.W.Frag}(h:H a=some (.tup xs)):lG K H a xs:=.inl<|.inl h
theorem Inv.list(I:Inv X pins σ H s)(h:oR X.K H a xs):∃its,Vals xs its/\PlainL s.heap a its.toArray/\xs.length<=sizeLine:=by
 rcases h with h|⟨o,its,n,hk,hc,hd,hs,hz,r⟩;obtain⟨z,its,n,r,e⟩:=h.ok I.hok;exact⟨its,r,⟨_,n,e,rfl,rfl,rfl⟩,z⟩;refine⟨its.toList,r,⟨o,n,I.Px a o hk,hc,hd,by simpa using hs⟩,?_⟩;have e:=r.length;simp[Qqz] at e;omega
theorem Inv.tuple(I:Inv X pins σ H s)(h:lG X.K H a xs):∃its,Vals xs its/\IsTup s.heap a its.toArray/\xs.length<=sizeLine:=by
 rcases h with h|⟨o,its,n,hk,hc,hdn,hs,hz,r⟩;obtain⟨z,its,r,p⟩:=h.ok I.hok;exact⟨its,r,p.is,z⟩;refine⟨its.toList,r,⟨o,I.Px a o hk,hc,n,by simpa using hs⟩,?_⟩;have e:=r.length;simp[Qqz] at e;omega
theorem Inv.Tw(I:Inv X pins σ H s)(h:oR X.K H a xs)(h':oR X.K H a ys):xs=ys:=by
 obtain⟨its,r,⟨o,n,e,_,_,d⟩,_⟩:=I.list h;obtain⟨its',r',⟨o',n',e',_,_,d'⟩,_⟩:=I.list h';rw[e] at e';cases e';rw[d] at d';injection d' with d1 _
 have:its=its':=by simpa using Qw9 Array.toList d1
 subst this;exact r.inj r'
theorem Inv.vU(I:Inv X pins σ H s)(h:lG X.K H a xs)(h':lG X.K H a ys):xs=ys:=by
 obtain⟨its,r,⟨o,e,_,n,d⟩,_⟩:=I.tuple h;obtain⟨its',r',⟨o',e',_,n',d'⟩,_⟩:=I.tuple h';rw[e] at e';cases e';rw[d] at d';injection d' with d1 _
 have:its=its':=by simpa using Qw9 Array.toList d1
 subst this;exact r.inj r'
end
abbrev Cx.wish(X:Cx)(E:Value->Shared->Prop):Cx:={ X with xe:=E }
abbrev Cx.W8(X:Cx):Cx:=X.wish λ_ _=>False
theorem Cx.Ok.wish{X:Cx}(ok:X.Ok)(E):(X.wish E).Ok:=
 ⟨ok.mod,ok.kind,ok.glob,ok.blt,ok.above,ok.inj,ok.has,ok.cab,ok.hd,ok.frames,ok.bQ,ok.exf,ok.bs,ok.U6,ok.Tf,ok.Uo,ok.uW,ok.ZF⟩
theorem Cx.Ok.pZ{X:Cx}(ok:(X.wish E).Ok):X.Ok:=
 ⟨ok.mod,ok.kind,ok.glob,ok.blt,ok.above,ok.inj,ok.has,ok.cab,ok.hd,ok.frames,ok.bQ,ok.exf,ok.bs,ok.U6,ok.Tf,ok.Uo,ok.uW,ok.ZF⟩
section
variable{X:Cx}{pins:List (Addr×Obj)}{σ:St}{H:Hp}{s:Shared}{E:Value->Shared->Prop}
theorem Inv.wish(I:Inv X pins σ H s)(E):Inv (X.wish E) pins σ H s:=⟨I.ok.wish E,I.os,I.bare,I.base,I.loc,I.cell,I.free,I.qL,I.pin,I.hok,I.len⟩
theorem Inv.pZ(I:Inv (X.wish E) pins σ H s):Inv X pins σ H s:=⟨I.ok.pZ,I.os,I.bare,I.base,I.loc,I.cell,I.free,I.qL,I.pin,I.hok,I.len⟩
theorem SP.pZ(h:SP (X.wish E) pins D f s'):SP X pins D f s':=by
 cases f with
 |next=>obtain⟨σ',H',I,q⟩:=h;exact⟨σ',H',I.pZ,q⟩|brk=>obtain⟨σ',H',I,q⟩:=h;exact⟨σ',H',I.pZ,q⟩|cont=>obtain⟨σ',H',I,q⟩:=h;exact⟨σ',H',I.pZ,q⟩|ret u=>obtain⟨v,σ',H',I,r,q⟩:=h;exact⟨v,σ',H',I.pZ,r,q⟩
theorem Gp.W8{st:List Stmt}(h:Gp X.W8 st t):Gp X st t:=λpins s σ H D I hw=>
 Qz9 (h pins s σ H D (I.wish _) hw) (λ_ _ q=>q.pZ) λ_ _ z=>False.elim z
end
section
variable{X:Cx}{st:Stmt}{rest:List Stmt}{t u:TS}{e:Expr}{te:TE}{pos:Pos}
def adU:TS:=λD σ H=>D.nx σ H
def agB(t u:TS):TS:=λD σ H=>t { D with nx:=u D } σ H
theorem Wv:Gp X [] adU:=λ_ _ σ H _ I h=>wpAny_execs_nil ⟨σ,H,I,h⟩
theorem Sd(h1:PS X st t)(h2:Gp X rest u):Gp X (st::rest) (agB t u):=by
 intro pins s σ H D I h;refine wpAny_execs_cons<|fG (h1 pins s σ H { D with nx:=u D } I h) λf s1 q=>?_;cases f with
 |next=>obtain⟨σ',H',I',q⟩:=q;exact h2 pins s1 σ' H' D I' q|ret v=>exact q|brk=>exact q|cont=>exact q
theorem Mm(h1:PS X st t):Gp X [st] t:=by
 intro pins s σ H D I h;refine wpAny_execs_cons<|fG (h1 pins s σ H D I h) λf s1 q=>?_;cases f with
 |next=>exact wpAny_execs_nil q|ret v=>exact q|brk=>exact q|cont=>exact q
def adX:TS:=λD σ H=>D.ct σ H
theorem Hr:PS X (.Continue pos) adX:=λ_ _ σ H _ I h=>wpAny_Continue ⟨σ,H,I,h⟩
theorem Inv.quiet{σ:St}(I:Inv X pins σ H s):interactive X.env=false:=by simp[interactive,I.ok.kind]
def adV(te:TE):TS:=λD σ H=>te σ H λ_ H1=>D.nx σ H1
theorem Mp(he:PE X e te)(hs:swapsWith e none pos.line X.env=pure false:=by rfl):PS X (.Expr e pos) (adV te):=by intro pins s σ H D I h;exact wpAny_Expr_any (fG (he pins s σ H _ I h) λv s1 ⟨x,H1,I1,r1,q1⟩=>⟨σ,H1,I1,q1⟩) I.quiet hs
def agD(te:TE):TS:=λD σ H=>te σ H D.rt
theorem Ko(he:PE X e te):PS X (.Return (some e) pos) (agD te):=by intro pins s σ H D I h;exact wpAny_Return_some<|fG (he pins s σ H _ I h) λv s1 ⟨x,H1,I1,r1,q1⟩=>⟨x,σ,H1,I1,r1,q1⟩
def agK(c:TT)(t u:TS):TS:=λD σ H=>c σ H λb H1=>if b=true then t D σ H1 else u D σ H1
theorem aew(hc:PT X c tc)(ha:Gp X a t)(hb:Gp X b u):PS X (.If c a b pos) (agK tc t u):=by
 intro pins s σ H D I h;refine wpAny_If<|fG (hc pins s σ H _ I h) λd s1 ⟨H1,I1,q1⟩=>?_;cases d with
 |true=>exact ha pins s1 σ H1 D I1 q1|false=>exact hb pins s1 σ H1 D I1 q1
end
abbrev TG:=V->St->Hp->(St->Hp->Prop)->Prop
abbrev Ys:=List V->St->Hp->(St->Hp->Prop)->Prop
def PG(X:Cx)(target:Expr)(t:TG):Prop:=
 ∀(pins:List (Addr×Obj)) (s:Shared) (σ:St) (H:Hp) (v:V) (u:Value) (Q:St->Hp->Prop),Inv X pins σ H s->RelV v u->t v σ H Q->
  wpAny (model X.prog X.w) X.A (assign target X.env u) (λ_ s'=>∃σ' H',Inv X pins σ' H' s'/\Q σ' H') X.xe s
def Z3(X:Cx)(ts:List Expr)(t:Ys):Prop:=
 ∀(pins:List (Addr×Obj)) (s:Shared) (σ:St) (H:Hp) (vs:List V) (us:List Value) (Q:St->Hp->Prop),Inv X pins σ H s->Vals vs us->t vs σ H Q->
  wpAny (model X.prog X.w) X.A (assignInOrder ((assignEach ts X.env).map (·.2)) us) (λ_ s'=>∃σ' H',Inv X pins σ' H' s'/\Q σ' H') X.xe s
abbrev Lg:=V->V->V->Hp->(Hp->Prop)->Prop
def afJ(X:Cx)(t:Lg):Prop:=
 ∀(pins:List (Addr×Obj)) (s:Shared) (σ:St) (H:Hp) (o i v:V) (ov iv u:Value) (Q:Hp->Prop),Inv X pins σ H s->RelV o ov->RelV i iv->RelV v u->t o i v H Q->
  wpAny (model X.prog X.w) X.A (setItem ov iv u) (λ_ s'=>∃H',Inv X pins σ H' s'/\Q H') X.xe s
abbrev TIp:=V->V->Hp->VK->Prop
def PIp(X:Cx)(op:Operator)(t:TIp):Prop:=
 ∀(pins:List (Addr×Obj)) (s:Shared) (σ:St) (H:Hp) (x y:V) (v u:Value) (Q:VK),Inv X pins σ H s->RelV x v->RelV y u->t x y H Q->
  wpAny (model X.prog X.w) X.A (inplaceOp op v u) (EP X pins σ Q) X.xe s
section
variable{X:Cx}{pos:Pos}
def Iv(i:Nat):TG:=λv σ H Q=>Q (σ.set i (some v)) H
theorem WL(hN:X.N.Nodup)(hi:X.N[i]?=some x)(hx:Loc X.env.scope x)(hf:X.fn x=true\/X.env.scope.names.lookup x=some .local:=by first|exact .inl rfl|exact .inr rfl|assumption):PG X (.Name x pos) (Iv i):=by intro pins s σ H v u Q I r h;exact wpAny_assign_Name<|oh I hN hi hx r (λs' I'=>⟨_,H,I',h⟩) hf
def ahx:Ys:=λvs σ H Q=>vs=[]/\Q σ H
def afo(t:TG)(u:Ys):Ys:=λvs σ H Q=>∃v r,vs=v::r/\t v σ H λσ' H'=>u r σ' H' Q
theorem WK:Z3 X [] ahx:=by intro pins s σ H vs us Q I r h;obtain⟨e,h⟩:=h;subst e;cases r;exact assignInOrder_nil ⟨σ,H,I,h⟩
theorem Sx(h1:PG X e t)(h2:Z3 X es u)
  (hs:(assignEach (e::es) X.env).map (·.2)=assign e X.env::(assignEach es X.env).map (·.2):=by rfl):Z3 X (e::es) (afo t u):=by
 intro pins s σ H vs us Q I r h;obtain⟨v,vr,e1,h⟩:=h;subst e1;cases r with
 |cons r rr=>rw[hs];refine assignInOrder_cons<|fG (h1 pins s σ H _ _ _ I r h) λ_ s1 ⟨σ1,H1,I1,q1⟩=>?_;exact h2 pins s1 σ1 H1 _ _ Q I1 rr q1
def ahu(K:PySem.W.Frag)(n:Nat)(t:Ys):TG:=λv σ H Q=>∃a xs,v=.ref a/\lG K H a xs/\xs.length=n/\t xs σ H Q
theorem aa1{k:Nat}(hc:X.calm=true)(h:Z3 X es t)
  (hn:(assignEach es X.env).length=n:=by rfl) (hst:(assignEach es X.env).findIdx? (·.1)=none:=by rfl):PG X (.Tuple es k pos) (ahu X.K n t):=by
 intro pins s σ H v u Q I r hw;obtain⟨a,xs,e1,hq,hl,hw⟩:=hw;subst e1;cases r;obtain⟨its,rv,ht,hz⟩:=I.tuple hq;refine assign_Tuple_tuple (I.ok.hd hc) ht (by simp[hn,<-hl,rv.length]) hst λh' hx=>?_;have I1:Inv X pins σ H { s with heap:=h' }:=I.kept λb o e=>hx b o (Qxv<|Qwx e) e;exact h pins _ σ H xs _ Q I1 (by simpa using rv) hw
noncomputable def Ir(to ti:TE)(t:Lg):TG:=λv σ H Q=>to σ H λo H1=>ti σ H1 λi H2=>t o i v H2 λH3=>Q σ H3
theorem aa2(ho:PE X o to)(hi:PE X i ti)(hs:afJ X t)
  (ha:∀v,assign (.Subscript o i pos) X.env v=(do
   let ov <-holding [v] (eval o X.env)
   let iv <-holding [v,ov] (eval i X.env)
   standAt pos
   holding [v,ov,iv] (setItem ov iv v)
   release [v,ov,iv] []):=by intro _;rfl):PG X (.Subscript o i pos) (Ir to ti t):=by
 intro pins s σ H v u Q I r h;rw[ha];refine Qqx<|Qjx<|fG (ho pins s σ H _ I h) λov s1 ⟨x,H1,I1,r1,q1⟩=>?_;refine Qqx<|Qjx<|fG (hi pins s1 σ H1 _ I1 q1) λiv s2 ⟨y,H2,I2,r2,q2⟩=>?_;refine Qqx<|wpAny_standAt<|Qqx<|Qjx<|fG (hs pins s2 σ H2 x y v ov iv u _ I2 r1 r2 r q2) λ_ s3 ⟨H3,I3,q3⟩=>?_;exact wpAny_release ⟨σ,H3,I3,q3⟩
def VV(te:TE)(g:TG):TS:=λD σ H=>te σ H λx H1=>g x σ H1 D.nx
theorem aaV(he:PE X e te)(hg:PG X tg g)(hs:swapsWithSole [tg] e pos.line X.env=pure false:=by rfl)(hw:swappedStores [tg] e X.env=pure none:=by rfl)
  (h1:(assignEach [tg] X.env).map (·.2)=[assign tg X.env]:=by rfl):PS X (.Assign [tg] e pos) (VV te g):=by
 intro pins s σ H D I h;refine wpAny_Assign_stores (fG (he pins s σ H _ I h) λv s1 ⟨x,H1,I1,r1,q1⟩=>?_) hs hw;rw[h1];exact fG (hg pins s1 σ H1 x v _ I1 r1 q1) λ_ s2 q=>q
theorem Ss(hN:X.N.Nodup)(hi:X.N[i]?=some x)(hx:Loc X.env.scope x)(he:PE X e te)(hs:swapsWith e (some (.Name x pos')) pos.line X.env=pure false:=by rfl)(hf:X.fn x=true\/X.env.scope.names.lookup x=some .local:=by first|exact .inl rfl|exact .inr rfl|assumption) :
  PS X (.Assign [.Name x pos'] e pos) (VV te (Iv i)):=by
 intro pins s σ H D I h;refine wpAny_Assign_Name (fG (he pins s σ H _ I h) λv s1 ⟨y,H1,I1,r1,q1⟩=>?_) hs;exact oh I1 hN hi hx r1 (λs2 I2=>⟨_,H1,I2,q1⟩) hf
def agF(i j:Nat)(ta:TA):TS:=λD σ H=>ta σ H λvs H1=>∃v w,vs=[v,w]/\D.nx ((σ.set i (some v)).set j (some w)) H1
theorem aaS{kt k2 pt2}(hc:X.calm=true)(hN:X.N.Nodup)(hi:X.N[i]?=some x)(hj:X.N[j]?=some y)(hij:i≠j)
  (hx:X.env.scope.names.lookup x=some .local) (hy:X.env.scope.names.lookup y=some .local) (ha:PA X [a,b] ta)
  (hw:swappedStores [.Tuple [.Name x px,.Name y py] kt pt] (.Tuple [a,b] k2 pt2) X.env=pure (some [x,y]))
  (hs:swapsWithSole [.Tuple [.Name x px,.Name y py] kt pt] (.Tuple [a,b] k2 pt2) pos.line X.env=pure false:=by rfl) :
  PS X (.Assign [.Tuple [.Name x px,.Name y py] kt pt] (.Tuple [a,b] k2 pt2) pos) (agF i j ta):=by
 intro pins s σ H D I h;rw[exec_Assign_arm];refine Qqx<|wpAny_standAt ?_;rw[hs];refine Qqx<|Qq6 ?_;rw[if_neg (by decide)];refine Qqx<|Tuple_<|fG (ha _ pins s σ H _ I h) λus s1 ⟨vs,H1,I1,r1,q1⟩=>?_;obtain⟨v,w,e1,q1⟩:=q1;subst e1;obtain⟨u1,u2,rfl,rv,xm⟩:∃u1 u2,us=[u1,u2]/\RelV v u1/\RelV w u2:=by
  cases r1 with
  |cons p q=>
   cases q with
   |cons p' q'=>cases q';exact⟨_,_,rfl,p,p'⟩
 refine Qjw ?_ (by show 2<=sizeLine;decide);have I2:Inv X pins σ H1 { s1 with heap:=s1.heap.push { cls:=.type "tuple",data:=.seq [u1,u2].toArray } }:=I1.kept λb o e=>Qq0 _ e;rw[hw];refine Qqx<|Qq6 ?_;show wpAny (model X.prog X.w) X.A (do rule "assign.swapped-stores";let items <-unpackItems (.ref s1.heap.objs.size) 2 none;assignInOrder [λv=>bindName X.env y v,λv=>bindName X.env x v] items.reverse;pure Flow.next) _ _ _;refine Qqx<|Qj8<|Qqx<|unpackItems_tuple (items:=#[u1,u2]) (I.ok.hd hc) (IsTup.new s1.heap _) λh' hx'=>?_;have I3:=I2.kept (t':=s1.toks) λb o e=>hx' b o (Qxv<|Qwx e) e;show wpAny _ _ (assignInOrder [λv=>bindName X.env y v,λv=>bindName X.env x v] [u2,u1] >>= λ_=>pure Flow.next) _ _ _;refine Qqx<|assignInOrder_cons<|wpAny_bindName<|oh I3 hN hj (.inl hy) xm (λs2 I4=>?_)<|.inr hy;refine assignInOrder_cons<|wpAny_bindName<|oh I4 hN hi (.inl hx) rv (λs3 I5=>assignInOrder_nil<|Qq6 ?_)<|.inr hx;rw[List.set_comm _ _ (Ne.symm hij)] at I5;exact⟨_,H1,I5,q1⟩
def agN(i:Nat)(te:TE)(ti:TIp):TS:=λD σ H=>∃x,σ[i]?=some (some x)/\te σ H λy H1=>ti x y H1 λz H2=>D.nx (σ.set i (some z)) H2
theorem aaU(hN:X.N.Nodup)(hi:X.N[i]?=some x)(hx:Loc X.env.scope x)(he:PE X e te)(ho:PIp X op ti)(hf:X.fn x=true\/X.env.scope.names.lookup x=some .local:=by first|exact .inl rfl|exact .inr rfl|assumption) :
  PS X (.AugAssign (.Name x pos') op e pos) (agN i te ti):=by
 intro pins s σ H D I h;obtain⟨v,e1,h⟩:=h;obtain⟨m,hn,hl⟩:=I.loc;have vis:vM X.env.scope x:=by rcases hx with k|k;exact .inl k;exact .inr<|.inl k
 obtain⟨u,r,l⟩:=hl i x v hi e1 vis;refine wpAny_AugAssign_Name ?_;have go:wpAny (model X.prog X.w) X.A (eval e X.env) (λw s₂=>wpAny (model X.prog X.w) X.A (inplaceOp op u w) (λr s₃=>wpAny (model X.prog X.w) X.A (storeName X.env x r) (λ_=>SP X pins D .next) X.xe s₃) X.xe s₂) X.xe s:=by refine fG (he pins s σ H _ I h) λw s1 ⟨y,H1,I1,r1,q1⟩=>?_;refine fG (ho pins s1 σ H1 v y u w _ I1 r r1 q1) λz s2 ⟨zv,H2,I2,r2,q2⟩=>?_;exact oh I2 hN hi hx r2 (λs3 I3=>⟨_,H2,I3,q2⟩) hf
 rcases l with ⟨hk,hm⟩|⟨hk,c,hc,hcell⟩;exact wpAny_loadName_local I.ok.kind hk hn hm go;rcases hk with hk|hk;exact wpAny_loadName_cell I.ok.kind hk hc hcell go;rcases hx with k|k;have:X.env.scope.names.lookup x=some .free:=hk;rw[k] at this;cases this;have:X.env.scope.names.lookup x=some .free:=hk;rw[k] at this;cases this
def ipI(f:Int->Int->Int):TIp:=λx y H Q=>∃i j,x=.int i/\y=.int j/\Q (.int (f i j)) H
theorem acj:PIp X .Add (ipI λi j=>i+j):=by intro pins s σ H x y v u Q I r1 r2 h;obtain⟨i,j,e1,e2,q⟩:=h;subst e1;subst e2;obtain⟨t,rfl⟩:=r1;obtain⟨t',rfl⟩:=r2;exact iadd_int ⟨.int _,H,I.tok _,⟨_,rfl⟩,q⟩
def aaq(c:TT)(tb:TS):TS:=λD σ H=>∃W:Nat->St->Hp->Prop,(∃m,W m σ H)/\∀m σ H,W m σ H->
 c σ H λb H1=>if b=true then ∃N:St->Hp->Prop,(∀σ' H',N σ' H'->∃m',m'<m/\W m' σ' H')/\tb { D with nx:=N,ct:=N,bk:=D.nx } σ H1 else D.nx σ H1
theorem Sg(hp:PassesOwn (model X.prog X.w) X.A X.env X.xe)(hc:PT X c tc)(hb:Gp X body tb):PS X (.While c body [] pos) (aaq tc tb):=by
 intro pins s σ H D I h;obtain⟨W,⟨m0,w0⟩,turn⟩:=h;refine wpAny_While<|codeAny_whileLoop (λn s'=>∃σ' H',Inv X pins σ' H' s'/\W n σ' H') ?_ m0 ⟨σ,H,I,w0⟩;rintro n s1 ⟨σ1,H1,I1,w1⟩;refine Qkv hp<|fG (hc pins s1 σ1 H1 _ I1<|turn n σ1 H1 w1) λb s2 ⟨H2,I2,q2⟩=>?_;cases b with
 |true=>
  obtain⟨N,hN,q2⟩:=q2;rw[if_pos rfl];refine Qkv hp<|fG (hb pins s2 σ1 H2 _ I2 q2) λf s3 q3=>?_;cases f with
  |next=>obtain⟨σ3,H3,I3,n3⟩:=q3;obtain⟨m',hm,w3⟩:=hN σ3 H3 n3;exact⟨m',hm,σ3,H3,I3,w3⟩|cont=>obtain⟨σ3,H3,I3,n3⟩:=q3;obtain⟨m',hm,w3⟩:=hN σ3 H3 n3;exact⟨m',hm,σ3,H3,I3,w3⟩|brk=>exact q3|ret v=>exact q3
 |false=>rw[if_neg Qx1];exact wpAny_execs_nil ⟨σ1,H2,I2,q2⟩
end
structure It where
 go:Nat->Hp->Prop
 yld:Nat->Hp->V->Hp->Prop
 stop:Nat->Hp->Prop
def vI(X:Cx)(pins:List (Addr×Obj))(H:Hp)(b:Addr):Prop:=
 H b=none/\b≠X.env.locals/\b ∉ X.fs/\(b∈X.ex\/X.s₀.heap.objs.size<=b)/\(∀x c,X.env.cells.lookup x=some c->c≠b)/\∀p∈X.pn++pins,p.1≠b
theorem Inv.acA{σ:St}{b:Addr}(I:Inv X pins σ H s)(hb:s.heap.objs.size<=b)(hn:H' b=none):vI X pins H' b:=by
 refine⟨hn,Qky<|Qwz I.lt hb,I.ag1 hb,.inr<|Qq4 I.sz hb,λx c e z=>?_,λp hp z=>?_⟩;obtain⟨v,q⟩:=I.cell x c e;exact absurd (Qwz q.lt (by rw[z];exact hb))<|Qz0 _;exact absurd (Qwz (Qwx (I.pin p hp).1) (by rw[z];exact hb))<|Qz0 _
structure Turn(P:Program)(w:World)(K:PySem.W.Frag)(tg:Expr)(J:It)(fp:List Addr)(it:Addr)(tn:Nat->Heap->Prop):Prop where
 mem:it∈fp
 obj:∀i h,tn i h->∀b∈fp,∃o,h.get? b=some o/\∀v,o.data ≠ .cell v
 keep:∀i h h',tn i h->(∀b∈fp,∀o,h.get? b=some o->h'.get? b=some o)->tn i h'
 item:∀(X:Cx),X.prog=P->X.w=w->X.K=K->X.calm=true->∀(i:Nat) (pins:List (Addr×Obj)) (s:Shared) (σ:St) (H:Hp) (E:Value->Shared->Prop),Inv X pins σ H s->(∀b∈fp,vI X pins H b)->tn i s.heap->J.go i H->
  wpAny (model P w) X.A (pyNext (.ref it)) (λr s1=>∃u,r=some u/\
   wpAny (model P w) X.A (letOwnedTupleGo tg (.ref it) u) (λ_ s2=>∃x H',Inv X pins σ H' s2/\RelV x u/\J.yld i H x H'/\tn (i+1) s2.heap/\∀b∈fp,H' b=none) E s1) E s
 done:∀(X:Cx),X.prog=P->X.w=w->X.K=K->X.calm=true->∀(i:Nat) (pins:List (Addr×Obj)) (s:Shared) (σ:St) (H:Hp) (E:Value->Shared->Prop),Inv X pins σ H s->(∀b∈fp,vI X pins H b)->tn i s.heap->J.stop i H->
  wpAny (model P w) X.A (pyNext (.ref it)) (λr s1=>r=none/\Inv X pins σ H s1) E s
 self:∀(A:Around) (i:Nat) (s:Shared) (Q:Value->Shared->Prop) (E:Value->Shared->Prop),tn i s.heap->Q (.ref it) s->wpAny (model P w) A (pyIter (.ref it)) Q E s
abbrev TI:=St->Hp->(It->Hp->Prop)->Prop
def PIE(X:Cx)(pins:List (Addr×Obj))(σ:St)(tg:Expr)(R:It->Hp->Prop)(itv:Value)(s2:Shared):Prop:=
 ∃(it:Addr) (fp:List Addr) (tn:Nat->Heap->Prop) (J:It) (H':Hp),itv=.ref it/\Inv X pins σ H' s2/\Turn X.prog X.w X.K tg J fp it tn/\tn 0 s2.heap/\(∀b∈fp,vI X pins H' b)/\R J H'
def PI(X:Cx)(tg iter:Expr)(wi:TI):Prop:=
 ∀(pins:List (Addr×Obj)) (s:Shared) (σ:St) (H:Hp) (R:It->Hp->Prop),Inv X pins σ H s->wi σ H R->
  wpAny (model X.prog X.w) X.A (eval iter X.env) (λv s1=>wpAny (model X.prog X.w) X.A (pyIter v) (PIE X pins σ tg R) X.xe s1) X.xe s
theorem Ip(ho : s.heap.get? it = some o)(hc : o.cls = .type n)(hd : o.data = .fields vs)
    (hn : ["enumerate", "zip", "dict_itemiterator", "dict_reverseitemiterator", "odict_iterator", "itertools.zip_longest", "itertools.pairwise"].contains n = false) (hQ : Q () s) : wpAny M A (letOwnedTupleGo tg (.ref it) u) Q E s := by
  unfold letOwnedTupleGo;cases tg <;> first
    | exact Qq6 hQ
    | (cases u <;> first
        | exact Qq6 hQ
        | (refine Qqx<|wpAny_load ho ?_
           rw [hc, hd];show wpAny M A (if (["enumerate", "zip", "dict_itemiterator", "dict_reverseitemiterator", "odict_iterator", "itertools.zip_longest", "itertools.pairwise"].contains n && vs[0]? == some (rawInt _)) = true then _ else _) Q E s;rw [if_neg (by intro h; rw [hn, Bool.false_and] at h; cases h)];exact Qq6 hQ))
noncomputable def Itl(K:PySem.W.Frag)(a:Addr):It:=
 ⟨λi H=>∃xs x,oR K H a xs/\xs[i]?=some x,λi H x H'=>H'=H/\∀xs,oR K H a xs->xs[i]?=some x,λi H=>∃xs,oR K H a xs/\xs.length<=i⟩
noncomputable def Itt(K:PySem.W.Frag)(a:Addr):It:=
 ⟨λi H=>∃xs x,lG K H a xs/\xs[i]?=some x,λi H x H'=>H'=H/\∀xs,lG K H a xs->xs[i]?=some x,λi H=>∃xs,lG K H a xs/\xs.length<=i⟩
noncomputable def Itr(lo:Int)(n:Nat):It:=⟨λi _=>i<n,λi H x H'=>H'=H/\x=.int (lo+i),λi _=>n<=i⟩
theorem N7{P:Program}{w:World}{K:PySem.W.Frag}{tg:Expr}(a it:Addr):Turn P w K tg (Itl K a) [it] it (λi h=>h.IsListIter it a i) where
 mem:=by simp
 obj:=λi h st b hb=>by
  have e:b=it:=by simpa using hb
  subst e;obtain⟨o,e,c,d⟩:=st;exact⟨o,e,λv z=>by rw[d] at z;cases z⟩
 keep:=λi h h' st k=>st.at λo e=>k it (by simp) o e
 item:=by intro X hP hw hK hc i pins s σ H E I hf st hg;subst hP hw hK;obtain⟨xs,x,hq,hx⟩:=hg;obtain⟨its,rv,p,hz⟩:=I.list hq;obtain⟨u,hu,ru⟩:=rv.get hx;obtain⟨f0,f1,f2,f3,f4,f5⟩:=hf it (by simp);refine wpAny_pyNext_list_item st p.isList (by simpa using hu) λh' st' sb=>?_;have I1:Inv X pins σ H { s with heap:=h' }:=I.turned (λb o hb e=>(sb.2 b hb).trans e) f0 f1 f3 f4 f5;obtain⟨o,e,c,d⟩:=id st';exact⟨u,rfl,Ip e c d (by decide) ⟨x,H,I1,ru,⟨rfl,λys hy=>by rw[I.Tw hy hq];exact hx⟩,st',λb hb=>(hf b hb).1⟩⟩
 done:=by intro X hP hw hK hc i pins s σ H E I hf st hg;subst hP hw hK;obtain⟨xs,hq,hx⟩:=hg;obtain⟨its,rv,p,hz⟩:=I.list hq;obtain⟨f0,f1,f2,f3,f4,f5⟩:=hf it (by simp);have hl:=rv.length;exact wpAny_pyNext_list_end (I.ok.hd hc) st p.isList (by simp;omega) λh' eb=>⟨rfl,I.turned (λb o hb e=>eb b o hb e) f0 f1 f3 f4 f5⟩
 self:=λ_ _ _ _ _ st h=>wpAny_pyIter_listiter st h
theorem JQ{P:Program}{w:World}{K:PySem.W.Frag}{tg:Expr}(a it:Addr):Turn P w K tg (Itt K a) [it] it (λi h=>h.IsTupleIter it a i) where
 mem:=by simp
 obj:=λi h st b hb=>by
  have e:b=it:=by simpa using hb
  subst e;obtain⟨o,e,c,d⟩:=st;exact⟨o,e,λv z=>by rw[d] at z;cases z⟩
 keep:=λi h h' st k=>st.at λo e=>k it (by simp) o e
 item:=by intro X hP hw hK hc i pins s σ H E I hf st hg;subst hP hw hK;obtain⟨xs,x,hq,hx⟩:=hg;obtain⟨its,rv,p,hz⟩:=I.tuple hq;obtain⟨u,hu,ru⟩:=rv.get hx;obtain⟨f0,f1,f2,f3,f4,f5⟩:=hf it (by simp);refine wpAny_pyNext_tuple_item st p (by simpa using hu) λh' st' sb=>?_;have I1:Inv X pins σ H { s with heap:=h' }:=I.turned (λb o hb e=>(sb.2 b hb).trans e) f0 f1 f3 f4 f5;obtain⟨o,e,c,d⟩:=id st';exact⟨u,rfl,Ip e c d (by decide) ⟨x,H,I1,ru,⟨rfl,λys hy=>by rw[I.vU hy hq];exact hx⟩,st',λb hb=>(hf b hb).1⟩⟩
 done:=by intro X hP hw hK hc i pins s σ H E I hf st hg;subst hP hw hK;obtain⟨xs,hq,hx⟩:=hg;obtain⟨its,rv,p,hz⟩:=I.tuple hq;obtain⟨f0,f1,f2,f3,f4,f5⟩:=hf it (by simp);have hl:=rv.length;exact wpAny_pyNext_tuple_end (I.ok.hd hc) st p (by simp;omega) λh' eb=>⟨rfl,I.turned (λb o hb e=>eb b o hb e) f0 f1 f3 f4 f5⟩
 self:=λ_ _ _ _ _ st h=>wpAny_pyIter_tupleiter st h
theorem JR{P:Program}{w:World}{K:PySem.W.Frag}{tg:Expr}(it:Addr)(lo:Int)(n:Nat):Turn P w K tg (Itr lo n) [it] it (λi h=>IsRangeIter h it (lo+(i:Nat)*1) ((n:Int) - (i:Nat)) 1) where
 mem:=by simp
 obj:=λi h st b hb=>by
  have e:b=it:=by simpa using hb
  subst e;exact⟨_,st,λv z=>by
   have z':=z;cases z'⟩
 keep:=λi h h' st k=>k it (by simp) _ st
 item:=by intro X hP hw hK hc i pins s σ H E I hf st hg;subst hP hw hK;obtain⟨f0,f1,f2,f3,f4,f5⟩:=hf it (by simp);have W:=Walks.range (prog:=X.prog) (w:=X.w) (I.ok.hd hc) it lo 1 n;refine W.item i s _ _ hg st λv h' tk hv st' kk=>?_;obtain⟨t,rfl⟩:=hv;have I1:Inv X pins σ H { s with heap:=h',toks:=tk }:=I.turned (λb o hb e=>kk b o (by simpa using hb) e) f0 f1 f3 f4 f5;refine⟨_,rfl,Ip st' rfl rfl (by decide) ⟨.int<|lo+i,H,I1,⟨t,?_⟩,⟨rfl,rfl⟩,st',λb hb=>(hf b hb).1⟩⟩;rw[Int.mul_one]
 done:=by intro X hP hw hK hc i pins s σ H E I hf st hg;subst hP hw hK;obtain⟨f0,f1,f2,f3,f4,f5⟩:=hf it (by simp);exact wpAny_pyNext_range_end (I.ok.hd hc) st (by have:n<=i:=hg;omega) λh' eb=>⟨rfl,I.turned (λb o hb e=>eb b o hb e) f0 f1 f3 f4 f5⟩
 self:=λ_ _ _ _ _ st h=>wpAny_pyIter_rangeiter st h
section
variable{X:Cx}{tg:Expr}
theorem RC{σ:St}{lo hi:Int}(I:Inv X pins σ H s)(h1 : -(2^62)<=lo)(h2:lo<2^62)(h3 : -(2^62)<=hi)(h4:hi<2^62)
  (q:R (Itr lo (hi - lo).toNat) H):wpAny (model X.prog X.w) X.A (pyIter (.ref s.heap.objs.size)) (PIE X pins σ tg R) E { s with heap:=s.heap.push { cls:=.type "range",data:=.fields #[.int lo t,.int hi u,.int 1 v] },toks:=tk }:=by
 refine wpAny_pyIter_range (IsRange.new ..) (small_one h1 h2 h3 h4) ?_;have I1:Inv X pins σ H { s with heap:=s.heap.push { cls:=.type "range",data:=.fields #[.int lo t,.int hi u,.int 1 v] },toks:=tk }:=I.kept λb o e=>Qq0 _ e;refine⟨(s.heap.push { cls:=.type "range",data:=.fields #[.int lo t,.int hi u,.int 1 v] }).objs.size,[(s.heap.push { cls:=.type "range",data:=.fields #[.int lo t,.int hi u,.int 1 v] }).objs.size],_,_,H,rfl,
  I1.kept λb o e=>Qq0 _ e,JR _ lo (hi - lo).toNat,?_,λb hb=>?_,q⟩
 have e1:lo+(0:Nat)*1=lo:=by simp
 have e2:((hi - lo).toNat) - (0:Nat)=Builtin.Range.rangeSize lo hi 1:=by rw[rangeSize_one];split<;>omega
 show IsRangeIter _ _ (lo+(0:Nat)*1) ((((hi - lo).toNat:Nat):Int) - ((0:Nat):Int)) 1;rw[e1,e2];exact Qw2 _ rfl;have e:b=(s.heap.push { cls:=.type "range",data:=.fields #[.int lo t,.int hi u,.int 1 v] }).objs.size:=by simpa using hb
 subst e;exact I1.acA (Qq1 _)<|I1.hok.fresh<|Qq1 _
def ae5(ta:TA):TI:=λσ H R=>ta σ H λvs H1=>∃j:Int,vs=[.int j]/\-(2^62)<=j/\j<2^62/\R (Itr 0 j.toNat) H1
theorem Ox(hg:Gl X "range")(hm:X.mg "range"=none)(ha:PA X [a] ta)(hs:starEach [a] X.env=[(false,eval a X.env)]:=by rfl):PI X tg (.Call (.Name "range" p) [a] [] pos) (ae5 ta):=by
 intro pins s σ H R I h;refine Call_<|zx I hg hm boot_range<|PyProof.Rows.callWith_type1 (fG (ha pos pins s σ H _ I h) λus s1 ⟨vs,H1,I1,r1,q1⟩=>?_) hs rfl;obtain⟨j,e,q1,q2,q⟩:=q1;subst e;cases r1 with
 |cons r rr=>cases rr;obtain⟨t,rfl⟩:=r;exact call_range_1<|RC I1 (by omega) (by omega) q1 q2 (by simpa using q)
def agL(wi:TI)(g:TG)(tb:TS):TS:=λD σ H=>wi σ H λJ H1=>∃W:Nat->Nat->St->Hp->Prop,(∃m,W 0 m σ H1)/\∀i m σ H,W i m σ H->
 (J.stop i H/\D.nx σ H)\/(J.go i H/\∃N:St->Hp->Prop,(∀σ' H',N σ' H'->∃m',m'<m/\W (i+1) m' σ' H')/\∀x H',J.yld i H x H'->g x σ H' λσ2 H2=>tb { D with nx:=N,ct:=N,bk:=D.nx } σ2 H2)
noncomputable def yZ(fp:List Addr)(h:Heap):List (Addr×Obj):=fp.filterMap λb=>(h.get? b).map λo=>(b,o)
theorem o8(hb:b∈fp)(e:h.get? b=some o):(b,o)∈yZ fp h:=List.mem_filterMap.mpr ⟨b,hb,by rw[e];rfl⟩
theorem O7(hp:p∈yZ fp h):p.1∈fp/\h.get? p.1=some p.2:=by
 obtain⟨b,hb,e⟩:=List.mem_filterMap.mp hp;cases q:h.get? b with
 |none=>rw[q] at e;cases e|some o=>rw[q] at e;have e':=Qw4 e;subst e';exact⟨hb,q⟩
theorem Inv.pinned{σ:St}(I:Inv X pins σ H s)(hf:∀b∈fp,vI X pins H b)(ho:∀b∈fp,∃o,s.heap.get? b=some o/\∀v,o.data ≠ .cell v):Inv X (pins++yZ fp s.heap) σ H s:=
 I.Mq λp hp=>(Qww.mp hp).elim (λz=>I.pin p<|Qxx _ z) λz=>by
  obtain⟨hb,e⟩:=O7 z;obtain⟨f0,f1,f2,_⟩:=hf p.1 hb;obtain⟨o,e',d⟩:=ho p.1 hb;rw[e] at e';cases e';exact⟨e,f0,f1,f2,d⟩
theorem Inv.uh{σ:St}(I:Inv X (pins++pl) σ H s):Inv X pins σ H s:=I.Mq λp hp=>I.pin p<|Qxx _<|Qzv _ hp
theorem aaT(hp:PassesOwn (model X.prog X.w) X.A X.env X.xe)(hc:X.calm=true)(hi:PI X tg iter wi)(hg:PG X tg g)(hb:Gp X body tb)
  (hs:∀x,foldedSetIterable iter X.env x=pure x:=by intro _;rfl):PS X (.For tg iter body [] pos) (agL wi g tb):=by
 intro pins s σ H D I h;refine wpAny_For (fG (hi pins s σ H _ I h) λv s1 h1=>fG h1 λitv s2 h2=>?_) hs;obtain⟨it,fp,tn,J,H2,e,I2,T,st2,f2,W,⟨m0,w0⟩,turn⟩:=h2;subst e
 -- what stays true of the iterator's objects through the loop
 have stat:∀{H'},(∀b∈fp,H' b=none)->∀b∈fp,vI X pins H' b:=λhn b hb=>⟨hn b hb,(f2 b hb).2⟩;refine codeAny_forLoop_any (λn s'=>∃i σ' H',Inv X pins σ' H' s'/\tn i s'.heap/\(∀b∈fp,H' b=none)/\W i n σ' H') ?_ m0 ⟨0,σ,H2,I2,st2,λb hb=>(f2 b hb).1,w0⟩;rintro n s3 ⟨i,σ3,H3,I3,st3,fr3,w3⟩;rcases turn i n σ3 H3 w3 with ⟨stop,qn⟩|⟨go,N,hN,step⟩
 .refine Qkv hp<|fG (T.done X rfl rfl rfl hc i pins s3 σ3 H3 X.xe I3 (stat fr3) st3 stop) λr s4 ⟨hr,I4⟩=>?_;subst hr;exact wpAny_execs_nil ⟨σ3,H3,I4,qn⟩
 .refine Qkv hp<|fG (T.item X rfl rfl rfl hc i pins s3 σ3 H3 X.xe I3 (stat fr3) st3 go) λr s4 ⟨u,hr,h4⟩=>?_;subst hr;refine Qkv hp<|fG h4 λ_ s5 ⟨x,H5,I5,r5,y5,st5,fr5⟩=>?_;have I5':=I5.pinned (stat fr5)<|T.obj _ _ st5;refine Qkv hp<|fG (hg _ s5 σ3 H5 x u _ I5' r5<|step x H5 y5) λ_ s6 ⟨σ6,H6,I6,q6⟩=>?_;refine Qkv hp<|fG (hb _ s6 σ6 H6 _ I6 q6) λf s7 q7=>?_;have again:∀{σ7} {H7},Inv X (pins++yZ fp s5.heap) σ7 H7 s7->N σ7 H7->∃m,m<n/\∃i σ' H',Inv X pins σ' H' s7/\tn i s7.heap/\(∀b∈fp,H' b=none)/\W i m σ' H':=λ{σ7 H7} I7 n7=>by
   obtain⟨m',hm,w7⟩:=hN σ7 H7 n7;refine⟨m',hm,i+1,σ7,H7,I7.uh,T.keep _ _ _ st5 λb hb o e=>(I7.pin (b,o)<|Qxx _<|Qxx _<|o8 hb e).1,λb hb=>?_,w7⟩;obtain⟨o,e,d⟩:=T.obj _ _ st5 b hb;exact(I7.pin (b,o)<|Qxx _<|Qxx _<|o8 hb e).2.1
  cases f with
  |next=>obtain⟨σ7,H7,I7,n7⟩:=q7;exact again I7 n7|cont=>obtain⟨σ7,H7,I7,n7⟩:=q7;exact again I7 n7|brk=>obtain⟨σ7,H7,I7,q7⟩:=q7;exact⟨σ7,H7,I7.uh,q7⟩|ret v=>obtain⟨x7,σ7,H7,I7,r7,q7⟩:=q7;exact⟨x7,σ7,H7,I7.uh,r7,q7⟩
end
abbrev R2:=V->V->Hp->VK->Prop
def mG(X:Cx)(f:Value->Value->Sem Value)(r:R2):Prop:=
 ∀(pins:List (Addr×Obj)) (s:Shared) (σ:St) (H:Hp) (x y:V) (v u:Value) (Q:VK),Inv X pins σ H s->RelV x v->RelV y u->r x y H Q->
  wpAny (model X.prog X.w) X.A (f v u) (EP X pins σ Q) X.xe s
def UnR(X:Cx)(f:Value->Sem Value)(r:V->Hp->VK->Prop):Prop:=
 ∀(pins:List (Addr×Obj)) (s:Shared) (σ:St) (H:Hp) (x:V) (v:Value) (Q:VK),Inv X pins σ H s->RelV x v->r x H Q->
  wpAny (model X.prog X.w) X.A (f v) (EP X pins σ Q) X.xe s
def jU(X:Cx)(f:Value)(r:List V->Hp->VK->Prop):Prop:=
 ∀(pins:List (Addr×Obj)) (s:Shared) (σ:St) (H:Hp) (xs:List V) (us:List Value) (Q:VK),Inv X pins σ H s->Vals xs us->r xs H Q->
  wpAny (model X.prog X.w) X.A (call f us) (EP X pins σ Q) X.xe s
def VP(r:R2)(ta tb:TE):TE:=λσ H Q=>ta σ H λx H1=>tb σ H1 λy H2=>r x y H2 Q
def tUn(r:V->Hp->VK->Prop)(ta:TE):TE:=λσ H Q=>ta σ H λx H1=>r x H1 Q
def rI(C:Int->Int->Prop)(g:Int->Int->V):R2:=λx y H Q=>∃i j,x=.int i/\y=.int j/\C i j/\Q (g i j) H
def Jy(g:Int->Int->V):R2:=λx y H Q=>∃i j,x=.int i/\y=.int j/\Q (g i j) H
def rU(g:Int->V):V->Hp->VK->Prop:=λx H Q=>∃i,x=.int i/\Q (g i) H
section
variable{X:Cx}{a b c:Expr}{ta tb tc:TE}{pos:Pos}
theorem acU(ha:PE X a ta)(hb:PE X b tb){σ:St}{R:V->V->Hp->Prop}(I:Inv X pins σ H s)
  (h:ta σ H λx H1=>tb σ H1 λy H2=>R x y H2) {f:Value->Value->Sem Value}
  (hf:∀v u s2 x y H2,Inv X pins σ H2 s2->RelV x v->RelV y u->R x y H2->wpAny (model X.prog X.w) X.A (f v u) Q X.xe s2) :
  wpAny (model X.prog X.w) X.A (eval a X.env) (λv s₁=>wpAny (model X.prog X.w) X.A (eval b X.env) (λu s₂=>wpAny (model X.prog X.w) X.A (f v u) Q X.xe s₂) X.xe s₁) X.xe s:=by
 refine fG (ha pins s σ H _ I h) λv s1 ⟨x,H1,I1,r1,q1⟩=>?_;refine fG (hb pins s1 σ H1 _ I1 q1) λu s2 ⟨y,H2,I2,r2,q2⟩=>?_;exact hf v u s2 x y H2 I2 r1 r2 q2
theorem Za(ho:mG X (binaryOp op) r)(ha:PE X a ta)(hb:PE X b tb):PE X (.BinOp a op b pos) (VP r ta tb):=by intro pins s σ H Q I h;exact wpAny_BinOp<|acU ha hb I h λv u s2 x y H2 I2 rx ry q=>ho pins s2 σ H2 x y v u Q I2 rx ry q
theorem Y9(ho:UnR X (unaryOp op) r)(ha:PE X a ta):PE X (.UnaryOp op a pos) (tUn r ta):=by intro pins s σ H Q I h;exact UnaryOp_<|fG (ha pins s σ H _ I h) λv s1 ⟨x,H1,I1,r1,q1⟩=>ho pins s1 σ H1 x v Q I1 r1 q1
theorem opI{g:Int->Int->Int}
  (rule:∀i j t u s Q E,C i j->Q (.int (g i j) s.toks) { s with toks:=s.toks+1 }->wpAny (model X.prog X.w) X.A (f (.int i t) (.int j u)) Q E s) :
  mG X f (rI C λi j=>.int (g i j)):=by
 intro pins s σ H x y v u Q I rx ry h;obtain⟨i,j,rfl,rfl,hc,q⟩:=h;obtain⟨t,rfl⟩:=rx;obtain⟨t',rfl⟩:=ry;exact rule i j t t' s _ _ hc ⟨.int<|g i j,H,I.tok _,⟨_,rfl⟩,q⟩
theorem abu{g:Int->Int->Int}
  (rule:∀i j t u s Q E,Q (.int (g i j) s.toks) { s with toks:=s.toks+1 }->wpAny (model X.prog X.w) X.A (f (.int i t) (.int j u)) Q E s) :
  mG X f (Jy λi j=>.int (g i j)):=by
 intro pins s σ H x y v u Q I rx ry h;obtain⟨i,j,rfl,rfl,q⟩:=h;obtain⟨t,rfl⟩:=rx;obtain⟨t',rfl⟩:=ry;exact rule i j t t' s _ _ ⟨.int<|g i j,H,I.tok _,⟨_,rfl⟩,q⟩
theorem abv{g:Int->Int->Bool}
  (rule:∀i j t u s Q E,Q (.bool (g i j)) s->wpAny (model X.prog X.w) X.A (f (.int i t) (.int j u)) Q E s) :
  mG X f (Jy λi j=>.bl (g i j)):=by
 intro pins s σ H x y v u Q I rx ry h;obtain⟨i,j,rfl,rfl,q⟩:=h;obtain⟨t,rfl⟩:=rx;obtain⟨t',rfl⟩:=ry;exact rule i j t t' s _ _ ⟨.bl<|g i j,H,I,rfl,q⟩
def afN(i j:Int):Prop:=0<j/\j<1073741824
def Yy(i j:Int):Prop:=0<=j/\j<=1000000/\i.natAbs<2^64
theorem JP(k):(0:Int)<=2^k:=by rw[two_pow_cast];exact Int.natCast_nonneg _
theorem abt:mG X (binaryOp .Add) (Jy λi j=>.int (i+j)):=abu λ_ _ _ _ _ _ _ q=>add_int q
theorem abd:mG X (binaryOp .Sub) (Jy λi j=>.int (i - j)):=abu λ_ _ _ _ _ _ _ q=>sub_int q
theorem abi:mG X (binaryOp .Mod) (rI (λ_ j=>0<j) λi j=>.int (i % j)):=opI λi j _ _ _ _ _ hc q=>by
 have h1:=hc;exact mod_int' (by omega) (by rw[Int.fmod_eq_emod_of_nonneg i (by omega)];exact q)
theorem abg:mG X (binaryOp .Pow) (rI Yy λi j=>.int (i^j.toNat)):=opI λ_ _ _ _ _ _ _ hc q=>pow_int_small hc.1 hc.2.1 hc.2.2 q
theorem abf:mG X (binaryOp .LShift) (rI Yy λi j=>.int (i*2^j.toNat)):=opI λ_ _ _ _ _ _ _ hc q=>lshift_int_small hc.1 hc.2.1 hc.2.2 q
theorem abe:mG X (binaryOp .RShift) (rI (λ_ j=>0<=j) λi j=>.int (i / 2^j.toNat)):=opI λi j _ _ _ _ _ hc q=>
 rshift_int hc (by rw[Int.fdiv_eq_ediv_of_nonneg i (JP _)];exact q)
theorem abr:mG X (binaryOp .BitAnd) (Jy λi j=>.int (Builtin.bitAnd i j)):=abu λ_ _ _ _ _ _ _ q=>and_int q
theorem unI{g:Int->Int}
  (rule:∀i t s Q E,Q (.int (g i) s.toks) { s with toks:=s.toks+1 }->wpAny (model X.prog X.w) X.A (f (.int i t)) Q E s) :
  UnR X f (rU λi=>.int (g i)):=by
 intro pins s σ H x v Q I rx h;obtain⟨i,rfl,q⟩:=h;obtain⟨t,rfl⟩:=rx;exact rule i t s _ _ ⟨.int<|g i,H,I.tok _,⟨_,rfl⟩,q⟩
theorem Q0:UnR X (unaryOp .USub) (rU λi=>.int (-i)):=unI λ_ _ _ _ _ q=>neg_int q
end
theorem acJ:decide (V.bl i=V.bl j)=(i == j):=by rw[Qk1];simp
section
variable{X:Cx}{a b c:Expr}{ta tb tc:TE}{pos:Pos}
theorem wW{σ:St}(I:Inv X pins σ H s)(q:Q (.bl k) H)(e:k=k'):EP X pins σ Q (.bool k') s:=by subst e;exact⟨.bl k,H,I,rfl,q⟩
theorem aeD:mG X (compareOp .Lt) (Jy λi j=>.bl (decide (i<j))):=abv λ_ _ _ _ _ _ _ q=>lt_int q
theorem aeE:mG X (compareOp .LtE) (Jy λi j=>.bl (decide (i<=j))):=abv λ_ _ _ _ _ _ _ q=>le_int q
theorem aeF:mG X (compareOp .Gt) (Jy λi j=>.bl (decide (j<i))):=abv λ_ _ _ _ _ _ _ q=>gt_int q
theorem O3:mG X (compareOp .Lt) (λx y H Q=>∃i j,x=.str i/\y=.str j/\Q (.bl (decide (i.cps.toList<j.cps.toList))) H):=by intro pins s σ H x y v u Q I rx ry h;obtain⟨i,j,rfl,rfl,q⟩:=h;obtain⟨t,rfl⟩:=rx;obtain⟨t',rfl⟩:=ry;exact lt_str<|wW I q rfl
theorem O5:mG X (compareOp .In) (λx y H Q=>∃i j,x=.str i/\y=.str j/\Q (.bl (!(Builtin.Str.occurrences j i 0 j.length 1).isEmpty)) H):=by intro pins s σ H x y v u Q I rx ry h;obtain⟨i,j,rfl,rfl,q⟩:=h;obtain⟨t,rfl⟩:=rx;obtain⟨t',rfl⟩:=ry;exact in_str<|wW I q rfl
theorem abk:mG X (compareOp .Is) (λx y H Q=>y=.non/\Q (.bl (decide (x=.non))) H):=by
 intro pins s σ H x y v u Q I rx ry h;obtain⟨rfl,q⟩:=h;cases ry;refine is_none_gen<|wW I q ?_;cases x<;>first
  |(cases rx;rfl)|(obtain⟨t,rfl⟩:=rx;rfl)
theorem W0:mG X (compareOp .IsNot) (λx y H Q=>y=.non/\Q (.bl (!decide (x=.non))) H):=by
 intro pins s σ H x y v u Q I rx ry h;obtain⟨rfl,q⟩:=h;cases ry;refine isnot_none_gen<|wW I q ?_;cases x<;>first
  |(cases rx;rfl)|(obtain⟨t,rfl⟩:=rx;rfl)
theorem mG.or(h:mG X f r)(h':mG X f r'):mG X f (λx y H Q=>r x y H Q\/r' x y H Q):=by
 intro pins s σ H x y v u Q I rx ry q;rcases q with q|q;exact h pins s σ H x y v u Q I rx ry q;exact h' pins s σ H x y v u Q I rx ry q
theorem Mr(ho:mG X (compareOp op) r)(ha:PE X a ta)(hb:PE X b tb)(hm:behindInMarks op b=false):PE X (.Compare a [op] [b] pos) (VP r ta tb):=by intro pins s σ H Q I h;exact wpAny_Compare1 (acU ha hb I h λv u s2 x y H2 I2 rx ry q=>ho pins s2 σ H2 x y v u Q I2 rx ry q) hm
def YT(t:TE):TT:=λσ H Q=>t σ H λx H'=>∃k,x=.bl k/\Q k H'
theorem Ml(ho:mG X (compareOp op) r)(ha:PE X a ta)(hb:PE X b tb)(hm:behindInMarks op b=false):PT X (.Compare a [op] [b] pos) (YT (VP r ta tb)):=by
 intro pins s σ H Q I h;refine wpAny_isTrue_Compare1 (fG (ha pins s σ H _ I h) λv s1 ⟨x,H1,I1,r1,q1⟩=>fG (hb pins s1 σ H1 _ I1 q1) λu s2 ⟨y,H2,I2,r2,q2⟩=>
  fG (ho pins s2 σ H2 x y v u _ I2 r1 r2 q2) λc s3 ⟨z,H3,I3,r3,k,e,q3⟩=>?_) hm
 subst e;cases r3;exact Qj4 ⟨H3,I3,q3⟩
def Rc(r r':R2)(ta tb tc:TE):TE:=λσ H Q=>ta σ H λx H1=>tb σ H1 λy H2=>r x y H2 λz H3=>∃k,z=.bl k/\
 (if k=true then tc σ H3 λw' H4=>r' y w' H4 Q else Q (.bl false) H3)
theorem R9(ho:mG X (compareOp op) r)(ho':mG X (compareOp op') r')(ha:PE X a ta)(hb:PE X b tb)(hc:PE X c tc)
  (hm:lastMarks [op,op'] [b,c]=false:=by with_unfolding_all rfl):PT X (.Compare a [op,op'] [b,c] pos) (YT (Rc r r' ta tb tc)):=by
 intro pins s σ H Q I h;refine isTrue_chain (fG (ha pins s σ H _ I h) λv s1 ⟨x,H1,I1,r1,q1⟩=>test_link (fG (hb pins s1 σ H1 _ I1 q1) λu s2 ⟨y,H2,I2,r2,q2⟩=>
  fG (ho pins s2 σ H2 x y v u _ I2 r1 r2 q2) λd s3 ⟨z,H3,I3,r3,k,e,q3⟩=>?_)) hm
 subst e;cases r3;refine Qj4 ?_;cases k with
 |false=>obtain⟨k',e',q'⟩:=q3;cases e';exact ite_ff ⟨H3,I3,q'⟩|true=>refine ite_tt<|test_last<|fG (hc pins s3 σ H3 _ I3 q3) λw' s4 ⟨z',H4,I4,r4,q4⟩=>fG (ho' pins s4 σ H4 y z' u w' _ I4 r2 r4 q4) λd' s5 ⟨z2,H5,I5,r5,k2,e2,q5⟩=>?_;subst e2;cases r5;exact Qj4 ⟨H5,I5,q5⟩
theorem ach{κ:Type}{kvs:List (κ×V)}{vs:List (κ×Value)}(r:KV kvs vs):(!vs.isEmpty)=!kvs.isEmpty:=by cases r<;>rfl
theorem acg(r:Vals xs its):(!its.toArray.isEmpty)=!xs.isEmpty:=by cases r<;>simp
theorem zr:sizeLine<2^63:=by rw[Qkj];decide
theorem Kr:mG X (binaryOp .Add) (λx y H Q=>∃i j,x=.str i/\y=.str j/\i.length+j.length<=sizeLine/\Q (.str (i++j)) H):=by intro pins s σ H x y v u Q I rx ry h;obtain⟨i,j,rfl,rfl,hz,q⟩:=h;obtain⟨t,rfl⟩:=rx;obtain⟨t',rfl⟩:=ry;exact add_str (λt' tk=>⟨.str<|i++j,H,I.tok _,⟨_,rfl⟩,q⟩) hz
theorem vals1(r:Vals [x] us):∃u,us=[u]/\RelV x u:=by
 cases r with
 |cons r1 r2=>cases r2;exact⟨_,rfl,r1⟩
theorem vals2(r:Vals [x,y] us):∃u w',us=[u,w']/\RelV x u/\RelV y w':=by
 cases r with
 |cons r1 r2=>
  cases r2 with
  |cons r3 r4=>cases r4;exact⟨_,_,rfl,r1,r3⟩
def afL(K:PySem.W.Frag)(x:V)(H:Hp)(n:Nat):Prop:=
 match x with
 |.str y=>y.length<=sizeLine/\n=y.length|.byt y=>y.size<=sizeLine/\n=y.size|.ref p=>(∃xs,oR K H p xs/\n=xs.length)\/∃xs,lG K H p xs/\n=xs.length|_=>False
theorem U3:jU X (.builtin "len") (λxs H Q=>∃x n,xs=[x]/\afL X.K x H n/\Q (.int n) H):=by
 intro pins s σ H xs us Q I r h;obtain⟨x,n,rfl,e,q⟩:=h;obtain⟨u,rfl,rx⟩:=vals1 r;have hl:=zr;have hs:=Qkj;cases x with
 |str y=>obtain⟨t,rfl⟩:=rx;obtain⟨hy,e'⟩:y.length<=sizeLine/\n=y.length:=e;subst e';exact len_str (by omega) ⟨.int _,H,I.tok _,⟨_,rfl⟩,q⟩|byt y=>obtain⟨t,rfl⟩:=rx;obtain⟨hy,e'⟩:y.size<=sizeLine/\n=y.size:=e;subst e';exact PySem.W.len_bytes (by omega) ⟨.int _,H,I.tok _,⟨_,rfl⟩,q⟩|ref p=>cases rx;have e':=e;rcases e' with ⟨xs,hx,e'⟩|⟨xs,hx,e'⟩;subst e';obtain⟨its,r',pl,hz⟩:=I.list hx;have hlen:=r'.length;exact Calls.call_len_list pl.isList (by simp[Qq5];omega) ⟨.int xs.length,H,I.tok _,⟨_,by simp only[Qq5];rw[hlen]⟩,q⟩;subst e';obtain⟨its,r',pl,hz⟩:=I.tuple hx;have hlen:=r'.length;exact len_tuple pl (by simp[Qq5];omega) ⟨.int xs.length,H,I.tok _,⟨_,by simp only[Qq5];rw[hlen]⟩,q⟩
 |_=>exact e.elim
theorem Jo:jU X (.builtin "divmod") (λxs H Q=>∃i j,xs=[.int i,.int j]/\afN i j/\∀p,H p=none->Q (.ref p) (upd H p (.tup [.int (i / j),.int (i % j)]))):=by intro pins s σ H xs us Q I r h;obtain⟨i,j,rfl,⟨h1,h2⟩,q⟩:=h;obtain⟨u,w',rfl,⟨t,rfl⟩,⟨t',rfl⟩⟩:=vals2 r;refine divmod_int (by omega) ?_<|.inl<|PyProof.noPylong_small (by omega);rw[Int.fdiv_eq_ediv_of_nonneg i (by omega),Int.fmod_eq_emod_of_nonneg i (by omega)];have hn:=I.hok.fresh<|Qq1 _;refine⟨.ref s.heap.objs.size,_,?_,rfl,q _ hn⟩;refine I.laid (λb o e=>Qq0 _ e) (Qq1 _) ⟨by simp[Qqw,Qzk];rw[Qkj];decide,[.int (i / j) s.toks,.int (i % j)<|s.toks+1],.cons ⟨_,rfl⟩<|.cons ⟨_,rfl⟩ .nil,?_⟩;exact⟨_,Qw2 s.heap rfl,rfl,⟨0,rfl⟩,rfl⟩
end
theorem vD.some_of(r:vD (some v) o):∃u,o=some u/\RelV v u:=by
 cases o with
 |none=>exact r.elim|some u=>exact⟨u,rfl,r⟩
structure fX(k:Nat)(A:Around):Prop where
 hd:A.handled=none
 dp:A.depth+3*k+5<recursionLimit
 un:A.units+16*k+200<cLine
theorem fX.mono(r:fX k A)(h:j<=k):fX j A:=⟨r.hd,by have:=r.dp;omega,by have:=r.un;omega⟩
theorem fX.deeper(r:fX (k+1) A)(env):fX k (A.deeper env):=
 ⟨r.hd,by have:=r.dp;show A.depth+1+3*k+5<_;omega,by have:=r.un;show A.units+3+16*k+200<_;omega⟩
theorem fX.depth(r:fX k A):A.depth<recursionLimit:=by have:=r.dp;omega
theorem fX.units(r:fX k A):A.units+64<cLine:=by have:=r.un;omega
def adT:TA:=λ_ H Q=>Q [] H
def Ce(ta:TE)(tr:TA):TA:=λσ H Q=>ta σ H λx H1=>tr σ H1 λxs H2=>Q (x::xs) H2
section
variable{X:Cx}{e:Expr}{es:List Expr}{te:TE}{t:TA}{pos:Pos}
theorem wH:PA X [] adT:=λ_ _ _ _ H Q I h=>Calls.spliced_nil ⟨[],H,I,.nil,h⟩
theorem iw(ha:PE X e te)(hr:PA X es t)(hs:starEach (e::es) X.env=(false,eval e X.env)::starEach es X.env:=by rfl):PA X (e::es) (Ce te t):=by intro pos pins s σ H Q I h;rw[hs];show wpAny _ _ (spliced ((false,eval e X.env)::backTo pos (starEach es X.env))) _ _ s;refine Calls.spliced_cons<|fG (ha pins s σ H _ I h) λu s1 ⟨x,H1,I1,r1,q1⟩=>?_;exact fG (hr pos pins s1 σ H1 _ I1 q1) λus s2 ⟨xs,H2,I2,r2,q2⟩=>⟨x::xs,H2,I2,.cons r1 r2,q2⟩
def agA(t:TA):TE:=λσ H Q=>t σ H λxs H1=>xs.length<=sizeLine/\∀p,H1 p=none->Q (.ref p) (upd H1 p (.tup xs))
def agI(t:TA):TE:=λσ H Q=>t σ H λxs H1=>xs.length<=sizeLine/\∀p,H1 p=none->Q (.ref p) (upd H1 p (.lst xs))
theorem aa3{x1}(h:PA X es t):PE X (.Tuple es x1 pos) (agA t):=by intro pins s σ H Q I hq;refine wpAny_Tuple_spliced<|fG (h pos pins s σ H _ I hq) λus s1 ⟨xs,H1,I1,r,z,q⟩=>⟨by rw[<-r.length];exact z,?_⟩;have hf:=I1.hok.fresh<|Qq1 _;refine⟨.ref s1.heap.objs.size,upd H1 s1.heap.objs.size<|.tup xs,I1.laid (λb u e=>Qq0 _ e) (Qq1 _) ?_,rfl,q _ hf⟩;exact⟨z,us,r,BJ.new _ _⟩
theorem aa9(h:PA X es t):PE X (.List es pos) (agI t):=by intro pins s σ H Q I hq;refine wpAny_List_spliced<|fG (h pos pins s σ H _ I hq) λus s1 ⟨xs,H1,I1,r,z,q⟩=>⟨by rw[<-r.length];exact z,?_⟩;have hf:=I1.hok.fresh<|Qq1 _;refine⟨.ref s1.heap.objs.size,upd H1 s1.heap.objs.size<|.lst xs,I1.laid (λb u e=>Qq0 _ e) (Qq1 _) ?_,rfl,q _ hf⟩;exact⟨z,us,0,r,Qw2 _ rfl⟩
end
abbrev Sp:=List V->Hp->VK->XK->Prop
abbrev Qz:=List Env->Hp->Shared->XK->Value->Shared->Prop
structure Jt(P:Program)(w:World)(K:PySem.W.Frag)(mg:Str->Option Value)(base:Heap)(A:Around)(outer:List Env)(s:Shared)(H:Hp):Prop where
 frames:A.frames=some outer
 mod:Mod K mg base
 bs:∀b o,base.get? b=some o->s.heap.get? b=some o/\H b=none
 U6:base.objs.size<=s.heap.objs.size
 uW:s.heap.FunFrames base outer
 ZF:∀b∈frs outer,H b=none
 hok:tY P w H s.heap
 bare:AllBare s.gens
def CE(outer:List Env)(P:Program)(w:World)(H:Hp)(s:Shared)(Q:VK)(u:Value)(s':Shared):Prop:=
 ∃v H',s'.os=s.os/\AllBare s'.gens/\Un (frs outer) [] H H' s.heap s'.heap/\tY P w H' s'.heap/\RelV v u/\Q v H'
def CR(CX:Qz)(outer:List Env)(P:Program)(w:World)(H:Hp)(s:Shared)(Q:VK)(E:XK)(r:Result)(s':Shared):Prop:=
 match r with
 |.ok (.ret u)=>CE outer P w H s Q u s'|.ok _=>False|.error e=>CX outer H s E e s'
structure lE(P:Program)(w:World)(K:PySem.W.Frag)(mg:Str->Option Value)(base:Heap)(CX:Qz)(k:Nat)(f:Addr)(fd:FuncData)(ps:List Str)(sp:Sp):Prop where
 len:∀vs H Q E,sp vs H Q E->vs.length=ps.length
 run:∀(A:Around) (outer:List Env) (s:Shared) (H:Hp) (args:Args) (us:List Value) (vs:List V) (Q:VK) (E:XK),fX k A->Jt P w K mg base A outer s H->BindsTo s fd args (ps.zip us)->Vals vs us->sp vs H Q E->
  codeAny (model P w) A (.call (.ref f) args) (CR CX outer P w H s Q E) s
section
variable{X:Cx}{pins:List (Addr×Obj)}{σ:St}{H:Hp}{s s':Shared}
theorem Inv.env0(I:Inv X pins σ H s):Jt X.prog X.w X.K X.mg X.base X.A X.stack s H:=
 ⟨I.ok.frames,I.ok.mod,I.bs,Qq4 I.ok.U6 I.sz,I.stack,I.LK,I.hok,I.bare⟩
theorem Inv.after(I:Inv X pins σ H s)(h:CE X.stack X.prog X.w H s Q u s'):EP X pins σ Q u s':=by obtain⟨v,H',os,bare,un,hok,r,q⟩:=h;obtain⟨hh,g,d,t,os'⟩:=s';obtain rfl:os'=s.os:=os;exact⟨v,H',I.call un hok bare<|λb z=>absurd z (by simp),r,q⟩
end
def YW(sp:Sp)(Uu:List V)(E:XK)(t:TA):TE:=λσ H Q=>t σ H λvs H1=>sp (vs++Uu) H1 Q E
def Binds(K:PySem.W.Frag)(fd:FuncData)(ps:List Str)(ds:List Value):Prop:=
 ∀(s:Shared) (us:List Value),K.In s.heap->(us++ds).length=ps.length->BindsTo s fd ⟨us,[]⟩ (ps.zip (us++ds))
theorem Binds.all{K:PySem.W.Frag}(h:∀us,us.length=ps.length->bindArgs fd ⟨us,[]⟩=pure (ps.zip us)):Binds K fd ps []:=λs us _ hl=>by
 rw[Qw6] at hl ⊢;exact .of_eq<|h us hl
def Passes(CX:Qz)(X:Cx)(E:XK):Prop:=∀(pins:List (Addr×Obj)) (σ:St) (H:Hp) (s:Shared) (e:Value) (s':Shared),Inv X pins σ H s->CX X.stack H s E e s'->X.xe e s'
section
variable{X:Cx}{CX:Qz}{k:Nat}{f C:Addr}{fd:FuncData}{ps:List Str}{sp:Sp}{Uu:List V}{ds:List Value}{E:XK}{x m:Str}{p pos apos:Pos}{e o:Expr}{es:List Expr}{ta:TE}{t:TA}
theorem Rt{σ:St}(F:lE X.prog X.w X.K X.mg X.base CX k f fd ps sp)(hr:fX k X.A)(hb:Binds X.K fd ps ds)(hd:Vals Uu ds)(hx:Passes CX X E)
  (I:Inv X pins σ H s) (r:Vals vs us) (h:sp (vs++Uu) H Q E):wpAny (model X.prog X.w) X.A (call (.ref f) us) (EP X pins σ Q) X.xe s:=by
 have r2:=r.append hd;have hl:(us++ds).length=ps.length:=by rw[<-r2.length];exact F.len _ _ _ _ h
 refine wpAny_call<|codeAny_mono (F.run X.A X.stack s H ⟨us,[]⟩ (us++ds) (vs++Uu) Q E hr I.env0 (hb s us I.Px hl) r2 h) λr s' hq=>?_;cases r with
 |error e=>exact hx pins σ H s e s' I hq
 |ok fl=>
  cases fl with
  |ret u=>exact I.after hq|next=>exact False.elim hq|brk=>exact False.elim hq|cont=>exact False.elim hq
theorem yo(F:lE X.prog X.w X.K X.mg X.base CX k f fd ps sp)(hr:fX k X.A)(hg:Gl X x)(hm:X.mg x=some (.ref f))(hk:PySem.W.keepIn X.K (.ref f)=true)(hb:Binds X.K fd ps ds)(hd:Vals Uu ds)(hx:Passes CX X E)
  (ha:PA X (e::es) t) (hdb:lK x:=by decide) (he:starEach (e::es) X.env=(false,eval e X.env)::starEach es X.env:=by rfl) (hpl:(backTo pos (starEach es X.env)).any (·.1)=false:=by rfl) :
  PE X (.Call (.Name x p) (e::es) [] pos) (YW sp Uu E t):=by
 intro pins s σ H Q I h;refine wpAny_Call_Name_kw<|yp I hg hm ?_ hdb;refine PySem.W.callWith_K I.ok.mod.Jz hk (fG (ha pos pins s σ H _ I h) λus s1 ⟨vs,H1,I1,r,q⟩=>⟨I1.Px,?_⟩) he hpl;exact Rt F hr hb hd hx I1 r q
end
structure bI(N P:List Str)(sc:Scope):Prop where
 kind:sc.kind=.function
 co:sc.isCoroutine=false
 gen:sc.isGenerator=false
 nd:N.Nodup
 pre:N.take P.length=P
 par:∀x∈P,sc.names.lookup x=some .local\/sc.names.lookup x=some .cell
 abL:∀y∈sc.names,y.2 ≠ .free
theorem Dg{kindOf:Str->Option NameKind}:∀{binds} {m},(∀v,(x,v) ∉ binds)->bindL kindOf binds m x=m x
 |[],_,_=>rfl
 |(n,v)::r,m,h=>by
  unfold bindL;rw[Dg λw hw=>h w<|Qqq _ hw];split;have:x≠n:=by rintro rfl;exact h v Qqj
  simp[this];rfl
theorem Di{kindOf:Str->Option NameKind}:∀{binds} {m},(∀v,(x,v) ∉ binds)->bindC kindOf binds m x=m x
 |[],_,_=>rfl
 |(n,v)::r,m,h=>by
  unfold bindC;rw[Di λw hw=>h w<|Qqq _ hw];split;rfl;have:x≠n:=by rintro rfl;exact h v Qqj
  simp[this]
theorem Dh{kindOf:Str->Option NameKind}:∀{P:List Str} {vs} {i:Nat} {m},P.Nodup->P[i]?=some x->vs[i]?=some v->kindOf x=some .local->
  bindL kindOf (P.zip vs) m x=some v
 |[],_,_,_,_,h,_,_=>by simp at h|_::_,[],_,_,_,_,h,_=>by simp at h
 |p::P,w::vs,0,m,nd,h1,h2,hk=>by
  simp at h1 h2;subst h1;subst h2;show bindL kindOf ((p,w)::P.zip vs) m p=_;unfold bindL;rw[Dg λv hv=>(Qxk.mp nd).1 (List.of_mem_zip hv).1,if_pos hk];simp
 |p::P,w::vs,i+1,m,nd,h1,h2,hk=>by
  show bindL kindOf ((p,w)::P.zip vs) m x=_;unfold bindL;exact Dh (Qxk.mp nd).2 (by simpa using h1) (by simpa using h2) hk
theorem Dj{kindOf:Str->Option NameKind}:∀{P:List Str} {vs} {i:Nat} {m},P.Nodup->P[i]?=some x->vs[i]?=some v->kindOf x≠some .local->
  bindC kindOf (P.zip vs) m x=some v
 |[],_,_,_,_,h,_,_=>by simp at h|_::_,[],_,_,_,_,h,_=>by simp at h
 |p::P,w::vs,0,m,nd,h1,h2,hk=>by
  simp at h1 h2;subst h1;subst h2;show bindC kindOf ((p,w)::P.zip vs) m p=_;unfold bindC;rw[Di λv hv=>(Qxk.mp nd).1 (List.of_mem_zip hv).1,if_neg hk];simp
 |p::P,w::vs,i+1,m,nd,h1,h2,hk=>by
  show bindC kindOf ((p,w)::P.zip vs) m x=_;unfold bindC;exact Dj (Qxk.mp nd).2 (by simpa using h1) (by simpa using h2) hk
noncomputable def start(N:List Str)(vs:List V):St:=vs.map some++List.replicate (N.length - vs.length) none
noncomputable def Ji(CX:Qz)(P:Program)(w:World)(K:PySem.W.Frag)(mg:Str->Option Value)(base:Heap)(N:List Str)(qual:Str)(scope:Scope)(f:Addr)(cd:Value)(A:Around)(outer:List Env)(s:Shared)(H:Hp)(E:XK):Cx where
 prog:=P
 w:=w
 K:=K
 mg:=mg
 base:=base
 A:=A.deeper (envOfC qual scope s.heap.objs.size f cd)
 N:=N
 s₀:=s
 H₀:=H
 env:=envOfC qual scope s.heap.objs.size f cd
 outer:=outer
 stack:=envOfC qual scope s.heap.objs.size f cd::outer
 ex:=[]
 calm:=true
 fn:=λ_=>true
 pn:=[]
 xe:=λe s'=>wpAny (model P w) (A.deeper (envOfC qual scope s.heap.objs.size f cd)) (leaving (envOfC qual scope s.heap.objs.size f cd) e) (λ_ s''=>CX outer H s E e s'') (λe' s''=>CX outer H s E e' s'') s'
theorem Af{sc:Scope}(h:sc.names.lookup x=some .cell):∃c,(cellsFrom n sc.names []).lookup x=some c:=by have q:=PySem.W.cellsFrom_some sc.names n []<|.inl h;exact Qz7.mp q
theorem PB{K:PySem.W.Frag}
  (S:bI N ps scope) (hd:A.handled=none) (e0:Jt P w K mg base A outer s H) (hl:vs.length=ps.length) (r:Vals vs us)
  (x:InCallC s s.heap.objs.size (bindL (envOfC qual scope s.heap.objs.size f cd).kindOf (ps.zip us) λ_=>none) (cellsFrom (s.heap.objs.size+1) scope.names []) (bindC (envOfC qual scope s.heap.objs.size f cd).kindOf (ps.zip us) λ_=>none) s1) :
  Inv (Ji CX P w K mg base N qual scope f cd A outer s H E) [] (start N vs) H s1:=by
 have hpl:ps.length<=N.length:=by have:=Qw9 List.length S.pre;rw[Qwy] at this;omega
 obtain⟨h1,tk,rfl,hk⟩:=x.done;have Vq:∀b,b ∉ (Ji CX P w K mg base N qual scope f cd A outer s H E).ex:=λb z=>absurd (show b∈[] from z) (by simp);refine⟨⟨e0.mod,S.kind,rfl,rfl,Qq1 _,λy z c h1 h2=>?_,λy hy=>?_,λy c _ h=>?_,λ_=>hd,Around.frames_deeper e0.frames,.inr ⟨rfl,rfl⟩,λb z=>absurd z<|Vq b,e0.bs,e0.U6,λb _ _=>Vq b,λb z=>absurd z<|Vq b,e0.uW,e0.ZF⟩,
  rfl,e0.bare,Un.kept hk,⟨_,x.toInCall.ns,λi y v h1 h2 h3=>?_⟩,λy c h=>⟨_,x.cell y c h⟩,e0.hok.fresh<|Qq1 _,λy c h=>?_,λp hp=>absurd (show p∈[] from hp) (by simp),e0.hok.kept hk,?_⟩
 exact name_of_addr x.apart (Qjy h1)<|Qjy h2;have hy:=hy;rcases hy with hy|hy;exact Af hy;exact absurd rfl (S.abL _<|Qjy hy);exact Qx3<|x.above y c<|Qjy h;have hi:i<vs.length:=by
  unfold start at h2;by_cases hi:i<vs.length;exact hi;rw[Qx4 (by simpa using hi)] at h2;rw[Qz1] at h2;split at h2<;>cases h2
 have ha:vs[i]?=some v:=by
  unfold start at h2;rw[Qw7 (by simpa using hi),Qxz] at h2;cases e:vs[i]? with
  |none=>rw[e] at h2;cases h2|some a=>rw[e] at h2;cases h2;rfl
 obtain⟨u,hu,rv⟩:=r.get ha;have hp:ps[i]?=some y:=by rw[<-S.pre,Qz8 (by omega)];exact h1
 have ndP:ps.Nodup:=by rw[<-S.pre];exact S.nd.sublist<|List.take_sublist _ _
 refine⟨u,rv,?_⟩;rcases S.par y (Qx7 hp) with k|k;exact .inl ⟨k,Dh ndP hp hu k⟩;obtain⟨c,e⟩:=Af k;refine .inr ⟨.inl k,c,e,?_⟩;have q:=x.cell y c e;rw[Dj ndP hp hu (by show scope.names.lookup y≠_;rw[k];decide)] at q;exact q;exact .inl<|e0.hok.fresh<|Qx3<|x.above y c<|Qjy h;unfold start;show _=N.length;rw[Qqk,Qq3,Qzx];omega
theorem ZG{K:PySem.W.Frag}{dV kV doc pm cdv ct oc:Value}
  (lk:K.lookup f=some ⟨oc,od,.func (PySem.W.fnOf name qual params body scope dV kV doc pm an cdv ct),osl⟩) (hcd:PySem.W.codeIn K cdv qual=true) (S:bI N ps scope)
  (len:∀vs H Q E,sp vs H Q E->vs.length=ps.length)
  (hbody:∀A outer s H vs Q E,fX k (A.deeper (envOfC qual scope s.heap.objs.size f cdv))->sp vs H Q E->
   ∃t,Gp (Ji CX P w K mg base N qual scope f cdv A outer s H E) body t/\t { nx:=λ_ H'=>Q .non H',rt:=Q } (start N vs) H) :
  lE P w K mg base CX (k+1) f (PySem.W.fnOf name qual params body scope dV kV doc pm an cdv ct) ps sp:=by
 refine⟨len,λA outer s H args us vs Q E hr e0 hb r hsp=>?_⟩;have hl:=len _ _ _ _ hsp;have KX:=e0.mod.Jz.keeps λb o e=>(e0.bs b o e).1;have lim:=e0.mod.nolimit.keeps λb o e=>(e0.bs b o e).1;have hkind:∀y∈ps.zip us,scope.names.lookup y.1=some .local\/(scope.names.lookup y.1=some .cell/\((cellsFrom (s.heap.objs.size+1) scope.names []).lookup y.1).isSome=true):=λ⟨n,v⟩ hy=>by
  rcases S.par n (List.of_mem_zip hy).1 with q|q;exact .inl q;exact .inr ⟨q,PySem.W.cellsFrom_some _ _ _<|.inl q⟩
 refine codeAny_call_function hr.depth (KX _ _ lk) rfl S.co S.gen rfl (PySem.W.codeRec_of KX hcd) (hb _ _ _ _ ?_);refine wpAny_newFunctionEnv_cells S.kind hkind λenv he s1 x=>?_;subst he;refine⟨lim.keeps x.toInCall.keep,codeAny_func ?_⟩;obtain⟨t,ht,hq⟩:=hbody A outer s H vs Q E (hr.deeper _) hsp;have I:Inv (Ji CX P w K mg base N qual scope f cdv A outer s H E) [] (start N vs) H s1:=PB S hr.hd e0 hl r x;refine Qz9 (ht [] s1 (start N vs) H _ I hq) (λfl s' hs=>?_) λe s' hs=>hs;have fin:∀{σ'} {H'} {v} {u},Inv (Ji CX P w K mg base N qual scope f cdv A outer s H E) [] σ' H' s'->RelV v u->Q v H'->CE outer P w H s Q u s':=
  λ{σ' H' v u} J rv q=>⟨v,H',J.os,J.bare,J.base,J.hok,rv,q⟩
 cases fl with
 |ret u=>obtain⟨v,σ',H',J,rv,q⟩:=hs;exact fin J rv q|next=>obtain⟨σ',H',J,q⟩:=hs;exact fin (v:=V.non) J rfl q|brk=>obtain⟨_,_,_,q⟩:=hs;exact False.elim q|cont=>obtain⟨_,_,_,q⟩:=hs;exact False.elim q
section
variable{X:Cx}{x:Str}{p pos:Pos}{e:Expr}{es:List Expr}{t:TA}{id T:String}{r:List V->Hp->VK->Prop}
def tCB(r:List V->Hp->VK->Prop)(t:TA):TE:=λσ H Q=>t σ H λvs H1=>r vs H1 Q
theorem Hu(hc:jU X (.builtin id) r)(hg:Gl X x)(hm:X.mg x=none)(hv:bootBuiltins x=some (.builtin id))(ha:PA X (e::es) t)(hn:x ≠ "__name__":=by decide)(hdb:lK x:=by decide)
  (he:starEach (e::es) X.env=(false,eval e X.env)::starEach es X.env:=by rfl) (hpl:(backTo pos (starEach es X.env)).any (·.1)=false:=by rfl):PE X (.Call (.Name x p) (e::es) [] pos) (tCB r t):=by
 intro pins s σ H Q I h;refine wpAny_Call_Name_kw<|zx I hg hm hv ?_ hn hdb;exact PyProof.Rows.callWith_builtin1 (fG (ha pos pins s σ H _ I h) λus s1 ⟨vs,H1,I1,r1,q1⟩=>hc pins s1 σ H1 vs us Q I1 r1 q1) he hpl
theorem Oz(hc:jU X (.type T) r)(hg:Gl X x)(hm:X.mg x=none)(hv:bootBuiltins x=some (.type T))(ha:PA X (e::es) t)(hn:x ≠ "__name__":=by decide)(hdb:lK x:=by decide)
  (he:starEach (e::es) X.env=(false,eval e X.env)::starEach es X.env:=by rfl) (hpl:(backTo pos (starEach es X.env)).any (·.1)=false:=by rfl):PE X (.Call (.Name x p) (e::es) [] pos) (tCB r t):=by
 intro pins s σ H Q I h;refine wpAny_Call_Name_kw<|zx I hg hm hv ?_ hn hdb;exact PyProof.Rows.callWith_type1 (fG (ha pos pins s σ H _ I h) λus s1 ⟨vs,H1,I1,r1,q1⟩=>hc pins s1 σ H1 vs us Q I1 r1 q1) he hpl
end
end L2
namespace HT
open PySem PyProof.Rows
section
variable{prog:Program}{w:World}{A:Around}{E:Value->Shared->Prop}{s:Shared}
theorem Ye(ht:IsTup s.heap t vs.toArray)(hb:IsTup s.heap b ws.toArray)(hv:vs≠[])
  (h1:ws=[]->Q (.ref t) s) (h2:ws≠[]->Q (.ref s.heap.objs.size) { s with heap:=s.heap.push { cls:=.type "tuple",data:=.seq (vs++ws).toArray } })
  (hsz:vs.length+ws.length<=sizeLine):wpAny (model prog w) A (binaryOp .Add (.ref t) (.ref b)) Q E s:=by
 obtain⟨⟨cls,dd,data,sl⟩,ho,hc,n,hd⟩:=id ht;obtain⟨⟨cls2,dd2,data2,sl2⟩,ho2,hc2,n2,hd2⟩:=id hb;simp at hc hd hc2 hd2;subst hc hd hc2 hd2;have e:vs.toArray++ws.toArray=(vs++ws).toArray:=by simp
 by_cases hw:ws=[];exact concat_meets ⟨_,ho,rfl⟩ ⟨_,ho2,rfl⟩ noFill_tuple_add seq_tuple_add PySem.F.slot_tuple_add PySem.F.entry_tuple_add (PySem.F.args_tuple_add_2 _ _)
  (tuple_addW1 t b vs.toArray ws.toArray n n2 dd dd2 sl sl2 (by simpa using hv) (by simp[hw])) ⟨ho,ho2,h1 hw⟩
 refine concat_meets ⟨_,ho,rfl⟩ ⟨_,ho2,rfl⟩ noFill_tuple_add seq_tuple_add PySem.F.slot_tuple_add PySem.F.entry_tuple_add (PySem.F.args_tuple_add_2 _ _)
  (tuple_addW2 t b vs.toArray ws.toArray n n2 dd dd2 sl sl2 (by simpa using hv) (by simpa using hw) (by rw[Qq5,Qq5];exact hsz)) ⟨ho,ho2,?_⟩
 rw[e];exact h2 hw
noncomputable def fZ(n d:Nat):Option Int->Nat
 |none=>d|some v=>if v<0 then (v+(n:Int)).toNat else min v.toNat n
theorem Mf(n d k:Nat):fZ n d (some k)=min k n:=by show(if k<0 then (k+(n:Int)).toNat else min (k:Int).toNat n)=min k n;rw[if_neg (by omega),Qj3]
theorem Ed(n d)(hd:d<=n)(o):fZ n d o<=n:=by
 cases o with
 |none=>exact hd|some v=>show(if v<0 then (v+n).toNat else min v.toNat n)<=n;by_cases hv:v<0;rw[if_pos hv];omega;rw[if_neg hv];exact Nat.min_le_right _ _
theorem Nm(v)(n d:Nat):(if v<0 then max (v+(n:Int)) 0 else min v n)=(fZ n d (some v)):=by
 show(if v<0 then max (v+n) 0 else min v n)=(if v<0 then (v+n).toNat else min v.toNat n);by_cases hv:v<0;simp only[if_pos hv];omega;simp[if_neg hv];omega
theorem Ld(lo hi)(n:Nat):Builtin.Slice.sliceAdjust lo hi 1 n=(((fZ n 0 lo):Int),((fZ n n hi):Int)):=by
 have h1:¬(1<0):=by omega
 unfold Builtin.Slice.sliceAdjust;simp only[h1,if_false];refine Prod.ext ?_ ?_;cases lo with
 |none=>rfl|some v=>exact Nm v n 0
 cases hi with
 |none=>rfl|some v=>exact Nm v n n
theorem Kp(i j:Nat):Builtin.Slice.slicePlaces i j 1=j - i:=by
 unfold Builtin.Slice.slicePlaces;have h1:1 > 0:=by omega
 simp[h1,if_true,Int.ediv_one];split<;>omega
theorem yJ(p:IsPart v o)(h:Q o s):wpAny (model prog w) A (Builtin.Slice.slicePartIndex v) Q E s:=by
 cases p with
 |none=>exact slicePart_none h|int i t=>exact slicePart_int h
theorem oA{lo hi:Option Int}{Q:Int×Int×Nat->Shared->Prop}(hs:s.heap.IsSliceOf sl vl vu .none)(pl:IsPart vl lo)(pu:IsPart vu hi)
  (h:Q ((fZ n 0 lo),1,fZ n n hi - fZ n 0 lo) s):wpAny (model prog w) A (Builtin.Slice.sliceApplied (.ref sl) (pure n)) Q E s:=by
 obtain⟨os,hos,hcs,hds⟩:=id hs;unfold Builtin.Slice.sliceApplied Builtin.Slice.sliceFields;refine Qqx<|Qqx<|Qjj hos hds rfl (Qqx<|Qjj hos hds rfl (Qqx<|Qjj hos hds rfl (Qq6 ?_)));refine Qqx<|slicePart_none ?_;show wpAny _ _ (if (1 == 0)=true then _ else _) _ _ s;rw[if_neg (by decide)];refine Qqx<|yJ pl<|Qqx<|yJ pu<|Qqx<|Qq6 ?_;show wpAny _ _ (match Builtin.Slice.sliceAdjust lo hi 1 n with|(lo,hi)=>pure (lo,(1:Int),Builtin.Slice.slicePlaces lo hi 1)) _ _ s;rw[Ld lo hi n];show wpAny _ _ (pure (((fZ n 0 lo):Int),1,Builtin.Slice.slicePlaces (fZ n 0 lo) (fZ n n hi) 1)) _ _ s;rw[Kp];exact Qq6 h
theorem Sw(xs:Array Value)(i k:Nat):((List.range k).filterMap λ(m:Nat)=>xs[(i+(m:Int)*1).toNat]?).toArray=((xs.toList.drop i).take k).toArray:=by
 have e:(λ(m:Nat)=>xs[(i+(m:Int)*1).toNat]?)=λm=>xs[i+m]?:=by
  funext m
  have:(i+(m:Int)*1).toNat=i+m:=by omega
  rw[this]
 rw[e];have:=pick_run xs i k;rw[List.filterMap_map] at this;have e2:((λx=>xs[x]?) ∘ λx=>i+x)=λm=>xs[i+m]?:=rfl;rw[e2] at this;rw[this]
theorem uU{lo hi:Option Int}(ht:IsTup s.heap t items)(hs:s.heap.IsSliceOf sl vl vu .none)(pl:IsPart vl lo)(pu:IsPart vu hi)
  (hw:¬(fZ items.size 0 lo=0/\fZ items.size items.size hi=items.size))
  (h:Q (.ref s.heap.objs.size) { s with heap:=s.heap.push { cls:=.type "tuple",data:=.seq ((items.toList.drop (fZ items.size 0 lo)).take (fZ items.size items.size hi - fZ items.size 0 lo)).toArray } })
  (hsz:items.size<=sizeLine):wpAny (model prog w) A (getItem (.ref t) (.ref sl)) Q E s:=by
 have MJ:sizeOk (.seq ((items.toList.drop<|fZ items.size 0 lo).take<|fZ items.size items.size hi - fZ items.size 0 lo).toArray):=by show((items.toList.drop<|fZ items.size 0 lo).take<|fZ items.size items.size hi - fZ items.size 0 lo).toArray.size<=sizeLine;rw[Qq5,Qwy,Qxy,Qqz];omega
 have hj:fZ items.size items.size hi<=items.size:=Ed _ _ (Qq1 _) hi;obtain⟨os,hos,hcs,hds⟩:=id hs;have hTs:s.TypeIs (.ref sl) "slice":=⟨os,hos,hcs⟩;unfold getItem
 try with_reducible refine Qjx ?_
 first|refine Qqx (Qq6 ?_)|skip
 refine Qqx<|wpAny_sequenceKey ht.typeIs (by decide) ?_;refine Qqx (Qjz ht.typeIs Qjv
  (Qz6 Qjv ht.typeIs entry_tuple_getitem ?_<|args_tuple_getitem _ _))
 show wpAny _ _ (Builtin.Tuple.tupleItemsOf (.ref t) >>= _) _ _ s;refine Qqx<|tupleItemsOf_ ht ?_;refine Qqx<|wpAny_typeOf hTs ?_;rw[if_pos (by decide)];refine Qqx<|oA hs pl pu ?_;have hno:¬((((fZ items.size 0 lo):Int) == 0&&(1:Int) == 1&&(fZ items.size items.size hi - fZ items.size 0 lo) == items.size)=true):=by intro q;rw[Qzq,Qzq] at q;have q1:=eq_of_beq q.1.1;have q2:=eq_of_beq q.2;exact hw ⟨by omega,by omega⟩
 show wpAny _ _ (if (((fZ items.size 0 lo):Int) == 0&&1 == 1&&(fZ items.size items.size hi - fZ items.size 0 lo) == items.size)=true then _ else _) _ _ s;rw[if_neg hno,Sw]
 first
  |exact Qqx<|Qjw (Qq6 ⟨_,rfl,Qq6 h⟩) MJ|exact Qqx<|Qjw (Qqx<|Qq6<|Qq6 ⟨_,rfl,Qq6 h⟩) MJ|exact Qqx<|Qqx<|Qjw (Qq6<|Qq6 ⟨_,rfl,Qq6 h⟩) MJ|exact Qqx<|Qqx<|Qjw (Qq6 ⟨_,rfl,Qq6 h⟩) MJ
end
end HT
namespace L2
open PySem PySem.Spec PyProof.Rows
abbrev TO:=St->Hp->(Option Int->Hp->Prop)->Prop
def PO(X:Cx)(e:Option Expr)(t:TO):Prop:=
 ∀(pins:List (Addr×Obj)) (s:Shared) (σ:St) (H:Hp) (Q:Option Int->Hp->Prop),Inv X pins σ H s->t σ H Q->
  wpAny (model X.prog X.w) X.A (evalPart e X.env) (λu s'=>∃o H',Inv X pins σ H' s'/\IsPart u o/\Q o H') X.xe s
def VR:TO:=λ_ H Q=>Q none H
def adR(t:TE):TO:=λσ H Q=>t σ H λx H1=>∃i,x=.int i/\Q (some i) H1
section
variable{X:Cx}{e:Expr}{te:TE}{lo hi:Option Expr}{tl th:TO}{pos p2:Pos}
theorem Wy:PO X none VR:=by intro pins s σ H Q I h;rw[evalPart_none];exact Qq6 ⟨none,H,I,.none,h⟩
theorem Wx(h:PE X e te):PO X (some e) (adR te):=by intro pins s σ H Q I hw;rw[evalPart_some];refine fG (h pins s σ H _ I hw) λu s1 ⟨x,H1,I1,r1,q1⟩=>?_;obtain⟨i,rfl,q⟩:=q1;obtain⟨t,rfl⟩:=r1;exact⟨some i,H1,I1,.int i t,q⟩
def Nv(X:Cx)(r:V->Option Int->Option Int->Hp->VK->Prop):Prop:=
 ∀(pins:List (Addr×Obj)) (s:Shared) (σ:St) (H:Hp) (x:V) (v vl vu:Value) (lo hi:Option Int) (sl:Addr) (Q:VK),Inv X pins σ H s->RelV x v->s.heap.IsSliceOf sl vl vu .none->IsPart vl lo->IsPart vu hi->r x lo hi H Q->
  ∃T id,typeLookup (.type T) "__getitem__"=pure (some (.builtin id))/\s.TypeIs v T/\wpAny (model X.prog X.w) X.A (getItem v (.ref sl)) (EP X pins σ Q) X.xe s
theorem Nv.or(h:Nv X r)(h':Nv X r'):Nv X (λx lo hi H Q=>r x lo hi H Q\/r' x lo hi H Q):=by
 intro pins s σ H x v vl vu lo hi sl Q I rx hs pl pu q;rcases q with q|q;exact h pins s σ H x v vl vu lo hi sl Q I rx hs pl pu q;exact h' pins s σ H x v vl vu lo hi sl Q I rx hs pl pu q
def tSl(r:V->Option Int->Option Int->Hp->VK->Prop)(te:TE)(tl th:TO):TE:=λσ H Q=>te σ H λx H1=>tl σ H1 λl H2=>th σ H2 λu H3=>r x l u H3 Q
theorem Ht(hr:Nv X r)(he:PE X e te)(hl:PO X lo tl)(hu:PO X hi th):PE X (.Subscript e (.Slice lo hi none p2) pos) (tSl r te tl th):=by intro pins s σ H Q I h;refine Subscript_<|fG (he pins s σ H _ I h) λv s1 ⟨x,H1,I1,r1,q1⟩=>?_;refine wpAny_Slice<|fG (hl pins s1 σ H1 _ I1 q1) λvl s2 ⟨l,H2,I2,pl,q2⟩=>fG (hu pins s2 σ H2 _ I2 q2) λvu s3 ⟨u,H3,I3,pu,q3⟩=>?_;rw[evalPart_none];refine Qq6 ?_;have I4:Inv X pins σ H3 { s3 with heap:=s3.heap.push { cls:=.type "slice",data:=.fields #[vl,vu,.none] } }:=I3.kept λb ob q=>Qq0 _ q;obtain⟨T,id,hT,ht,hg⟩:=hr pins { s3 with heap:=s3.heap.push { cls:=.type "slice",data:=.fields #[vl,vu,.none] } } σ H3 x v vl vu l u s3.heap.objs.size Q I4 r1 (Heap.IsSliceOf.new ..) pl pu q3;show wpAny (model X.prog X.w) X.A (subscriptTail e (.Slice lo hi none p2) v<|.ref s3.heap.objs.size) (EP X pins σ Q) X.xe { s3 with heap:=s3.heap.push { cls:=.type "slice",data:=.fields #[vl,vu,.none] } };exact tail_any ht hT hg (by with_unfolding_all rfl)
noncomputable def xY(xs:List V)(lo hi:Option Int):List V:=(xs.drop (HT.fZ xs.length 0 lo)).take (HT.fZ xs.length xs.length hi - HT.fZ xs.length 0 lo)
theorem xC(xs)(lo hi):(xY xs lo hi).length<=xs.length:=by unfold xY;rw[Qwy,Qxy];omega
def aaC(K:PySem.W.Frag):V->Option Int->Option Int->Hp->VK->Prop:=λx lo hi H Q=>∃a xs,x=.ref a/\lG K H a xs/\
 ¬(HT.fZ xs.length 0 lo=0/\HT.fZ xs.length xs.length hi=xs.length)/\∀p,H p=none->Q (.ref p) (upd H p (.tup (xY xs lo hi)))
theorem J9:Nv X (aaC X.K):=by
 intro pins s σ H x v vl vu lo hi sl Q I rx hs pl pu h;obtain⟨a,xs,rfl,hx,hw,q⟩:=h;cases rx;obtain⟨its,r,ht,hz⟩:=I.tuple hx;have hlen:its.toArray.size=xs.length:=by rw[Qq5];exact r.length.symm
 refine⟨"tuple",_,PyProof.Rows.slot_tuple_getitem.lookup,ht.typeIs,?_⟩;refine HT.uU ht hs pl pu (by rw[hlen];exact hw) ?_ (by rw[hlen];exact hz);rw[hlen];refine⟨.ref s.heap.objs.size,_,I.laid (λb ob q=>Qq0 _ q) (Qq1 _) ?_,rfl,q _<|I.hok.fresh<|Qq1 _⟩;exact⟨Qq4 (xC xs lo hi) hz,_,(r.drop<|HT.fZ xs.length 0 lo).take<|HT.fZ xs.length xs.length hi - HT.fZ xs.length 0 lo,BJ.new _ _⟩
def Y5(K:PySem.W.Frag):R2:=λx y H Q=>∃a b xs ys,x=.ref a/\y=.ref b/\lG K H a xs/\lG K H b ys/\xs≠[]/\xs.length+ys.length<=sizeLine/\
 (ys=[]->Q (.ref a) H)/\(ys≠[]->∀p,H p=none->Q (.ref p) (upd H p (.tup (xs++ys))))
theorem Vals.Eu(r:Vals xs us):us=[]↔xs=[]:=by
 cases r with
 |nil=>simp|cons _ _=>simp
theorem W3:mG X (binaryOp .Add) (Y5 X.K):=by intro pins s σ H x y v u Q I rx ry h;obtain⟨a,b,xs,ys,rfl,rfl,ha,hb,hx,hz,q1,q2⟩:=h;cases rx;cases ry;obtain⟨its,r1,p1,_⟩:=I.tuple ha;obtain⟨its2,r2,p2,_⟩:=I.tuple hb;refine HT.Ye p1 p2 (λz=>hx<|r1.Eu.mp z) (λz=>⟨.ref a,H,I,rfl,q1<|r2.Eu.mp z⟩) (λz=>?_) (by rw[<-r1.length,<-r2.length];exact hz);refine⟨.ref s.heap.objs.size,_,I.laid (λb ob q=>Qq0 _ q) (Qq1 _) ?_,rfl,q2 (λw=>z<|r2.Eu.mpr w) _<|I.hok.fresh<|Qq1 _⟩;exact⟨by rw[Qqk];exact hz,_,r1.append r2,BJ.new _ _⟩
end
noncomputable def Xw(n:Nat)(i:Int):Option Nat:=if 0<=i then (if i<n then some i.toNat else none) else if -(n:Int)<=i then some (i+n).toNat else none
noncomputable def vL{α:Type}(xs:List α)(i:Int):Option α:=(Xw xs.length i).bind λj=>xs[j]?
theorem Mz(h:Xw n i=some j):seqIndex? i n=some j/\j<n/\-n<=i/\i<n:=by
 unfold Xw at h;by_cases h0:0<=i;rw[if_pos h0] at h;by_cases h1:i<n;rw[if_pos h1] at h;have e:=Qw4 h;exact⟨by rw[seqIndex_of h0 h1,e],by omega,by omega,h1⟩;rw[if_neg h1] at h;cases h;rw[if_neg h0] at h;by_cases h1 : -n<=i;rw[if_pos h1] at h;have e:=Qw4 h;exact⟨by rw[seqIndex_neg (by omega) h1,e],by omega,h1,by omega⟩;rw[if_neg h1] at h;cases h
theorem Gf{α:Type}{xs:List α}{v:α}(h:vL xs i=some v):∃j,seqIndex? i xs.length=some j/\xs[j]?=some v/\j<xs.length/\-xs.length<=i/\i<xs.length:=by
 unfold vL at h;cases e:Xw xs.length i with
 |none=>rw[e] at h;cases h|some j=>rw[e] at h;obtain⟨h1,h2,h3,h4⟩:=Mz e;exact⟨j,h1,h,h2,h3,h4⟩
theorem lN{α:Type}{xs:List α}{j:Nat}{v:α}(h:xs[j]?=some v):vL xs j=some v:=by
 have hj:=(Qqy.mp h).1;have e:Xw xs.length j=some j:=by unfold Xw;rw[if_pos (by omega),if_pos (by omega)];simp
 unfold vL;rw[e];exact h
def vG(b:Expr):Prop:=∀o i,subscripted b false o i=operate [o,i] (getItem o i)
def Yx(X:Cx)(r:R2):Prop:=
 ∀(value slice:Expr) (pins:List (Addr×Obj)) (s:Shared) (σ:St) (H:Hp) (x y:V) (v u:Value) (Q:VK),Inv X pins σ H s->RelV x v->RelV y u->r x y H Q->
  subscripted slice false v u=operate [v,u] (getItem v u)->wpAny (model X.prog X.w) X.A (subscriptTail value slice v u) (EP X pins σ Q) X.xe s
def MtR(X:Cx)(id:String)(r:V->List V->Hp->VK->Prop):Prop:=
 ∀(pins:List (Addr×Obj)) (s:Shared) (σ:St) (H:Hp) (x:V) (xs:List V) (v:Value) (us:List Value) (Q:VK),Inv X pins σ H s->RelV x v->Vals xs us->r x xs H Q->
  wpAny (model X.prog X.w) X.A (call (.builtin id) (v::us)) (EP X pins σ Q) X.xe s
section
variable{X:Cx}{a b:Expr}{ta tb:TE}{pos:Pos}
theorem Yx.or(h:Yx X r)(h':Yx X r'):Yx X (λx y H Q=>r x y H Q\/r' x y H Q):=by
 intro value slice pins s σ H x y v u Q I rx ry q hs;rcases q with q|q;exact h value slice pins s σ H x y v u Q I rx ry q hs;exact h' value slice pins s σ H x y v u Q I rx ry q hs
theorem Zc(hr:Yx X r)(ha:PE X a ta)(hb:PE X b tb)(hs:vG b):PE X (.Subscript a b pos) (VP r ta tb):=by intro pins s σ H Q I h;exact Subscript_<|acU ha hb I h λv u s2 x y H2 I2 rx ry q=>hr a b pins s2 σ H2 x y v u Q I2 rx ry q<|hs _ _
def aei(K:PySem.W.Frag):R2:=λx y H Q=>∃p xs i v,x=.ref p/\y=.int i/\oR K H p xs/\vL xs i=some v/\Q v H
def aeg(K:PySem.W.Frag):R2:=λx y H Q=>∃p xs i v,x=.ref p/\y=.int i/\lG K H p xs/\vL xs i=some v/\Q v H
def aeh:R2:=λx y H Q=>∃z i c,x=.str z/\y=.int i/\z.length<=sizeLine/\vL z.cps.toList i=some c/\Q (.str ⟨#[c]⟩) H
theorem Xv:Yx X (aei X.K):=by
 intro value slice pins s σ H x y v u Q I rx ry h hs;obtain⟨p,xs,i,z,rfl,rfl,hq,he,q⟩:=h;cases rx;obtain⟨t,rfl⟩:=ry;obtain⟨its,r,pl,hz⟩:=I.list hq;obtain⟨j,h1,h2,h3,h4,h5⟩:=Gf he;obtain⟨w,ew,xm⟩:=r.get h2;have hl:=r.length;have hn:=zr;have fin:EP X pins σ Q w s:=⟨z,H,I,xm,q⟩;by_cases h0:0<=i;have hj:i.toNat=j:=by
  rw[seqIndex_of h0 h5] at h1;exact Qw4 h1
 exact item_listR pl.isList h0 (by omega) (by rw[hj];simpa using ew) fin hs;have hj:(i+its.toArray.size).toNat=j:=by
  rw[seqIndex_neg (by omega) h4] at h1;rw[Qq5,<-hl];exact Qw4 h1
 exact subscriptTail_builtinR pl.isList.typeIs slot_list_getitem.lookup
  (wpAny_getItem_list_neg pl.isList (by omega) (by rw[Qq5]<;>omega) (by omega) (by rw[hj];simpa using ew) ⟨rfl,fin⟩) hs
theorem ab8:Yx X (aeg X.K):=by
 intro value slice pins s σ H x y v u Q I rx ry h hs;obtain⟨p,xs,i,z,rfl,rfl,hq,he,q⟩:=h;cases rx;obtain⟨t,rfl⟩:=ry;obtain⟨its,r,pl,hz⟩:=I.tuple hq;obtain⟨j,h1,h2,h3,h4,h5⟩:=Gf he;obtain⟨w,ew,xm⟩:=r.get h2;have hl:=r.length;have hn:=zr;have fin:EP X pins σ Q w s:=⟨z,H,I,xm,q⟩;exact subscriptTail_builtinR pl.typeIs slot_tuple_getitem.lookup
  (getItem_tuple pl (by omega) (by omega) (by rw[Qq5,<-hl];exact h1) (by simpa using ew) ⟨rfl,fin⟩) hs
theorem ab9:Yx X aeh:=by
 intro value slice pins s σ H x y v u Q I rx ry h hs;obtain⟨z,i,c,rfl,rfl,hz,he,q⟩:=h;obtain⟨t,rfl⟩:=rx;obtain⟨t',rfl⟩:=ry;obtain⟨j,h1,h2,h3,h4,h5⟩:=Gf he;have hl:z.cps.toList.length=z.length:=by simp[Str.length]
 rw[hl] at h1 h4 h5;have hn:=zr;exact tail_any (typeIs_str s z t) slot_str_getitem.lookup (getItem_str (by
  have e1:decide (i < -(2^63))=false:=Qq9 (by omega);have e2:decide (i ≥ 2^63)=false:=Qq9 (by omega);rw[e1,e2,Bool.or_false]) (by rw[h1];simpa using h2) ⟨.str ⟨#[c]⟩,H,I.tok _,⟨_,rfl⟩,q⟩) hs
def rIx(K:PySem.W.Frag):R2:=λx y H Q=>aei K x y H Q\/aeg K x y H Q\/aeh x y H Q
theorem T6:Yx X (rIx X.K):=Xv.or<|ab8.or ab9
theorem Ky(its:List Value)(n j)(u):Obj.mapSeq (·.setIfInBounds j u) { cls:=.type "list",data:=.seq its.toArray n }={ cls:=.type "list",data:=.seq (its.set j u).toArray n }:=by simp[Obj.mapSeq]
theorem Inv.lst{σ:St}(I:Inv X pins σ H s)(h:H p=some (.lst xs)) :
  ∃its n,Vals xs its/\s.heap.get? p=some { cls:=.type "list",data:=.seq its.toArray n }/\xs.length<=sizeLine:=by
 obtain⟨z,its,n,r,e⟩:=I.hok p _ h;exact⟨its,n,r,e,z⟩
theorem Inv.abZ{σ:St}{its its':List Value}(I:Inv X pins σ H s)(h:H p=some (.lst xs))
  (ho:s.heap.get? p=some { cls:=.type "list",data:=.seq its.toArray n }) (hf:f { cls:=.type "list",data:=.seq its.toArray n }={ cls:=.type "list",data:=.seq its'.toArray n' }) (r:Vals ys its') (hz:ys.length<=sizeLine) (t) :
  Inv X pins σ (upd H p (.lst ys)) { s with heap:=s.heap.update p f,toks:=t }:=by
 have e:(s.heap.update p f).get? p=some { cls:=.type "list",data:=.seq its'.toArray n' }:=by rw[Heap.get?_update_self f ho (by rw[hf]<;>rfl),hf]
 refine I.write (by rw[h];trivial) (.inl rfl) (λb u hb q=>(Heap.get?_update_other _ _<|Ne.symm hb).trans q) ⟨_,e⟩ ?_;exact⟨hz,its',n',r,e⟩
def aec:V->V->V->Hp->(Hp->Prop)->Prop:=λo i v H Q=>∃p xs k j,o=.ref p/\i=.int k/\H p=some (.lst xs)/\Xw xs.length k=some j/\Q (upd H p (.lst (xs.set j v)))
theorem set_list:afJ X aec:=by
 intro pins s σ H o i v ov iv u Q I ro ri rv h;obtain⟨p,xs,k,j,rfl,rfl,hp,hj,q⟩:=h;cases ro;obtain⟨t,rfl⟩:=ri;obtain⟨its,n,r,ho,hz⟩:=I.lst hp;obtain⟨h1,h2,h3,h4⟩:=Mz hj;have hl:=r.length;have hn:=zr;have I':=
  I.abZ hp ho (Ky its n j u) (r.set rv j) (by rw[Qx6];exact hz) s.toks
 by_cases h0:0<=k;have hk:k.toNat=j:=by
  rw[seqIndex_of h0 h4] at h1;exact Qw4 h1
 exact PySem.W.ki_setAt ho h0 (by omega) (by rw[Qq5,<-hl];exact h4) (by rw[hk];exact⟨_,I',q⟩);have hk:(k+its.toArray.size).toNat=j:=by
  rw[seqIndex_neg (by omega) h3] at h1;rw[Qq5,<-hl];exact Qw4 h1
 exact PySem.W.ki_setBack ho (by omega) (by rw[Qq5,<-hl];exact h3) (by omega) (by rw[hk];exact⟨_,I',q⟩)
theorem DP(lo hi)(n):(sliceBounds lo hi none n).1=(HT.fZ n 0 lo)/\(sliceBounds lo hi none n).2.1=(HT.fZ n n hi)/\(sliceBounds lo hi none n).2.2=1:=by
 refine⟨?_,?_,rfl⟩;cases lo with
 |none=>simp[sliceBounds,HT.fZ]|some i=>simp[sliceBounds,HT.fZ,Option.getD_none,show(1:Int) > 0 by decide,if_true];by_cases h:i<0;simp[h,if_true]<;>omega;simp[h,if_false]<;>omega
 cases hi with
 |none=>simp[sliceBounds,HT.fZ]|some i=>simp[sliceBounds,HT.fZ,Option.getD_none,show(1:Int) > 0 by decide,if_true];by_cases h:i<0;simp[h,if_true]<;>omega;simp[h,if_false]<;>omega
theorem Be(its:List Value)(lo hi):slicePick its.toArray lo hi none=((its.drop (HT.fZ its.length 0 lo)).take (HT.fZ its.length its.length hi - HT.fZ its.length 0 lo)).toArray:=by obtain⟨h1,h2,h3⟩:=DP lo hi its.toArray.size;unfold slicePick;rw[h1,h2,h3];simp only[sliceRange_one,pick_run,Qq5]<;>rfl
def aeb(K:PySem.W.Frag):V->Option Int->Option Int->Hp->VK->Prop:=λx lo hi H Q=>∃a xs,x=.ref a/\oR K H a xs/\∀p,H p=none->Q (.ref p) (upd H p (.lst (xY xs lo hi)))
theorem Ma:Nv X (aeb X.K):=by intro pins s σ H x v vl vu lo hi sl Q I rx hs pl pu h;obtain⟨a,xs,rfl,hx,q⟩:=h;cases rx;obtain⟨its,r,ht,hz⟩:=I.list hx;have hlen:=r.length;refine⟨"list",_,slot_list_getitem.lookup,ht.isList.typeIs,?_⟩;refine wpAny_getItem_list_slice ht.isList hs pl pu .none (by simp) ?_ (by rw[Qq5]<;>omega);rw[Be,<-hlen];refine⟨.ref s.heap.objs.size,_,I.laid (λb ob q=>Qq0 _ q) (Qq1 _) ?_,rfl,q _<|I.hok.fresh<|Qq1 _⟩;exact⟨Qq4 (xC xs lo hi) hz,_,0,(r.drop<|HT.fZ xs.length 0 lo).take<|HT.fZ xs.length xs.length hi - HT.fZ xs.length 0 lo,Qw2 _ rfl⟩
theorem jU.or(h:jU X f r)(h':jU X f r'):jU X f (λxs H Q=>r xs H Q\/r' xs H Q):=by
 intro pins s σ H xs us Q I rs q;rcases q with q|q;exact h pins s σ H xs us Q I rs q;exact h' pins s σ H xs us Q I rs q
theorem FW:jU X (.type "list") (λxs H Q=>∃p ys,xs=[.ref p]/\(oR X.K H p ys\/lG X.K H p ys)/\∀l,H l=none->Q (.ref l) (upd H l (.lst ys))):=by
 intro pins s σ H xs us Q I r h;obtain⟨p,ys,rfl,hq,q⟩:=h;obtain⟨u,rfl,rx⟩:=vals1 r;cases rx;have fin:∀its,Vals ys its->ys.length<=sizeLine->∀h' c',(∀b o',s.heap.get? b=some o'->h'.get? b=some o')->
   h'.get? s.heap.objs.size=some { cls:=.type "list",dict:=none,data:=.seq its.toArray c',slots:=#[] }->EP X pins σ Q (.ref s.heap.objs.size) { s with heap:=h' }:=λits r' hz h' c' kp e=>
  ⟨.ref s.heap.objs.size,_,I.laid kp (Qq1 _)<|show gf X.prog X.w _ h' _ (.lst ys) from⟨hz,its,c',r',e⟩,rfl,q _<|I.hok.fresh<|Qq1 _⟩
 rcases hq with hq|hq;obtain⟨its,r',pl,hz⟩:=I.list hq;have hlen:=r'.length;obtain⟨o,ho,hc,n,hd⟩:=pl.isList;exact call_list_seq p (.inl rfl) ho hc hd (λh' c' kp e=>fin its r' hz h' c' kp e) (by simp[Qq5]<;>omega);obtain⟨its,r',pl,hz⟩:=I.tuple hq;have hlen:=r'.length;obtain⟨o,ho,hc,n,hd⟩:=pl;exact call_list_seq p (.inr rfl) ho hc hd (λh' c' kp e=>fin its r' hz h' c' kp e) (by simp[Qq5]<;>omega)
theorem By:jU X (.type "tuple") (λxs H Q=>∃p ys,xs=[.ref p]/\((oR X.K H p ys/\∀l,H l=none->Q (.ref l) (upd H l (.tup ys)))\/(lG X.K H p ys/\Q (.ref p) H))):=by
 intro pins s σ H xs us Q I r h;obtain⟨p,ys,rfl,h⟩:=h;obtain⟨u,rfl,rx⟩:=vals1 r;cases rx;rcases h with ⟨hq,q⟩|⟨hq,q⟩;obtain⟨its,r',pl,hz⟩:=I.list hq;have hlen:=r'.length;refine call_tuple_list pl.isList (λh' kp=>?_) (by simp[Qq5]<;>omega);have I1:Inv X pins σ H { s with heap:=h' }:=I.kept kp;have I2:Inv X pins σ (upd H h'.objs.size<|.tup ys) { s with heap:=h'.push { cls:=.type "tuple",data:=.seq its.toArray } }:=
  I1.laid (λb o e=>Qq0 _ e) (Qq1 _) (show gf X.prog X.w _ _ _ (.tup ys) from⟨hz,its,r',BJ.new _ _⟩)
 exact⟨.ref h'.objs.size,_,I2,rfl,q _<|I1.hok.fresh<|Qq1 _⟩;obtain⟨its,r',pl,hz⟩:=I.tuple hq;exact call_tuple_same pl ⟨.ref p,H,I,rfl,q⟩
def tyV(K:PySem.W.Frag)(T:String)(x:V)(H:Hp):Prop:=match x with
 |.str _=>T="str"|.int _=>T="int"
 |.ref p=>(T="list"/\∃xs,oR K H p xs)\/(T="tuple"/\∃o,K.lookup p=some o/\o.cls=.type "tuple"/\o.dict=none)\/
   (T="dict"/\((∃kvs,H p=some (.dK kvs))\/∃kvs,H p=some (.dT kvs)))\/(T="set"/\∃S n,H p=some (.set S n))
 |_=>False
theorem aah{σ:St}(I:Inv X pins σ H s)(r:RelV x v)(ty:tyV X.K T x H) :
  s.TypeIs v T/\∀a,v=.ref a->∃ob,s.heap.get? a=some ob/\ob.dict=none:=by
 cases x with
 |str z=>obtain⟨t,rfl⟩:=r;cases ty;exact⟨typeIs_str s z t,λ_ e=>nomatch e⟩|int i=>obtain⟨t,rfl⟩:=r;cases ty;exact⟨typeIs_int s i t,λ_ e=>nomatch e⟩
 |ref p=>
  cases r;rcases ty with ⟨rfl,xs,hq⟩|⟨rfl,o,hk,hc,hd⟩|⟨rfl,hk⟩|⟨rfl,S,n,hk⟩;obtain⟨its,_,pl,_⟩:=I.list hq;refine⟨pl.isList.typeIs,λa e=>?_⟩;cases e;obtain⟨o,n,e,c,hd,_⟩:=pl;exact⟨o,e,hd⟩;refine⟨⟨o,I.Px p o hk,hc⟩,λa e=>?_⟩;cases e;exact⟨o,I.Px _ o hk,hd⟩;have z:∃o,s.heap.get? p=some o/\o.ExactDict:=by
   rcases hk with ⟨kvs,hk⟩|⟨kvs,hk⟩;obtain⟨_,_,_,_,o,_,_,e,ex,_⟩:=I.hok p _ hk;exact⟨o,e,ex⟩;obtain⟨_,_,_,_,o,_,_,e,ex,_⟩:=I.hok p _ hk;exact⟨o,e,ex⟩
  obtain⟨o,e,ex⟩:=z;refine⟨⟨o,e,ex.1⟩,λa e2=>?_⟩;cases e2;exact⟨o,e,ex.2.1⟩;obtain⟨o,_,_,_,e,ex,_⟩:=I.hok p _ hk;refine⟨⟨o,e,ex.1⟩,λa e2=>?_⟩;cases e2;exact⟨o,e,ex.2.1⟩
 |_=>exact False.elim ty
def tBM(K:PySem.W.Frag)(T:String)(r:V->List V->Hp->VK->Prop)(to:TE)(t:TA):TE:=λσ H Q=>to σ H λx H1=>tyV K T x H1/\t σ H1 λxs H2=>r x xs H2 Q
variable{o e:Expr}{es:List Expr}{to:TE}{t:TA}{name:Str}{apos cpos:Pos}{T id:String}{r:V->List V->Hp->VK->Prop}
theorem Zd(pa:PlainAttrs T)(slot:Slot T name id)(hty:typeOf (.builtin id)=pure (.type "method_descriptor"))(hm:MtR X id r)(ho:PE X o to)(ha:PA X (e::es) t)
  (hbase:attributeBase o name X.env (eval o X.env)=eval o X.env:=by rfl)
  (hfew:((backTo cpos (starEach (e::es) X.env)).all (λx=>!x.1)&&(backToKw cpos (keywordEach [] X.env)).all (λx=>x.1.isSome)
   && decide ((e::es).length+([]:List Keyword).length+(if ([]:List Keyword).isEmpty then 0 else 1)<30))=true:=by rfl)
  (hline:(apos.endLine == cpos.line)=true:=by rfl) (hs:starEach (e::es) X.env=(false,eval e X.env)::starEach es X.env:=by rfl) (hplain:(backTo cpos (starEach es X.env)).any (·.1)=false:=by rfl) :
  PE X (.Call (.Attribute o name apos) (e::es) [] cpos) (tBM X.K T r to t):=by
 intro pins s σ H Q I h;refine wpAny_Call_method_late hbase hfew hline rfl (fG (ho pins s σ H _ I h) λv s1 ⟨x,H1,I1,r1,ty,q1⟩=>?_);obtain⟨h1,h2⟩:=aah I1 r1 ty;refine⟨T,id,pa,slot,hty,h1,h2,?_⟩;have hA:=ha cpos pins s1 σ H1 _ I1 q1;rw[hs] at hA ⊢;refine Calls.callWith_builtin (by show(false||(backTo cpos<|starEach es X.env).any (·.1))=false;rw[hplain]<;>rfl)<|Calls.evalArgs_plain ?_;exact fG hA λus s2 ⟨vs,H2,I2,r2,q2⟩=>hm pins s2 σ H2 x vs v us Q I2 r1 r2 q2
end
def MtM(X:Cx)(id:String)(r:V->List V->Hp->VK->Prop):Prop:=
 ∀(pins:List (Addr×Obj)) (s:Shared) (σ:St) (H:Hp) (x:V) (xs:List V) (v:Value) (us:List Value) (Q:VK),Inv X pins σ H s->RelV x v->Vals xs us->r x xs H Q->
  wpAny (model X.prog X.w) X.A (call (.builtin id) (v::us)) (EP X pins σ Q) X.xe s
theorem Vals.one:∀{x} {us},Vals [x] us->∃u,us=[u]/\RelV x u
 |_,_,.cons r .nil=>⟨_,rfl,r⟩
theorem Vals.two:∀{x y} {us},Vals [x,y] us->∃u v,us=[u,v]/\RelV x u/\RelV y v
 |_,_,_,.cons r (.cons q .nil)=>⟨_,_,rfl,r,q⟩
section
variable{X:Cx}{pins:List (Addr×Obj)}{σ:St}{H:Hp}{s:Shared}{l b:Addr}{xs ys zs:List V}
theorem Inv.ag5{its its':List Value}(I:Inv X pins σ H s)(hH:H l=some (.lst xs))
  (e:s.heap.get? l=some { cls:=.type "list",data:=.seq its.toArray n }) (hf:f its.toArray=its'.toArray) (hv:Vals ys its') (hz:ys.length<=sizeLine) :
  Inv X pins σ (upd H l (.lst ys)) { s with heap:=s.heap.update l (Obj.mapSeq f),toks:=t' }:=by
 have q:=PySem.IsL.update e f;rw[hf] at q;refine I.write (by rw[hH];exact trivial) (.inl rfl) (λb' u hb hu=>(Heap.get?_update_other s.heap (Obj.mapSeq f)<|Ne.symm hb).trans hu) ⟨_,q⟩ ?_;exact⟨hz,its',_,hv,q⟩
theorem Inv.aeZ(I:Inv X pins σ H s)(hv:Vals ys its)(hz:ys.length<=sizeLine) :
  Inv X pins σ (upd H s.heap.objs.size (.lst ys)) { s with heap:=s.heap.push { cls:=.type "list",data:=.seq its.toArray },toks:=t' }:=
 I.laid (λ_ _ q=>Qq0 _ q) (Qq1 _) ⟨hz,its,0,hv,Qw2 _ rfl⟩
theorem Inv.fresh(I:Inv X pins σ H s):H s.heap.objs.size=none:=I.hok.fresh<|Qq1 _
theorem Inv.ab0(I:Inv X pins σ H s)(hH:H l=some (.lst xs)):xs.length<=sizeLine/\∃its n,Vals xs its/\xs.length=its.length/\s.heap.get? l=some { cls:=.type "list",data:=.seq its.toArray n }:=by obtain⟨z,its,n,r,e⟩:=I.hok l _ hH;exact⟨z,its,n,r,r.length,e⟩
theorem aeP(h:n<=sizeLine):Builtin.List.listTooLong n=false:=by unfold Builtin.List.listTooLong;exact Qq9 (by omega)
end
section
variable{X:Cx}{prog:Program}{w:World}{A:Around}{E:Value->Shared->Prop}{s:Shared}
def Wf:V->List V->Hp->VK->Prop:=λx vs H Q=>∃l xs y,x=.ref l/\vs=[y]/\H l=some (.lst xs)/\xs.length<sizeLine/\Q .non (upd H l (.lst (xs++[y])))
theorem CK:MtM X "list.append" Wf:=by intro pins s σ H x vs v us Q I rx rv h;obtain⟨l,xs,y,rfl,rfl,hH,hz,q⟩:=h;cases rx;obtain⟨u,rfl,ru⟩:=rv.one;obtain⟨z,its,n,r,hl,e⟩:=I.ab0 hH;refine call_meets F.slot_list_append ⟨_,e,rfl⟩ F.entry_list_append (F.args_list_append_2 _ _) (PySem.list_append l its.toArray n u (by rw[Qq5];omega)) ⟨e,?_⟩;refine⟨.non,_,I.ag5 hH e (by simp) (r.append<|.cons ru .nil) ?_,rfl,q⟩;rw[Qqk,Qw1];omega
def aem:R2:=λx y H Q=>∃l b xs zs,x=.ref l/\y=.ref b/\H l=some (.lst xs)/\H b=some (.lst zs)/\xs.length+zs.length<=sizeLine/\∀p,H p=none->Q (.ref p) (upd H p (.lst (xs++zs)))
theorem abq:mG X (binaryOp .Add) aem:=by
 intro pins s σ H x y v u Q I rx ry h;obtain⟨l,b,xs,zs,rfl,rfl,hH,hB,hz,q⟩:=h;cases rx;cases ry;obtain⟨z,its,n,r,hl,e⟩:=I.ab0 hH;obtain⟨z2,its2,n2,r2,hl2,e2⟩:=I.ab0 hB;refine PySem.P.add_list e e2 ?_ (by rw[Qq5,Qq5];omega);have ea:its.toArray++its2.toArray=(its++its2).toArray:=by simp
 rw[ea];exact⟨.ref _,_,I.aeZ (r.append r2) (by rw[Qqk];omega),rfl,q _ I.fresh⟩
set_option maxRecDepth 100000 in
end
end L2
namespace Att
open PySem PySem.W PySem.Calls PyProof.Rows
theorem xX:∀ns vs,WellAll P h vs (ns.map WData.int)->IntsAre vs ns:=by
 intro ns
 induction ns with
 |nil=>intro vs w;rw[List.map_nil] at w;cases w;exact .nil
 |cons n ns ih=>
  intro vs w;rw[Qwq] at w;cases w with
  |cons a b=>cases a;exact .cons _ _<|ih _ b
theorem Oh{l:OpenLaw}(hn:l.most=some n)
  (hpre:l.row.toRowW.claim.pre args=true) (hwl:WellAll P h vals args) :
  ∃a vs ns,vals=[Value.ref a]/\args=[WData.list (ns.map WData.int)]/\h.get? a=some { cls:=.type "list",data:=.seq vs.toArray }/\IntsAre vs ns/\ns.length<=n:=by
 have hsh:=(pre_splitW hpre).1;have hc:l.pre.holds [] { args:=args }=true:=(pre_splitW hpre).2;obtain⟨d,r,rfl,h1,h2⟩:=hasAllW_cons hsh;obtain rfl:=hasAllW_nil h2;obtain⟨xs,rfl,h3⟩:=hasW_list h1;obtain⟨ns,rfl⟩:=items_int h3;have hlen:ns.length<=n:=by
  unfold OpenLaw.pre at hc;have h4:(WTm.not<|.lt (.lit<|.int n)<|.len<|.arg 0).holds [] { args:=[.list (ns.map .int)] }=true:=by have h4:=(holds_andW hc).1;rw[hn] at h4;exact h4
  have h5:=condW_of h4<|w_not<|w_lt w_lit<|w_len_list<|w_arg rfl;rw[Qq3] at h5;refine Nat.le_of_not_lt λq=>?_;have q':n<ns.length:=by omega
  first
   |(rw[Qwj q'] at h5;exact absurd h5 (by decide))|(simp at h5;omega)
 cases hwl with
 |cons w1 w2=>
  cases w2;cases w1 with
  |list ho hall=>exact⟨_,_,ns,rfl,rfl,ho,xX ns _ hall,hlen⟩
theorem Ow(l:OpenLaw)(args):l.row.toRowW.claim.post args (.bool true) args=true:=
 postW_of
  (show WShape.has [] (.bool true) .bool=true by first|rfl|decide|simp[WShape.has,WShape.arms,WShape.armsAll])
  (show(WTm.eq .res<|.lit<|.bool true).value [] { args:=args,res:=some<|.bool true,after:=args }=some (.bool<|true == true) from w_eq_bool (w_res rfl) w_lit) rfl
end Att
namespace L2
open PySem PySem.Spec PyProof.Rows
theorem BZ:∀{vs} {ns},IntsAre vs ns->Vals (ns.map V.int) vs
 |_,_,.nil=>.nil|_,_,.cons n t h=>.cons ⟨t,rfl⟩<|BZ h
noncomputable def fW(s:Stmt):Arguments:=match s with
 |.FunctionDef _ a _ _ _ _ _ _ _ _=>a|_=>{ posonlyargs:=[],args:=[],vararg:=none,kwonlyargs:=[],kw_defaults:=[],kwarg:=none,defaults:=[] }
noncomputable def cD(s:Stmt):List Stmt:=match s with
 |.FunctionDef _ _ b _ _ _ _ _ _ _=>b|_=>[]
noncomputable def aH(s:Stmt):Scope:=match s with
 |.FunctionDef _ _ _ _ _ _ sc _ _ _=>sc|_=>{ kind:=.function,names:=[],isGenerator:=false,isCoroutine:=false }
abbrev xg:Qz:=λ_ _ _ _ _ _=>False
abbrev E0:XK:=λ_ _ _=>False
theorem Hv:Passes xg X E0:=λ_ _ _ _ _ _ _ h=>h.elim
structure Qn(K:PySem.W.Frag)(x qual:Str)(st:Stmt)(f:Addr)(fd:FuncData):Prop where
 ex:∃(oc:Value) (od:Option Addr) (kV doc pm:Value) (an:Option Addr) (cdv ct:Value) (osl:Array (Option Value)),
  fd=PySem.W.fnOf x qual (fW st) (cD st) (aH st) .none kV doc pm an cdv ct/\K.lookup f=some ⟨oc,od,.func fd,osl⟩/\PySem.W.codeIn K cdv qual=true
 kp:PySem.W.keepIn K (.ref f)=true
section
variable{P:Program}{w:World}{K:PySem.W.Frag}{mg:Str->Option Value}{base:Heap}
theorem Qn.ok{st:Stmt}(F:Qn K x qual st f fd)(S:bI N ps (aH st))(len:∀vs H Q E,sp vs H Q E->vs.length=ps.length)
  (hbody:∀cdv A outer s H vs Q E,fX k (A.deeper (envOfC qual (aH st) s.heap.objs.size f cdv))->sp vs H Q E->
   ∃t,Gp (Ji xg P w K mg base N qual (aH st) f cdv A outer s H E).W8 (cD st) t/\t { nx:=λ_ H'=>Q .non H',rt:=Q } (start N vs) H):lE P w K mg base xg (k+1) f fd ps sp:=by
 obtain⟨oc,od,kV,doc,pm,an,cdv,ct,osl,rfl,lk,hcd⟩:=F.ex;refine ZG lk hcd S len λA outer s H vs Q E hr hsp=>?_;obtain⟨t,h,q⟩:=hbody cdv A outer s H vs Q E hr hsp;exact⟨t,h.W8,q⟩
theorem Qn.binds{st:Stmt}(F:Qn K x qual st f fd)
  (h:∀kV doc pm an cdv ct us,us.length=ps.length->bindArgs (PySem.W.fnOf x qual (fW st) (cD st) (aH st) .none kV doc pm an cdv ct) ⟨us,[]⟩=pure (ps.zip us)):Binds K fd ps []:=by
 obtain⟨oc,od,kV,doc,pm,an,cdv,ct,osl,rfl,lk,hcd⟩:=F.ex;exact .all<|h kV doc pm an cdv ct
theorem zP{st:Stmt}{kV doc pm cdv ct:Value}(l:K.lookup f=some ⟨oc,od,.func (PySem.W.fnOf x qual (fW st) (cD st) (aH st) .none kV doc pm an cdv ct),osl⟩)
  (c:PySem.W.codeIn K cdv qual=true) (k:PySem.W.keepIn K (.ref f)=true):Qn K x qual st f (PySem.W.fnOf x qual (fW st) (cD st) (aH st) .none kV doc pm an cdv ct):=⟨⟨oc,od,kV,doc,pm,an,cdv,ct,osl,rfl,l,c⟩,k⟩
end
theorem ae2{A B:Prop}(h:B):if false=true then A else B:=by rw[if_neg Qx1];exact h
theorem ae1{A B:Prop}(h:A):if true=true then A else B:=by rw[if_pos rfl];exact h
def aM(H H':Hp):Prop:=∀b o,H b=some o->H' b=some o
theorem aM.refl(H):aM H H:=λ_ _ h=>h
theorem aM.trans(a:aM H H1)(b:aM H1 H2):aM H H2:=λc o h=>b c o<|a c o h
theorem aM.free(e:aM H H')(h:H' l=Option.none):H l=Option.none:=by
 cases q:H l with
 |none=>rfl|some o=>rw[e l o q] at h;cases h
theorem aM.seq{K:PySem.W.Frag}(e:aM H H')(h:oR K H a xs):oR K H' a xs:=by
 rcases h with (h|⟨o,h⟩)|h;exact .inl<|.inl<|e _ _ h;exact .inl<|.inr ⟨o,e _ _ h⟩;exact .inr h
section
variable{κ:Type}[DecidableEq κ]
noncomputable def vQ(kvs:List (κ×V))(k:κ):Option V:=(kvs.find? λkv=>decide (kv.1=k)).map (·.2)
noncomputable def putK(kvs:List (κ×V))(k:κ)(v:V):List (κ×V):=
 if (kvs.any λkv=>decide (kv.1=k))=true then kvs.map (λkv=>if kv.1=k then (kv.1,v) else kv) else kvs++[(k,v)]
theorem uf{k:κ}(e:p.1=k):vQ (p::r) k=some p.2:=by simp[vQ,Qz5,e]
theorem ug{k:κ}(e:¬p.1=k):vQ (p::r) k=vQ r k:=by simp[vQ,Qz5,e]
theorem yF(k):∀kvs:List (κ×V),(kvs.any λkv=>decide (kv.1=k))=(vQ kvs k).isSome
 |[]=>rfl
 |p::r=>by
  rw[List.any_cons];by_cases e:p.1=k;simp[uf e,Qwj e,Bool.true_or,Option.isSome_some];rw[ug e,Qq9 e,Bool.false_or];exact yF k r
theorem qF(kvs)(k:κ)(v):(putK kvs k v).length<=kvs.length+1:=by
 unfold putK;split;rw[Qq3];omega;rw[Qqk,Qqw,Qzk];omega
theorem vD.rE(r:vD o u):o.isSome=u.isSome:=by
 cases o with
 |none=>cases u with
  |none=>rfl|some _=>exact r.elim
 |some _=>cases u with
  |none=>exact r.elim|some _=>rfl
theorem vD.getD(r:vD o u)(rd:RelV d d'):RelV (o.getD d) (u.getD d'):=by
 cases o with
 |none=>cases u with
  |none=>exact rd|some _=>exact r.elim
 |some _=>cases u with
  |none=>exact r.elim|some _=>exact r
theorem KV.val(r:KV kvs vs)(k:κ):vD (vQ kvs k) (valueAt vs k):=by
 unfold KV at r;induction r with
 |nil=>exact True.intro
 |@cons p q ps qs h t ih=>
  obtain⟨h1,h2⟩:=h;by_cases e:p.1=k;have e':=h1.symm.trans e;have b:valueAt (q::qs) k=some q.2:=by simp[valueAt,Qz5,e']
  rw[uf e,b];exact h2;have e':¬q.1=k:=λz=>e<|h1.trans z;have b:valueAt (q::qs) k=valueAt qs k:=by simp[valueAt,Qz5,e']
  rw[ug e,b];exact ih
theorem KV.any(r:KV kvs vs)(k:κ):(kvs.any λkv=>decide (kv.1=k))=vs.any λkv=>decide (kv.1=k):=by
 unfold KV at r
 induction r with
 |nil=>rfl|cons h t ih=>rw[List.any_cons,List.any_cons,ih,h.1]
theorem KV.repl(r:KV kvs vs)(k:κ)(ry:RelV y u) :
  KV (kvs.map λkv=>if kv.1=k then (kv.1,y) else kv) (vs.map λkv=>if kv.1=k then (kv.1,u) else kv):=by
 unfold KV at r ⊢;induction r with
 |nil=>exact .nil|@cons p q ps qs h t ih=>rw[Qwq,Qwq];refine .cons ?_ ih;obtain⟨h1,h2⟩:=h;by_cases e:p.1=k;rw[if_pos e,if_pos<|h1.symm.trans e];exact⟨h1,ry⟩;rw[if_neg e,if_neg<|λz=>e<|h1.trans z];exact⟨h1,h2⟩
theorem KV.put(r:KV kvs vs)(k:κ)(ry:RelV y u):KV (putK kvs k y) (stored vs k u):=by
 unfold putK stored;rw[r.any k];by_cases e:(vs.any λkv=>decide (kv.1=k))=true;rw[if_pos e,if_pos e];exact r.repl k ry;rw[if_neg e,if_neg e];exact Paired.snoc r ⟨rfl,ry⟩
theorem KV.keys{vs:List (κ×Value)}(r:KV kvs vs):kvs.map (·.1)=vs.map (·.1):=by
 unfold KV at r;induction r with
 |nil=>rfl|cons h t ih=>rw[Qwq,Qwq,ih,h.1]
theorem KV.length{vs:List (κ×Value)}(r:KV kvs vs):kvs.length=vs.length:=Paired.length r
end
theorem Ik(r:RelV (kV k) u):(dO P w).is k u=true:=by
 cases k with
 |inl i=>obtain⟨t,e⟩:=(show ∃t,u=Value.int i t from r);subst e;exact HX P w i t|inr x=>obtain⟨t,e⟩:=(show ∃t,u=Value.str x t from r);subst e;exact HW P w x t
theorem CV:∀{ks} {us},Vals (ks.map kV) us->ItemsAre (dO P w) ks us
 |[],_,r=>by rw[List.map_nil] at r;cases r;exact .nil
 |k::ks,_,r=>by
  rw[Qwq] at r;cases r with
  |cons h t=>exact .cons (Ik h)<|CV t
abbrev KT(H:Hp):List (List Key×V)->List (List Key×Addr×Value)->Prop:=Paired λp q=>p.1=q.1/\H q.2.1=some (.tup (p.1.map kV))/\RelV p.2 q.2.2
theorem KT.val(r:KT H kvs xs)(k):vD (vQ kvs k) ((atKey xs k).map (·.2)):=by
 induction r with
 |nil=>exact True.intro
 |@cons p q ps qs h t ih=>
  obtain⟨h1,_,h2⟩:=h;by_cases e:p.1=k;have e':=h1.symm.trans e;have b:atKey (q::qs) k=some q.2:=by simp[atKey,Qz5,e']
  rw[uf e,b];exact h2;have e':¬q.1=k:=λz=>e<|h1.trans z;have b:atKey (q::qs) k=atKey qs k:=by simp[atKey,Qz5,e']
  rw[ug e,b];exact ih
theorem KT.repl(r:KT H kvs xs)(k)(ry:RelV y u) :
  KT H (kvs.map λkv=>if kv.1=k then (kv.1,y) else kv) (xs.map (putAt k u)):=by
 induction r with
 |nil=>exact .nil|@cons p q ps qs h t ih=>rw[Qwq,Qwq];refine .cons ?_ ih;obtain⟨h1,h2,h3⟩:=h;unfold putAt;by_cases e:p.1=k;rw[if_pos e,if_pos<|h1.symm.trans e];exact⟨h1,h2,ry⟩;rw[if_neg e,if_neg<|λz=>e<|h1.trans z];exact⟨h1,h2,h3⟩
theorem KT.put(r:KT H kvs xs)(k)(hb:H b=some (.tup (k.map kV)))(ry:RelV y u) :
  KT H (putK kvs k y) (storedH xs k b u):=by
 have e:(kvs.any λkv=>decide (kv.1=k))=(atKey xs k).isSome:=by rw[yF,(r.val k).rE,Qk3]
 unfold putK storedH;rw[e];by_cases q:(atKey xs k).isSome=true;rw[if_pos q,if_pos q];exact r.repl k ry;rw[if_neg q,if_neg q];exact Paired.snoc r ⟨rfl,hb,ry⟩
theorem KT.keeps(r:KT H kvs xs)(ht:∀b ys,H b=some (.tup ys)->H' b=some (.tup ys)):KT H' kvs xs:=
 Paired.abR r λ_ _ z=>⟨z.1,ht _ _ z.2.1,z.2.2⟩
section
variable{P:Program}{w:World}{H:Hp}{h:Heap}{a:Addr}
theorem Y0(ok:tY P w H h)(e:Rd H a u):gf P w H h a u:=e.ok ok
theorem Dc(ok:tY P w H h)(e:Rd H a (.dK kvs)):kvs.length<=sizeLine/\(a == sysModules)=false/\∃vs,KV kvs vs/\h.DictOf (dO P w) a vs:=
 show gf P w H h a (.dK kvs) from Y0 ok e
theorem afx(ok:tY P w H h)(e:H a=some (.dK kvs)):kvs.length<=sizeLine/\(a == sysModules)=false/\∃vs,KV kvs vs/\h.DictOf (dO P w) a vs:=Dc ok<|.inl e
theorem Ff(ok:tY P w H h)(e:H a=some (.tup (ks.map kV))):(tupleKind (dO P w)).is h ks a:=by obtain⟨_,its,r,o,h1,h2,⟨n,h3⟩,_⟩:=(show gf P w H h a (.tup<|ks.map kV) from ok a _ e);exact⟨o,its.toArray,n,h1,h2,h3,by simpa using CV r⟩
theorem Jf(ok:tY P w H h)(e:Rd H a (.dT kvs)):kvs.length<=sizeLine/\(a == sysModules)=false/\
  ∃xs,KT H kvs xs/\h.DictOfH (tupleKind (dO P w)) a xs:=by
 obtain⟨z,y,xs,r,o,es,ep,h1,h2,h3,h4,h5⟩:=(show gf P w H h a (.dT kvs) from Y0 ok e);refine⟨z,y,xs,r,o,es,ep,h1,h2,h3,h4,λx hx=>?_,h5⟩;have all:∀{l} {m},KT H l m->∀x∈m,(tupleKind<|dO P w).is h x.1 x.2.1:=by
  intro l m q;induction q with
  |nil=>intro x hx;exact nomatch hx|@cons p q ps qs hq t ih=>intro x hx;rcases Qq7.mp hx with e|hx;subst e;exact Ff ok (by rw[<-hq.1];exact hq.2.1);exact ih x hx
 exact all r x hx
theorem afv(ok:tY P w H h)(e:H a=some (.dT kvs)):kvs.length<=sizeLine/\(a == sysModules)=false/\
  ∃xs,KT H kvs xs/\h.DictOfH (tupleKind (dO P w)) a xs:=Jf ok<|.inl e
end
def Qp(H:Hp)(a:Addr)(y:V)(r:Option V):Prop:=
 (∃kvs k,Rd H a (.dK kvs)/\y=kV k/\r=vQ kvs k)\/∃kvs k b,Rd H a (.dT kvs)/\y=.ref b/\H b=some (.tup (k.map kV))/\r=vQ kvs k
def Vo(H:Hp)(a:Addr)(y v:V)(H':Hp):Prop:=
 (∃kvs k,H a=some (.dK kvs)/\y=kV k/\kvs.length<sizeLine/\H'=upd H a (.dK (putK kvs k v)))\/
 ∃kvs k b,H a=some (.dT kvs)/\y=.ref b/\H b=some (.tup (k.map kV))/\kvs.length<sizeLine/\H'=upd H a (.dT (putK kvs k v))
theorem Vo.k{k:Key}(e:H a=some (.dK kvs))(hl:kvs.length<sizeLine):Vo H a (kV k) v (upd H a (.dK (putK kvs k v))):=.inl ⟨kvs,k,e,rfl,hl,rfl⟩
section
variable{X:Cx}{pins:List (Addr×Obj)}{σ:St}{H:Hp}{s:Shared}{a:Addr}{y v:V}{u r:Value}{o:Option V}{A:Around}{E:Value->Shared->Prop}
theorem Inv.big(I:Inv X pins σ H s):sysModules<s.heap.objs.size:=by have h:=(I.mod.glob.keeps I.bk).lt;exact Nat.lt_trans (by decide) h
theorem Qe(hu:A.units+1<cLine)(I:Inv X pins σ H s)(g:Qp H a y (some v))(ry:RelV y u)(h:∀w' s',Inv X pins σ H s'->RelV v w'->Q w' s') :
  wpAny (model X.prog X.w) A (getItem (.ref a) u) Q E s:=by
 rcases g with ⟨kvs,k,e,ey,l⟩|⟨kvs,k,b,e,ey,eb,l⟩;subst ey;obtain⟨z,hd,vs,rel,dd⟩:=Dc I.hok e;obtain⟨w',hw,xm⟩:=vD.some_of (by rw[l];exact rel.val k);exact wpAny_getItem_of (Ik ry) dd.mapOf hw<|h w' _ (I.tok _) xm;subst ey;cases ry;obtain⟨z,hd,xs,rel,dd⟩:=Jf I.hok e;obtain⟨w',hw,xm⟩:=vD.some_of (by rw[l];exact rel.val k);obtain⟨p,hp,hp2⟩:=Qw8.mp hw;refine wpAny_getItem_heap (tupleKind_room_in1 hu) (Ff I.hok eb) dd hp ?_;rw[hp2];exact h w' _ (I.tok _) xm
theorem yx(I:Inv X pins σ H s)(mu:Mut (H a))(hs:Heap.SameBut a s.heap h')(he:∃q,h'.get? a=some q)(new:gf X.prog X.w (upd H a ob) h' a ob) :
  Inv X pins σ (upd H a ob) { s with heap:=h',toks:=t' }:=
 I.write mu (.inl rfl) (λb q hb z=>(hs.2 b hb).trans z) he new
theorem acF(z:kvs.length<=sizeLine)(hd:(a == sysModules)=false)(rel:KV kvs vs)(dd:h'.DictOf (dO P w) a vs) :
  gf P w H' h' a (.dK kvs):=⟨z,hd,vs,rel,dd⟩
theorem Qd(hu:A.units+1<cLine)(I:Inv X pins σ H s)(g:Vo H a y v H')(ry:RelV y u)(rv:RelV v r)(h:∀s',Inv X pins σ H' s'->Q () s') :
  wpAny (model X.prog X.w) A (setItem (.ref a) u r) Q E s:=by
 rcases g with ⟨kvs,k,e,ey,l,eH⟩|⟨kvs,k,b,e,ey,eb,l,eH⟩;subst ey eH;obtain⟨z,hd,vs,rel,dd⟩:=afx I.hok e;have hz:vs.length<=sizeLine:=by rw[<-rel.length];exact z
 have hl:(putK kvs k v).length<=sizeLine:=by have:=qF kvs k v;omega
 refine wpAny_setItem_pairs (Ik ry) dd λh' ZM hs=>h _ ?_;have he:∃q,h'.get? a=some q:=let ⟨q,_,_,hq,_⟩:=ZM;⟨q,hq⟩;exact yx I (by rw[e];exact True.intro) hs he<|acF hl hd (rel.put k rv) ZM;subst ey eH;cases ry;obtain⟨z,hd,xs,rel,dd⟩:=afv I.hok e;have hz:xs.length<=sizeLine:=by rw[<-Paired.length rel];exact z
 have hl:(putK kvs k v).length<=sizeLine:=by have:=qF kvs k v;omega
 refine wpAny_setItem_heap (tupleKind_room_in1 hu) (Ff I.hok eb) dd λh' ZM hs=>h _ ?_;obtain⟨q,es,ep,hq,h2,h3,h4,_,h5⟩:=ZM;refine yx I (by rw[e];exact True.intro) hs ⟨q,hq⟩ ⟨hl,hd,_,(rel.put k eb rv).keeps λc ys ec=>?_,q,es,ep,hq,h2,h3,h4,h5⟩;rw[bj (aeR ec e<|λz=>nomatch z)];exact ec
end
def Qm(i:Expr):Prop:=∀ov iv,subscripted i false ov iv=operate [ov,iv] (getItem ov iv)
theorem Lz{T id:String}
  (hl:typeLookup (.type T) "__getitem__"=pure (some (.builtin id))) (hs:Qm slice)
  (h:wpAny (model prog w) A (eval value env) (λo s₁=>wpAny (model prog w) A (eval slice env) (λi s₂=>s₂.TypeIs o T/\wpAny (model prog w) A (getItem o i) Q E s₂) E s₁) E s) :
  wpAny (model prog w) A (eval (.Subscript value slice pos) env) Q E s:=by
 refine Subscript_<|Qz9 h (λo s₁ h₁=>Qz9 h₁ (λi s₂ h₂=>?_) λ_ _ x=>x) λ_ _ x=>x;obtain⟨hT,h₂⟩:=h₂;unfold subscriptTail;refine Qqx ?_;rw[getitemInPython_of_ne hT.not_modules];refine Qqx<|wpAny_specialOf hT hl ?_;have fin:wpAny (model prog w) A (subscripted slice false o i) (λr s₃=>wpAny (model prog w) A (letTemporaryGo value o r >>= λ_=>pure r) Q E s₃) E s₂:=by rw[hs o i];exact wpAny_operating<|Qz9 h₂ (λr s₃ h₃=>Qqx<|wpAny_letTemporaryGo<|Qq6 h₃) λ_ _ x=>x
 first
  |exact Qq6<|Qqx fin|exact Qqx<|Qq6<|Qqx fin|exact Qqx fin
theorem Jh{σ:St}(I:Inv X pins σ H s)(g:Qp H a y o):s.TypeIs (.ref a) "dict":=by
 rcases g with ⟨kvs,k,e,_,_⟩|⟨kvs,k,b,e,_,_,_⟩;obtain⟨_,_,vs,_,dd⟩:=Dc I.hok e;exact dd.typeIs;obtain⟨_,_,xs,_,dd⟩:=Jf I.hok e;exact dd.typeIs
def adW(td ty:TE):TE:=λσ H Q=>td σ H λx H1=>ty σ H1 λy H2=>∃a v,x=.ref a/\Qp H2 a y (some v)/\Q v H2
def ad2(td ty tv:TE):TS:=λD σ H=>tv σ H λv H1=>td σ H1 λx H2=>ty σ H2 λy H3=>∃a H4,x=.ref a/\Vo H3 a y v H4/\D.nx σ H4
section
variable{X:Cx}{o i e value:Expr}{pos pos' tpos:Pos}{td ty tv:TE}
theorem WQ(hu:X.A.units+1<cLine)(ho:PE X o td)(hi:PE X i ty)(hs:Qm i):PE X (.Subscript o i pos) (adW td ty):=by intro pins s σ H Q I h;refine Lz PySem.F.slot_dict_getitem.lookup hs<|fG (ho pins s σ H _ I h) λu s1 ⟨x,H1,I1,rx,q1⟩=>fG (hi pins s1 σ H1 _ I1 q1) λiv s2 ⟨y,H2,I2,ry,a,v,ex,g,q2⟩=>?_;subst ex;obtain rfl:u=Value.ref a:=rx;exact⟨Jh I2 g,Qe hu I2 g ry λw' s3 I3 xm=>⟨v,H2,I3,xm,q2⟩⟩
theorem Ww(hu:X.A.units+1<cLine)(ho:PE X o td)(hi:PE X i ty)(hv:PE X value tv)(hs:swapsWith value (some (.Subscript o i pos')) pos.line X.env=pure false) :
  PS X (.Assign [.Subscript o i pos'] value pos) (ad2 td ty tv):=by
 intro pins s σ H D I h;refine wpAny_Assign_Subscript (fG (hv pins s σ H _ I h) λr s1 ⟨v,H1,I1,rv,q1⟩=>fG (ho pins s1 σ H1 _ I1 q1) λu s2 ⟨x,H2,I2,rx,q2⟩=>fG (hi pins s2 σ H2 _ I2 q2) λiv s3 ⟨y,H3,I3,ry,a,H4,ex,g,q3⟩=>?_) hs;subst ex;obtain rfl:u=Value.ref a:=rx;exact Qd hu I3 g ry rv λs4 I4=>⟨σ,H4,I4,q3⟩
end
theorem Uw(h:Heap)(hb:sysModules<h.objs.size):gf P w H (h.push { cls:=.type "dict",data:=.dict #[] }) h.objs.size (.dK []):=
 ⟨Qx0 _,Qzw.mpr<|Ne.symm<|Qxv hb,[],.nil,Heap.DictOf.new h⟩
def aar:TE:=λ_ H Q=>∀p,H p=none->Q (.ref p) (upd H p (.dK []))
section
variable{X:Cx}{pos:Pos}
theorem SN:PE X (.Dict [] [] pos) aar:=λpins s σ H Q I h=>
 wpAny_Dict_empty ⟨.ref s.heap.objs.size,_,I.laid (λ_ _ q=>Qq0 _ q) (Qq1 _)<|Uw s.heap I.big,rfl,h _<|I.hok.fresh<|Qq1 _⟩
end
structure M2(X:Cx)(o:Expr)(m:Str)(apos:Pos)(e f:Expr)(cpos:Pos):Prop where
 base:attributeBase o m X.env (eval o X.env)=eval o X.env
 few:((backTo cpos (starEach [e,f] X.env)).all (λx=>!x.1)&&(backToKw cpos (keywordEach [] X.env)).all (λx=>x.1.isSome)
  && decide (([e,f]:List Expr).length+([]:List Keyword).length+(if ([]:List Keyword).isEmpty then 0 else 1)<30))=true
 line:(apos.endLine == cpos.line)=true
 trees:backTo cpos (starEach [e,f] X.env)=[(false,eval e X.env),(false,eval f X.env)]
def IsD(H:Hp)(a:Addr):Prop:=(∃kvs,Rd H a (.dK kvs))\/∃kvs,Rd H a (.dT kvs)
theorem aci{σ:St}(I:Inv X pins σ H s)(d:IsD H a) :
  s.TypeIs (.ref a) "dict"/\(∀b,Value.ref a=.ref b->∃ob,s.heap.get? b=some ob/\ob.dict=none)/\(a == sysModules)=false:=by
 rcases d with ⟨kvs,e⟩|⟨kvs,e⟩;obtain⟨_,hd,vs,_,dd⟩:=Dc I.hok e;refine⟨dd.typeIs,λb q=>?_,hd⟩;cases q;obtain⟨ob,_,_,h1,h2,_⟩:=dd;exact⟨ob,h1,h2.2.1⟩;obtain⟨_,hd,xs,_,dd⟩:=Jf I.hok e;refine⟨dd.typeIs,λb q=>?_,hd⟩;cases q;obtain⟨ob,_,_,h1,h2,_⟩:=dd;exact⟨ob,h1,h2.2.1⟩
section
variable{X:Cx}{pins:List (Addr×Obj)}{σ:St}{H:Hp}{s:Shared}{a:Addr}{y d:V}{u r:Value}{o:Option V}{A:Around}{E:Value->Shared->Prop}
theorem acM(hu:A.units+1<cLine)(I:Inv X pins σ H s)(g:Qp H a y o)(ry:RelV y u)(rd:RelV d r)(h:∀w' s',Inv X pins σ H s'->RelV (o.getD d) w'->Q w' s') :
  wpAny (model X.prog X.w) A (call (.builtin "dict.get") [.ref a,u,r]) Q E s:=by
 rcases g with ⟨kvs,k,e,ey,l⟩|⟨kvs,k,b,e,ey,eb,l⟩;subst ey;obtain⟨z,hd,vs,rel,dd⟩:=Dc I.hok e;refine call_meetsIn PySem.F.slot_dict_get dd.typeIs PySem.F.entry_dict_get (PySem.F.args_dict_get_3 _ _ _) (meets_dict_get_default (dO X.prog X.w) a (Ik ry) hd r) ⟨_,dd.mapOf,h _ _ (I.tok _) ?_⟩;rw[l];exact(rel.val k).getD rd;subst ey;cases ry;obtain⟨z,hd,xs,rel,dd⟩:=Jf I.hok e;refine call_meetsIn PySem.F.slot_dict_get dd.typeIs PySem.F.entry_dict_get (PySem.F.args_dict_get_3 _ _ _) (meetsH_dict_get_default (tupleKind<|dO X.prog X.w) a b hd r) ⟨tupleKind_room_in1 hu,k,xs,Ff I.hok eb,dd,h _ _ (I.tok _) ?_⟩;rw[l];exact(rel.val k).getD rd
end
def aas(td ty tx:TE):TE:=λσ H Q=>td σ H λx H1=>∃a,x=.ref a/\IsD H1 a/\ty σ H1 λy H2=>tx σ H2 λz H3=>∃o,Qp H3 a y o/\Q (o.getD z) H3
section
variable{X:Cx}{o e f:Expr}{apos cpos:Pos}{td ty tx:TE}
theorem S5(hu:X.A.units+1<cLine)(ho:PE X o td)(he:PE X e ty)(hf:PE X f tx)(m:M2 X o "get" apos e f cpos):PE X (.Call (.Attribute o "get" apos) [e,f] [] cpos) (aas td ty tx):=by
 intro pins s σ H Q I h;refine wpAny_Call_method m.base m.few m.line PySem.F.plainAttrs_dict PySem.F.slot_dict_get PySem.F.type_dict_get<|fG (ho pins s σ H _ I h) λu s1 ⟨x,H1,I1,rx,a,ex,d,q1⟩=>?_;subst ex;obtain rfl:u=Value.ref a:=rx;obtain⟨t1,t2,_⟩:=aci I1 d;refine⟨t1,t2,?_⟩;rw[m.trees];refine Calls.callWith_builtin rfl (Calls.evalArgs_plain (Calls.spliced_cons (fG (he pins s1 σ H1 _ I1 q1) λiv s2 ⟨y,H2,I2,ry,q2⟩=>
  Calls.spliced_cons (fG (hf pins s2 σ H2 _ I2 q2) λfv s3 ⟨z,H3,I3,rz,ov,g,q3⟩=>Calls.spliced_nil ?_))))
 exact acM hu I3 g ry rz λw' s4 I4 xm=>⟨_,H3,I4,xm,q3⟩
end
noncomputable def gA(env:Env):List (Str×NameKind)->List (Str×Addr)->List (Str×Addr)
 |[],acc=>acc|(n,k)::r,acc=>if k == .free then gA env r ((n,(env.cells.lookup n).getD 0)::acc) else gA env r acc
theorem Ae(f)
  (hf:∀n k cs,f (n,k) cs=if k == .free then (do let a <-cellOf env n;pure (.yield ((n,a)::cs))) else pure (.yield cs)) :
  ∀names acc,(∀n,(n,NameKind.free)∈names->∃c,env.cells.lookup n=some c)->forIn names acc f=pure (gA env names acc)
 |[],acc,_=>by rw[Qkz];rfl
 |(n,k)::r,acc,h=>by
  have ih:=Ae f hf r;have hr:=λm hm=>h m<|Qqq _ hm;rw[Qk0,hf];cases hk:k == NameKind.free with
  |true=>
   have hk':k=.free:=by simpa using hk
   obtain⟨c,hc⟩:=h n (by rw[hk'];exact Qqj);rw[if_pos rfl];unfold cellOf;rw[hc];simp[pure_bind];rw[ih _ hr]
   conv=>rhs;unfold gA
   rw[if_pos hk,hc]
   rfl
  |false=>
   rw[if_neg (by simp)];simp[pure_bind];rw[ih _ hr]
   conv=>rhs;unfold gA
   rw[if_neg (by simp[hk])]
theorem tX(h:∀n,(n,NameKind.free)∈scope.names->∃c,env.cells.lookup n=some c):closureFor scope env=pure (gA env scope.names []):=by
 simp only[closureFor];rw[Ae _ (λn k cs=>by cases hk:k == NameKind.free<;>simp[hk]) _ _ h]
 rfl
theorem vg:∀names acc x c,(∀n,(n,NameKind.free)∈names->∃c,env.cells.lookup n=some c)->
  (∀y d,acc.lookup y=some d->env.cells.lookup y=some d)->(gA env names acc).lookup x=some c->env.cells.lookup x=some c
 |[],acc,x,c,_,ha,h=>ha x c h
 |(n,k)::r,acc,x,c,hn,ha,h=>by
  have hr:=λm hm=>hn m<|Qqq _ hm;unfold gA at h;split at h;rename_i hk;have hk':k=.free:=by simpa using hk
  obtain⟨d,hd⟩:=hn n (by rw[hk'];exact Qqj);refine vg r _ x c hr (λy e he=>?_) h;rw[Qx2] at he;cases hy:y == n with
  |true=>
   rw[hy] at he;have e1:y=n:=by simpa using hy
   rw[e1,hd];rw[hd] at he;exact he
  |false=>rw[hy] at he;exact ha y e he
  exact vg r acc x c hr ha h
theorem wZ:∀names acc x,(acc.lookup x).isSome=true->((gA env names acc).lookup x).isSome=true
 |[],acc,x,h=>h
 |(n,k)::r,acc,x,h=>by
  unfold gA;split;refine wZ r _ x ?_;rw[Qx2];split;rfl;exact h;exact wZ r acc x h
theorem vf:∀names acc x,(x,NameKind.free)∈names->((gA env names acc).lookup x).isSome=true
 |[],acc,x,h=>nomatch h
 |(n,k)::r,acc,x,h=>by
  unfold gA;rcases Qq7.mp h with e|h;obtain⟨e1,e2⟩:=Prod.mk.inj e;subst e1 e2;rw[if_pos (by rfl)];refine wZ r _ x ?_;rw[Qx2];simp;split;exact vf r _ x h;exact vf r acc x h
theorem gb:∀names n acc,cellsFrom n names acc=cellsFrom n names []++acc
 |[],n,acc=>rfl
 |(x,k)::r,n,acc=>by
  unfold cellsFrom;split;rw[gb r (n+1) ((x,n)::acc),gb r (n+1) [(x,n)],Qwk];rfl;exact gb r n acc
theorem nJ:∀names n x c,(x,c)∈cellsFrom n names []->(x,NameKind.cell)∈names
 |[],n,x,c,h=>nomatch h
 |(y,k)::r,n,x,c,h=>by
  unfold cellsFrom at h;split at h;rename_i hk;have hk':k=.cell:=by simpa using hk
  rw[gb] at h;rcases Qww.mp h with h|h;exact Qqq _<|nJ r _ x c h;have e:=Qq2.mp h;cases e;rw[hk'];exact Qqj;exact Qqq _<|nJ r _ x c h
theorem o9{α:Type}:∀(l m:List (Str×α)) x,(l++m).lookup x=match l.lookup x with|some v=>some v|none=>m.lookup x
 |[],m,x=>rfl
 |(k,v)::r,m,x=>by
  rw[List.cons_append,Qx2,Qx2];cases h:x == k with
  |true=>rfl|false=>exact o9 r m x
theorem qD{α:Type}:∀(l:List (Str×α)) x,(∀v,(x,v) ∉ l)->l.lookup x=none
 |[],x,_=>rfl
 |(k,v)::r,x,h=>by
  rw[Qx2];cases e:x == k with
  |true=>
   have e':x=k:=by simpa using e
   exact absurd (by rw[e'];exact Qqj)<|h v
  |false=>exact qD r x λw hw=>h w<|Qqq _ hw
theorem lookup_mem{α:Type}:∀(l:List (Str×α)) x v,l.lookup x=some v->(x,v)∈l
 |[],x,v,h=>nomatch h
 |(k,w)::r,x,v,h=>by
  rw[Qx2] at h;cases e:x == k with
  |true=>
   rw[e] at h;cases h;have e':x=k:=by simpa using e
   rw[e'];exact Qqj
  |false=>rw[e] at h;exact Qqq _<|lookup_mem r x v h
theorem jg{α:Type}:∀(l:List (Str×α)) x v,(l.map (·.1)).Nodup->(x,v)∈l->l.lookup x=some v
 |[],x,v,_,h=>nomatch h
 |(k,w)::r,x,v,nd,h=>by
  rw[Qx2];have nd':=Qxk.mp nd;rcases Qq7.mp h with e|h;cases e;simp;have hne:¬x=k:=λe=>nd'.1 (by rw[<-e];exact Qw3.mpr ⟨(x,v),h,rfl⟩);have hb:(x == k)=false:=by simpa using hne
  rw[hb];exact jg r x v nd'.2 h
theorem HQ
  (hQ:∀h',h'.Ns s.heap.objs.size (λ_=>none)->(∀b o,s.heap.get? b=some o->h'.get? b=some o)->CellsOk h' (s.heap.objs.size+1) (cellsFrom (s.heap.objs.size+1) scope.names [])->
   Q { scope,locals:=s.heap.objs.size,globals,cells:=cellsFrom (s.heap.objs.size+1) scope.names cl,qual,func:=none,code:=outer.code,frame:=outer.frame,builtins:=outer.builtins } { s with heap:=h' }) :
  wpAny M A (newFunctionEnv scope globals cl [] qual none .none (some outer)) Q E s:=by
 simp only[newFunctionEnv,Option.isSome_some,if_true];refine Qqx<|wpAny_alloc ?_;refine Qqx<|wpAny_layCells _ (λname kind cells=>by cases hkc:kind == NameKind.cell<;>simp[hkc]) _ _ _ _ ?_;have ok:=cellsFrom_ok scope.names (s.heap.push { cls:=.type "dict",data:=.dict #[] }) (s.heap.objs.size+1) [] ⟨λ_ _ hm=>(nomatch hm),List.Pairwise.nil⟩ (by rw[Qjq];exact Qq1 _);rw[Qjq] at ok;rw[show({ s with heap:=s.heap.push { cls:=.type "dict",data:=.dict #[] } }:Shared).heap.objs.size=s.heap.objs.size+1 from Qjq ..];refine Qqx ?_;rw[Qkz];refine Qq6<|Qq6<|hQ _ ?_ ?_ ?_;exact(Heap.Ns.new s.heap<|.type "dict").keeps<|pushCells_keeps _ _;exact λb o e=>pushCells_keeps _ _ b o<|Qq0 _ e;exact ok
noncomputable def cxC(X:Cx)(scope:Scope)(N':List Str)(cells:List (Str×Addr))(C:Addr)(s0:Shared)(H0:Hp)(fp:List Addr):Cx:=
 { X with N:=N',s₀:=s0,H₀:=H0,env:=compEnvC scope cells C X.env,outer:=X.stack,stack:=X.stack,ex:=fp,fn:=λx=>decide (scope.names.lookup x=some .cell),pn:=[],xe:=λ_ _=>False }
theorem qC{env:Env}:∀(names:List (Str×NameKind)) x,
  (names.map λ(n,k)=>if (k == NameKind.free&&env.scope.kind == .function&&env.kindOf n == some .cell) then (n,NameKind.cell) else (n,k)).lookup x =
   (names.lookup x).map λk=>if (k == NameKind.free&&env.scope.kind == .function&&env.kindOf x == some .cell) then NameKind.cell else k
 |[],x=>rfl
 |(n,k)::r,x=>by
  show List.lookup x ((if (k == NameKind.free&&env.scope.kind == .function&&env.kindOf n == some .cell)=true then (n,NameKind.cell) else (n,k))::_)=_;cases hx:x == n with
  |true=>
   have e:x=n:=by simpa using hx
   subst e;simp[Qx2,hx,Qk2];split<;>simp[Qx2]
  |false=>simp only[Qx2,hx];rw[<-qC r x];split<;>simp[Qx2,hx]
noncomputable def UJ(names:List (Str×NameKind)):List Str->List Str->Bool
 |_,[]=>true|[],_::_=>false|x'::N',x::N=>((names.lookup x').isNone||(x' == x&&names.lookup x' == some .free))&&UJ names N' N
theorem Jk:∀{N' N},UJ names N' N=true->∀i x,i<N.length->N'[i]?=some x->(names.lookup x).isSome=true->N[i]?=some x/\names.lookup x=some .free
 |_,[],_,i,x,h,_,_=>absurd h<|Qj5 _|[],_::_,h,_,_,_,_,_=>by cases h
 |x'::N',y::N,h,i,x,hi,e,hs=>by
  unfold UJ at h;have h1:=(Qkk.mp h).1;have h2:=(Qkk.mp h).2;cases i with
  |zero=>
   have e':x'=x:=by simpa using e
   subst e';rcases Bool.or_eq_true_iff.mp h1 with q|q;cases z:names.lookup x' with
   |none=>rw[z] at hs;cases hs|some k=>rw[z] at q;cases q
   have q1:=(Qkk.mp q).1;have q2:=(Qkk.mp q).2;have e1:x'=y:=by simpa using q1
   have e2:names.lookup x'=some .free:=by simpa using q2
   exact⟨by rw[e1];rfl,e2⟩
  |succ i=>exact Jk h2 i x (by simpa using hi) (by simpa using e) hs
structure mJ(X:Cx)(scope:Scope)(N':List Str):Prop where
 kind:scope.kind=.function
 nd:(scope.names.map (·.1)).Nodup
 free:∀x∈scope.names,x.2=.free->X.env.kindOf x.1=some .cell\/X.env.kindOf x.1=some .free
 chk:UJ scope.names N' X.N=true
 len:X.N.length<=N'.length
def PIf(X:Cx)(ifs:List Expr)(t:TT):Prop:=
 ∀(pins:List (Addr×Obj)) (s:Shared) (σ:St) (H:Hp) (Q:Bool->Hp->Prop),Inv X pins σ H s->t σ H Q->
  wpAny (model X.prog X.w) X.A (forIn ifs true λc r=>if r=true then do let ok <-isTrue c X.env (eval c X.env);pure (ForInStep.yield ok) else pure (ForInStep.yield r)) (TP X pins σ Q) X.xe s
theorem WD:PIf X [] (λ_ H Q=>Q true H):=λpins s σ H Q I h=>by
 rw[Qkz];exact Qq6 ⟨H,I,h⟩
theorem Wz(h:PT X c t):PIf X [c] t:=λpins s σ H Q I hw=>by
 rw[Qk0,if_pos rfl];refine Qqx<|Qqx<|fG (h pins s σ H Q I hw) λb s' q=>?_;refine Qq6 ?_;show wpAny _ _ (forIn [] b _) _ _ _;rw[Qkz];exact Qq6 q
noncomputable def uJ(n:Nat)(σ:St):St:=σ++List.replicate n none
def tLC(n:Nat)(wi:TI)(g:TG)(tc:TT)(te:TE):TE:=λσ H Q=>wi σ H λJ H1=>∀d,H1 d=none->∃W:Nat->Nat->St->Hp->Prop,(∃m,W 0 m (uJ (n - σ.length) σ) (upd H1 d (.lst [])))/\∀i m σ' H',W i m σ' H'->
 (J.stop i H'/\Q (.ref d) H')\/(J.go i H'/\∃N:St->Hp->Prop,(∀σ2 H2,N σ2 H2->∃m',m'<m/\W (i+1) m' σ2 H2)/\∀x H2,J.yld i H' x H2->g x σ' H2 λσ3 H3=>tc σ3 H3 λb H4=>
  if b=true then te σ3 H4 λy H5=>∃ys,H5 d=some (.lst ys)/\ys.length<sizeLine/\N σ3 (upd H5 d (.lst (ys++[y]))) else N σ3 H4)
section
variable{prog:Program}{w:World}{A:Around}{R:Result->Shared->Prop}{s:Shared}
theorem Fz(I:Nat->Shared->Prop)
  (turn:∀n s,I n s->wpAny (model prog w) A (pyNext it) (λr s₁=>match r with
   |none=>R (.ok .next) s₁
   |some v=>wpAny (model prog w) A (letOwnedTupleGo target it v) (λ_ s₁'=>wpAny (model prog w) A (assign target env v) (λ_ s₂=>
     wpAny (model prog w) A (forIn ifs true λc r=>if r=true then do let ok <-isTrue c env (eval c env);pure (ForInStep.yield ok) else pure (ForInStep.yield r)) (λok s₃=>
      if ok=true then wpAny (model prog w) A (eval elt env) (λx s₄=>
       wpAny (model prog w) A (call (.builtin "list.append") [acc,x]) (λ_ s₅=>∃m,m<n/\I m s₅) (λ_ _=>False) s₄) (λ_ _=>False) s₃
      else ∃m,m<n/\I m s₃) (λ_ _=>False) s₂) (λ_ _=>False) s₁') (λ_ _=>False) s₁) (λ_ _=>False) s)
  (n) (h:I n s) :
  codeAny (model prog w) A (.compLoop (.ListComp elt [⟨target,iter,ifs,0⟩] scope pos) 0 it acc env) R s:=by
 refine codeAny_loop rfl I (λn s hI=>?_) n h;show wpAny _ A ((compTurn (.ListComp elt [⟨target,iter,ifs,0⟩] scope pos) 0 it acc env).onRaise<|λx=>do noteFrame x env;theTreesLotGoes x) _ _ s;refine wpAny_noted ?_;rw[compTurn_list];refine Qqx<|wpAny_standAt<|Qqx<|Qz9 (turn n s hI) (λr s₁ h₁=>?_) λ_ _ h'=>h'.elim;cases r with
 |none=>exact Qq6 h₁
 |some v=>
  refine Qqx<|Qz9 h₁ (λ_ s₁' h₁'=>?_) λ_ _ h'=>h'.elim;refine Qqx<|Qz9 h₁' (λ_ s₂ h₂=>Qqx<|Qz9 h₂ (λok s₃ h₃=>?_) λ_ _ h'=>h'.elim) λ_ _ h'=>h'.elim;cases ok with
  |false=>exact Qq6 ⟨rfl,h₃⟩|true=>exact Qqx<|Qqx<|Qz9 h₃ (λx s₄ h₄=>Qqx<|Qz9 h₄ (λ_ s₅ h₅=>Qq6<|Qq6 ⟨rfl,h₅⟩) λ_ _ h'=>h'.elim) λ_ _ h'=>h'.elim
end
theorem Ua{σ:St}{fp:List Addr}(ok:mJ X scope N')(I:Inv X pins σ H s)(hf:∀b∈fp,vI X pins H b)(hlt:∀b∈fp,b<s.heap.objs.size)
  (hn:h'.Ns s.heap.objs.size (λ_=>none)) (hk:∀b o,s.heap.get? b=some o->h'.get? b=some o) (co:CellsOk h' (s.heap.objs.size+1) (cellsFrom (s.heap.objs.size+1) scope.names [])) :
  Inv (cxC X scope N' (cellsFrom (s.heap.objs.size+1) scope.names (gA X.env scope.names [])) s.heap.objs.size s H fp) [] (uJ (N'.length - σ.length) σ) H { s with heap:=h' }:=by
 have hfree:∀n,(n,NameKind.free)∈scope.names->∃c,X.env.cells.lookup n=some c:=λn hm=>I.ok.has n<|ok.free _ hm rfl
 -- the cells by name
 have pB:∀x c,(cellsFrom (s.heap.objs.size+1) scope.names<|gA X.env scope.names []).lookup x=some c->
   ((x,c)∈cellsFrom (s.heap.objs.size+1) scope.names []/\(cellsFrom (s.heap.objs.size+1) scope.names []).lookup x=some c)\/((cellsFrom (s.heap.objs.size+1) scope.names []).lookup x=none/\X.env.cells.lookup x=some c):=λx c e=>by
  rw[gb,o9] at e;cases q:(cellsFrom (s.heap.objs.size+1) scope.names []).lookup x with
  |some d=>rw[q] at e;cases e;exact .inl ⟨lookup_mem _ _ _ q,rfl⟩|none=>rw[q] at e;exact .inr ⟨rfl,vg _ _ x c hfree (λy d h=>by simp at h) e⟩
 have zc:=λx c h=>(co.empty x c h).2;have S8:=λx c h=>let ⟨v,q⟩:=I.cell x c h;q.lt
 have Fe:∀x,(relabel scope X.env).names.lookup x=(scope.names.lookup x).map λk=>if (k == NameKind.free&&X.env.scope.kind == .function&&X.env.kindOf x == some .cell) then NameKind.cell else k:=λx=>qC _ _
 have Io:∀x,(x,NameKind.cell)∈scope.names->∃c,(cellsFrom (s.heap.objs.size+1) scope.names []).lookup x=some c:=λx hx=>by
  have q:=PySem.W.cellsFrom_some scope.names (s.heap.objs.size+1) []<|.inl<|jg _ _ _ ok.nd hx;exact Qz7.mp q
 have fpC:∀b∈fp,∀x c,(cellsFrom (s.heap.objs.size+1) scope.names<|gA X.env scope.names []).lookup x=some c->c≠b:=λb hb x c e=>by
  rcases pB x c e with ⟨h1,_⟩|⟨_,h2⟩
  .have h3:=zc x c h1;have h4:=hlt b hb;rintro rfl;exact absurd (Qwz h4<|Qk4 h3)<|Qz0 _
  .exact(hf b hb).2.2.2.2.1 x c h2
 refine⟨⟨I.ok.mod,ok.kind,I.ok.glob,I.ok.blt,Qq1 _,λx y c h1 h2=>?_,λx hx=>?_,λx c hx e=>?_,I.ok.hd,I.ok.frames,.inl rfl,λb hb=>⟨Qxv<|hlt b hb,λx c e=>fpC b hb x c e⟩,I.bs,Qq4 I.ok.U6 I.sz,λb o e hb=>?_,λb hb=>?_,I.stack,I.LK⟩,
  rfl,I.bare,Un.kept hk,⟨_,hn,λi x v e1 e2 e3=>?_⟩,λx c e=>?_,I.hok.fresh<|Qq1 _,λx c e=>?_,λp hp=>absurd (show p∈[] from hp) (by simp),I.hok.kept hk,?_⟩
 .-- one name a cell
  rcases pB x c h1 with ⟨p1,_⟩|⟨_,p2⟩
  .rcases pB y c h2 with ⟨q1,_⟩|⟨_,q2⟩
   .exact name_of_addr co.apart p1 q1
   .exact absurd (Qwz (S8 y c q2)<|Qk4<|zc x c p1)<|Qz0 _
  .rcases pB y c h2 with ⟨q1,_⟩|⟨_,q2⟩
   .exact absurd (Qwz (S8 x c p2)<|Qk4<|zc y c q1)<|Qz0 _
   .exact I.ok.inj x y c p2 q2
 .-- each cell name has one
  show ∃c,(cellsFrom (s.heap.objs.size+1) scope.names<|gA X.env scope.names []).lookup x=some c;have hx:(relabel scope X.env).names.lookup x=some .cell\/(relabel scope X.env).names.lookup x=some .free:=hx;rw[Fe] at hx;cases q:scope.names.lookup x with
  |none=>rw[q] at hx;rcases hx with hx|hx<;>cases hx
  |some k=>
   rw[q] at hx;rw[gb,o9];cases z:(cellsFrom (s.heap.objs.size+1) scope.names []).lookup x with
   |some d=>exact⟨d,rfl⟩
   |none=>
    have hkf:k=.free:=by
     cases k with
     |free=>rfl|cell=>obtain⟨c,hc⟩:=Io x<|lookup_mem _ _ _ q;rw[hc] at z;cases z|_=>rcases hx with hx|hx<;>simp at hx
    subst hkf;exact Qz7.mp<|vf _ _ x<|lookup_mem _ _ _ q
 .-- its own cells are new
  have hx':=Qxj hx;rcases pB x c e with ⟨p1,_⟩|⟨p1,_⟩
  .exact Qk4<|zc x c p1
  .obtain⟨d,hd⟩:=Io x<|lookup_mem _ _ _ hx';rw[hd] at p1;cases p1
 .rcases(hf b hb).2.2.2.1 with z|z
  .exact I.ok.Tf b o e z
  .have h1:=Qwx e;have h2:=I.ok.U6;exact absurd (Qwz h1<|Qq4 h2 z)<|Qz0 _
 .intro hm;rcases Qq7.mp (I.Dy b hm) with z|z
  .exact(hf b hb).2.1 z
  .exact(hf b hb).2.2.1 z
 .-- the names
  have hiσ:i<σ.length:=by
   by_cases hi:i<σ.length
   .exact hi
   .unfold uJ at e2;rw[Qx4 (by omega),Qz1] at e2;split at e2<;>cases e2
  have e2':σ[i]?=some (some v):=by
   unfold uJ at e2
   rwa [Qw7 hiσ] at e2
  have vis:(scope.names.lookup x).isSome=true:=by
   have e3:(relabel scope X.env).names.lookup x=some .local\/(relabel scope X.env).names.lookup x=some .cell\/(relabel scope X.env).names.lookup x=some .free:=e3;rw[Fe] at e3;cases q:scope.names.lookup x with
   |none=>rw[q] at e3;rcases e3 with z|z|z<;>cases z
   |some k=>rfl
  obtain⟨hN,hfr⟩:=Jk ok.chk i x (by rw[<-I.len];exact hiσ) e1 vis;have hm:=lookup_mem _ _ _ hfr;have hkk:=ok.free _ hm rfl;obtain⟨m,hns,hl⟩:=I.loc;obtain⟨u,ru,lk⟩:=hl i x v hN e2'<|hkk.elim (λz=>.inr<|.inl z) λz=>.inr<|.inr z;refine⟨u,ru,.inr ⟨?_,?_⟩⟩
  .show(relabel scope X.env).names.lookup x=some .cell\/(relabel scope X.env).names.lookup x=some .free;rw[Fe,hfr];by_cases hc:(NameKind.free == NameKind.free&&X.env.scope.kind == .function&&X.env.kindOf x == some .cell)=true
   .left;rw[Qk2,if_pos hc]
   .right;rw[Qk2,if_neg hc]
  .rcases lk with ⟨hl1,_⟩|⟨_,c,hc,hcell⟩
   .rcases hkk with z|z<;>(rw[z] at hl1;cases hl1)
   .refine⟨c,?_,hcell.keeps hk⟩;show(cellsFrom (s.heap.objs.size+1) scope.names<|gA X.env scope.names []).lookup x=some c;rw[gb,o9];have hno:(cellsFrom (s.heap.objs.size+1) scope.names []).lookup x=none:=qD _ _ λd hd=>by
     have h1:=jg _ _ _ ok.nd<|nJ _ _ _ _ hd;rw[hfr] at h1;cases h1
    rw[hno];obtain⟨d,hd⟩:=Qz7.mp<|vf scope.names [] x hm;have h2:=vg _ _ x d hfree (λy d h=>by simp at h) hd;rw[hc] at h2;show(gA X.env scope.names []).lookup x=some c;rw[hd,h2]
 .rcases pB x c e with ⟨p1,_⟩|⟨_,p2⟩
  .exact⟨_,(co.empty x c p1).1⟩
  .obtain⟨v,q⟩:=I.cell x c p2;exact⟨v,q.keeps hk⟩
 .rcases pB x c e with ⟨p1,_⟩|⟨p0,p2⟩
  .exact .inl<|I.hok.fresh<|Qk4<|zc x c p1
  .rcases I.qL x c p2 with z|⟨_,z⟩
   .exact .inl z
   .refine .inr ⟨?_,z⟩;show decide (scope.names.lookup x=some .cell)=false;refine Qq9 λq=>?_;obtain⟨d,hd⟩:=Af q;rw[p0] at hd;cases hd
 .show(uJ (N'.length - σ.length) σ).length=N'.length;unfold uJ;rw[Qqk,Qzx];have h1:=ok.len;have h2:=I.len;omega
abbrev jQ(X:Cx)(scope:Scope)(N':List Str)(X':Cx):Prop:=
 ∃(cells:List (Str×Addr)) (C:Addr) (s0:Shared) (H0:{ H:Hp // ∀b qs,X.H₀ b=some (.tab qs)->H b=some (.tab qs) }) (fp:List Addr),X'=cxC X scope N' cells C s0 H0.1 fp
theorem De
  (ok:mJ X scope N') (hc:X.calm=true)
  (bg:∀X',jQ X scope N' X'->PG X' tg g) (bc:∀X',jQ X scope N' X'->PIf X' ifs tc) (be:∀X',jQ X scope N' X'->PE X' elt te)
  {σ:St} {Q:VK} (I2:Inv X pins σ H2 s2) (T:Turn X.prog X.w X.K tg J fp it tn) (st2:tn 0 s2.heap) (f2:∀b∈fp,vI X pins H2 b)
  (q:∀d,H2 d=none->∃W:Nat->Nat->St->Hp->Prop,(∃m,W 0 m (uJ (N'.length - σ.length) σ) (upd H2 d (.lst [])))/\∀i m σ' H',W i m σ' H'->
   (J.stop i H'/\Q (.ref d) H')\/(J.go i H'/\∃N:St->Hp->Prop,(∀σ2 H2,N σ2 H2->∃m',m'<m/\W (i+1) m' σ2 H2)/\∀x H2,J.yld i H' x H2->g x σ' H2 λσ3 H3=>tc σ3 H3 λb H4=>
    if b=true then te σ3 H4 λy H5=>∃ys,H5 d=some (.lst ys)/\ys.length<sizeLine/\N σ3 (upd H5 d (.lst (ys++[y]))) else N σ3 H4))
  (fin:∀d C m s' H',Inv X pins σ H' s'->Q (.ref d) H'->s'.heap.Ns C m->H' C=none->C≠X.env.locals->X.s₀.heap.objs.size<=C->(∀x c,X.env.cells.lookup x=some c->c≠C)->(∀p∈X.pn++pins,p.1≠C)->
   compPost (model X.prog X.w) X.A X.xe use QQ (.ref d) C (.ok .next) s') :
  wpAny (model X.prog X.w) X.A (newList []) (λacc s₃=>wpAny (model X.prog X.w) X.A (newFunctionEnv scope X.env.globals (gA X.env scope.names []) [] X.env.qual none .none (some X.env)) (λcenv s₄=>
   codeAny (model X.prog X.w) X.A (.compStart (.ListComp elt [⟨tg,iter,ifs,0⟩] scope pos) 0 (.ref it) acc { cenv with scope:=relabel scope X.env }) (compPost (model X.prog X.w) X.A X.xe use QQ acc cenv.locals) s₄) X.xe s₃) X.xe s2:=by
 have hd2:=I2.fresh;refine Qjw<|HQ λh' hns hkeep hco=>?_
 -- the state behind the list
 obtain⟨W,⟨m0,w0⟩,turn⟩:=q s2.heap.objs.size hd2;have I3:Inv X pins σ (upd H2 s2.heap.objs.size<|.lst []) { s2 with heap:=s2.heap.push { cls:=.type "list",data:=.seq ([]:List Value).toArray } }:=I2.aeZ .nil<|Qx0 _;have Br:∀b∈fp,b<s2.heap.objs.size:=λb hb=>by
  obtain⟨o,e,_⟩:=T.obj _ _ st2 b hb;exact Qwx e
 have f3:∀b∈fp,vI X pins (upd H2 s2.heap.objs.size<|.lst []) b:=λb hb=>by
  refine⟨?_,(f2 b hb).2⟩;rw[bj (Qxv<|Br b hb)];exact(f2 b hb).1
 have lt3:∀b∈fp,b<({ s2 with heap:=s2.heap.push { cls:=.type "list",data:=.seq ([]:List Value).toArray } }:Shared).heap.objs.size:=λb hb=>by
  show b<(s2.heap.push _).objs.size;rw[Qjq];exact Nat.lt_succ_of_lt<|Br b hb
 have st3:=T.keep _ _ _ st2 λb hb o e=>hkeep b o<|Qq0 _ e;have I4:=Ua ok I3 f3 lt3 hns hkeep hco;generalize hs3:({ s2 with heap:=s2.heap.push { cls:=.type "list",data:=.seq ([]:List Value).toArray } }:Shared)=s3 at *;have sz3:s3.heap.objs.size=s2.heap.objs.size+1:=by rw[<-hs3];exact Qjq ..
 generalize hX':cxC X scope N' (cellsFrom (s3.heap.objs.size+1) scope.names<|gA X.env scope.names []) s3.heap.objs.size s3 (upd H2 s2.heap.objs.size<|.lst []) fp=X' at I4;have at':jQ X scope N' X':=⟨_,_,_,⟨_,I3.base.tabs⟩,_,hX'.symm⟩;have hg:=bg X' at';have hif:=bc X' at';have he:=be X' at';have eP:X'.prog=X.prog:=by rw[<-hX'];rfl
 have eW:X'.w=X.w:=by rw[<-hX'];rfl
 have eK:X'.K=X.K:=by rw[<-hX'];rfl
 have eA:X'.A=X.A:=by rw[<-hX'];rfl
 have eC:X'.calm=true:=by rw[<-hX'];exact hc
 have eX:X'.xe=λ_ _=>False:=by rw[<-hX'];rfl
 have ePn:X'.pn=[]:=by rw[<-hX'];rfl
 have eEx:X'.ex=fp:=by rw[<-hX'];rfl
 have eL:X'.env.locals=s3.heap.objs.size:=by rw[<-hX'];rfl
 have eFs:X'.fs=frs X.stack:=by rw[<-hX'];rfl
 have ahA:compEnvC scope (cellsFrom (s3.heap.objs.size+1) scope.names<|gA X.env scope.names []) s3.heap.objs.size X.env=X'.env:=by rw[<-hX'];rfl
 have eS0:X'.s₀=s3:=by rw[<-hX'];rfl
 have eH0:X'.H₀=upd H2 s2.heap.objs.size (.lst []):=by rw[<-hX'];rfl
 -- what is true of the iterator's objects in the block
 have stat:∀{H'},(∀b∈fp,H' b=none)->∀b∈fp,vI X' [] H' b:=λ{H'} hn b hb=>by
  refine⟨hn b hb,?_,?_,.inl (by rw[eEx];exact hb),λx c e=>?_,λp hp=>?_⟩
  .rw[eL];exact Qxv<|lt3 b hb
  .have:=I4.ok.Uo b (by rw[eEx];exact hb);exact this
  .exact(I4.ok.exf b (by rw[eEx];exact hb)).2 x c e
  .rw[ePn] at hp;exact absurd hp (by simp)
 -- the outer context again
 have back:∀σ' H' s',Inv X' [] σ' H' s'->Inv X pins σ H' s':=λσ' H' s' J'=>by
  have hb:=J'.base;rw[eFs,eEx,eS0,eH0] at hb;have hos:=J'.os;rw[eS0] at hos;have hok:=J'.hok;rw[eP,eW] at hok;exact I3.call' hos hb hok J'.bare λb hbm=>⟨(f3 b hbm).2.2.2.1,(f3 b hbm).2.1,(f3 b hbm).2.2.2.2.1,(f3 b hbm).2.2.2.2.2⟩
 have loop:∀s4,s4={ s3 with heap:=h' }->codeAny (model X.prog X.w) X.A (.compLoop (.ListComp elt [⟨tg,iter,ifs,0⟩] scope pos) 0 (.ref it) (.ref s2.heap.objs.size) X'.env) (compPost (model X.prog X.w) X.A X.xe use QQ (.ref s2.heap.objs.size) s3.heap.objs.size) s4:=by
  rintro s4 rfl;refine Fz (λn s'=>∃i σ' H',Inv X' [] σ' H' s'/\tn i s'.heap/\(∀b∈fp,H' b=none)/\W i n σ' H') ?_ m0 ⟨0,_,_,I4,st3,λb hb=>(f3 b hb).1,w0⟩;rintro n s5 ⟨i,σ5,H5,I5,st5,fr5,w5⟩;rcases turn i n σ5 H5 w5 with ⟨stop,qn⟩|⟨go,N,hN,step⟩
  .have td:=T.done X' eP eW eK eC i [] s5 σ5 H5 (λ_ _=>False) I5 (stat fr5) st5 stop;rw[eA] at td;refine fG td λr s6 ⟨hr,I6⟩=>?_;subst hr;obtain⟨mC,hnC,_⟩:=id I6.loc;rw[eL] at hnC;have lc:X.env.locals<s3.heap.objs.size:=by
    have:=I3.lt;exact this
   refine fin _ _ mC s6 H5 (back _ _ _ I6) qn hnC ?_ (Qky lc) I3.sz (λx c e=>?_)<|λp hp=>?_
   .have:=I6.free;rw[eL] at this;exact this
   .obtain⟨v,z⟩:=I3.cell x c e;exact Qxv z.lt
   .exact Qxv<|Qwx (I3.pin p hp).1
  .have ti:=T.item X' eP eW eK eC i [] s5 σ5 H5 (λ_ _=>False) I5 (stat fr5) st5 go;rw[eA] at ti;refine fG ti λr s6 ⟨u,hr,h6⟩=>?_;subst hr;refine fG h6 λ_ s7 ⟨x,H7,I7,r7,y7,st7,fr7⟩=>?_;have I7':=I7.pinned (stat fr7)<|T.obj _ _ st7;have hg':=hg _ s7 σ5 H7 x u _ I7' r7<|step x H7 y7;rw[eP,eW,eA,eX] at hg';refine fG hg' λ_ s8 ⟨σ8,H8,I8,q8⟩=>?_;have afb:=hif _ s8 σ8 H8 _ I8 q8;rw[eP,eW,eA,eX] at afb;refine fG afb λb s9 ⟨H9,I9,q9⟩=>?_;have again:∀{σz} {Hz} {sz},Inv X' ([]++yZ fp s7.heap) σz Hz sz->N σz Hz->∃m,m<n/\∃i σ' H',Inv X' [] σ' H' sz/\tn i sz.heap/\(∀b∈fp,H' b=none)/\W i m σ' H':=λ{σz Hz sz} Iz nz=>by
    obtain⟨m',hm,wz⟩:=hN σz Hz nz;refine⟨m',hm,i+1,σz,Hz,Iz.uh,T.keep _ _ _ st7 λb hb o e=>(Iz.pin (b,o)<|Qxx _<|Qxx _<|o8 hb e).1,λb hb=>?_,wz⟩;obtain⟨o,e,d⟩:=T.obj _ _ st7 b hb;exact(Iz.pin (b,o)<|Qxx _<|Qxx _<|o8 hb e).2.1
   cases b with
   |false=>rw[if_neg Qx1] at q9 ⊢;exact again I9 q9|true=>rw[if_pos rfl] at q9 ⊢;have he':=he _ s9 σ8 H9 _ I9 q9;rw[eP,eW,eA,eX] at he';refine fG he' λy sa ⟨yv,Ha,Ia,ra,ys,hys,hlen,qa⟩=>?_;have ap:=CK _ sa σ8 Ha (.ref s2.heap.objs.size) [yv] (.ref s2.heap.objs.size) [y] (λv H'=>v=.non/\N σ8 H') Ia rfl (.cons ra .nil) ⟨_,ys,yv,rfl,rfl,hys,hlen,rfl,qa⟩;rw[eP,eW,eA,eX] at ap;refine fG ap λ_ sb ⟨vb,Hb,Ib,rb,_,nb⟩=>?_;exact again Ib nb
 show codeAny _ _ (.compStart _ 0 (.ref it) (.ref s2.heap.objs.size)<|compEnvC scope (cellsFrom (s3.heap.objs.size+1) scope.names<|gA X.env scope.names []) s3.heap.objs.size X.env) (compPost (model X.prog X.w) X.A X.xe use QQ (.ref s2.heap.objs.size) s3.heap.objs.size) _;rw[ahA];exact codeAny_compStart_list (loop _ rfl)<|T.self X.A 0 _ _ _ st3<|loop _ rfl
theorem aeB
  (ok:mJ X scope N') (hc:X.calm=true) (hi:PI X tg iter wi)
  (bg:∀X',jQ X scope N' X'->PG X' tg g) (bc:∀X',jQ X scope N' X'->PIf X' ifs tc) (be:∀X',jQ X scope N' X'->PE X' elt te)
  (hs:∀x,foldedSetIterable iter X.env x=pure x:=by intro _;rfl) :
  PE X (.ListComp elt [⟨tg,iter,ifs,0⟩] scope pos) (tLC N'.length wi g tc te):=by
 intro pins s σ H Q I h;rw[eval_ListComp];have hfree:∀n,(n,NameKind.free)∈scope.names->∃c,X.env.cells.lookup n=some c:=λn hm=>I.ok.has n<|ok.free _ hm rfl;refine wpAny_comprehension_free rfl hs (tX hfree) ok.kind (λx hx hl=>jg _ _ _ ok.nd (by rw[<-hl];exact hx)) ?_;refine fG (hi pins s σ H _ I h) λv s1 h1=>fG h1 λitv s2 h2=>?_;obtain⟨it,fp,tn,J,H2,e,I2,T,st2,f2,q⟩:=h2;subst e;refine De ok hc bg bc be I2 T st2 f2 q λd C m s' H' I' hq hn hC hL h0 hcell hpin=>?_;refine⟨m,hn,λh' hs'=>?_⟩;have I'':Inv X pins σ H' { s' with heap:=h',toks:=s'.toks }:=I'.turned (λb o hb e=>(hs'.2 b hb).trans e) hC hL (.inr h0) hcell hpin;exact⟨.ref d,H',I'',rfl,hq⟩
theorem Sq{pos spos py:Pos}
  (ok:mJ X scope N') (hc:X.calm=true) (hi:PI X tg iter wi)
  (bg:∀X',jQ X scope N' X'->PG X' tg g) (bc:∀X',jQ X scope N' X'->PIf X' ifs tc) (be:∀X',jQ X scope N' X'->PE X' elt te)
  (hN:X.N.Nodup) (hy:X.N[i]?=some y) (hx:Loc X.env.scope y)
  (hsw:swapsWith (.ListComp elt [⟨tg,iter,ifs,0⟩] scope pos) (some (.Name y py)) spos.line X.env=pure true)
  (hf:X.fn y=true\/X.env.scope.names.lookup y=some .local:=by first|exact .inl rfl|exact .inr rfl|assumption)
  (hs:∀x,foldedSetIterable iter X.env x=pure x:=by intro _;rfl) :
  PS X (.Assign [.Name y py] (.ListComp elt [⟨tg,iter,ifs,0⟩] scope pos) spos) (VV (tLC N'.length wi g tc te) (Iv i)):=by
 intro pins s σ H D I h;rw[exec_Assign_Name_used _ _ _ _ hsw];refine Qqx<|wpAny_standAt<|Qqx ?_;have hfree:∀n,(n,NameKind.free)∈scope.names->∃c,X.env.cells.lookup n=some c:=λn hm=>I.ok.has n<|ok.free _ hm rfl;show wpAny _ X.A (do let _ <-comprehension (.ListComp elt [⟨tg,iter,ifs,0⟩] scope pos) scope X.env _ (newList []) false (eval iter X.env) (some<|assign (.Name y py) X.env)) _ _ s;refine Qqx<|Qz9 (wpAny_comprehension_free rfl hs (tX hfree) ok.kind (λx hx hl=>jg _ _ _ ok.nd (by rw[<-hl];exact hx)) ?_) (λ_ s' hq=>Qq6<|Qq6 hq) λ_ _ e=>e;refine fG (hi pins s σ H _ I h) λv s1 h1=>fG h1 λitv s2 h2=>?_;obtain⟨it,fp,tn,J,H2,e,I2,T,st2,f2,q⟩:=h2;subst e;refine De (Q:=λx H1=>Iv i x σ H1 D.nx) ok hc bg bc be I2 T st2 f2 q λd C m s' H' I' hq hn hC hL h0 hcell hpin=>?_;refine wpAny_assign_Name<|Cg (v:=.ref d) I' hN hy hx rfl (λs'' I'' sb=>?_) hf;obtain⟨a,hsb,ha⟩:=sb;have haC:C≠a:=by
  rcases ha with z|z;rw[z];exact hL;exact(hcell y a z).symm
 refine⟨m,hn.sameBut hsb haC,λh' hs'=>?_⟩;have I3:Inv X pins (σ.set i<|some<|.ref d) H' { s'' with heap:=h',toks:=s''.toks }:=I''.turned (λb o hb e=>(hs'.2 b hb).trans e) hC hL (.inr h0) hcell hpin;exact⟨_,H',I3,hq⟩
end L2
namespace Ev
open PySem PySem.Spec PyProof.Rows L2
inductive D where
 |non|bl (b:Bool)|int (i:Int)|str (x:List Nat)|tup (xs:List D)|lst (xs:List D)|arr (xs:List D)|dct (kvs:List (D×D))|gR (kvs:List (D×D))|clo (st:Stmt) (ds:List D)
 deriving Inhabited
abbrev Fg:=PySem.W.Frag
noncomputable def strOf(x:List Nat):Str:=⟨x.toArray⟩
noncomputable def rO:D->Option Key
 |.int i=>some (.inl i)|.str x=>some (.inr (strOf x))|_=>none
mutual
noncomputable def pU:D->Option NK
 |.int i=>some (.num i)|.bl b=>some (.num (if b then 1 else 0))|.str x=>some (.txt (strOf x))|.tup xs=>(Bo xs).map .tup|_=>none
noncomputable def Bo:List D->Option (List NK)
 |[]=>some []
 |d::ds=>match pU d,Bo ds with
  |some k,some ks=>some (k::ks)|_,_=>none
end
noncomputable def defName(s:Stmt):Str:=match s with
 |.FunctionDef n _ _ _ _ _ _ _ _ _=>n|_=>""
noncomputable def freeOf(s:Stmt):List Str:=(((aH s).names.filter (·.2 == .free)).map (·.1)).reverse
def Vp(F:Hp)(c:Addr)(v:V):Prop:=∃(o:Obj) (u:HO) (w:Value),F c=some (.lg o u)/\o.data=.cell (some w)/\RelV v w
def pJ(F:Hp):List (Str×Addr)->List V->Prop
 |[],vs=>vs=[]|(_,c)::r,vs=>∃v vs',vs=v::vs'/\Vp F c v/\pJ F r vs'
def ac9(F:Hp)(c:Addr)(q:Str):Prop:=∃(o:Obj) (u:HO) (vs:Array Value) (t:Tok),F c=some (.lg o u)/\o.data=.fields vs/\vs[1]?=some (.str q t)
def ahV(F:Hp)(st:Stmt)(a:Addr)(vs:List V):Prop:=∃(u:HO) (q:Str) (cl:List (Str×Addr)) (doc pm ctv:Value) (c:Addr),
 F a=some (.lg (PySem.W.fnMade (defName st) q (fW st) (cD st) (aH st) cl doc pm c ctv) u)/\ac9 F c q/\cl.map (·.1)=freeOf st/\(cl.map (·.2)).Nodup/\pJ F cl vs
theorem aM.cells(e:aM F F'):∀{cl} {vs},pJ F cl vs->pJ F' cl vs
 |[],_,h=>h|(_,c)::r,_,⟨v,vs',h0,⟨o,u,w,h1,h2⟩,h3⟩=>⟨v,vs',h0,⟨o,u,w,e _ _ h1,h2⟩,aM.cells e h3⟩
def Mark(K:Fg)(st:Stmt)(a:Addr):Prop:=∃(n:Str) (p:Pos) (oc:Value) (od:Option Addr) (fd:FuncData) (sl:Array (Option Value)),st=.Global [n] p/\PySem.W.nsIn K mainGlobals n=some (some (.ref a))/\K.lookup a=some ⟨oc,od,.func fd,sl⟩
noncomputable def ae4(st:Stmt):Bool:=match st with
 |.Global _ _=>true|_=>false
def Clo(K:Fg)(F:Hp)(st:Stmt)(a:Addr)(vs:List V):Prop:=ahV F st a vs/\ae4 st=false\/Mark K st a
theorem aM.clo{K:Fg}{st:Stmt}(e:aM F F')(h:Clo K F st a vs):Clo K F' st a vs:=by
 rcases h with ⟨h,hg⟩|h;rotate_left;exact .inr h;refine .inl ⟨?_,hg⟩;obtain⟨u,q,cl,doc,pm,ctv,c,h1,⟨o,u2,ws,t,h2,h3⟩,h4,h5,h6⟩:=h;exact⟨u,q,cl,doc,pm,ctv,c,e _ _ h1,⟨o,u2,ws,t,e _ _ h2,h3⟩,h4,h5,aM.cells e h6⟩
mutual
noncomputable def Rep(K:Fg)(F:Hp):D->V->Prop
 |.non,v=>v=.non|.bl b,v=>v=.bl b|.int i,v=>v=.int i|.str x,v=>v=.str (strOf x)/\x.length<=sizeLine|.tup xs,v=>xs.length<=sizeLine/\∃a vs,v=.ref a/\lG K F a vs/\bK K F xs vs|.lst xs,v=>xs.length<=sizeLine/\∃a vs,v=.ref a/\F a=some (.lst vs)/\bK K F xs vs|.arr xs,v=>xs.length<=sizeLine/\∃a vs,v=.ref a/\oR K F a vs/\bK K F xs vs|.dct kvs,v=>kvs.length<=sizeLine/\∃a ks,v=.ref a/\Rd F a (.dK ks)/\dM K F kvs ks|.gR kvs,v=>kvs.length<=sizeLine/\∃a ks,v=.ref a/\Rd F a (.dN ks)/\dq K F kvs ks|.clo st ds,v=>∃a vs,v=.ref a/\Clo K F st a vs/\bK K F ds vs
noncomputable def bK(K:Fg)(F:Hp):List D->List V->Prop
 |[],vs=>vs=[]|d::ds,vs=>∃v r,vs=v::r/\Rep K F d v/\bK K F ds r
noncomputable def dM(K:Fg)(F:Hp):List (D×D)->List (Key×V)->Prop
 |[],vs=>vs=[]|(k,d)::ds,vs=>∃q v r,vs=(q,v)::r/\rO k=some q/\Rep K F d v/\dM K F ds r
noncomputable def dq(K:Fg)(F:Hp):List (D×D)->List (NK×V×V)->Prop
 |[],vs=>vs=[]|(k,d)::ds,vs=>∃q u v r,vs=(q,u,v)::r/\pU k=some q/\q.dep<=8/\Rep K F k u/\Rep K F d v/\dq K F ds r
end
theorem aM.rd(e:aM F F')(h:Rd F a u):Rd F' a u:=by
 rcases h with h|⟨o,h⟩;exact .inl<|e _ _ h;exact .inr ⟨o,e _ _ h⟩
theorem aM.tupK{K:Fg}(e:aM F F')(h:lG K F a xs):lG K F' a xs:=by
 rcases h with h|h;exact .inl<|aM.rd e h;exact .inr h
mutual
theorem Rep.mono{K:Fg}{F F':Hp}(e:aM F F'):∀(d:D) (v:V),Rep K F d v->Rep K F' d v
 |.non,_,h=>h|.bl _,_,h=>h|.int _,_,h=>h|.str _,_,h=>h
 |.tup xs,v,h=>by
  obtain⟨z,a,vs,rfl,h1,h2⟩:=h;exact⟨z,a,vs,rfl,aM.tupK e h1,bK.mono e xs vs h2⟩
 |.lst xs,v,h=>by
  obtain⟨z,a,vs,rfl,h1,h2⟩:=h;exact⟨z,a,vs,rfl,e _ _ h1,bK.mono e xs vs h2⟩
 |.arr xs,v,h=>by
  obtain⟨z,a,vs,rfl,h1,h2⟩:=h;exact⟨z,a,vs,rfl,e.seq h1,bK.mono e xs vs h2⟩
 |.dct kvs,v,h=>by
  obtain⟨z,a,ks,rfl,h1,h2⟩:=h;exact⟨z,a,ks,rfl,aM.rd e h1,dM.mono e kvs ks h2⟩
 |.gR kvs,v,h=>by
  obtain⟨z,a,ks,rfl,h1,h2⟩:=h;exact⟨z,a,ks,rfl,aM.rd e h1,dq.mono e kvs ks h2⟩
 |.clo st ds,v,h=>by
  obtain⟨a,vs,rfl,h1,h2⟩:=h;exact⟨a,vs,rfl,aM.clo e h1,bK.mono e ds vs h2⟩
theorem bK.mono{K:Fg}{F F':Hp}(e:aM F F'):∀(ds:List D) (vs:List V),bK K F ds vs->bK K F' ds vs
 |[],_,h=>h
 |d::ds,vs,h=>by
  obtain⟨v,r,rfl,h1,h2⟩:=h;exact⟨v,r,rfl,Rep.mono e d v h1,bK.mono e ds r h2⟩
theorem dM.mono{K:Fg}{F F':Hp}(e:aM F F'):∀(ds:List (D×D)) (vs:List (Key×V)),dM K F ds vs->dM K F' ds vs
 |[],_,h=>h
 |(k,d)::ds,vs,h=>by
  obtain⟨q,v,r,rfl,h0,h1,h2⟩:=h;exact⟨q,v,r,rfl,h0,Rep.mono e d v h1,dM.mono e ds r h2⟩
theorem dq.mono{K:Fg}{F F':Hp}(e:aM F F'):∀(ds:List (D×D)) (vs:List (NK×V×V)),dq K F ds vs->dq K F' ds vs
 |[],_,h=>h
 |(k,d)::ds,vs,h=>by
  obtain⟨q,u,v,r,rfl,h0,h3,h4,h1,h2⟩:=h;exact⟨q,u,v,r,rfl,h0,h3,Rep.mono e k u h4,Rep.mono e d v h1,dq.mono e ds r h2⟩
end
theorem bK.length{K:Fg}:∀{ds} {vs},bK K F ds vs->vs.length=ds.length
 |[],_,h=>by cases h;rfl
 |d::ds,vs,h=>by
  obtain⟨v,r,rfl,_,h2⟩:=h;rw[Qqw,Qqw,h2.length]
theorem bK.get{K:Fg}:∀{ds} {vs} {i:Nat} {d},bK K F ds vs->ds[i]?=some d->∃v,vs[i]?=some v/\Rep K F d v
 |[],_,_,_,_,e=>by simp at e
 |c::ds,vs,i,d,h,e=>by
  obtain⟨v,r,rfl,h1,h2⟩:=h;cases i with
  |zero=>simp at e;subst e;exact⟨v,rfl,h1⟩|succ i=>obtain⟨u,e1,e2⟩:=bK.get h2 (by simpa using e);exact⟨u,by simpa using e1,e2⟩
theorem bK.append{K:Fg}:∀{ds es} {vs ws},bK K F ds vs->bK K F es ws->bK K F (ds++es) (vs++ws)
 |[],es,vs,ws,h,g=>by cases h;exact g
 |d::ds,es,vs,ws,h,g=>by
  obtain⟨v,r,rfl,h1,h2⟩:=h;exact⟨v,r++ws,rfl,h1,bK.append h2 g⟩
theorem bK.drop{K:Fg}:∀n {ds} {vs},bK K F ds vs->bK K F (ds.drop n) (vs.drop n)
 |0,_,_,h=>h|_+1,[],_,h=>by cases h;exact rfl
 |n+1,d::ds,vs,h=>by
  obtain⟨v,r,rfl,_,h2⟩:=h;exact bK.drop n h2
theorem bK.take{K:Fg}:∀n {ds} {vs},bK K F ds vs->bK K F (ds.take n) (vs.take n)
 |0,_,_,_=>rfl|_+1,[],_,h=>by cases h;exact rfl
 |n+1,d::ds,vs,h=>by
  obtain⟨v,r,rfl,h1,h2⟩:=h;exact⟨v,r.take n,rfl,h1,bK.take n h2⟩
theorem bK.set{K:Fg}(hd:Rep K F d v):∀i {ds} {vs},bK K F ds vs->bK K F (ds.set i d) (vs.set i v)
 |_,[],_,h=>by cases h;exact rfl
 |0,c::ds,vs,h=>by
  obtain⟨u,r,rfl,_,h2⟩:=h;exact⟨v,r,rfl,hd,h2⟩
 |i+1,c::ds,vs,h=>by
  obtain⟨u,r,rfl,h1,h2⟩:=h;exact⟨u,r.set i v,rfl,h1,bK.set hd i h2⟩
theorem bK.one{K:Fg}(h:Rep K F d v):bK K F [d] [v]:=⟨v,[],rfl,h,rfl⟩
abbrev Env:=List (Option (Bool×D))
inductive R (α:Type) where
 |ok (a:α) (env:Env)|stuck
abbrev Ev:=Env->R D
abbrev gh:=Env->R Bool
abbrev dZ:=Env->R (List D)
structure Cfg where
 K:Fg
 fx:Nat->Option Addr
def jT(K:Fg)(F H:Hp):D->Addr->Prop
 |.lst xs,a=>xs.length<=sizeLine/\∃vs,H a=some (.lst vs)/\bK K F xs vs|.dct kvs,a=>kvs.length<=sizeLine/\∃ks,H a=some (.dK ks)/\dM K F kvs ks|.gR kvs,a=>kvs.length<=sizeLine/\∃ks,H a=some (.dN ks)/\dq K F kvs ks|_,_=>False
theorem jT.mono{K:Fg}(e:aM F F')(k:H' a=H a)(h:jT K F H d a):jT K F' H' d a:=by
 cases d with
 |lst xs=>obtain⟨z,vs,h1,h2⟩:=h;exact⟨z,vs,k.trans h1,bK.mono e _ _ h2⟩|dct kvs=>obtain⟨z,ks,h1,h2⟩:=h;exact⟨z,ks,k.trans h1,dM.mono e _ _ h2⟩|gR kvs=>obtain⟨z,ks,h1,h2⟩:=h;exact⟨z,ks,k.trans h1,dq.mono e _ _ h2⟩|_=>exact h
theorem jT.some{K:Fg}(h:jT K F H d a):∃o,H a=some o:=by
 cases d with
 |lst xs=>obtain⟨z,vs,h1,h2⟩:=h;exact⟨_,h1⟩|dct kvs=>obtain⟨z,ks,h1,h2⟩:=h;exact⟨_,h1⟩|gR kvs=>obtain⟨z,ks,h1,h2⟩:=h;exact⟨_,h1⟩|_=>exact h.elim
def ie(K:Fg)(F H:Hp)(d:D)(v:V):Prop:=Rep K F d v\/∃a,v=.ref a/\jT K F H d a
theorem ie.rep{K:Fg}(s:aM F H)(h:ie K F H d v):Rep K H d v:=by
 rcases h with h|⟨a,rfl,h⟩;exact Rep.mono s d v h;cases d with
 |lst xs=>obtain⟨z,vs,h1,h2⟩:=h;exact⟨z,a,vs,rfl,h1,bK.mono s _ _ h2⟩|dct kvs=>obtain⟨z,ks,h1,h2⟩:=h;exact⟨z,a,ks,rfl,.inl h1,dM.mono s _ _ h2⟩|gR kvs=>obtain⟨z,ks,h1,h2⟩:=h;exact⟨z,a,ks,rfl,.inl h1,dq.mono s _ _ h2⟩|_=>exact h.elim
theorem ie.lst{K:Fg}(s:aM F H)(h:ie K F H (.lst xs) v):xs.length<=sizeLine/\∃a vs,v=.ref a/\H a=some (.lst vs)/\bK K F xs vs:=by
 rcases h with ⟨z,a,vs,rfl,h1,h2⟩|⟨a,rfl,z,vs,h1,h2⟩;exact⟨z,a,vs,rfl,s _ _ h1,h2⟩;exact⟨z,a,vs,rfl,h1,h2⟩
theorem ie.arr{K:Fg}(s:aM F H)(h:ie K F H (.arr xs) v):xs.length<=sizeLine/\∃a vs,v=.ref a/\oR K H a vs/\bK K F xs vs:=by
 rcases h with ⟨z,a,vs,rfl,h1,h2⟩|⟨a,rfl,h⟩;exact⟨z,a,vs,rfl,s.seq h1,h2⟩;exact h.elim
theorem ie.tup{K:Fg}(s:aM F H)(h:ie K F H (.tup xs) v):xs.length<=sizeLine/\∃a vs,v=.ref a/\lG K H a vs/\lG K F a vs/\bK K F xs vs:=by
 rcases h with ⟨z,a,vs,rfl,h1,h2⟩|⟨a,rfl,h⟩;exact⟨z,a,vs,rfl,aM.tupK s h1,h1,h2⟩;exact h.elim
theorem ie.int{K:Fg}(h:ie K F H (.int i) v):v=.int i:=by
 rcases h with h|⟨a,rfl,h⟩;exact h;exact h.elim
theorem ie.bl{K:Fg}(h:ie K F H (.bl i) v):v=.bl i:=by
 rcases h with h|⟨a,rfl,h⟩;exact h;exact h.elim
theorem ie.non{K:Fg}(h:ie K F H .non v):v=.non:=by
 rcases h with h|⟨a,rfl,h⟩;exact h;exact h.elim
theorem ie.str{K:Fg}(h:ie K F H (.str x) v):v=.str (strOf x)/\x.length<=sizeLine:=by
 rcases h with h|⟨a,rfl,h⟩;exact h;exact h.elim
structure Rel(C:Cfg)(Pr F:Hp)(env:Env)(σ:L2.St)(H:Hp):Prop where
 pr:aM Pr H
 fr:aM F H
 len:env.length=σ.length
 val:∀(i:Nat) (d:D),env[i]?=some (some (false,d))->∃v,σ[i]?=some (some v)/\Rep C.K F d v
 own:∀(i:Nat) (d:D),env[i]?=some (some (true,d))->∃a,σ[i]?=some (some (V.ref a))/\jT C.K F H d a/\F a=none/\Pr a=none
 apart:∀(i j:Nat) (d e:D) (a:Addr),env[i]?=some (some (true,d))->env[j]?=some (some (true,e))->σ[i]?=some (some (V.ref a))->σ[j]?=some (some (V.ref a))->i=j
 dj:∀b o,F b=some o->Pr b=none
 fix:∀i a,C.fx i=some a->σ[i]?=some (some (V.ref a))
theorem HJ(h:upd H a o b=none):H b=none:=by
 by_cases hb:b=a;subst hb;rw[aU] at h;cases h;rw[bj hb] at h;exact h
theorem lW(h:H a=none):aM H (upd H a o):=λb u e=>by
 rw[bj (cW e h)];exact e
theorem Rel.new(r:Rel C Pr F env σ H)(h:H a=none):Rel C Pr (upd F a o) env σ (upd H a o)/\aM F (upd F a o):=by
 have hF:=r.fr.free h;have s1:aM F (upd F a o):=lW hF;refine⟨⟨r.pr.trans<|lW h,λb u e=>?_,r.len,λi d e1=>?_,λi d e1=>?_,r.apart,λb u e=>?_,r.fix⟩,s1⟩;by_cases hb:b=a;subst hb;rw[aU] at e ⊢;exact e;rw[bj hb] at e ⊢;exact r.fr b u e;obtain⟨v,h1,h2⟩:=r.val i d e1;exact⟨v,h1,Rep.mono s1 d v h2⟩;obtain⟨b,h1,h2,h3,h4⟩:=r.own i d e1;obtain⟨u,hu⟩:=h2.some;have hb:=cW hu h;exact⟨b,h1,h2.mono s1<|bj hb,by rw[bj hb];exact h3,h4⟩;by_cases hb:b=a;subst hb;exact r.pr.free h;rw[bj hb] at e;exact r.dj b u e
theorem Rel.fresh(r:Rel C Pr F env σ H)(h:H a=none):Rel C Pr F env σ (upd H a o):=by refine⟨r.pr.trans<|lW h,r.fr.trans<|lW h,r.len,r.val,λi d e1=>?_,r.apart,r.dj,r.fix⟩;obtain⟨b,h1,h2,h3,h4⟩:=r.own i d e1;obtain⟨u,hu⟩:=h2.some;have hb:=cW hu h;exact⟨b,h1,h2.mono (aM.refl F)<|bj hb,h3,h4⟩
theorem Rel.aside(r:Rel C Pr F env σ H)(h:H a=none):Rel C (upd Pr a o) F env σ (upd H a o):=by
 have r':=r.fresh (o:=o) h;have hF:=r.fr.free h;refine⟨λb u e=>?_,r'.fr,r.len,r.val,λi d e1=>?_,r.apart,λb u e=>?_,r.fix⟩;by_cases hb:b=a;subst hb;rw[aU] at e ⊢;exact e;rw[bj hb] at e ⊢;exact r.pr b u e;obtain⟨b,h1,h2,h3,h4⟩:=r'.own i d e1;obtain⟨b',h1',h2',_⟩:=r.own i d e1;rw[h1] at h1';cases h1';obtain⟨u,hu⟩:=h2'.some;have hb:=cW hu h;exact⟨b,h1,h2,h3,by rw[bj hb];exact h4⟩;have hb:b≠a:=λz=>by rw[z,hF] at e;cases e
 rw[bj hb];exact r.dj b u e
theorem Rel.turn(r:Rel C Pr F env σ H)(h:Pr a=some o):Rel C (upd Pr a u) F env σ (upd H a u):=by
 have hF:F a=none:=by
  cases e:F a with
  |none=>rfl|some w=>have:=r.dj a w e;rw[h] at this;cases this
 refine⟨λb w e=>?_,λb w e=>?_,r.len,r.val,λi d e1=>?_,r.apart,λb w e=>?_,r.fix⟩;by_cases hb:b=a;subst hb;rw[aU] at e ⊢;exact e;rw[bj hb] at e ⊢;exact r.pr b w e;have hb:b≠a:=λz=>by rw[z,hF] at e;cases e
 rw[bj hb];exact r.fr b w e;obtain⟨b,h1,h2,h3,h4⟩:=r.own i d e1;have hb:b≠a:=λz=>by rw[z,h] at h4;cases h4
 exact⟨b,h1,h2.mono (aM.refl F)<|bj hb,h3,by rw[bj hb];exact h4⟩;have hb:b≠a:=λz=>by rw[z,hF] at e;cases e
 rw[bj hb];exact r.dj b w e
theorem Rel.less(r:Rel C Pr F env σ H)(s:aM Pr' Pr):Rel C Pr' F env σ H:=
 ⟨s.trans r.pr,r.fr,r.len,r.val,λi d e=>let ⟨b,h1,h2,h3,h4⟩:=r.own i d e;⟨b,h1,h2,h3,s.free h4⟩,r.apart,λb o e=>s.free<|r.dj b o e,r.fix⟩
theorem Rel.freeze(r:Rel C Pr F env σ H)(h:env[i]?=some (some (true,d))) :
  ∃F' v,Rel C Pr F' (env.set i (some (false,d))) σ H/\aM F F'/\σ[i]?=some (some v)/\Rep C.K F' d v:=by
 obtain⟨a,h1,h2,h3,h4⟩:=r.own i d h;obtain⟨o,ho⟩:=h2.some;have s1:aM F (upd F a o):=lW h3;have hi:=(Qqy.mp h).1;have rep:Rep C.K (upd F a o) d (.ref a):=by
  cases d with
  |lst xs=>obtain⟨z,vs,g1,g2⟩:=h2;rw[ho] at g1;cases g1;exact⟨z,a,vs,rfl,aU,bK.mono s1 _ _ g2⟩|dct kvs=>obtain⟨z,ks,g1,g2⟩:=h2;rw[ho] at g1;cases g1;exact⟨z,a,ks,rfl,.inl aU,dM.mono s1 _ _ g2⟩|gR kvs=>obtain⟨z,ks,g1,g2⟩:=h2;rw[ho] at g1;cases g1;exact⟨z,a,ks,rfl,.inl aU,dq.mono s1 _ _ g2⟩|_=>exact h2.elim
 refine⟨upd F a o,.ref a,⟨r.pr,λb u e=>?_,by rw[Qx6];exact r.len,λj e he=>?_,λj e he=>?_,λj k e f b hj hk g1 g2=>?_,λb u e=>?_,r.fix⟩,s1,h1,rep⟩;by_cases hb:b=a;subst hb;rw[aU] at e;cases e;exact ho;rw[bj hb] at e;exact r.fr b u e;by_cases hj:j=i;subst hj;rw[Qw0 hi] at he;cases he;exact⟨_,h1,rep⟩;rw[Qq8 (Ne.symm hj)] at he;obtain⟨v,g1,g2⟩:=r.val j e he;exact⟨v,g1,Rep.mono s1 e v g2⟩;by_cases hj:j=i;subst hj;rw[Qw0 hi] at he;cases he;rw[Qq8 (Ne.symm hj)] at he;obtain⟨b,g1,g2,g3,g4⟩:=r.own j e he;have hb:b≠a:=λz=>hj<|r.apart j i e d a he h (by rw[<-z];exact g1) h1;exact⟨b,g1,g2.mono s1 rfl,by rw[bj hb];exact g3,g4⟩;have nj:j≠i:=λz=>by subst z;rw[Qw0 hi] at hj;cases hj
 have nk:k≠i:=λz=>by subst z;rw[Qw0 hi] at hk;cases hk
 rw[Qq8 (Ne.symm nj)] at hj;rw[Qq8 (Ne.symm nk)] at hk;exact r.apart j k e f b hj hk g1 g2;by_cases hb:b=a;subst hb;exact h4;rw[bj hb] at e;exact r.dj b u e
def tE(C:Cfg)(ev:Ev):TE:=λσ H Q=>∃(Pr F:Hp) (env env':Env) (d:D),Rel C Pr F env σ H/\ev env=.ok d env'/\
 ∀v H' F',Rel C Pr F' env' σ H'->aM F F'->Rep C.K F' d v->Q v H'
def tRd(C:Cfg)(ev:Ev):TE:=λσ H Q=>∃(Pr F:Hp) (env env':Env) (d:D),Rel C Pr F env σ H/\ev env=.ok d env'/\
 ∀v H' F',Rel C Pr F' env' σ H'->aM F F'->ie C.K F' H' d v->Q v H'
def tT(C:Cfg)(ev:gh):TT:=λσ H Q=>∃(Pr F:Hp) (env env':Env) (b:Bool),Rel C Pr F env σ H/\ev env=.ok b env'/\
 ∀H' F',Rel C Pr F' env' σ H'->aM F F'->Q b H'
def tA(C:Cfg)(ev:dZ):TA:=λσ H Q=>∃(Pr F:Hp) (env env':Env) (ds:List D),Rel C Pr F env σ H/\ev env=.ok ds env'/\
 ∀vs H' F',Rel C Pr F' env' σ H'->aM F F'->bK C.K F' ds vs->Q vs H'
def PX(X:Cx)(C:Cfg)(e:Expr)(ev:Ev):Prop:=PE X e (tE C ev)
def Vj(X:Cx)(C:Cfg)(e:Expr)(ev:Ev):Prop:=PE X e (tRd C ev)
def PXT(X:Cx)(C:Cfg)(e:Expr)(ev:gh):Prop:=PT X e (tT C ev)
def Vk(X:Cx)(C:Cfg)(es:List Expr)(ev:dZ):Prop:=PA X es (tA C ev)
theorem _root_.L2.PE.imp{X:Cx}{e:Expr}{t t':TE}(h:PE X e t)(i:∀σ H Q,t' σ H Q->t σ H Q):PE X e t':=λpins s σ H Q I q=>h pins s σ H Q I<|i σ H Q q
theorem _root_.L2.PT.imp{X:Cx}{e:Expr}{t t':TT}(h:PT X e t)(i:∀σ H Q,t' σ H Q->t σ H Q):PT X e t':=λpins s σ H Q I q=>h pins s σ H Q I<|i σ H Q q
theorem _root_.L2.PW.imp{X:Cx}{e:Expr}{t t':TT}(h:PW X e t)(i:∀σ H Q,t' σ H Q->t σ H Q):PW X e t':=λwhole pins s σ H Q I q=>h whole pins s σ H Q I<|i σ H Q q
theorem _root_.L2.PA.imp{X:Cx}{e:List Expr}{t t':TA}(h:PA X e t)(i:∀σ H Q,t' σ H Q->t σ H Q):PA X e t':=λpos pins s σ H Q I q=>h pos pins s σ H Q I<|i σ H Q q
theorem _root_.L2.PS.imp{X:Cx}{e:Stmt}{t t':TS}(h:PS X e t)(i:∀D σ H,t' D σ H->t D σ H):PS X e t':=λpins s σ H D I q=>h pins s σ H D I<|i D σ H q
theorem _root_.L2.Gp.imp{X:Cx}{e:List Stmt}{t t':TS}(h:Gp X e t)(i:∀D σ H,t' D σ H->t D σ H):Gp X e t':=λpins s σ H D I q=>h pins s σ H D I<|i D σ H q
noncomputable def bindR{α β:Type}(x:R α)(f:α->Env->R β):R β:=match x with
 |.ok a env=>f a env|.stuck=>.stuck
noncomputable def iy{α:Type}(o:Option α)(env:Env):R α:=match o with
 |some a=>.ok a env|none=>.stuck
theorem aQ{α β:Type}{x:R α}{f:α->Env->R β}{b:β}(h:bindR x f=.ok b env'):∃a aJ,x=.ok a aJ/\f a aJ=.ok b env':=by
 cases x with
 |ok a aJ=>exact⟨a,aJ,rfl,h⟩|stuck=>cases h
theorem eZ{α:Type}{o:Option α}{a:α}(h:iy o env=.ok a env'):o=some a/\env'=env:=by
 cases o with
 |some b=>cases h;exact⟨rfl,rfl⟩|none=>cases h
section
variable{X:Cx}{C:Cfg}{pos:Pos}
noncomputable def aR(i:Nat):Ev:=λenv=>match env[i]? with
 |some (some (false,d))=>.ok d env|some (some (true,d))=>.ok d (env.set i (some (false,d)))|_=>.stuck
theorem aaG(i)(hN:X.N[i]?=some x)(hv:vM X.env.scope x)(hd:lK x:=by decide)(hcd:vJ x:=by decide):PX X C (.Name x pos) (aR i):=by
 refine(jb hN hv hd hcd).imp λσ H Q h=>?_;obtain⟨Pr,F,env,env',d,r,e,q⟩:=h;unfold aR at e;split at e;rename_i d' hd';cases e;obtain⟨v,h1,h2⟩:=r.val i d hd';exact⟨v,h1,q v H F r (aM.refl F) h2⟩;rename_i d' hd';cases e;obtain⟨F',v,r',s',h1,h2⟩:=r.freeze hd';exact⟨v,h1,q v H F' r' s' h2⟩;cases e
theorem PX.b(h:PX X C e ev):Vj X C e ev:=PE.imp h λσ H Q hq=>by
 obtain⟨Pr,F,env,env',d,r,e,q⟩:=hq;exact⟨Pr,F,env,env',d,r,e,λv H' F' r' s' p'=>q v H' F' r' s'<|.inl p'⟩
noncomputable def aZ(i:Nat):Ev:=λenv=>match env[i]? with
 |some (some (_,d))=>.ok d env|_=>.stuck
theorem Rel.rd(r:Rel C Pr F env σ H){i:Nat}(h:env[i]?=some (some (o,d))):∃v,σ[i]?=some (some v)/\ie C.K F H d v:=by
 cases o with
 |true=>obtain⟨a,h1,h2,_⟩:=r.own i d h;exact⟨_,h1,.inr ⟨a,rfl,h2⟩⟩|false=>obtain⟨v,h1,h2⟩:=r.val i d h;exact⟨v,h1,.inl h2⟩
theorem Wq(i)(hN:X.N[i]?=some x)(hv:vM X.env.scope x)(hd:lK x:=by decide)(hcd:vJ x:=by decide):Vj X C (.Name x pos) (aZ i):=by
 refine(jb hN hv hd hcd).imp λσ H Q h=>?_;obtain⟨Pr,F,env,env',d,r,e,q⟩:=h;unfold aZ at e;split at e;rename_i o' d' hd';cases e;obtain⟨v,h1,h2⟩:=r.rd hd';exact⟨v,h1,q v H F r (aM.refl F) h2⟩;cases e
noncomputable def jR(d:D):Ev:=λenv=>.ok d env
theorem aaL:PX X C (.Constant (.int i) j pos) (jR (.int i)):=Sy.imp λσ H Q h=>by
 obtain⟨Pr,F,env,env',d,r,e,q⟩:=h;cases e;exact q _ _ F r (aM.refl F) rfl
theorem aev:PX X C (.Constant (.bool b) j pos) (jR (.bl b)):=aeC.imp λσ H Q h=>by
 obtain⟨Pr,F,env,env',d,r,e,q⟩:=h;cases e;exact q _ _ F r (aM.refl F) rfl
theorem aaJ:PX X C (.Constant .none j pos) (jR .non):=aa8.imp λσ H Q h=>by
 obtain⟨Pr,F,env,env',d,r,e,q⟩:=h;cases e;exact q _ _ F r (aM.refl F) rfl
noncomputable def aj:dZ:=λenv=>.ok [] env
noncomputable def aa(a:Ev)(r:dZ):dZ:=λenv=>bindR (a env) λd aJ=>bindR (r aJ) λds dD=>.ok (d::ds) dD
theorem Mh:Vk X C [] aj:=wH.imp λσ H Q h=>by
 obtain⟨Pr,F,env,env',d,r,e,q⟩:=h;cases e;exact q _ _ F r (aM.refl F) rfl
theorem Ho(ha:PX X C e a)(hr:Vk X C es r)(hs:starEach (e::es) X.env=(false,eval e X.env)::starEach es X.env:=by rfl):Vk X C (e::es) (aa a r):=
 (iw ha hr hs).imp λσ H Q h=>by
  obtain⟨Pr,F,env,env',ds,rl,e,q⟩:=h;obtain⟨d1,aJ,e1,e2⟩:=aQ e;obtain⟨ds2,dD,e3,e4⟩:=aQ e2;cases e4;refine⟨Pr,F,env,aJ,d1,rl,e1,λv H1 F1 r1 s1 p1=>?_⟩;refine⟨Pr,F1,aJ,env',ds2,r1,e3,λvs H2 F2 r2 s2 p2=>?_⟩;exact q _ H2 F2 r2 (s1.trans s2) ⟨v,vs,rfl,Rep.mono s2 d1 v p1,p2⟩
noncomputable def bF(r:dZ):Ev:=λenv=>bindR (r env) λds aJ=>if ds.length<=sizeLine then .ok (.tup ds) aJ else .stuck
noncomputable def cM(r:dZ):Ev:=λenv=>bindR (r env) λds aJ=>if ds.length<=sizeLine then .ok (.lst ds) aJ else .stuck
noncomputable def aO(g:D->D->Option D)(a b:Ev):Ev:=λenv=>bindR (a env) λx aJ=>bindR (b aJ) λy dD=>iy (g x y) dD
noncomputable def PQ(g:D->Option D)(a:Ev):Ev:=λenv=>bindR (a env) λx aJ=>iy (g x) aJ
def pH(C:Cfg)(r:R2)(g:D->D->Option D):Prop:=∀(Pr F:Hp) (env:Env) (σ:L2.St) (H:Hp) (x y d:D) (vx vy:V) (Q:VK),Rel C Pr F env σ H->ie C.K F H x vx->ie C.K F H y vy->g x y=some d->
 (∀v H' F',Rel C Pr F' env σ H'->aM F F'->Rep C.K F' d v->Q v H')->r vx vy H Q
def UnD(C:Cfg)(r:V->Hp->VK->Prop)(g:D->Option D):Prop:=∀(Pr F:Hp) (env:Env) (σ:L2.St) (H:Hp) (x d:D) (vx:V) (Q:VK),Rel C Pr F env σ H->ie C.K F H x vx->g x=some d->
 (∀v H' F',Rel C Pr F' env σ H'->aM F F'->Rep C.K F' d v->Q v H')->r vx H Q
theorem FZ(o:pH C r g)(σ)(H)(Q)(h:tE C (aO g a b) σ H Q):VP r (tE C a) (tRd C b) σ H Q:=by obtain⟨Pr,F,env,env',d,rl,e,q⟩:=h;obtain⟨x,aJ,e1,e2⟩:=aQ e;obtain⟨y,dD,e3,e4⟩:=aQ e2;obtain⟨e5,rfl⟩:=eZ e4;refine⟨Pr,F,env,aJ,x,rl,e1,λvx H1 F1 r1 s1 p1=>⟨Pr,F1,aJ,env',y,r1,e3,λvy H2 F2 r2 s2 p2=>?_⟩⟩;exact o Pr F2 env' σ H2 x y d vx vy Q r2 (.inl<|Rep.mono s2 x vx p1) p2 e5 λv H3 F3 r3 s3 p3=>q v H3 F3 r3 ((s1.trans s2).trans s3) p3
noncomputable def aB(g:D->D->Option D)(i:Nat)(b:Ev):Ev:=λenv=>match env[i]? with
 |some (some (_,_))=>bindR (b env) λy dD=>(match dD[i]? with
  |some (some (_,x))=>iy (g x y) dD|_=>.stuck)
 |_=>.stuck
theorem rM(o:pH C r g)(σ)(H)(Q)(h:tE C (aB g i b) σ H Q):VP r (VN i) (tRd C b) σ H Q:=by
 obtain⟨Pr,F,env,env',d,rl,e,q⟩:=h;unfold aB at e;split at e;rename_i o0 d0 h0;obtain⟨v,hv,_⟩:=rl.rd h0;obtain⟨y,dD,e1,e2⟩:=aQ e;split at e2;rename_i o2 x h2;obtain⟨e5,rfl⟩:=eZ e2;refine⟨v,hv,Pr,F,env,env',y,rl,e1,λvy H2 F2 r2 s2 p2=>?_⟩;obtain⟨v',hv',p⟩:=r2.rd h2;rw[hv] at hv';cases hv';exact o Pr F2 env' σ H2 x y d v vy Q r2 p p2 e5 λv H3 F3 r3 s3 p3=>q v H3 F3 r3 (s2.trans s3) p3;cases e2;cases e
theorem aer(ho:mG X (binaryOp op) r)(o:pH C r g)(ha:PX X C x a)(hb:Vj X C y b):PX X C (.BinOp x op y pos) (aO g a b):=
 (Za ho ha hb).imp (FZ o)
theorem aaI{px:Pos}(i)(hN:X.N[i]?=some x)(hv:vM X.env.scope x)(ho:mG X (binaryOp op) r)(o:pH C r g)(hb:Vj X C y b)
  (hd:lK x:=by decide) (hcd:vJ x:=by decide):PX X C (.BinOp (.Name x px) op y pos) (aB g i b):=
 (Za ho (jb hN hv hd hcd) hb).imp (rM o)
theorem aaN(ho:mG X (compareOp op) r)(o:pH C r g)(ha:PX X C x a)(hb:Vj X C y b)(hm:behindInMarks op y=false):PX X C (.Compare x [op] [y] pos) (aO g a b):=
 (Mr ho ha hb hm).imp (FZ o)
theorem aep(ho:UnR X (unaryOp op) r)(o:UnD C r g)(ha:PX X C x a):PX X C (.UnaryOp op x pos) (PQ g a):=
 (Y9 ho ha).imp λσ H Q h=>by
  obtain⟨Pr,F,env,env',d,rl,e,q⟩:=h;obtain⟨x,aJ,e1,e2⟩:=aQ e;obtain⟨e3,rfl⟩:=eZ e2;exact⟨Pr,F,env,env',x,rl,e1,λvx H1 F1 r1 s1 p1=>o Pr F1 env' σ H1 x d vx Q r1 (.inl p1) e3 λv H3 F3 r3 s3 p3=>q v H3 F3 r3 (s1.trans s3) p3⟩
noncomputable def fL(a:Ev):gh:=λenv=>bindR (a env) λd aJ=>match d with
 |.bl b=>.ok b aJ|_=>.stuck
theorem Ly(h:tT C (fL a) σ H Q):tE C a σ H λx H'=>∃k,x=.bl k/\Q k H':=by
 obtain⟨Pr,F,env,env',b,rl,e,q⟩:=h;obtain⟨d,aJ,e1,e2⟩:=aQ e;refine⟨Pr,F,env,aJ,d,rl,e1,λv H1 F1 r1 s1 p1=>?_⟩;cases d with
 |bl c=>cases e2;exact⟨_,p1,q H1 F1 r1 s1⟩|_=>cases e2
theorem Wg(ho:mG X (compareOp op) r)(o:pH C r g)(ha:PX X C x a)(hb:Vj X C y b)(hm:behindInMarks op y=false):PXT X C (.Compare x [op] [y] pos) (fL (aO g a b)):=
 (Ml ho ha hb hm).imp λσ H Q h=>by
  have h1:=Ly h;exact FZ o σ H _ h1
noncomputable def zY(a:gh):gh:=λenv=>bindR (a env) λb aJ=>.ok (!b) aJ
noncomputable def mD(a b:gh):gh:=λenv=>bindR (a env) λc aJ=>if c=true then b aJ else .ok false aJ
noncomputable def rY(a b:gh):gh:=λenv=>bindR (a env) λc aJ=>if c=true then .ok true aJ else b aJ
def PXW(X:Cx)(C:Cfg)(e:Expr)(ev:gh):Prop:=PW X e (tT C ev)
theorem PXW.pt(h:PXW X C e a):PXT X C e a:=PW.pt h
noncomputable def z8(a b:Ev):Ev:=λenv=>bindR (a env) λc aJ=>match c with
 |.bl true=>b aJ|.bl false=>.ok (.bl false) aJ|_=>.stuck
noncomputable def pP(a b:Ev):Ev:=λenv=>bindR (a env) λc aJ=>match c with
 |.bl true=>.ok (.bl true) aJ|.bl false=>b aJ|_=>.stuck
noncomputable def ZL(a:Ev):Ev:=λenv=>bindR (a env) λc aJ=>match c with
 |.bl b=>.ok (.bl (!b)) aJ|_=>.stuck
noncomputable def afq(t:gh)(a b:Ev):Ev:=λenv=>bindR (t env) λc aJ=>if c=true then a aJ else b aJ
end
noncomputable def vK(f:D->D->Option Bool):List D->List D->Option Bool
 |[],[]=>some true
 |x::xs,y::ys=>match f x y,vK f xs ys with
  |some a,some b=>some (a&&b)|_,_=>none
 |[],_::_=>some false|_::_,[]=>some false
noncomputable def bh:Nat->D->D->Option Bool
 |0,_,_=>none|n+1,.tup xs,.tup ys=>vK (bh n) xs ys|n+1,.lst xs,.lst ys=>vK (bh n) xs ys|_+1,.dct _,_=>none|_+1,.gR _,_=>none|_+1,.clo _ _,_=>none|_+1,_,.dct _=>none|_+1,_,.gR _=>none|_+1,_,.clo _ _=>none|_+1,.arr _,_=>none|_+1,_,.arr _=>none|_+1,.non,.non=>some true|_+1,.bl a,.bl b=>some (a == b)|_+1,.bl a,.int b=>some ((if a then 1 else 0) == b)|_+1,.int a,.bl b=>some (a == (if b then 1 else 0))|_+1,.int a,.int b=>some (a == b)|_+1,.str a,.str b=>some (a == b)|_+1,_,_=>some false
mutual
noncomputable def Sh(h:Heap):D->Value->Prop
 |.non,u=>u=.none|.bl b,u=>u=.bool b|.int i,u=>∃t,u=.int i t|.str x,u=>∃t,u=.str (strOf x) t|.tup xs,u=>∃a its,u=.ref a/\IsTup h a its.toArray/\mF h xs its|.lst xs,u=>∃a its,u=.ref a/\PlainL h a its.toArray/\mF h xs its|.arr xs,u=>∃a its,u=.ref a/\PlainL h a its.toArray/\mF h xs its|.dct _,u=>∃a o,u=.ref a/\h.get? a=some o/\o.ExactDict|.gR _,u=>∃a o,u=.ref a/\h.get? a=some o/\o.ExactDict|.clo _ _,u=>∃a,u=.ref a
noncomputable def mF(h:Heap):List D->List Value->Prop
 |[],us=>us=[]|d::ds,us=>∃u r,us=u::r/\Sh h d u/\mF h ds r
end
theorem mF.length:∀{ds} {us},mF h ds us->us.length=ds.length
 |[],_,e=>by cases e;rfl|d::ds,us,e=>by obtain⟨u,r,rfl,_,h2⟩:=e;rw[Qqw,Qqw,h2.length]
section
variable{X:Cx}{pins:List (Addr×Obj)}{σ:L2.St}{H:Hp}{s:Shared}
mutual
theorem Rep.sh(I:Inv X pins σ H s):∀(d:D) (v:V) (u:Value),Rep X.K H d v->RelV v u->Sh s.heap d u
 |.non,_,_,h,r=>by cases h;exact r|.bl _,_,_,h,r=>by cases h;exact r|.int _,_,_,h,r=>by cases h;exact r|.str _,_,_,h,r=>by obtain⟨h,_⟩:=h;cases h;exact r
 |.tup xs,v,u,h,r=>by
  obtain⟨z,a,vs,rfl,h1,h2⟩:=h;cases r;obtain⟨its,rv,p,_⟩:=I.tuple h1;exact⟨a,its,rfl,p,bK.sh I xs vs its h2 rv⟩
 |.lst xs,v,u,h,r=>by
  obtain⟨z,a,vs,rfl,h1,h2⟩:=h;cases r;obtain⟨its,rv,p,_⟩:=I.list (oR.of h1);exact⟨a,its,rfl,p,bK.sh I xs vs its h2 rv⟩
 |.arr xs,v,u,h,r=>by
  obtain⟨z,a,vs,rfl,h1,h2⟩:=h;cases r;obtain⟨its,rv,p,_⟩:=I.list h1;exact⟨a,its,rfl,p,bK.sh I xs vs its h2 rv⟩
 |.dct kvs,v,u,h,r=>by
  obtain⟨z,a,ks,rfl,h1,h2⟩:=h;cases r;obtain⟨_,_,vs,_,o,_,_,e,ex,_⟩:=h1.ok I.hok;exact⟨a,o,rfl,e,ex⟩
 |.gR kvs,v,u,h,r=>by
  obtain⟨z,a,ks,rfl,h1,h2⟩:=h;cases r;obtain⟨_,_,vs,_,o,_,_,e,ex,_⟩:=h1.ok I.hok;exact⟨a,o,rfl,e,ex⟩
 |.clo st ds,v,u,h,r=>by
  obtain⟨a,vs,rfl,h1,h2⟩:=h;cases r;exact⟨a,rfl⟩
theorem bK.sh(I:Inv X pins σ H s):∀(ds:List D) (vs:List V) (us:List Value),bK X.K H ds vs->Vals vs us->mF s.heap ds us
 |[],_,_,h,r=>by cases h;cases r;exact rfl
 |d::ds,vs,us,h,r=>by
  obtain⟨v,rr,rfl,h1,h2⟩:=h;cases r with
  |cons q qs=>exact⟨_,_,rfl,Rep.sh I d v _ h1 q,bK.sh I ds rr _ h2 qs⟩
end
end
theorem Lx(p:IsTup h a xs)(q:IsTup h a ys):xs=ys:=by obtain⟨o,e,_,n,d⟩:=p;obtain⟨o',e',_,n',d'⟩:=q;rw[e] at e';cases e';rw[d] at d';cases d';rfl
theorem Mv(p:PlainL h a xs)(q:PlainL h a ys):xs=ys:=by obtain⟨o,e,_,n,d⟩:=p.isList;obtain⟨o',e',_,n',d'⟩:=q.isList;rw[e] at e';cases e';rw[d] at d';cases d';rfl
theorem yd(p:IsTup h a xs)(q:PlainL h a ys):False:=by obtain⟨o,e,c,n,d⟩:=p;obtain⟨o',e',c',n',d'⟩:=q.isList;rw[e] at e';cases e';rw[c] at c';simp at c'
theorem Aa:∀n d e u b,Sh h d u->Sh h e u->bh n d e=some b->b=true
 |0,_,_,_,_,_,_,hb=>by simp[bh] at hb
 |n+1,d,e,u,b,hd,he,hb=>by
  have all:∀xs ys us b,mF h xs us->mF h ys us->vK (bh n) xs ys=some b->b=true:=by
   intro xs
   induction xs with
   |nil=>
    intro ys us b h1 h2 hb;cases h1;cases ys with
    |nil=>simp[vK] at hb;exact hb|cons y ys=>obtain⟨u,r,q,_⟩:=h2;cases q
   |cons x xs ih=>
    intro ys us b h1 h2 hb;obtain⟨u,r,rfl,h3,h4⟩:=h1;cases ys with
    |nil=>cases h2
    |cons y ys=>
     obtain⟨u',r',q,h5,h6⟩:=h2;cases q;unfold vK at hb;cases q1:bh n x y with
     |none=>rw[q1] at hb;simp at hb
     |some c=>
      cases q2:vK (bh n) xs ys with
      |none=>rw[q1,q2] at hb;simp at hb|some c'=>rw[q1,q2] at hb;have e1:=Aa n x y u c h3 h5 q1;have e2:=ih ys r c' h4 h6 q2;subst e1 e2;simp at hb;exact hb
  cases d with
  |non=>cases hd;cases e<;>simp[Sh] at he;simp[bh] at hb;exact hb|bl c=>cases hd;cases e<;>simp[Sh] at he;subst he;simp[bh] at hb;exact hb|int i=>obtain⟨t,rfl⟩:=hd;cases e<;>simp[Sh] at he;subst he;simp[bh] at hb;exact hb
  |str x=>
   obtain⟨t,rfl⟩:=hd;cases e with
   |str y=>
    obtain⟨t',q⟩:=he;injection q with q1 _
    unfold strOf at q1;injection q1 with q2
    have q3:=Qw9 Array.toList q2;simp at q3;subst q3;simp[bh] at hb;exact hb
   |_=>simp[Sh] at he
  |tup xs=>
   obtain⟨a,its,rfl,p,hs⟩:=hd;cases e with
   |tup ys=>
    obtain⟨a',its',q,p',hs'⟩:=he;cases q;have e2:its=its':=by simpa using Lx p p'
    subst e2;exact all xs ys its b hs hs' (by simpa only[bh] using hb)
   |lst ys=>obtain⟨a',its',q,p',hs'⟩:=he;cases q;exact(yd p p').elim|dct kvs=>simp[bh] at hb|gR kvs=>simp[bh] at hb|clo _ _=>simp[bh] at hb|arr kvs=>simp[bh] at hb|_=>simp[Sh] at he
  |lst xs=>
   obtain⟨a,its,rfl,p,hs⟩:=hd;cases e with
   |lst ys=>
    obtain⟨a',its',q,p',hs'⟩:=he;cases q;have e2:its=its':=by simpa using Mv p p'
    subst e2;exact all xs ys its b hs hs' (by simpa only[bh] using hb)
   |tup ys=>obtain⟨a',its',q,p',hs'⟩:=he;cases q;exact(yd p' p).elim|dct kvs=>simp[bh] at hb|gR kvs=>simp[bh] at hb|clo _ _=>simp[bh] at hb|arr kvs=>simp[bh] at hb|_=>simp[Sh] at he
  |dct kvs=>cases e<;>simp[bh] at hb|gR kvs=>cases e<;>simp[bh] at hb|clo _ _=>cases e<;>simp[bh] at hb|arr kvs=>cases e<;>simp[bh] at hb
theorem Nf:∀n d d' e u b b',Sh h d u->Sh h d' u->bh n d e=some b->bh n d' e=some b'->b=b'
 |0,_,_,_,_,_,_,_,_,hb,_=>by simp[bh] at hb
 |n+1,d,d',e,u,b,b',hd,hd',hb,hb'=>by
  have all:∀xs xs' ys us b b',mF h xs us->mF h xs' us->vK (bh n) xs ys=some b->vK (bh n) xs' ys=some b'->b=b':=by
   intro xs
   induction xs with
   |nil=>
    intro xs' ys us b b' h1 h2 hb hb';cases h1;cases xs' with
    |nil=>rw[hb] at hb';exact Qw4 hb'|cons y ys=>obtain⟨u,r,q,_⟩:=h2;cases q
   |cons x xs ih=>
    intro xs' ys us b b' h1 h2 hb hb';obtain⟨u,r,rfl,h3,h4⟩:=h1;cases xs' with
    |nil=>cases h2
    |cons x' xs'=>
     obtain⟨u',r',q,h5,h6⟩:=h2;cases q;cases ys with
     |nil=>simp[vK] at hb hb';rw[hb,hb']
     |cons y ys=>
      unfold vK at hb hb';cases q1:bh n x y with
      |none=>rw[q1] at hb;simp at hb
      |some c=>
       cases q2:vK (bh n) xs ys with
       |none=>rw[q1,q2] at hb;simp at hb
       |some c2=>
        cases q3:bh n x' y with
        |none=>rw[q3] at hb';simp at hb'
        |some c3=>
         cases q4:vK (bh n) xs' ys with
         |none=>rw[q3,q4] at hb';simp at hb'|some c4=>rw[q1,q2] at hb;rw[q3,q4] at hb';have e1:=Nf n x x' y u c c3 h3 h5 q1 q3;have e2:=ih xs' ys r c2 c4 h4 h6 q2 q4;subst e1 e2;simp at hb hb';rw[<-hb,<-hb']
  cases d with
  |non=>cases hd;cases d'<;>simp[Sh] at hd';rw[hb] at hb';exact Qw4 hb'|bl c=>cases hd;cases d'<;>simp[Sh] at hd';subst hd';rw[hb] at hb';exact Qw4 hb'|int i=>obtain⟨t,rfl⟩:=hd;cases d'<;>simp[Sh] at hd';subst hd';rw[hb] at hb';exact Qw4 hb'
  |str x=>
   obtain⟨t,rfl⟩:=hd;cases d' with
   |str y=>
    obtain⟨t',q⟩:=hd';injection q with q1 _
    unfold strOf at q1;injection q1 with q2
    have q3:=Qw9 Array.toList q2;simp at q3;subst q3;rw[hb] at hb';exact Qw4 hb'
   |_=>simp[Sh] at hd'
  |tup xs=>
   obtain⟨a,its,rfl,p,hs⟩:=hd;cases d' with
   |tup xs'=>
    obtain⟨a',its',q,p',hs'⟩:=hd';cases q;have e2:its=its':=by simpa using Lx p p'
    subst e2;cases e with
    |tup ys=>exact all xs xs' ys its b b' hs hs' (by simpa only[bh] using hb) (by simpa only[bh] using hb')|_=>first|(simp[bh] at hb;done)|(simp only[bh,Qxq] at hb hb';rw[<-hb,<-hb'])
   |lst ys=>obtain⟨a',its',q,p',hs'⟩:=hd';cases q;exact(yd p p').elim|dct kvs=>cases e<;>simp[bh] at hb'|gR kvs=>cases e<;>simp[bh] at hb'|clo _ _=>cases e<;>simp[bh] at hb'|arr kvs=>cases e<;>simp[bh] at hb'|_=>simp[Sh] at hd'
  |lst xs=>
   obtain⟨a,its,rfl,p,hs⟩:=hd;cases d' with
   |lst xs'=>
    obtain⟨a',its',q,p',hs'⟩:=hd';cases q;have e2:its=its':=by simpa using Mv p p'
    subst e2;cases e with
    |lst ys=>exact all xs xs' ys its b b' hs hs' (by simpa only[bh] using hb) (by simpa only[bh] using hb')|_=>first|(simp[bh] at hb;done)|(simp only[bh,Qxq] at hb hb';rw[<-hb,<-hb'])
   |tup ys=>obtain⟨a',its',q,p',hs'⟩:=hd';cases q;exact(yd p' p).elim|dct kvs=>cases e<;>simp[bh] at hb'|gR kvs=>cases e<;>simp[bh] at hb'|clo _ _=>cases e<;>simp[bh] at hb'|arr kvs=>cases e<;>simp[bh] at hb'|_=>simp[Sh] at hd'
  |dct kvs=>cases e<;>simp[bh] at hb|gR kvs=>cases e<;>simp[bh] at hb|clo _ _=>cases e<;>simp[bh] at hb|arr kvs=>cases e<;>simp[bh] at hb
theorem vZ(x y):(strOf x == strOf y)=(x == y):=by
 rw[Qk1];simp[beq_iff_eq];constructor;intro e;unfold strOf at e;injection e with e
 simpa using Qw9 Array.toList e;intro e;rw[e]
theorem yu:∀{f} {xs ys},xs.length≠ys.length->∀b,vK f xs ys=some b->b=false
 |f,[],[],h,b,e=>absurd rfl h|f,[],_::_,_,b,e=>by simp[vK] at e;exact e|f,_::_,[],_,b,e=>by simp[vK] at e;exact e
 |f,x::xs,y::ys,h,b,e=>by
  unfold vK at e;cases h1:f x y with
  |none=>rw[h1] at e;simp at e
  |some c=>
   cases h2:vK f xs ys with
   |none=>rw[h1,h2] at e;simp at e|some d=>rw[h1,h2] at e;have:=yu (by simpa using h) d h2;subst this;simp at e;exact e
theorem tW:∀{f} xs ys b,vK f xs ys=some b->∃e,(∀j x y,xs[j]?=some x->ys[j]?=some y->f x y=some (e j))/\b=((List.range (min xs.length ys.length)).all e&&xs.length == ys.length)
 |f,[],ys,b,h=>by
  refine⟨λ_=>true,λj x y hx=>by simp at hx,?_⟩;cases ys with
  |nil=>simp[vK] at h;simp[h.symm]|cons y ys=>simp[vK] at h;simp[h.symm]
 |f,x::xs,[],b,h=>by
  refine⟨λ_=>true,λj x y _ hy=>by simp at hy,?_⟩;simp[vK] at h;simp[h.symm]
 |f,x::xs,y::ys,b,h=>by
  unfold vK at h;cases h1:f x y with
  |none=>rw[h1] at h;simp at h
  |some c=>
   cases h2:vK f xs ys with
   |none=>rw[h1,h2] at h;simp at h
   |some d=>
    rw[h1,h2] at h;obtain⟨e,he,hd⟩:=tW xs ys d h2;refine⟨λj=>match j with|0=>c|j+1=>e j,λj x' y' hx hy=>?_,?_⟩;cases j with
    |zero=>simp at hx hy;subst hx hy;exact h1|succ j=>exact he j x' y' (by simpa using hx) (by simpa using hy)
    have hb:b=(c&&d):=by simpa using h.symm
    have hm:min (x::xs).length (y::ys).length=min xs.length ys.length+1:=by simp only[Qqw];omega
    rw[hb,hd,hm,List.range_succ_eq_map,List.all_cons,List.all_map,Bool.and_assoc];have hl:((x::xs).length == (y::ys).length)=(xs.length == ys.length):=by simp
    rw[hl];rfl
theorem mQ:∀{ds} {us} {j:Nat} {u},mF h ds us->us[j]?=some u->∃d,ds[j]?=some d/\Sh h d u
 |[],_,_,_,e,g=>by cases e;simp at g
 |d::ds,us,j,u,e,g=>by
  obtain⟨v,r,rfl,h1,h2⟩:=e;cases j with
  |zero=>simp at g;subst g;exact⟨d,rfl,h1⟩|succ j=>obtain⟨c,e1,e2⟩:=mQ h2 (by simpa using g);exact⟨c,by simpa using e1,e2⟩
theorem qO:∀n d e u v b A s,Sh s.heap d u->Sh s.heap e v->bh n d e=some b->A.units+n<cLine->SeqAt.EqAt A s u v b
 |0,_,_,_,_,_,_,_,_,_,h,_=>by simp[bh] at h
 |n+1,d,e,u,v,b,A,s,hd,he,h,hu=>by
  have hu0:A.units<cLine:=by omega
  have hin:A.in1.units+n<cLine:=by show A.units+1+n<cLine;omega
  cases d with
  |non=>
   cases hd;cases e with
   |non=>cases he;simp[bh] at h;subst h;exact SeqAt.EqAt.same _|bl c=>cases he;simp[bh] at h;subst h;exact SeqAt.EqAt.none_bool c|int i=>obtain⟨t,rfl⟩:=he;simp[bh] at h;subst h;exact SeqAt.EqAt.none_int i t|str x=>obtain⟨t,rfl⟩:=he;simp[bh] at h;subst h;exact SeqAt.EqAt.none_str _ t|tup ys=>obtain⟨a,its,rfl,p,_⟩:=he;simp[bh] at h;subst h;exact SeqAt.EqAt.none_tuple p hu0|lst ys=>obtain⟨a,its,rfl,p,_⟩:=he;simp[bh] at h;subst h;exact SeqAt.EqAt.none_list p.isList hu0|dct kvs=>simp[bh] at h|gR kvs=>simp[bh] at h|clo _ _=>simp[bh] at h|arr kvs=>simp[bh] at h
  |bl c=>
   cases hd;cases e with
   |non=>cases he;simp[bh] at h;subst h;exact SeqAt.EqAt.bool_none c|bl c'=>cases he;simp[bh,Qxq] at h;subst h;exact SeqAt.EqAt.bool_bool c c'|int i=>obtain⟨t,rfl⟩:=he;simp[bh,Qxq] at h;subst h;exact SeqAt.EqAt.bool_int c i t|str x=>obtain⟨t,rfl⟩:=he;simp[bh] at h;subst h;exact SeqAt.EqAt.bool_str c _ t|tup ys=>obtain⟨a,its,rfl,p,_⟩:=he;simp[bh] at h;subst h;exact SeqAt.EqAt.bool_tuple c p hu0|lst ys=>obtain⟨a,its,rfl,p,_⟩:=he;simp[bh] at h;subst h;exact SeqAt.EqAt.bool_list c p.isList hu0|dct kvs=>simp[bh] at h|gR kvs=>simp[bh] at h|clo _ _=>simp[bh] at h|arr kvs=>simp[bh] at h
  |int i=>
   obtain⟨t',rfl⟩:=hd;cases e with
   |non=>cases he;simp[bh] at h;subst h;exact SeqAt.EqAt.int_none i t'|bl c'=>cases he;simp[bh,Qxq] at h;subst h;exact SeqAt.EqAt.int_bool i t' c'|int j=>obtain⟨t,rfl⟩:=he;simp[bh,Qxq] at h;subst h;exact SeqAt.EqAt.int_int i t' j t|str x=>obtain⟨t,rfl⟩:=he;simp[bh] at h;subst h;exact SeqAt.EqAt.int_str i t' _ t|tup ys=>obtain⟨a,its,rfl,p,_⟩:=he;simp[bh] at h;subst h;exact SeqAt.EqAt.int_tuple i t' p hu0|lst ys=>obtain⟨a,its,rfl,p,_⟩:=he;simp[bh] at h;subst h;exact SeqAt.EqAt.int_list i t' p.isList hu0|dct kvs=>simp[bh] at h|gR kvs=>simp[bh] at h|clo _ _=>simp[bh] at h|arr kvs=>simp[bh] at h
  |str x=>
   obtain⟨t',rfl⟩:=hd;cases e with
   |non=>cases he;simp[bh] at h;subst h;exact SeqAt.EqAt.str_none _ t'|bl c'=>cases he;simp[bh] at h;subst h;exact SeqAt.EqAt.str_bool _ t' c'|int j=>obtain⟨t,rfl⟩:=he;simp[bh] at h;subst h;exact SeqAt.EqAt.str_int _ t' j t|str y=>obtain⟨t,rfl⟩:=he;simp[bh,Qxq] at h;subst h;rw[<-vZ];exact SeqAt.EqAt.str_str _ t' _ t|tup ys=>obtain⟨a,its,rfl,p,_⟩:=he;simp[bh] at h;subst h;exact SeqAt.EqAt.str_tuple _ t' p hu0|lst ys=>obtain⟨a,its,rfl,p,_⟩:=he;simp[bh] at h;subst h;exact SeqAt.EqAt.str_list _ t' p.isList hu0|dct kvs=>simp[bh] at h|gR kvs=>simp[bh] at h|clo _ _=>simp[bh] at h|arr kvs=>simp[bh] at h
  |tup xs=>
   obtain⟨a,its,rfl,p,hs⟩:=hd;cases e with
   |non=>cases he;simp[bh] at h;subst h;exact SeqAt.EqAt.tuple_none p hu0|bl c'=>cases he;simp[bh] at h;subst h;exact SeqAt.EqAt.tuple_bool c' p hu0|int j=>obtain⟨t,rfl⟩:=he;simp[bh] at h;subst h;exact SeqAt.EqAt.tuple_int j t p hu0|str y=>obtain⟨t,rfl⟩:=he;simp[bh] at h;subst h;exact SeqAt.EqAt.tuple_str _ t p hu0
   |tup ys=>
    obtain⟨a',its',rfl,p',hs'⟩:=he;by_cases haa:a=a';subst haa;have:=Aa (n+1) (.tup xs) (.tup ys) (.ref a) b ⟨a,its,rfl,p,hs⟩ ⟨a,its',rfl,p',hs'⟩ h;subst this;exact SeqAt.EqAt.same _;simp[bh] at h;obtain⟨f,hf,hb⟩:=tW xs ys b h;have l1:=hs.length;have l2:=hs'.length;refine SeqAt.EqAt.of_refs haa ?_;have:=SeqAt.RcAt.tuples (e:=f) p p' hu0 λj h1 h2=>?_;rw[hb];simp[Qq5] at this;rw[l1,l2] at this;exact this;have g1:its[j]?=some its.toArray[j]:=by simp at h1 ⊢
    have g2:its'[j]?=some its'.toArray[j]:=by simp at h2 ⊢
    obtain⟨x,q1,q2⟩:=mQ hs g1;obtain⟨y,q3,q4⟩:=mQ hs' g2;exact qO n x y _ _ _ A.in1 s q2 q4 (hf j x y q1 q3) hin
   |lst ys=>obtain⟨a',its',rfl,p',_⟩:=he;simp[bh] at h;subst h;exact SeqAt.EqAt.tuple_list p p'.isList hu0|dct kvs=>simp[bh] at h|gR kvs=>simp[bh] at h|clo _ _=>simp[bh] at h|arr kvs=>simp[bh] at h
  |lst xs=>
   obtain⟨a,its,rfl,p,hs⟩:=hd;cases e with
   |non=>cases he;simp[bh] at h;subst h;exact SeqAt.EqAt.list_none p.isList hu0|bl c'=>cases he;simp[bh] at h;subst h;exact SeqAt.EqAt.list_bool c' p.isList hu0|int j=>obtain⟨t,rfl⟩:=he;simp[bh] at h;subst h;exact SeqAt.EqAt.list_int j t p.isList hu0|str y=>obtain⟨t,rfl⟩:=he;simp[bh] at h;subst h;exact SeqAt.EqAt.list_str _ t p.isList hu0
   |lst ys=>
    obtain⟨a',its',rfl,p',hs'⟩:=he;have l1:=hs.length;have l2:=hs'.length;by_cases haa:a=a';subst haa;have:=Aa (n+1) (.lst xs) (.lst ys) (.ref a) b ⟨a,its,rfl,p,hs⟩ ⟨a,its',rfl,p',hs'⟩ h;subst this;exact SeqAt.EqAt.same _;simp[bh] at h;refine SeqAt.EqAt.of_refs haa ?_;by_cases hl:xs.length=ys.length;obtain⟨f,hf,hb⟩:=tW xs ys b h;have:=SeqAt.RcAt.lists (e:=f) p.isList p'.isList (by simp[Qq5];omega) hu0 λj h1 h2=>?_;rw[hb,<-hl,Nat.min_self,beq_self_eq_true,Bool.and_true,<-l1];simp[Qq5] at this;exact this;have g1:its[j]?=some its.toArray[j]:=by simp at h1 ⊢
    have g2:its'[j]?=some its'.toArray[j]:=by simp at h2 ⊢
    obtain⟨x,q1,q2⟩:=mQ hs g1;obtain⟨y,q3,q4⟩:=mQ hs' g2;exact qO n x y _ _ _ A.in1 s q2 q4 (hf j x y q1 q3) hin;have:=yu hl b h;subst this;exact SeqAt.RcAt.lists_lengths p.isList p'.isList (by simp[Qq5];rw[l1,l2];simpa using hl) hu0
   |tup ys=>obtain⟨a',its',rfl,p',_⟩:=he;simp[bh] at h;subst h;exact SeqAt.EqAt.list_tuple p.isList p' hu0|dct kvs=>simp[bh] at h|gR kvs=>simp[bh] at h|clo _ _=>simp[bh] at h|arr kvs=>simp[bh] at h
  |dct kvs=>cases e<;>simp[bh] at h|gR kvs=>cases e<;>simp[bh] at h|clo _ _=>cases e<;>simp[bh] at h|arr kvs=>cases e<;>simp[bh] at h
theorem uP(n)(its its')(xs ys)(f:Nat->Bool)(A:Around)(s)(hs:mF s.heap xs its)(hs':mF s.heap ys its')(hf:∀j x y,xs[j]?=some x->ys[j]?=some y->bh n x y=some (f j))(hin:A.in1.units+n<cLine)
  (j) (h1:j<its.toArray.size) (h2:j<its'.toArray.size):SeqAt.EqAt A.in1 s its.toArray[j] its'.toArray[j] (f j):=by
 have g1:its[j]?=some its.toArray[j]:=by simp at h1 ⊢
 have g2:its'[j]?=some its'.toArray[j]:=by simp at h2 ⊢
 obtain⟨x,q1,q2⟩:=mQ hs g1;obtain⟨y,q3,q4⟩:=mQ hs' g2;exact qO n x y _ _ _ A.in1 s q2 q4 (hf j x y q1 q3) hin
theorem ad7(n)(d e)(u v)(b)(A)(s)(hd:Sh s.heap d u)(he:Sh s.heap e v)(h:bh (n+1) d e=some b)(hu:A.units+(n+1)<cLine):SeqAt.RcAt A s u v b:=by
 have hu0:A.units<cLine:=by omega
 have hin:A.in1.units+n<cLine:=by show A.units+1+n<cLine;omega
 cases d with
 |non=>
  cases hd;cases e with
  |non=>cases he;simp[bh] at h;subst h;exact SeqAt.RcAt.none_none|bl c'=>cases he;simp[bh] at h;subst h;exact SeqAt.RcAt.none_bool c'|int j=>obtain⟨t,rfl⟩:=he;simp[bh] at h;subst h;exact SeqAt.RcAt.none_int j t|str y=>obtain⟨t,rfl⟩:=he;simp[bh] at h;subst h;exact SeqAt.RcAt.none_str _ t|tup ys=>obtain⟨a',its',rfl,p',hs'⟩:=he;simp[bh] at h;subst h;exact SeqAt.RcAt.none_tuple p' hu0|lst ys=>obtain⟨a',its',rfl,p',hs'⟩:=he;simp[bh] at h;subst h;exact SeqAt.RcAt.none_list p'.isList hu0|arr kvs=>simp[bh] at h|dct kvs=>simp[bh] at h|gR kvs=>simp[bh] at h|clo _ _=>simp[bh] at h
 |bl c=>
  cases hd;cases e with
  |non=>cases he;simp[bh] at h;subst h;exact SeqAt.RcAt.bool_none c|bl c'=>cases he;simp[bh,Qxq] at h;subst h;exact SeqAt.RcAt.bool_bool c c'|int j=>obtain⟨t,rfl⟩:=he;simp[bh,Qxq] at h;subst h;exact SeqAt.RcAt.bool_int c j t|str y=>obtain⟨t,rfl⟩:=he;simp[bh] at h;subst h;exact SeqAt.RcAt.bool_str c _ t|tup ys=>obtain⟨a',its',rfl,p',hs'⟩:=he;simp[bh] at h;subst h;exact SeqAt.RcAt.bool_tuple c p' hu0|lst ys=>obtain⟨a',its',rfl,p',hs'⟩:=he;simp[bh] at h;subst h;exact SeqAt.RcAt.bool_list c p'.isList hu0|arr kvs=>simp[bh] at h|dct kvs=>simp[bh] at h|gR kvs=>simp[bh] at h|clo _ _=>simp[bh] at h
 |int i=>
  obtain⟨t',rfl⟩:=hd;cases e with
  |non=>cases he;simp[bh] at h;subst h;exact SeqAt.RcAt.int_none i t'|bl c'=>cases he;simp[bh,Qxq] at h;subst h;exact SeqAt.RcAt.int_bool i t' c'|int j=>obtain⟨t,rfl⟩:=he;simp[bh,Qxq] at h;subst h;exact SeqAt.RcAt.int_int i t' j t|str y=>obtain⟨t,rfl⟩:=he;simp[bh] at h;subst h;exact SeqAt.RcAt.int_str i t' _ t|tup ys=>obtain⟨a',its',rfl,p',hs'⟩:=he;simp[bh] at h;subst h;exact SeqAt.RcAt.int_tuple i t' p' hu0|lst ys=>obtain⟨a',its',rfl,p',hs'⟩:=he;simp[bh] at h;subst h;exact SeqAt.RcAt.int_list i t' p'.isList hu0|arr kvs=>simp[bh] at h|dct kvs=>simp[bh] at h|gR kvs=>simp[bh] at h|clo _ _=>simp[bh] at h
 |str x=>
  obtain⟨t',rfl⟩:=hd;cases e with
  |non=>cases he;simp[bh] at h;subst h;exact SeqAt.RcAt.str_none _ t'|bl c'=>cases he;simp[bh] at h;subst h;exact SeqAt.RcAt.str_bool _ t' c'|int j=>obtain⟨t,rfl⟩:=he;simp[bh] at h;subst h;exact SeqAt.RcAt.str_int _ t' j t|str y=>obtain⟨t,rfl⟩:=he;simp[bh,Qxq] at h;subst h;rw[<-vZ];exact SeqAt.RcAt.str_str _ t' _ t|tup ys=>obtain⟨a',its',rfl,p',hs'⟩:=he;simp[bh] at h;subst h;exact SeqAt.RcAt.str_tuple _ t' p' hu0|lst ys=>obtain⟨a',its',rfl,p',hs'⟩:=he;simp[bh] at h;subst h;exact SeqAt.RcAt.str_list _ t' p'.isList hu0|arr kvs=>simp[bh] at h|dct kvs=>simp[bh] at h|gR kvs=>simp[bh] at h|clo _ _=>simp[bh] at h
 |tup xs=>
  obtain⟨a,its,rfl,p,hs⟩:=hd;cases e with
  |non=>cases he;simp[bh] at h;subst h;exact SeqAt.RcAt.tuple_none p hu0|bl c'=>cases he;simp[bh] at h;subst h;exact SeqAt.RcAt.tuple_bool c' p hu0|int j=>obtain⟨t,rfl⟩:=he;simp[bh] at h;subst h;exact SeqAt.RcAt.tuple_int j t p hu0|str y=>obtain⟨t,rfl⟩:=he;simp[bh] at h;subst h;exact SeqAt.RcAt.tuple_str _ t p hu0|tup ys=>obtain⟨a',its',rfl,p',hs'⟩:=he;simp[bh] at h;have l1:=hs.length;have l2:=hs'.length;obtain⟨f,hf,hb⟩:=tW xs ys b h;have:=SeqAt.RcAt.tuples (e:=f) p p' hu0 λj h1 h2=>?_;rw[hb];simp[Qq5] at this;rw[l1,l2] at this;exact this;exact uP n its its' xs ys f A s hs hs' hf hin j h1 h2|lst ys=>obtain⟨a',its',rfl,p',hs'⟩:=he;simp[bh] at h;subst h;exact SeqAt.RcAt.tuple_list p p'.isList hu0|arr kvs=>simp[bh] at h|dct kvs=>simp[bh] at h|gR kvs=>simp[bh] at h|clo _ _=>simp[bh] at h
 |lst xs=>
  obtain⟨a,its,rfl,p,hs⟩:=hd;cases e with
  |non=>cases he;simp[bh] at h;subst h;exact SeqAt.RcAt.list_none p.isList hu0|bl c'=>cases he;simp[bh] at h;subst h;exact SeqAt.RcAt.list_bool c' p.isList hu0|int j=>obtain⟨t,rfl⟩:=he;simp[bh] at h;subst h;exact SeqAt.RcAt.list_int j t p.isList hu0|str y=>obtain⟨t,rfl⟩:=he;simp[bh] at h;subst h;exact SeqAt.RcAt.list_str _ t p.isList hu0|tup ys=>obtain⟨a',its',rfl,p',hs'⟩:=he;simp[bh] at h;subst h;exact SeqAt.RcAt.list_tuple p.isList p' hu0|lst ys=>obtain⟨a',its',rfl,p',hs'⟩:=he;simp[bh] at h;have l1:=hs.length;have l2:=hs'.length;by_cases hl:xs.length=ys.length;obtain⟨f,hf,hb⟩:=tW xs ys b h;have:=SeqAt.RcAt.lists (e:=f) p.isList p'.isList (by simp[Qq5];omega) hu0 λj h1 h2=>?_;rw[hb,<-hl,Nat.min_self,beq_self_eq_true,Bool.and_true,<-l1];simp[Qq5] at this;exact this;exact uP n its its' xs ys f A s hs hs' hf hin j h1 h2;have:=yu hl b h;subst this;exact SeqAt.RcAt.lists_lengths p.isList p'.isList (by simp[Qq5];rw[l1,l2];simpa using hl) hu0|arr kvs=>simp[bh] at h|dct kvs=>simp[bh] at h|gR kvs=>simp[bh] at h|clo _ _=>simp[bh] at h
 |arr kvs=>cases e<;>simp[bh] at h|dct kvs=>cases e<;>simp[bh] at h|gR kvs=>cases e<;>simp[bh] at h|clo _ _=>cases e<;>simp[bh] at h
theorem Wb(n)(d e)(u v)(b)(A)(s)(hd:Sh s.heap d u)(he:Sh s.heap e v)(h:bh (n+1) d e=some b)(hu:A.units+(n+1)<cLine):SeqAt.RcNeAt A s u v (!b):=by
 have hu0:A.units<cLine:=by omega
 have hin:A.in1.units+n<cLine:=by show A.units+1+n<cLine;omega
 cases d with
 |non=>
  cases hd;cases e with
  |non=>cases he;simp[bh] at h;subst h;exact SeqAt.RcNeAt.none_none|bl c'=>cases he;simp[bh] at h;subst h;exact SeqAt.RcNeAt.none_bool c'|int j=>obtain⟨t,rfl⟩:=he;simp[bh] at h;subst h;exact SeqAt.RcNeAt.none_int j t|str y=>obtain⟨t,rfl⟩:=he;simp[bh] at h;subst h;exact SeqAt.RcNeAt.none_str _ t|tup ys=>obtain⟨a',its',rfl,p',hs'⟩:=he;simp[bh] at h;subst h;exact SeqAt.RcNeAt.none_tuple p' hu0|lst ys=>obtain⟨a',its',rfl,p',hs'⟩:=he;simp[bh] at h;subst h;exact SeqAt.RcNeAt.none_list p'.isList hu0|arr kvs=>simp[bh] at h|dct kvs=>simp[bh] at h|gR kvs=>simp[bh] at h|clo _ _=>simp[bh] at h
 |bl c=>
  cases hd;cases e with
  |non=>cases he;simp[bh] at h;subst h;exact SeqAt.RcNeAt.bool_none c|bl c'=>cases he;simp[bh,Qxq] at h;subst h;exact SeqAt.RcNeAt.bool_bool c c'|int j=>obtain⟨t,rfl⟩:=he;simp[bh,Qxq] at h;subst h;exact SeqAt.RcNeAt.bool_int c j t|str y=>obtain⟨t,rfl⟩:=he;simp[bh] at h;subst h;exact SeqAt.RcNeAt.bool_str c _ t|tup ys=>obtain⟨a',its',rfl,p',hs'⟩:=he;simp[bh] at h;subst h;exact SeqAt.RcNeAt.bool_tuple c p' hu0|lst ys=>obtain⟨a',its',rfl,p',hs'⟩:=he;simp[bh] at h;subst h;exact SeqAt.RcNeAt.bool_list c p'.isList hu0|arr kvs=>simp[bh] at h|dct kvs=>simp[bh] at h|gR kvs=>simp[bh] at h|clo _ _=>simp[bh] at h
 |int i=>
  obtain⟨t',rfl⟩:=hd;cases e with
  |non=>cases he;simp[bh] at h;subst h;exact SeqAt.RcNeAt.int_none i t'|bl c'=>cases he;simp[bh,Qxq] at h;subst h;exact SeqAt.RcNeAt.int_bool i t' c'|int j=>obtain⟨t,rfl⟩:=he;simp[bh,Qxq] at h;subst h;exact SeqAt.RcNeAt.int_int i t' j t|str y=>obtain⟨t,rfl⟩:=he;simp[bh] at h;subst h;exact SeqAt.RcNeAt.int_str i t' _ t|tup ys=>obtain⟨a',its',rfl,p',hs'⟩:=he;simp[bh] at h;subst h;exact SeqAt.RcNeAt.int_tuple i t' p' hu0|lst ys=>obtain⟨a',its',rfl,p',hs'⟩:=he;simp[bh] at h;subst h;exact SeqAt.RcNeAt.int_list i t' p'.isList hu0|arr kvs=>simp[bh] at h|dct kvs=>simp[bh] at h|gR kvs=>simp[bh] at h|clo _ _=>simp[bh] at h
 |str x=>
  obtain⟨t',rfl⟩:=hd;cases e with
  |non=>cases he;simp[bh] at h;subst h;exact SeqAt.RcNeAt.str_none _ t'|bl c'=>cases he;simp[bh] at h;subst h;exact SeqAt.RcNeAt.str_bool _ t' c'|int j=>obtain⟨t,rfl⟩:=he;simp[bh] at h;subst h;exact SeqAt.RcNeAt.str_int _ t' j t|str y=>obtain⟨t,rfl⟩:=he;simp only[bh,Qxq] at h;subst h;rw[<-vZ];exact SeqAt.RcNeAt.str_str _ t' _ t|tup ys=>obtain⟨a',its',rfl,p',hs'⟩:=he;simp[bh] at h;subst h;exact SeqAt.RcNeAt.str_tuple _ t' p' hu0|lst ys=>obtain⟨a',its',rfl,p',hs'⟩:=he;simp[bh] at h;subst h;exact SeqAt.RcNeAt.str_list _ t' p'.isList hu0|arr kvs=>simp[bh] at h|dct kvs=>simp[bh] at h|gR kvs=>simp[bh] at h|clo _ _=>simp[bh] at h
 |tup xs=>
  obtain⟨a,its,rfl,p,hs⟩:=hd;cases e with
  |non=>cases he;simp[bh] at h;subst h;exact SeqAt.RcNeAt.tuple_none p hu0|bl c'=>cases he;simp[bh] at h;subst h;exact SeqAt.RcNeAt.tuple_bool c' p hu0|int j=>obtain⟨t,rfl⟩:=he;simp[bh] at h;subst h;exact SeqAt.RcNeAt.tuple_int j t p hu0|str y=>obtain⟨t,rfl⟩:=he;simp[bh] at h;subst h;exact SeqAt.RcNeAt.tuple_str _ t p hu0|tup ys=>obtain⟨a',its',rfl,p',hs'⟩:=he;simp only[bh] at h;have l1:=hs.length;have l2:=hs'.length;obtain⟨f,hf,hb⟩:=tW xs ys b h;have:=SeqAt.RcNeAt.tuples (e:=f) p p' hu0 λj h1 h2=>?_;rw[hb];simp only[Qq5] at this;rw[l1,l2] at this;exact this;exact uP n its its' xs ys f A s hs hs' hf hin j h1 h2|lst ys=>obtain⟨a',its',rfl,p',hs'⟩:=he;simp[bh] at h;subst h;exact SeqAt.RcNeAt.tuple_list p p'.isList hu0|arr kvs=>simp[bh] at h|dct kvs=>simp[bh] at h|gR kvs=>simp[bh] at h|clo _ _=>simp[bh] at h
 |lst xs=>
  obtain⟨a,its,rfl,p,hs⟩:=hd;cases e with
  |non=>cases he;simp[bh] at h;subst h;exact SeqAt.RcNeAt.list_none p.isList hu0|bl c'=>cases he;simp[bh] at h;subst h;exact SeqAt.RcNeAt.list_bool c' p.isList hu0|int j=>obtain⟨t,rfl⟩:=he;simp[bh] at h;subst h;exact SeqAt.RcNeAt.list_int j t p.isList hu0|str y=>obtain⟨t,rfl⟩:=he;simp[bh] at h;subst h;exact SeqAt.RcNeAt.list_str _ t p.isList hu0|tup ys=>obtain⟨a',its',rfl,p',hs'⟩:=he;simp[bh] at h;subst h;exact SeqAt.RcNeAt.list_tuple p.isList p' hu0|lst ys=>obtain⟨a',its',rfl,p',hs'⟩:=he;simp only[bh] at h;have l1:=hs.length;have l2:=hs'.length;by_cases hl:xs.length=ys.length;obtain⟨f,hf,hb⟩:=tW xs ys b h;have:=SeqAt.RcNeAt.lists (e:=f) p.isList p'.isList (by simp only[Qq5];omega) hu0 λj h1 h2=>?_;rw[hb,<-hl,Nat.min_self,beq_self_eq_true,Bool.and_true,<-l1];simp only[Qq5] at this;exact this;exact uP n its its' xs ys f A s hs hs' hf hin j h1 h2;have:=yu hl b h;subst this;exact SeqAt.RcNeAt.lists_lengths p.isList p'.isList (by simp only[Qq5];rw[l1,l2];simpa using hl) hu0|arr kvs=>simp[bh] at h|dct kvs=>simp[bh] at h|gR kvs=>simp[bh] at h|clo _ _=>simp[bh] at h
 |arr kvs=>cases e<;>simp[bh] at h|dct kvs=>cases e<;>simp[bh] at h|gR kvs=>cases e<;>simp[bh] at h|clo _ _=>cases e<;>simp[bh] at h
section
variable{X:Cx}{C:Cfg}
def ael(K:Fg):R2:=λx y H Q=>∃dx dy b,Rep K H dx x/\Rep K H dy y/\bh 60 dx dy=some b/\Q (.bl b) H
def aed(K:Fg):R2:=λx y H Q=>∃dx dy b,Rep K H dx x/\Rep K H dy y/\bh 60 dx dy=some b/\Q (.bl (!b)) H
theorem abp(hu:X.A.units+60<cLine):mG X (compareOp .Eq) (ael X.K):=by intro pins s σ H x y v u Q I rx ry h;obtain⟨dx,dy,b,h1,h2,h3,q⟩:=h;exact ad7 59 dx dy v u b X.A s (Rep.sh I dx x v h1 rx) (Rep.sh I dy y u h2 ry) h3 hu X.prog X.w X.xe _ ⟨.bl b,H,I,rfl,q⟩
theorem abh(hu:X.A.units+60<cLine):mG X (compareOp .NotEq) (aed X.K):=by intro pins s σ H x y v u Q I rx ry h;obtain⟨dx,dy,b,h1,h2,h3,q⟩:=h;exact Wb 59 dx dy v u b X.A s (Rep.sh I dx x v h1 rx) (Rep.sh I dy y u h2 ry) h3 hu X.prog X.w X.xe _ ⟨.bl<|!b,H,I,rfl,q⟩
noncomputable def tR(x y:D):Option D:=(bh 60 x y).map .bl
noncomputable def MT(x y:D):Option D:=(bh 60 x y).map λb=>.bl (!b)
theorem aeN:pH C (ael C.K) tR:=by
 intro Pr F env σ H x y d vx vy Q r hx hy h q;unfold tR at h;cases e:bh 60 x y with
 |none=>rw[e] at h;cases h|some b=>rw[e] at h;cases h;exact⟨x,y,b,hx.rep r.fr,hy.rep r.fr,e,q _ H F r (aM.refl F) rfl⟩
theorem aeH:pH C (aed C.K) MT:=by
 intro Pr F env σ H x y d vx vy Q r hx hy h q;unfold MT at h;cases e:bh 60 x y with
 |none=>rw[e] at h;cases h|some b=>rw[e] at h;cases h;exact⟨x,y,b,hx.rep r.fr,hy.rep r.fr,e,q _ H F r (aM.refl F) rfl⟩
noncomputable def Qv(x:D):List D->Option Bool
 |[]=>some false
 |y::ys=>match bh 59 y x,Qv x ys with
  |some a,some b=>some (a||b)|_,_=>none
theorem MF(x):∀ys b,Qv x ys=some b->(∀y∈ys,∃c,bh 59 y x=some c)/\(b=true ↔ ∃y∈ys,bh 59 y x=some true)
 |[],b,h=>by simp[Qv] at h;subst h;simp
 |y::ys,b,h=>by
  unfold Qv at h;cases h1:bh 59 y x with
  |none=>rw[h1] at h;simp at h
  |some c=>
   cases h2:Qv x ys with
   |none=>rw[h1,h2] at h;simp at h
   |some d=>
    rw[h1,h2] at h;obtain⟨i1,i2⟩:=MF x ys d h2;have hb:b=(c||d):=by simpa using h.symm
    refine⟨λz hz=>?_,?_⟩;rcases Qq7.mp hz with rfl|hz;exact⟨c,h1⟩;exact i1 z hz;rw[hb,Bool.or_eq_true];constructor;rintro(hc|hd);exact⟨y,Qqj,by rw[h1,hc]⟩;obtain⟨z,hz,e⟩:=i2.mp hd;exact⟨z,Qqq _ hz,e⟩;rintro⟨z,hz,e⟩;rcases Qq7.mp hz with rfl|hz;rw[h1] at e;left;simpa using e;right;exact i2.mpr ⟨z,hz,e⟩
open Classical in
noncomputable def La(h:Heap)(x:D)(u:Value):Bool:=decide (∃y,Sh h y u/\bh 59 y x=some true)
open Classical in
theorem Gg(hy:Sh h y u)(e:bh 59 y x=some c):La h x u=c:=by
 unfold La;cases c with
 |true=>exact Qwj ⟨y,hy,e⟩|false=>refine Qq9 ?_;rintro⟨z,hz,e'⟩;have:=Nf 59 z y x u true false hz hy e' e;cases this
theorem KD(hx:Sh s.heap x v)(hs:mF s.heap ys us)(h:Qv x ys=some b)(hu:A.units+59<cLine) :
  (∀w,w∈us.toArray->SeqAt.EqAt A s w v (La s.heap x w))/\us.toArray.any (La s.heap x)=b:=by
 obtain⟨h1,h2⟩:=MF x ys b h;have item:∀w∈us,∃y∈ys,Sh s.heap y w:=λw hw=>by
  obtain⟨j,hj,e⟩:=List.mem_iff_getElem.mp hw;obtain⟨d,e1,e2⟩:=mQ hs (show us[j]?=some w by rw[Qqv hj,e]);exact⟨d,Qx7 e1,e2⟩
 have back:∀{ys} {us},mF s.heap ys us->∀y∈ys,∃w∈us,Sh s.heap y w:=by
  intro ys;induction ys with
  |nil=>intro us _ y hy;cases hy|cons z zs ih=>intro us hs y hy;obtain⟨w,r,rfl,g1,g2⟩:=hs;rcases Qq7.mp hy with rfl|hy;exact⟨w,Qqj,g1⟩;obtain⟨w',m,g⟩:=ih g2 y hy;exact⟨w',Qqq _ m,g⟩
 refine⟨λw hw=>?_,?_⟩;obtain⟨y,hy,sy⟩:=item w (by simpa using hw);obtain⟨c,hc⟩:=h1 y hy;rw[Gg sy hc];exact qO 59 y x w v c A s sy hx hc hu;rw[List.any_toArray,Qk1,h2,List.any_eq_true];constructor;rintro⟨w,hw,e⟩;obtain⟨y,hy,sy⟩:=item w hw;obtain⟨c,hc⟩:=h1 y hy;rw[Gg sy hc] at e;subst e;exact⟨y,hy,hc⟩;rintro⟨y,hy,e⟩;obtain⟨w,hw,sy⟩:=back hs y hy;exact⟨w,hw,Gg sy e⟩
noncomputable def Rk:D->Option (List D)
 |.tup xs=>some xs|.lst xs=>some xs|.arr xs=>some xs|_=>none
def aaD(K:Fg)(neg:Bool):R2:=λx y H Q=>∃dx dy ys b,Rep K H dx x/\Rep K H dy y/\Rk dy=some ys/\Qv dx ys=some b/\Q (.bl (if neg then !b else b)) H
theorem abn(hu:X.A.units+61<cLine):mG X (compareOp .In) (aaD X.K false):=by
 intro pins s σ H x y v u Q I rx ry h;obtain⟨dx,dy,ys,b,h1,h2,h3,h4,q⟩:=h;have hx:=Rep.sh I dx x v h1 rx;have hy:=Rep.sh I dy y u h2 ry;have hin:X.A.in1.units+59<cLine:=by show X.A.units+1+59<cLine;omega
 cases dy with
 |tup zs=>cases h3;obtain⟨a,its,rfl,p,hs⟩:=hy;obtain⟨g1,g2⟩:=KD hx hs h4 hin;refine SeqAt.in_tupleAt (La s.heap dx) p g1 ⟨.bl _,H,I,rfl,?_⟩;rw[g2];exact q|lst zs=>cases h3;obtain⟨a,its,rfl,p,hs⟩:=hy;obtain⟨g1,g2⟩:=KD hx hs h4 hin;refine SeqAt.in_listAt (La s.heap dx) p.isList g1 ⟨.bl _,H,I,rfl,?_⟩;rw[g2];exact q|arr zs=>cases h3;obtain⟨a,its,rfl,p,hs⟩:=hy;obtain⟨g1,g2⟩:=KD hx hs h4 hin;refine SeqAt.in_listAt (La s.heap dx) p.isList g1 ⟨.bl _,H,I,rfl,?_⟩;rw[g2];exact q|_=>cases h3
end
theorem pH.or(h:pH C r g)(h':pH C r' g'):pH C (λx y H Q=>r x y H Q\/r' x y H Q) (λx y=>(g x y).or (g' x y)):=by
 intro Pr F env σ H x y d vx vy Q rl hx hy e q;have e:(g x y).or (g' x y)=some d:=e;cases e1:g x y with
 |some c=>rw[e1] at e;cases e;exact .inl<|h Pr F env σ H x y d vx vy Q rl hx hy e1 q|none=>rw[e1] at e;exact .inr<|h' Pr F env σ H x y d vx vy Q rl hx hy e q
section
variable{X:Cx}{C:Cfg}
noncomputable def acy(x y:D):Option D:=match Rk y with
 |some ys=>(Qv x ys).map .bl|none=>none
theorem abH:pH C (aaD C.K false) acy:=by
 intro Pr F env σ H x y d vx vy Q r hx hy h q;unfold acy at h;cases e1:Rk y with
 |none=>rw[e1] at h;cases h
 |some ys=>
  rw[e1] at h;cases e:Qv x ys with
  |none=>simp only[e,Option.map_none] at h;cases h|some b=>simp[e,Qk2] at h;cases h;exact⟨x,y,ys,b,hx.rep r.fr,hy.rep r.fr,e1,e,q _ H F r (aM.refl F) rfl⟩
noncomputable def acx(x y:D):Option D:=match x,y with
 |.str [c],.str z=>some (.bl (decide (c∈z)))|_,_=>none
abbrev aej:R2:=λx y H Q=>∃i j,x=.str i/\y=.str j/\Q (.bl (!(Builtin.Str.occurrences j i 0 j.length 1).isEmpty)) H
theorem one_sign(c)(z):(!(Builtin.Str.occurrences (strOf z) (strOf [c]) 0 (strOf z).length 1).isEmpty)=decide (c∈z):=by
 have:=StrLaws.found_one (strOf z) c;unfold strOf at this ⊢
 simpa using this
theorem abG:pH C aej acx:=by
 intro Pr F env σ H x y d vx vy Q r hx hy h q;unfold acx at h;split at h;rename_i c z;cases h;obtain⟨rfl,_⟩:=hx.str;obtain⟨rfl,_⟩:=hy.str;refine⟨_,_,rfl,rfl,?_⟩;rw[one_sign];exact q _ H F r (aM.refl F) rfl;cases h
noncomputable def gIn(x y:D):Option D:=(acy x y).or (acx x y)
abbrev aek(K:Fg):R2:=λx y H Q=>aaD K false x y H Q\/aej x y H Q
theorem abo(hu:X.A.units+61<cLine):mG X (compareOp .In) (aek X.K):=(abn hu).or O5
theorem aeL:pH C (aek C.K) gIn:=abH.or abG
def isPlain(x:V):Prop:=x=.non\/∃b,x=.bl b
theorem abl:mG X (compareOp .Is) (λx y H Q=>isPlain y/\Q (.bl (decide (x=y))) H):=by
 intro pins s σ H x y v u Q I rx ry h;obtain⟨hp,q⟩:=h;rcases hp with rfl|⟨b,rfl⟩;exact abk pins s σ H x .non v u Q I rx ry ⟨rfl,q⟩;cases ry;refine wpAny_is_plain ?_<|wW I q ?_;cases x<;>first|(cases rx;rfl)|(obtain⟨t,rfl⟩:=rx;rfl)
 cases x with
 |bl c=>cases rx;cases b<;>cases c<;>rfl|_=>first|(cases rx;rfl)|(obtain⟨t,rfl⟩:=rx;rfl)
theorem O4:mG X (compareOp .IsNot) (λx y H Q=>isPlain y/\Q (.bl (!decide (x=y))) H):=by
 intro pins s σ H x y v u Q I rx ry h;obtain⟨hp,q⟩:=h;rcases hp with rfl|⟨b,rfl⟩;exact W0 pins s σ H x .non v u Q I rx ry ⟨rfl,q⟩;cases ry;refine wpAny_isNot_plain ?_<|wW I q ?_;cases x<;>first|(cases rx;rfl)|(obtain⟨t,rfl⟩:=rx;rfl)
 cases x with
 |bl c=>cases rx;cases b<;>cases c<;>rfl|_=>first|(cases rx;rfl)|(obtain⟨t,rfl⟩:=rx;rfl)
noncomputable def isD:D->D->Option Bool
 |.non,.non=>some true|.bl a,.bl b=>some (a == b)|_,.non=>some false|_,.bl _=>some false|_,_=>none
noncomputable def JC(x y:D):Option D:=(isD x y).map .bl
noncomputable def nO(x y:D):Option D:=(isD x y).map λb=>.bl (!b)
theorem Zy(hx:ie C.K F H x vx)(hy:ie C.K F H y vy)(h:isD x y=some b):isPlain vy/\decide (vx=vy)=b:=by
 have agV:∀a,¬(V.ref a=V.non):=λa e=>by cases e
 cases y with
 |non=>
  obtain rfl:=hy.non;refine⟨.inl rfl,?_⟩;cases x with
  |non=>obtain rfl:=hx.non;simp[isD] at h;simp[h]|bl c=>obtain rfl:=hx.bl;simp[isD] at h;simp[h]|int i=>obtain rfl:=hx.int;simp[isD] at h;simp[h]|str z=>obtain⟨rfl,_⟩:=hx.str;simp[isD] at h;simp[h]|tup xs=>rcases hx with ⟨_,a,_,rfl,_⟩|⟨a,rfl,_⟩<;>(simp[isD] at h;simp[h])
  |lst xs=>rcases hx with ⟨_,a,_,rfl,_⟩|⟨a,rfl,_⟩<;>(simp[isD] at h;simp[h])
  |arr xs=>rcases hx with ⟨_,a,_,rfl,_⟩|⟨a,rfl,_⟩<;>(simp[isD] at h;simp[h])
  |dct xs=>rcases hx with ⟨_,a,_,rfl,_⟩|⟨a,rfl,_⟩<;>(simp[isD] at h;simp[h])
  |gR xs=>rcases hx with ⟨_,a,_,rfl,_⟩|⟨a,rfl,_⟩<;>(simp[isD] at h;simp[h])
  |clo st xs=>rcases hx with ⟨a,_,rfl,_⟩|⟨a,rfl,_⟩<;>(simp[isD] at h;simp[h])
 |bl k=>
  obtain rfl:=hy.bl;refine⟨.inr ⟨k,rfl⟩,?_⟩;cases x with
  |non=>obtain rfl:=hx.non;simp[isD] at h;simp[h]|bl c=>obtain rfl:=hx.bl;simp[isD,Qxq] at h;rw[<-h,acJ]|int i=>obtain rfl:=hx.int;simp[isD] at h;simp[h]|str z=>obtain⟨rfl,_⟩:=hx.str;simp[isD] at h;simp[h]|tup xs=>rcases hx with ⟨_,a,_,rfl,_⟩|⟨a,rfl,_⟩<;>(simp[isD] at h;simp[h])
  |lst xs=>rcases hx with ⟨_,a,_,rfl,_⟩|⟨a,rfl,_⟩<;>(simp[isD] at h;simp[h])
  |arr xs=>rcases hx with ⟨_,a,_,rfl,_⟩|⟨a,rfl,_⟩<;>(simp[isD] at h;simp[h])
  |dct xs=>rcases hx with ⟨_,a,_,rfl,_⟩|⟨a,rfl,_⟩<;>(simp[isD] at h;simp[h])
  |gR xs=>rcases hx with ⟨_,a,_,rfl,_⟩|⟨a,rfl,_⟩<;>(simp[isD] at h;simp[h])
  |clo st xs=>rcases hx with ⟨a,_,rfl,_⟩|⟨a,rfl,_⟩<;>(simp[isD] at h;simp[h])
 |_=>cases x<;>simp[isD] at h
theorem aeK:pH C (λx y H Q=>isPlain y/\Q (.bl (decide (x=y))) H) JC:=by
 intro Pr F env σ H x y d vx vy Q r hx hy h q;unfold JC at h;cases e:isD x y with
 |none=>rw[e] at h;cases h|some b=>rw[e] at h;cases h;obtain⟨h1,h2⟩:=Zy hx hy e;exact⟨h1,by rw[h2];exact q _ H F r (aM.refl F) rfl⟩
theorem Tc:pH C (λx y H Q=>isPlain y/\Q (.bl (!decide (x=y))) H) nO:=by
 intro Pr F env σ H x y d vx vy Q r hx hy h q;unfold nO at h;cases e:isD x y with
 |none=>rw[e] at h;cases h|some b=>rw[e] at h;cases h;obtain⟨h1,h2⟩:=Zy hx hy e;exact⟨h1,by rw[h2];exact q _ H F r (aM.refl F) rfl⟩
noncomputable def gI(c:Int->Int->Bool)(f:Int->Int->D)(x y:D):Option D:=match x,y with
 |.int i,.int j=>if c i j=true then some (f i j) else none|_,_=>none
theorem Td(hc:∀i j,c i j=true->Cd i j)(hf:∀i j F,Rep C.K F (f i j) (g i j)):pH C (rI Cd g) (gI c f):=by
 intro Pr F env σ H x y d vx vy Q r hx hy h q;unfold gI at h;split at h;rename_i i j;split at h;rename_i hcc;cases h;obtain rfl:=hx.int;obtain rfl:=hy.int;exact⟨i,j,rfl,rfl,hc i j hcc,q _ H F r (aM.refl F)<|hf i j F⟩;cases h;cases h
theorem Hx(hf:∀i j F,Rep C.K F (f i j) (g i j)):pH C (Jy g) (gI (λ_ _=>true) f):=by
 intro Pr F env σ H x y d vx vy Q r hx hy h q;unfold gI at h;split at h;rename_i i j;rw[if_pos rfl] at h;cases h;obtain rfl:=hx.int;obtain rfl:=hy.int;exact⟨i,j,rfl,rfl,q _ H F r (aM.refl F)<|hf i j F⟩;cases h
noncomputable def kE(i j:Int):Bool:=decide (Builtin.Int.intBits i+Builtin.Int.intBits j<=134217728)
theorem W2:mG X (binaryOp .Mult) (rI (λi j=>kE i j=true) λi j=>.int (i*j)):=
 opI λi j _ _ _ _ _ hc q=>mul_int q<|mulOk_of_bits (Qq1 _) (Qq1 _)<|Qxj hc
noncomputable def tQ:D->D->Option D:=gI kE λi j=>.int (i*j)
noncomputable def Ir:D->D->Option D:=gI (λ_ _=>true) λi j=>.int (i - j)
noncomputable def acv:D->D->Option D:=gI (λ_ j=>decide (0<j)) λi j=>.int (i % j)
noncomputable def KQ:D->D->Option D:=gI (λi j=>decide (0<=j/\j<=1000000/\i.natAbs<2^64)) λi j=>.int (i^j.toNat)
noncomputable def KJ:D->D->Option D:=gI (λi j=>decide (0<=j/\j<=1000000/\i.natAbs<2^64)) λi j=>.int (i*2^j.toNat)
noncomputable def zL:D->D->Option D:=gI (λ_ j=>decide (0<=j)) λi j=>.int (i / 2^j.toNat)
noncomputable def Bw:D->D->Option D:=gI (λ_ _=>true) λi j=>.int (Builtin.bitAnd i j)
theorem abC:pH C (rI (λi j=>kE i j=true) λi j=>.int (i*j)) tQ:=Td (λ_ _ h=>h) λ_ _ _=>rfl
theorem aby:pH C (Jy λi j=>.int (i - j)) Ir:=Hx λ_ _ _=>rfl
theorem abD:pH C (rI (λ_ j=>0<j) λi j=>.int (i % j)) acv:=Td (λ_ _ h=>Qxj h) λ_ _ _=>rfl
theorem abB:pH C (rI Yy λi j=>.int (i^j.toNat)) KQ:=Td (λi j h=>(show 0<=j/\j<=1000000/\i.natAbs<2^64 from Qxj h)) λ_ _ _=>rfl
theorem abA:pH C (rI Yy λi j=>.int (i*2^j.toNat)) KJ:=Td (λi j h=>(show 0<=j/\j<=1000000/\i.natAbs<2^64 from Qxj h)) λ_ _ _=>rfl
theorem abz:pH C (rI (λ_ j=>0<=j) λi j=>.int (i / 2^j.toNat)) zL:=Td (λ_ _ h=>Qxj h) λ_ _ _=>rfl
theorem abJ:pH C (Jy λi j=>.int (Builtin.bitAnd i j)) Bw:=Hx λ_ _ _=>rfl
abbrev aee:R2:=λx y H Q=>∃i j,x=.str i/\y=.str j/\Q (.bl (decide (i.cps.toList<j.cps.toList))) H
noncomputable def afl:D->D->Option D:=gI (λ_ _=>true) λi j=>.bl (decide (i<j))
noncomputable def acw(x y:D):Option D:=match x,y with
 |.str a,.str b=>some (.bl (decide (a<b)))|_,_=>none
noncomputable def M4(x y:D):Option D:=(afl x y).or (acw x y)
noncomputable def gLe:D->D->Option D:=gI (λ_ _=>true) λi j=>.bl (decide (i<=j))
noncomputable def gGt:D->D->Option D:=gI (λ_ _=>true) λi j=>.bl (decide (j<i))
theorem abE:pH C aee acw:=by
 intro Pr F env σ H x y d vx vy Q r hx hy h q;unfold acw at h;split at h;cases h;obtain⟨rfl,_⟩:=hx.str;obtain⟨rfl,_⟩:=hy.str;exact⟨_,_,rfl,rfl,q _ H F r (aM.refl F) (by congr)⟩;cases h
abbrev aef:R2:=λx y H Q=>Jy (λi j=>.bl (decide (i<j))) x y H Q\/aee x y H Q
theorem abj:mG X (compareOp .Lt) aef:=aeD.or O3
theorem abF:pH C (Jy λi j=>.bl (decide (i<j))) afl:=Hx λ_ _ _=>rfl
theorem aeI:pH C aef M4:=abF.or abE
theorem aeJ:pH C (Jy λi j=>.bl (decide (i<=j))) gLe:=Hx λ_ _ _=>rfl
theorem aeM:pH C (Jy λi j=>.bl (decide (j<i))) gGt:=Hx λ_ _ _=>rfl
def RM(K:Fg):R2:=λx y H Q=>∃a b ys,x=.ref a/\y=.ref b/\lG K H a []/\lG K H b ys/\Q (.ref b) H
theorem S9:mG X (binaryOp .Add) (RM X.K):=by
 intro pins s σ H x y v u Q I rx ry h;obtain⟨a,b,ys,rfl,rfl,ha,hb,q⟩:=h;cases rx;cases ry;obtain⟨its,r1,p1,_⟩:=I.tuple ha;obtain⟨its2,r2,p2,_⟩:=I.tuple hb;cases r1;obtain⟨⟨cls,dd,data,sl⟩,ho,hc,n,hd⟩:=id p1;obtain⟨⟨cls2,dd2,data2,sl2⟩,ho2,hc2,n2,hd2⟩:=id p2;simp at hc hd hc2 hd2;subst hc hd hc2 hd2;exact concat_meets ⟨_,ho,rfl⟩ ⟨_,ho2,rfl⟩ noFill_tuple_add seq_tuple_add PySem.F.slot_tuple_add PySem.F.entry_tuple_add (PySem.F.args_tuple_add_2 _ _)
  (tuple_addW0 a b [].toArray its2.toArray n n2 dd dd2 sl sl2 (by simp)) ⟨ho,ho2,⟨.ref b,H,I,rfl,q⟩⟩
abbrev aen:R2:=λx y H Q=>∃i j,x=.str i/\y=.str j/\i.length+j.length<=sizeLine/\Q (.str (i++j)) H
abbrev aeo(K:Fg):R2:=λx y H Q=>Jy (λi j=>.int (i+j)) x y H Q\/aen x y H Q\/aem x y H Q\/Y5 K x y H Q\/RM K x y H Q
theorem W4:mG X (binaryOp .Add) (aeo X.K):=abt.or<|Kr.or<|abq.or<|W3.or S9
noncomputable def dB(x y:D):Option D:=match x,y with
 |.int i,.int j=>some (.int (i+j))|.str a,.str b=>if a.length+b.length<=sizeLine then some (.str (a++b)) else none|.lst a,.lst b=>if a.length+b.length<=sizeLine then some (.lst (a++b)) else none|.tup a,.tup b=>if a.length+b.length<=sizeLine then some (.tup (a++b)) else none|_,_=>none
theorem Dw(a b):strOf a++strOf b=strOf (a++b):=by show(⟨(strOf a).cps++(strOf b).cps⟩:Str)=_;unfold strOf;simp
theorem fQ(a):(strOf a).length=a.length:=by show a.toArray.size=a.length;simp
theorem abK:pH C (aeo C.K) dB:=by
 intro Pr F env σ H x y d vx vy Q r hx hy h q;unfold dB at h;split at h;cases h;obtain rfl:=hx.int;obtain rfl:=hy.int;exact .inl ⟨_,_,rfl,rfl,q _ H F r (aM.refl F) rfl⟩;split at h;rename_i hz;cases h;obtain⟨rfl,_⟩:=hx.str;obtain⟨rfl,_⟩:=hy.str;refine .inr<|.inl ⟨_,_,rfl,rfl,by rw[fQ,fQ];exact hz,?_⟩;rw[Dw];exact q _ H F r (aM.refl F) ⟨rfl,by rw[Qqk];exact hz⟩;cases h;split at h;rename_i hz;cases h;obtain⟨_,a,vs,rfl,h1,h2⟩:=hx.lst r.fr;obtain⟨_,b,ws,rfl,h3,h4⟩:=hy.lst r.fr;refine .inr<|.inr<|.inl ⟨a,b,vs,ws,rfl,rfl,h1,h3,by rw[h2.length,h4.length];exact hz,λp hp=>?_⟩;obtain⟨r2,s2⟩:=r.new hp;exact q _ _ _ r2 s2 ⟨by rw[Qqk];exact hz,p,_,rfl,aU,bK.mono s2 _ _<|h2.append h4⟩;cases h;split at h;rename_i hz;cases h;obtain⟨z1,a,vs,rfl,h1,f1,h2⟩:=hx.tup r.fr;obtain⟨z2,b,ws,rfl,h3,f3,h4⟩:=hy.tup r.fr;by_cases hv:vs=[];subst hv;have e1:=h2.length.symm;have e2:=Qj1 e1;subst e2;refine .inr<|.inr<|.inr<|.inr ⟨a,b,ws,rfl,rfl,h1,h3,?_⟩;exact q _ H F r (aM.refl F) ⟨z2,b,ws,rfl,f3,h4⟩;refine .inr<|.inr<|.inr<|.inl ⟨a,b,vs,ws,rfl,rfl,h1,h3,hv,by rw[h2.length,h4.length];exact hz,λhw=>?_,λhw p hp=>?_⟩;subst hw;have e1:=h4.length.symm;have e2:=Qj1 e1;subst e2;rw[Qw6] at q;exact q _ H F r (aM.refl F) ⟨z1,a,vs,rfl,f1,h2⟩;obtain⟨r2,s2⟩:=r.new hp;exact q _ _ _ r2 s2 ⟨by rw[Qqk];exact hz,p,_,rfl,lG.of aU,bK.mono s2 _ _<|h2.append h4⟩;cases h;cases h
def Jv(K:Fg)(F H:Hp):List D->List V->Prop
 |[],vs=>vs=[]|d::ds,vs=>∃v r,vs=v::r/\ie K F H d v/\Jv K F H ds r
def tAB(C:Cfg)(ev:dZ):TA:=λσ H Q=>∃(Pr F:Hp) (env env':Env) (ds:List D),Rel C Pr F env σ H/\ev env=.ok ds env'/\
 ∀vs H' F',Rel C Pr F' env' σ H'->aM F F'->Jv C.K F' H' ds vs->Q vs H'
def Yw(X:Cx)(C:Cfg)(es:List Expr)(ev:dZ):Prop:=PA X es (tAB C ev)
def CallD(C:Cfg)(r:List V->Hp->VK->Prop)(g:List D->Option D):Prop:=∀(Pr F:Hp) (env:Env) (σ:L2.St) (H:Hp) (ds:List D) (d:D) (vs:List V) (Q:VK),Rel C Pr F env σ H->Jv C.K F H ds vs->g ds=some d->
 (∀v H' F',Rel C Pr F' env σ H'->aM F F'->Rep C.K F' d v->Q v H')->r vs H Q
noncomputable def au(g:List D->Option D)(a:dZ):Ev:=λenv=>bindR (a env) λds aJ=>iy (g ds) aJ
theorem Nq(o:CallD C r g)(σ)(H)(Q)(h:tE C (au g a) σ H Q):tCB r (tAB C a) σ H Q:=by obtain⟨Pr,F,env,env',d,rl,e,q⟩:=h;obtain⟨ds,aJ,e1,e2⟩:=aQ e;obtain⟨e3,rfl⟩:=eZ e2;exact⟨Pr,F,env,env',ds,rl,e1,λvs H1 F1 r1 s1 p1=>o Pr F1 env' σ H1 ds d vs Q r1 p1 e3 λv H2 F2 r2 s2 p2=>q v H2 F2 r2 (s1.trans s2) p2⟩
theorem uG{p pos:Pos}{id:String}(hc:jU X (.builtin id) r)(o:CallD C r g)(hg:Gl X x)(hm:X.mg x=none)(hv:bootBuiltins x=some (.builtin id))(ha:Yw X C (e::es) a)
  (hn:x ≠ "__name__":=by decide) (hdb:lK x:=by decide) (he:starEach (e::es) X.env=(false,eval e X.env)::starEach es X.env:=by rfl) (hpl:(backTo pos (starEach es X.env)).any (·.1)=false:=by rfl) :
  PX X C (.Call (.Name x p) (e::es) [] pos) (au g a):=(Hu hc hg hm hv ha hn hdb he hpl).imp<|Nq o
theorem wG{p pos:Pos}(hc:jU X (.type T) r)(o:CallD C r g)(hg:Gl X x)(hm:X.mg x=none)(hv:bootBuiltins x=some (.type T))(ha:Yw X C (e::es) a)
  (hn:x ≠ "__name__":=by decide) (hdb:lK x:=by decide) (he:starEach (e::es) X.env=(false,eval e X.env)::starEach es X.env:=by rfl) (hpl:(backTo pos (starEach es X.env)).any (·.1)=false:=by rfl) :
  PX X C (.Call (.Name x p) (e::es) [] pos) (au g a):=(Oz hc hg hm hv ha hn hdb he hpl).imp<|Nq o
theorem nR{K:Fg}(h:Jv K F H [d] vs):∃v,vs=[v]/\ie K F H d v:=by obtain⟨v,r,rfl,h1,h2⟩:=h;cases h2;exact⟨v,rfl,h1⟩
theorem acT{K:Fg}(h:Jv K F H [d,e] vs):∃v w,vs=[v,w]/\ie K F H d v/\ie K F H e w:=by obtain⟨v,r,rfl,h1,h2⟩:=h;obtain⟨w,rfl,h3⟩:=nR h2;exact⟨v,w,rfl,h1,h3⟩
noncomputable def d7:List D->Option D
 |[.str x]=>some (.int x.length)|[.tup xs]=>some (.int xs.length)|[.lst xs]=>some (.int xs.length)|[.arr xs]=>some (.int xs.length)|_=>none
theorem acQ:CallD C (λxs H Q=>∃x n,xs=[x]/\afL C.K x H n/\Q (.int n) H) d7:=by
 intro Pr F env σ H ds d vs Q r hs h q;unfold d7 at h;split at h;cases h;obtain⟨v,rfl,hv⟩:=nR hs;obtain⟨rfl,hz⟩:=hv.str;exact⟨_,_,rfl,⟨by rw[fQ];exact hz,(fQ _).symm⟩,q _ H F r (aM.refl F) rfl⟩;cases h;obtain⟨v,rfl,hv⟩:=nR hs;obtain⟨_,a,ws,rfl,h1,_,h2⟩:=hv.tup r.fr;exact⟨_,_,rfl,.inr ⟨ws,h1,h2.length.symm⟩,q _ H F r (aM.refl F) rfl⟩;cases h;obtain⟨v,rfl,hv⟩:=nR hs;obtain⟨_,a,ws,rfl,h1,h2⟩:=hv.lst r.fr;exact⟨_,_,rfl,.inl ⟨ws,oR.of h1,h2.length.symm⟩,q _ H F r (aM.refl F) rfl⟩;cases h;obtain⟨v,rfl,hv⟩:=nR hs;obtain⟨_,a,ws,rfl,h1,h2⟩:=hv.arr r.fr;exact⟨_,_,rfl,.inl ⟨ws,h1,h2.length.symm⟩,q _ H F r (aM.refl F) rfl⟩;cases h
noncomputable def cV:List D->Option D
 |[.tup xs]=>some (.tup xs)|[.lst xs]=>some (.tup xs)|_=>none
abbrev RD(K:Fg):List V->Hp->VK->Prop:=λxs H Q=>∃p ys,xs=[.ref p]/\((oR K H p ys/\∀l,H l=none->Q (.ref l) (upd H l (.tup ys)))\/(lG K H p ys/\Q (.ref p) H))
theorem UL:CallD C (RD C.K) cV:=by
 intro Pr F env σ H ds d vs Q r hs h q;unfold cV at h;split at h;cases h;obtain⟨v,rfl,hv⟩:=nR hs;obtain⟨z,a,ws,rfl,h1,f1,h2⟩:=hv.tup r.fr;exact⟨a,ws,rfl,.inr ⟨h1,q _ H F r (aM.refl F) ⟨z,a,ws,rfl,f1,h2⟩⟩⟩;cases h;obtain⟨v,rfl,hv⟩:=nR hs;obtain⟨z,a,ws,rfl,h1,h2⟩:=hv.lst r.fr;refine⟨a,ws,rfl,.inl ⟨oR.of h1,λl hl=>?_⟩⟩;obtain⟨r2,s2⟩:=r.new hl;exact q _ _ _ r2 s2 ⟨z,l,ws,rfl,lG.of aU,bK.mono s2 _ _ h2⟩;cases h
noncomputable def signs(x:List Nat):List D:=x.map λc=>.str [c]
abbrev RG:List V->Hp->VK->Prop:=λxs H Q=>∃z,xs=[.str z]/\z.length<=sizeLine/\∀l,H l=none->Q (.ref l) (upd H l (.lst (z.cps.toList.map λc=>V.str ⟨#[c]⟩)))
theorem K6(hh:X.calm=true):jU X (.type "list") RG:=by
 intro pins s σ H xs us Q I r h;obtain⟨z,rfl,hz,q⟩:=h;obtain⟨u,rfl,⟨t,rfl⟩⟩:=vals1 r;refine call_list_str (I.ok.hd hh) z t (λh' tk acc' c' kp e hacc=>?_) hz;refine⟨.ref s.heap.objs.size,_,I.laid kp (Qq1 _)<|show gf X.prog X.w _ h' _ (.lst<|z.cps.toList.map λc=>V.str ⟨#[c]⟩) from⟨?_,acc'.toList,c',?_,by simpa using e⟩,rfl,q _<|I.hok.fresh<|Qq1 _⟩;simpa[Str.length] using hz;obtain⟨hsz,hit⟩:=hacc;have go:∀(cs:List Nat) vs,vs.length=cs.length->(∀(j:Nat) v,vs[j]?=some v->∃c u,cs[j]?=some c/\v=Value.str ⟨#[c]⟩ u)->Vals (cs.map λc=>V.str ⟨#[c]⟩) vs:=by
  intro cs;induction cs with
  |nil=>intro vs hl _;rw[Qj1 hl];exact .nil
  |cons c cs ih=>
   intro vs hl hv;cases vs with
   |nil=>simp at hl|cons v vs=>obtain⟨c',u,e1,e2⟩:=hv 0 v rfl;simp at e1;subst e1 e2;exact .cons ⟨u,rfl⟩<|ih vs (by simpa using hl) λj w hw=>by simpa using hv (j+1) w (by simpa using hw)
 refine go _ _ (by simpa using hsz) λj v hv=>?_;obtain⟨c,u,e1,e2⟩:=hit j v (by simpa using hv);exact⟨c,u,by simpa using e1,e2⟩
noncomputable def zM:List D->Option D
 |[.tup xs]=>some (.lst xs)|[.lst xs]=>some (.lst xs)|[.str x]=>some (.lst (signs x))|_=>none
abbrev RJ(K:Fg):List V->Hp->VK->Prop:=λxs H Q=>(∃p ys,xs=[.ref p]/\(oR K H p ys\/lG K H p ys)/\∀l,H l=none->Q (.ref l) (upd H l (.lst ys)))\/RG xs H Q
theorem K7(hh:X.calm=true):jU X (.type "list") (RJ X.K):=FW.or<|K6 hh
theorem yQ{K:Fg}:∀x,bK K F (signs x) (x.map λc=>V.str ⟨#[c]⟩)
 |[]=>rfl|c::x=>⟨_,_,rfl,⟨rfl,by rw[Qkj];simp⟩,yQ x⟩
theorem Yc:CallD C (RJ C.K) zM:=by
 intro Pr F env σ H ds d vs Q r hs h q;unfold zM at h;split at h;cases h;obtain⟨v,rfl,hv⟩:=nR hs;obtain⟨z,a,ws,rfl,h1,f1,h2⟩:=hv.tup r.fr;refine .inl ⟨a,ws,rfl,.inr h1,λl hl=>?_⟩;obtain⟨r2,s2⟩:=r.new hl;exact q _ _ _ r2 s2 ⟨z,l,ws,rfl,aU,bK.mono s2 _ _ h2⟩;cases h;obtain⟨v,rfl,hv⟩:=nR hs;obtain⟨z,a,ws,rfl,h1,h2⟩:=hv.lst r.fr;refine .inl ⟨a,ws,rfl,.inl<|oR.of h1,λl hl=>?_⟩;obtain⟨r2,s2⟩:=r.new hl;exact q _ _ _ r2 s2 ⟨z,l,ws,rfl,aU,bK.mono s2 _ _ h2⟩;rename_i x;cases h;obtain⟨v,rfl,hv⟩:=nR hs;obtain⟨rfl,hz⟩:=hv.str;refine .inr ⟨_,rfl,by rw[fQ];exact hz,λl hl=>?_⟩;obtain⟨r2,s2⟩:=r.new hl;refine q _ _ _ r2 s2 ⟨by simpa[signs] using hz,l,_,rfl,aU,?_⟩;have e:(strOf x).cps.toList=x:=by simp[strOf]
 rw[e];exact yQ x;cases h
noncomputable def uV:List D->Option D
 |[.int i,.int j]=>if 0<j/\j<1073741824 then some (.tup [.int (i / j),.int (i % j)]) else none|_=>none
theorem Qh:CallD C (λxs H Q=>∃i j,xs=[.int i,.int j]/\afN i j/\∀p,H p=none->Q (.ref p) (upd H p (.tup [.int (i / j),.int (i % j)]))) uV:=by
 intro Pr F env σ H ds d vs Q r hs h q;unfold uV at h;split at h;split at h;rename_i hj;cases h;obtain⟨v,w,rfl,hv,hw⟩:=acT hs;obtain rfl:=hv.int;obtain rfl:=hw.int;refine⟨_,_,rfl,hj,λp hp=>?_⟩;obtain⟨r2,s2⟩:=r.new hp;exact q _ _ _ r2 s2 ⟨by rw[Qkj];simp,p,_,rfl,lG.of aU,⟨_,_,rfl,rfl,_,_,rfl,rfl,rfl⟩⟩;cases h;cases h
noncomputable def VH:D->String
 |.non=>"NoneType"|.bl _=>"bool"|.int _=>"int"|.str _=>"str"|.tup _=>"tuple"|.lst _=>"list"|.arr _=>"list"|.dct _=>"dict"|.gR _=>"dict"|.clo _ _=>"NoneType"
noncomputable def uR(d:D)(T:String):Bool:=VH d == T||(VH d == "bool" && T == "int")
theorem acb(Jz:X.K.In s.heap)(nc:∀st ds,d ≠ .clo st ds)(h:Sh s.heap d u)(e:PySem.W.kitOne X.K (.type (VH d)) c=some b)(q:∀tk,Q (.bool b) { s with toks:=tk }) :
  wpAny (model X.prog X.w) A (call (.builtin "isinstance") [u,c]) Q E s:=by
 cases d with
 |non=>cases h;exact PySem.W.kia_one PySem.W.kitx_none Jz True.intro e (λz=>nomatch z) q|bl y=>cases h;exact PySem.W.kia_one PySem.W.kitx_bool Jz True.intro e (λz=>nomatch z) q|int i=>obtain⟨t,rfl⟩:=h;exact PySem.W.kia_one PySem.W.kitx_int Jz True.intro e (λz=>nomatch z) q|str y=>obtain⟨t,rfl⟩:=h;exact PySem.W.kia_one PySem.W.kitx_str Jz True.intro e (λz=>nomatch z) q|tup xs=>obtain⟨a,its,rfl,p,_⟩:=h;obtain⟨o,h1,h2,_⟩:=p;exact PySem.W.kia_one PySem.W.kitx_tuple Jz ⟨o,h1,h2⟩ e (λz=>nomatch z) q|lst xs=>obtain⟨a,its,rfl,p,_⟩:=h;obtain⟨o,h1,h2,_⟩:=p.isList;exact PySem.W.kia_one PySem.W.kitx_list Jz ⟨o,h1,h2⟩ e (λz=>nomatch z) q|arr xs=>obtain⟨a,its,rfl,p,_⟩:=h;obtain⟨o,h1,h2,_⟩:=p.isList;exact PySem.W.kia_one PySem.W.kitx_list Jz ⟨o,h1,h2⟩ e (λz=>nomatch z) q|dct kvs=>obtain⟨a,o,rfl,h1,h2⟩:=h;exact PySem.W.kia_one PySem.W.kitx_dict Jz ⟨o,h1,h2.1⟩ e (λz=>nomatch z) q|gR kvs=>obtain⟨a,o,rfl,h1,h2⟩:=h;exact PySem.W.kia_one PySem.W.kitx_dict Jz ⟨o,h1,h2.1⟩ e (λz=>nomatch z) q|clo st ds=>exact(nc st ds rfl).elim
noncomputable def Uk(T:String)(d:D):Option D:=match d with
 |.clo _ _=>none|_=>some (.bl (uR d T))
theorem XM(h:Uk T d=some e):(∀st ds,d ≠ .clo st ds)/\e=.bl (uR d T):=by cases d<;>simp[Uk] at h<;>exact⟨λ_ _ z=>(by cases z),h.symm⟩
theorem U4(hk:∀d,PySem.W.kitOne X.K (.type (VH d)) (.type T)=some (uR d T)) :
  jU X (.builtin "isinstance") (λxs H Q=>∃d x,xs=[x,.ty T]/\(∀st ds,d ≠ .clo st ds)/\Rep X.K H d x/\Q (.bl (uR d T)) H):=by
 intro pins s σ H xs us Q I r h;obtain⟨d,x,rfl,nc,hr,q⟩:=h;obtain⟨u,w,rfl,r1,r2⟩:=vals2 r;cases r2;exact acb I.Px nc (Rep.sh I d x u hr r1) (hk d) λtk=>⟨.bl _,H,I.tok tk,rfl,q⟩
noncomputable def jr:List D->Option (List (List Nat))
 |[]=>some []|.str x::r=>(jr r).map (x :: ·)|_=>none
noncomputable def zF(sep:List Nat):List (List Nat)->List Nat
 |[]=>[]|x::r=>r.foldl (λacc y=>acc++sep++y) x
theorem T4(sep)(xs):Txt.join (strOf sep) (xs.map strOf)=strOf (zF sep xs):=by
 unfold Txt.join;unfold Builtin.Str.glued;cases xs with
 |nil=>rfl
 |cons x r=>
  show⟨(r.map strOf).foldl (λacc p=>acc++(strOf sep).cps++p.cps) (strOf x).cps⟩=strOf (r.foldl (λacc y=>acc++sep++y) x);have go:∀(r:List (List Nat)) x,(r.map strOf).foldl (λacc p=>acc++(strOf sep).cps++p.cps) (strOf x).cps=(strOf<|r.foldl (λacc y=>acc++sep++y) x).cps:=by
   intro r
   induction r with
   |nil=>intro x;rfl
   |cons y r ih=>
    intro x;rw[Qwq,List.foldl_cons,List.foldl_cons];rw[<-ih (x++sep++y)]
    congr 1
    simp[strOf]
  rw[go]
theorem wC{K:Fg}:∀{ds} {xs} {vs},jr ds=some xs->bK K F ds vs->vs=xs.map λx=>V.str (strOf x)
 |[],bs,vs,h,hr=>by simp[jr] at h;subst h;cases hr;rfl
 |d::ds,bs,vs,h,hr=>by
  obtain⟨v,r,rfl,h1,h2⟩:=hr;cases d with
  |str b=>
   simp only[jr] at h;cases e:jr ds with
   |none=>rw[e] at h;cases h
   |some cs=>
    rw[e] at h;cases h;cases h1.1;rw[wC e h2]
    rfl
  |_=>simp[jr] at h
theorem vP:∀{xs:List (List Nat)} {us},Vals (xs.map λx=>V.str (strOf x)) us->StrsAre us (xs.map strOf)
 |[],_,.nil=>.nil
 |x::xs,_,.cons r t=>by
  obtain⟨k,rfl⟩:=r;exact .cons _ k<|vP t
noncomputable def joinFits(sep:List Nat)(xs:List (List Nat)):Bool:=decide ((xs.map List.length).sum+xs.length*sep.length<=16777216)
def rJoin(K:Fg):V->List V->Hp->VK->Prop:=λx vs H Q=>∃sep xs p,x=.str (strOf sep)/\vs=[.ref p]/\oR K H p (xs.map λx=>V.str (strOf x))/\joinFits sep xs=true/\Q (.str (strOf (zF sep xs))) H
theorem Xe:MtR X "str.join" (rJoin X.K):=by
 intro pins s σ H x vs v us Q I rx rv h;obtain⟨sep,xs,p,rfl,rfl,hq,hf,q⟩:=h;obtain⟨t,rfl⟩:=rx;obtain⟨u,rfl,ru⟩:=vals1 rv;cases ru;obtain⟨its,r,pl,_⟩:=I.list hq;have hs:=vP r;refine join_list pl.isList (by simpa using hs) ?_ λt' k=>?_;have hf':=Qxj hf;have e:((xs.map strOf).map (·.length))=xs.map List.length:=by
  rw[Qkw];apply Qjk;intro z _;exact fQ z
 rw[e,fQ,Qq3];exact hf';rw[T4];exact⟨.str _,H,I.tok k,⟨t',rfl⟩,q⟩
theorem G3(sep):∀(r:List (List Nat)) x,(r.foldl (λacc y=>acc++sep++y) x).length=x.length+(r.map List.length).sum+r.length*sep.length
 |[],x=>by simp
 |y::r,x=>by
  rw[List.foldl_cons,G3 sep r,Qqk,Qqk,Qwq,List.sum_cons,Qqw,Nat.add_mul];omega
theorem T5(h:joinFits sep xs=true):(zF sep xs).length<=sizeLine:=by
 have h':=Qxj h;rw[Qkj];cases xs with
 |nil=>simp[zF]|cons x r=>show(r.foldl (λacc y=>acc++sep++y) x).length<=_;rw[G3];rw[Qwq,List.sum_cons,Qqw,Nat.add_mul] at h';omega
noncomputable def qK(x y:D):Option D:=match x,y with
 |.str sep,.lst ds=>(match jr ds with
  |some xs=>if joinFits sep xs=true then some (.str (zF sep xs)) else none|none=>none)
 |_,_=>none
theorem Ws{apos cpos:Pos}(hK:X.K=C.K)(ho:PX X C o a)(he:Vj X C e b)(hbase:attributeBase o "join" X.env (eval o X.env)=eval o X.env:=by rfl)
  (hs:Qt e X.env:=by rfl)
  (hfew:((backTo cpos (starEach [e] X.env)).all (λx=>!x.1)&&(backToKw cpos (keywordEach [] X.env)).all (λx=>x.1.isSome)
   && decide ([e].length+([]:List Keyword).length+(if ([]:List Keyword).isEmpty then 0 else 1)<30))=true:=by rfl)
  (hline:(apos.endLine == cpos.line)=true:=by rfl) (hplain:(backTo cpos (starEach [] X.env)).any (·.1)=false:=by rfl) :
  PX X C (.Call (.Attribute o "join" apos) [e] [] cpos) (aO qK a b):=by
 refine(Zd PySem.F.plainAttrs_str PySem.F.slot_str_join PySem.F.type_str_join Xe ho (iw he wH hs) hbase hfew hline hs hplain).imp λσ H Q h=>?_;obtain⟨Pr,F,env,env',d,rl,e0,q⟩:=h;obtain⟨x,aJ,e1,e2⟩:=aQ e0;obtain⟨y,dD,e3,e4⟩:=aQ e2;obtain⟨e5,rfl⟩:=eZ e4;unfold qK at e5;split at e5;rename_i sep ds;split at e5;rename_i xs hxs;split at e5;rename_i hf;cases e5;refine⟨Pr,F,env,aJ,_,rl,e1,λvx H1 F1 r1 s1 p1=>?_⟩;obtain⟨rfl,_⟩:=p1;refine⟨rfl,Pr,F1,aJ,env',_,r1,e3,λvy H2 F2 r2 s2 p2=>?_⟩;obtain⟨z,l,ws,rfl,h1,h2⟩:=p2.lst r2.fr;have e6:=wC hxs h2;subst e6;exact⟨sep,xs,l,rfl,rfl,oR.of h1,hf,q _ H2 F2 r2 (s1.trans s2) ⟨rfl,T5 hf⟩⟩;cases e5;cases e5;cases e5
end
theorem Rel.put(r:Rel C Pr F env σ H)(hfx:C.fx i=none)(p:Rep C.K F d v):Rel C Pr F (env.set i (some (false,d))) (σ.set i (some v)) H:=by
 refine⟨r.pr,r.fr,by rw[Qx6,Qx6];exact r.len,λj e he=>?_,λj e he=>?_,λj k e f b hj hk g1 g2=>?_,r.dj,λj a hj=>?_⟩;by_cases hji:j=i;subst hji;have hl:j<env.length:=by
  have:=(Qqy.mp he).1;rwa [Qx6] at this
 rw[Qw0 hl] at he;cases he;exact⟨v,Qw0 (by rw[<-r.len];exact hl),p⟩;rw[Qq8 (Ne.symm hji)] at he ⊢;exact r.val j e he;by_cases hji:j=i;subst hji;have hl:j<env.length:=by
  have:=(Qqy.mp he).1;rwa [Qx6] at this
 rw[Qw0 hl] at he;cases he;rw[Qq8 (Ne.symm hji)] at he ⊢;exact r.own j e he;have nn:∀j e,(env.set i<|some (false,d))[j]?=some (some (true,e))->j≠i:=λj e he z=>by
  subst z;have hl:j<env.length:=by
   have:=(Qqy.mp he).1;rwa [Qx6] at this
  rw[Qw0 hl] at he;cases he
 have nj:=nn j e hj;have nk:=nn k f hk;rw[Qq8 (Ne.symm nj)] at hj g1;rw[Qq8 (Ne.symm nk)] at hk g2;exact r.apart j k e f b hj hk g1 g2;have hji:j≠i:=λz=>by rw[z,hfx] at hj;cases hj
 rw[Qq8 (Ne.symm hji)];exact r.fix j a hj
structure Qx(K:Fg)(Pr F:Hp)(env:Env)(σ:L2.St)(H:Hp)(d:D)(a:Addr):Prop where
 own:jT K F H d a
 nF:F a=none
 nP:Pr a=none
 ap:∀(j:Nat) (e:D),env[j]?=some (some (true,e))->σ[j]?=some (some (V.ref a))->False
theorem Qx.of(r:Rel C Pr F env σ H)(h:H a=none)(ho:jT C.K F (upd H a o) d a):Qx C.K Pr F env σ (upd H a o) d a:=
 ⟨ho,r.fr.free h,r.pr.free h,λj e he hs=>by
  obtain⟨b,h1,h2,_⟩:=r.own j e he;rw[hs] at h1;cases h1;obtain⟨u,hu⟩:=h2.some;rw[h] at hu;cases hu⟩
theorem Rel.R5(r:Rel C Pr F env σ H)(hfx:C.fx i=none)(n:Qx C.K Pr F env σ H d a):Rel C Pr F (env.set i (some (true,d))) (σ.set i (some (.ref a))) H:=by
 have same:∀j x,(env.set i<|some (true,d))[j]?=some (some x)->j=i->x=(true,d)/\j<env.length:=λj x he z=>by
  subst z;have hl:j<env.length:=by
   have:=(Qqy.mp he).1;rwa [Qx6] at this
  rw[Qw0 hl] at he;cases he;exact⟨rfl,hl⟩
 refine⟨r.pr,r.fr,by rw[Qx6,Qx6];exact r.len,λj e he=>?_,λj e he=>?_,λj k e f b hj hk g1 g2=>?_,r.dj,λj a hj=>?_⟩;by_cases hji:j=i;have:=(same j _ he hji).1;cases this;rw[Qq8 (Ne.symm hji)] at he ⊢;exact r.val j e he;by_cases hji:j=i;obtain⟨z,hl⟩:=same j _ he hji;cases z;subst hji;exact⟨a,Qw0 (by rw[<-r.len];exact hl),n.own,n.nF,n.nP⟩;rw[Qq8 (Ne.symm hji)] at he ⊢;exact r.own j e he;by_cases nj:j=i;by_cases nk:k=i;rw[nj,nk];obtain⟨z,hl⟩:=same j _ hj nj;subst nj;rw[Qw0 (by rw[<-r.len];exact hl)] at g1;cases g1;rw[Qq8 (Ne.symm nk)] at hk g2;exact(n.ap k f hk g2).elim;rw[Qq8 (Ne.symm nj)] at hj g1;by_cases nk:k=i;obtain⟨z,hl⟩:=same k _ hk nk;subst nk;rw[Qw0 (by rw[<-r.len];exact hl)] at g2;cases g2;exact(n.ap j e hj g1).elim;rw[Qq8 (Ne.symm nk)] at hk g2;exact r.apart j k e f b hj hk g1 g2;have hji:j≠i:=λz=>by rw[z,hfx] at hj;cases hj
 rw[Qq8 (Ne.symm hji)];exact r.fix j a hj
theorem Rel.keep(r:Rel C Pr F env σ H)(n:Qx C.K Pr F env σ H d a):∃F',Rel C Pr F' env σ H/\aM F F'/\Rep C.K F' d (.ref a):=by
 obtain⟨o,ho⟩:=n.own.some;have s1:aM F (upd F a o):=lW n.nF;have rep:Rep C.K (upd F a o) d (.ref a):=by
  have h2:=n.own;cases d with
  |lst xs=>obtain⟨z,vs,g1,g2⟩:=h2;rw[ho] at g1;cases g1;exact⟨z,a,vs,rfl,aU,bK.mono s1 _ _ g2⟩|dct kvs=>obtain⟨z,ks,g1,g2⟩:=h2;rw[ho] at g1;cases g1;exact⟨z,a,ks,rfl,.inl aU,dM.mono s1 _ _ g2⟩|gR kvs=>obtain⟨z,ks,g1,g2⟩:=h2;rw[ho] at g1;cases g1;exact⟨z,a,ks,rfl,.inl aU,dq.mono s1 _ _ g2⟩|_=>exact h2.elim
 refine⟨upd F a o,⟨r.pr,λb u e=>?_,r.len,λj e he=>?_,λj e he=>?_,r.apart,λb u e=>?_,r.fix⟩,s1,rep⟩;by_cases hb:b=a;subst hb;rw[aU] at e;cases e;exact ho;rw[bj hb] at e;exact r.fr b u e;obtain⟨v,g1,g2⟩:=r.val j e he;exact⟨v,g1,Rep.mono s1 e v g2⟩;obtain⟨b,g1,g2,g3,g4⟩:=r.own j e he;have hb:b≠a:=λz=>by subst z;exact n.ap j e he g1
 exact⟨b,g1,g2.mono s1 rfl,by rw[bj hb];exact g3,g4⟩;by_cases hb:b=a;subst hb;exact n.nP;rw[bj hb] at e;exact r.dj b u e
theorem Rel.write(r:Rel C Pr F env σ H)(h:env[i]?=some (some (true,d)))(hs:σ[i]?=some (some (V.ref a)))(ho:jT C.K F (upd H a u) d' a) :
  Rel C Pr F (env.set i (some (true,d'))) σ (upd H a u):=by
 obtain⟨a',h1,h2,h3,h4⟩:=r.own i d h;rw[hs] at h1;cases h1;have hi:=(Qqy.mp h).1;have ne:∀j e b,j≠i->env[j]?=some (some (true,e))->σ[j]?=some (some<|V.ref b)->b≠a:=λj e b hj he g z=>hj<|r.apart j i e d a he h (by rw[<-z];exact g) hs;refine⟨λb w e=>?_,λb w e=>?_,by rw[Qx6];exact r.len,λj e he=>?_,λj e he=>?_,λj k e f b hj hk g1 g2=>?_,r.dj,r.fix⟩;have hb:b≠a:=λz=>by rw[z,h4] at e;cases e
 rw[bj hb];exact r.pr b w e;have hb:b≠a:=λz=>by rw[z,h3] at e;cases e
 rw[bj hb];exact r.fr b w e;by_cases hj:j=i;subst hj;rw[Qw0 hi] at he;cases he;rw[Qq8 (Ne.symm hj)] at he;exact r.val j e he;by_cases hj:j=i;subst hj;rw[Qw0 hi] at he;cases he;exact⟨a,hs,ho,h3,h4⟩;rw[Qq8 (Ne.symm hj)] at he;obtain⟨b,g1,g2,g3,g4⟩:=r.own j e he;exact⟨b,g1,g2.mono (aM.refl F)<|bj<|ne j e b hj he g1,g3,g4⟩;have un:∀j e,(env.set i<|some (true,d'))[j]?=some (some (true,e))->∃e',env[j]?=some (some (true,e')):=λj e he=>by
  by_cases hj:j=i;subst hj;exact⟨d,h⟩;rw[Qq8 (Ne.symm hj)] at he;exact⟨e,he⟩
 obtain⟨e',hj'⟩:=un j e hj;obtain⟨f',hk'⟩:=un k f hk;exact r.apart j k e' f' b hj' hk' g1 g2
def tN(C:Cfg)(ev:Ev):TE:=λσ H Q=>∃(Pr F:Hp) (env env':Env) (d:D),Rel C Pr F env σ H/\ev env=.ok d env'/\
 ∀a H' F',Rel C Pr F' env' σ H'->aM F F'->Qx C.K Pr F' env' σ H' d a->Q (.ref a) H'
def Vu(X:Cx)(C:Cfg)(e:Expr)(ev:Ev):Prop:=PE X e (tN C ev)
section
variable{X:Cx}{C:Cfg}{pos:Pos}
theorem Vu.px(h:Vu X C e ev):PX X C e ev:=PE.imp h λσ H Q hq=>by
 obtain⟨Pr,F,env,env',d,r,e,q⟩:=hq;refine⟨Pr,F,env,env',d,r,e,λa H' F' r' s' n'=>?_⟩;obtain⟨F2,r2,s2,p2⟩:=r'.keep n';exact q _ _ F2 r2 (s'.trans s2) p2
theorem Mg(h:Vk X C es r):Vu X C (.List es pos) (cM r):=(aa9 h).imp λσ H Q hq=>by
 obtain⟨Pr,F,env,env',d,rl,e,q⟩:=hq;obtain⟨ds,aJ,e1,e2⟩:=aQ e;split at e2;rename_i hz;cases e2;refine⟨Pr,F,env,env',ds,rl,e1,λvs H1 F1 r1 s1 p1=>⟨by rw[p1.length];exact hz,λp hp=>?_⟩⟩;exact q _ _ F1 (r1.fresh hp) s1<|Qx.of r1 hp ⟨hz,vs,aU,p1⟩;cases e2
abbrev GV:=D->Env->Option Env
abbrev Vv:=List D->Env->Option Env
def tG(C:Cfg)(lo:Nat)(gv:GV):TG:=λv σ H Q=>∃(Pr F:Hp) (env env':Env) (d:D),Rel C Pr F env σ H/\Rep C.K F d v/\gv d env=some env'/\
 ∀σ' H' F',Rel C Pr F' env' σ' H'->aM F F'->σ'.take lo=σ.take lo->Q σ' H'
def tGs(C:Cfg)(lo:Nat)(gv:Vv):Ys:=λvs σ H Q=>∃(Pr F:Hp) (env env':Env) (ds:List D),Rel C Pr F env σ H/\bK C.K F ds vs/\gv ds env=some env'/\
 ∀σ' H' F',Rel C Pr F' env' σ' H'->aM F F'->σ'.take lo=σ.take lo->Q σ' H'
def Yv(X:Cx)(C:Cfg)(lo:Nat)(e:Expr)(gv:GV):Prop:=PG X e (tG C lo gv)
def ac5(X:Cx)(C:Cfg)(lo:Nat)(es:List Expr)(gv:Vv):Prop:=Z3 X es (tGs C lo gv)
theorem _root_.L2.PG.imp{X:Cx}{e:Expr}{t t':TG}(h:PG X e t)(i:∀v σ H Q,t' v σ H Q->t v σ H Q):PG X e t':=λpins s σ H v u Q I r q=>h pins s σ H v u Q I r<|i v σ H Q q
theorem _root_.L2.Z3.imp{X:Cx}{e:List Expr}{t t':Ys}(h:Z3 X e t)(i:∀v σ H Q,t' v σ H Q->t v σ H Q):Z3 X e t':=λpins s σ H v u Q I r q=>h pins s σ H v u Q I r<|i v σ H Q q
noncomputable def ak(i:Nat):GV:=λd env=>some (env.set i (some (false,d)))
theorem R0{lo i:Nat}(hN:X.N.Nodup)(hi:X.N[i]?=some x)(hx:Loc X.env.scope x)(hlo:lo<=i)(hfx:C.fx i=none)(hf:X.fn x=true\/X.env.scope.names.lookup x=some .local:=by first|exact .inl rfl|exact .inr rfl|assumption):Yv X C lo (.Name x pos) (ak i):=
 (WL hN hi hx hf).imp λv σ H Q h=>by
  obtain⟨Pr,F,env,env',d,r,p,e,q⟩:=h;cases e;exact q _ _ F (r.put hfx p) (aM.refl F) (by rw[List.take_set_of_le hlo])
noncomputable def cG:Vv:=λds env=>if ds.isEmpty then some env else none
noncomputable def aG(g:GV)(gs:Vv):Vv:=λds env=>match ds with
 |d::r=>(g d env).bind λe1=>gs r e1|[]=>none
theorem RZ{lo:Nat}:ac5 X C lo [] cG:=WK.imp λv σ H Q h=>by
 obtain⟨Pr,F,env,env',ds,r,p,e,q⟩:=h;cases ds with
 |nil=>cases e;cases p;exact⟨rfl,q _ _ F r (aM.refl F) rfl⟩|cons d ds=>cases e
noncomputable def cF(n:Nat)(gs:Vv):GV:=λd env=>match d with
 |.tup ds=>if ds.length=n then gs ds env else none|_=>none
theorem Wo{lo:Nat}{k:Nat}(hc:X.calm=true)(hK:X.K=C.K)(h:ac5 X C lo es gs)
  (hn:(assignEach es X.env).length=n:=by rfl) (hst:(assignEach es X.env).findIdx? (·.1)=none:=by rfl):Yv X C lo (.Tuple es k pos) (cF n gs):=(aa1 hc h hn hst).imp λv σ H Q h=>by
 obtain⟨Pr,F,env,env',d,r,p,e,q⟩:=h;cases d with
 |tup ds=>obtain⟨z,a,vs,rfl,h1,h2⟩:=p;unfold cF at e;simp only at e;split at e;rename_i hl;rw[hK];exact⟨a,vs,rfl,aM.tupK r.fr h1,by rw[h2.length];exact hl,Pr,F,env,env',ds,r,h2,e,q⟩;cases e|_=>cases e
noncomputable def XD(i:Nat)(ix:Ev):GV:=λd env=>match env[i]? with
 |some (some (_,_))=>(match ix env with
  |.ok (.int k) aJ=>(match aJ[i]? with
   |some (some (true,.lst xs))=>(Xw xs.length k).map λj=>aJ.set i (some (true,.lst (xs.set j d)))|_=>none)
  |_=>none)
 |_=>none
theorem aaF{lo i:Nat}(hN:X.N[i]?=some x)(hv:vM X.env.scope x)(h:PX X C ix ev)
  (ha:∀v,assign (.Subscript (.Name x px) ix pos) X.env v=(do
   let ov <-holding [v] (eval (.Name x px) X.env)
   let iv <-holding [v,ov] (eval ix X.env)
   standAt pos
   holding [v,ov,iv] (setItem ov iv v)
   release [v,ov,iv] []):=by intro _;rfl)
  (hd:lK x:=by decide) (hcd:vJ x:=by decide):Yv X C lo (.Subscript (.Name x px) ix pos) (XD i ev):=
 (aa2 (jb hN hv hd hcd) h set_list ha).imp λv σ H Q hq=>by
  obtain⟨Pr,F,env,env',d,r,p,e,q⟩:=hq;unfold XD at e;split at e;rename_i o0 d0 h0;obtain⟨v0,hv0,_⟩:=r.rd h0;split at e;rename_i k aJ e1;split at e;rename_i xs h2;obtain⟨j,hj,e3⟩:=Qw8.mp e;subst e3;refine⟨v0,hv0,Pr,F,env,aJ,.int k,r,e1,λvi H1 F1 r1 s1 p1=>?_⟩;cases p1;obtain⟨a,g1,⟨z,vs,g2,g3⟩,g4,g5⟩:=r1.own i _ h2;rw[hv0] at g1;cases g1;refine⟨a,vs,k,j,rfl,rfl,g2,by rw[g3.length];exact hj,?_⟩;refine q σ _ F1 (r1.write h2 hv0 ⟨by rw[Qx6];exact z,vs.set j v,aU,bK.set (Rep.mono s1 d v p) j g3⟩) s1 rfl;cases e;cases e;cases e
end
inductive Out where
 |nx (env:Env)|rt (o:Bool) (d:D) (env:Env)|bk (env:Env)|ct (env:Env)|stuck
abbrev bO:=Env->Out
def Fin(C:Cfg)(Pr F:Hp)(D:Ends):Out->Prop
 |.nx env'=>∀σ' H' F',Rel C Pr F' env' σ' H'->aM F F'->D.nx σ' H'|.rt false d env'=>∀v σ' H' F',Rel C Pr F' env' σ' H'->aM F F'->Rep C.K F' d v->D.rt v H'|.rt true d env'=>∀a σ' H' F',Rel C Pr F' env' σ' H'->aM F F'->Qx C.K Pr F' env' σ' H' d a->D.rt (.ref a) H'|.bk env'=>∀σ' H' F',Rel C Pr F' env' σ' H'->aM F F'->D.bk σ' H'|.ct env'=>∀σ' H' F',Rel C Pr F' env' σ' H'->aM F F'->D.ct σ' H'|.stuck=>False
theorem Fin.mono{D:Ends}(s:aM F F1):∀{o},Fin C Pr F D o->Fin C Pr F1 D o
 |.nx _,h=>λσ' H' F' r t=>h σ' H' F' r<|s.trans t|.rt false _ _,h=>λv σ' H' F' r t=>h v σ' H' F' r<|s.trans t|.rt true _ _,h=>λv σ' H' F' r t=>h v σ' H' F' r<|s.trans t|.bk _,h=>λσ' H' F' r t=>h σ' H' F' r<|s.trans t|.ct _,h=>λσ' H' F' r t=>h σ' H' F' r<|s.trans t|.stuck,h=>h
def tS(C:Cfg)(ev:bO):TS:=λD σ H=>∃(Pr F:Hp) (env:Env),Rel C Pr F env σ H/\Fin C Pr F D (ev env)
def Vt(X:Cx)(C:Cfg)(st:Stmt)(ev:bO):Prop:=PS X st (tS C ev)
def rR(X:Cx)(C:Cfg)(st:List Stmt)(ev:bO):Prop:=Gp X st (tS C ev)
noncomputable def gZ{α:Type}(x:R α)(f:α->Env->Out):Out:=match x with
 |.ok a env=>f a env|.stuck=>.stuck
theorem cZ{D:Ends}{α:Type}{x:R α}{f:α->Env->Out}(h:Fin C Pr F D (gZ x f)):∃a aJ,x=.ok a aJ/\Fin C Pr F D (f a aJ):=by
 cases x with
 |ok a aJ=>exact⟨a,aJ,rfl,h⟩|stuck=>exact h.elim
section
variable{X:Cx}{C:Cfg}{pos:Pos}
noncomputable def cT:bO:=λenv=>.nx env
noncomputable def aD(a b:bO):bO:=λenv=>match a env with
 |.nx e=>b e|.rt o d e=>.rt o d e|.bk e=>.bk e|.ct e=>.ct e|.stuck=>.stuck
theorem RP:rR X C [] cT:=Wv.imp λD σ H h=>by
 obtain⟨Pr,F,env,r,f⟩:=h;exact f σ H F r<|aM.refl F
theorem Ek:Vt X C (.Continue pos) (λenv=>.ct env):=Hr.imp λD σ H h=>by
 obtain⟨Pr,F,env,r,f⟩:=h;exact f σ H F r<|aM.refl F
noncomputable def gK(t:gh)(a b:bO):bO:=λenv=>gZ (t env) λc aJ=>if c=true then a aJ else b aJ
noncomputable def bA(a:Ev):bO:=λenv=>gZ (a env) λd aJ=>.rt false d aJ
noncomputable def yH(a:Ev):bO:=λenv=>gZ (a env) λd aJ=>.rt true d aJ
noncomputable def J7(a:Ev):bO:=λenv=>gZ (a env) λ_ aJ=>.nx aJ
noncomputable def Tz(o:Option Env):Out:=match o with
 |some e=>.nx e|none=>.stuck
noncomputable def aW(a:Ev)(g:GV):bO:=λenv=>gZ (a env) λd aJ=>Tz (g d aJ)
theorem acV{D:Ends}(h:tS C (aW a g) D σ H):VV (tE C a) (tG C 0 g) D σ H:=by
 obtain⟨Pr,F,env,r,f⟩:=h;obtain⟨d,aJ,e1,f1⟩:=cZ f;refine⟨Pr,F,env,aJ,d,r,e1,λv H1 F1 r1 s1 p1=>?_⟩;cases e2:g d aJ with
 |none=>rw[e2] at f1;exact f1.elim|some dD=>rw[e2] at f1;exact⟨Pr,F1,aJ,dD,d,r1,p1,e2,λσ2 H2 F2 r2 s2 _=>f1 σ2 H2 F2 r2<|s1.trans s2⟩
theorem Wh(hN:X.N.Nodup)(hi:X.N[i]?=some x)(hx:Loc X.env.scope x)(hfx:C.fx i=none)(he:PX X C e a)(hs:swapsWith e (some (.Name x pos')) pos.line X.env=pure false:=by rfl)(hf:X.fn x=true\/X.env.scope.names.lookup x=some .local:=by first|exact .inl rfl|exact .inr rfl|assumption) :
  Vt X C (.Assign [.Name x pos'] e pos) (aW a (ak i)):=(Ss hN hi hx he hs hf).imp λD σ H h=>by
 obtain⟨Pr,F,env,r,f⟩:=h;obtain⟨d,aJ,e1,f1⟩:=cZ f;exact⟨Pr,F,env,aJ,d,r,e1,λv H1 F1 r1 s1 p1=>f1 _ H1 F1 (r1.put hfx p1) s1⟩
noncomputable def dF(i:Nat)(a:Ev):bO:=λenv=>gZ (a env) λd aJ=>.nx (aJ.set i (some (true,d)))
theorem Wi(hN:X.N.Nodup)(hi:X.N[i]?=some x)(hx:Loc X.env.scope x)(hfx:C.fx i=none)(he:Vu X C e a)(hs:swapsWith e (some (.Name x pos')) pos.line X.env=pure false:=by rfl)(hf:X.fn x=true\/X.env.scope.names.lookup x=some .local:=by first|exact .inl rfl|exact .inr rfl|assumption) :
  Vt X C (.Assign [.Name x pos'] e pos) (dF i a):=(Ss hN hi hx he hs hf).imp λD σ H h=>by
 obtain⟨Pr,F,env,r,f⟩:=h;obtain⟨d,aJ,e1,f1⟩:=cZ f;exact⟨Pr,F,env,aJ,d,r,e1,λv H1 F1 r1 s1 p1=>f1 _ H1 F1 (r1.R5 hfx p1) s1⟩
noncomputable def fU(i:Nat)(a:Ev):bO:=λenv=>match env[i]? with
 |some (some (true,.lst _))=>gZ (a env) λd aJ=>(match aJ[i]? with
  |some (some (true,.lst xs))=>if xs.length<sizeLine then .nx (aJ.set i (some (true,.lst (xs++[d])))) else .stuck|_=>.stuck)
 |_=>.stuck
theorem Wk(hN:X.N[i]?=some x)(hv:vM X.env.scope x)(he:PX X C e a)(hK:X.K=C.K)
  (hs:swapsWith (.Call (.Attribute (.Name x px) "append" apos) [e] [] cpos) none pos.line X.env=pure false:=by rfl)
  (hfew:((backTo cpos (starEach [e] X.env)).all (λx=>!x.1)&&(backToKw cpos (keywordEach [] X.env)).all (λx=>x.1.isSome)
   && decide ([e].length+([]:List Keyword).length+(if ([]:List Keyword).isEmpty then 0 else 1)<30))=true:=by rfl)
  (hbase:attributeBase (.Name x px) "append" X.env (eval (.Name x px) X.env)=eval (.Name x px) X.env:=by rfl)
  (hline:(apos.endLine == cpos.line)=true:=by rfl) (hst:Qt e X.env:=by rfl) (hplain:(backTo cpos (starEach [] X.env)).any (·.1)=false:=by rfl)
  (hd:lK x:=by decide) (hcd:vJ x:=by decide):Vt X C (.Expr (.Call (.Attribute (.Name x px) "append" apos) [e] [] cpos) pos) (fU i a):=by
 refine PS.imp (Mp (Zd PySem.F.plainAttrs_list PySem.F.slot_list_append PySem.F.type_list_append CK (jb hN hv hd hcd) (iw he wH hst) hbase hfew hline hst hplain) hs) λD σ H h=>?_;obtain⟨Pr,F,env,r,f⟩:=h;unfold fU at f;split at f;rename_i xs0 h0;obtain⟨d,aJ,e1,f1⟩:=cZ f;obtain⟨a0,hv0,⟨z0,vs0,g0,_⟩,_⟩:=r.own i _ h0;refine⟨_,hv0,.inl ⟨rfl,vs0,oR.of g0⟩,Pr,F,env,aJ,d,r,e1,λv H1 F1 r1 s1 p1=>?_⟩;split at f1;rename_i xs h1;split at f1;rename_i hz;obtain⟨a,g1,⟨z,vs,g2,g3⟩,g4,g5⟩:=r1.own i _ h1;rw[hv0] at g1;cases g1;refine⟨a0,vs,v,rfl,rfl,g2,by rw[g3.length];exact hz,?_⟩;exact f1 σ _ F1 (r1.write h1 hv0 ⟨by rw[Qqk];exact hz,vs++[v],aU,g3.append<|bK.one p1⟩) s1;exact f1.elim;exact f1.elim;exact f.elim
def qW(K:Fg)(F:Hp)(ds:List D)(J:It):Prop:=∀(i:Nat) (H:Hp),aM F H->(ds[i]?=none->i=ds.length->J.stop i H)/\∀d,ds[i]?=some d->J.go i H/\∀x H',J.yld i H x H'->
 (H'=H/\Rep K F d x)\/∃p vs es,H p=none/\H'=upd H p (.tup vs)/\x=.ref p/\d=.tup es/\es.length<=sizeLine/\bK K F es vs
def tI(C:Cfg)(ev:dZ):TI:=λσ H R=>∃(Pr F:Hp) (env env':Env) (ds:List D),Rel C Pr F env σ H/\ev env=.ok ds env'/\
 ∀J H' F',Rel C Pr F' env' σ H'->aM F F'->qW C.K F' ds J->R J H'
def Z2(X:Cx)(C:Cfg)(tg iter:Expr)(ev:dZ):Prop:=PI X tg iter (tI C ev)
theorem _root_.L2.PI.imp{X:Cx}{tg e:Expr}{t t':TI}(h:PI X tg e t)(i:∀σ H R,t' σ H R->t σ H R):PI X tg e t':=λpins s σ H R I q=>h pins s σ H R I<|i σ H R q
theorem qW.item(r:Rel C Pr F1 env σ H)(s:aM F F1)(y:qW C.K F ds J)(hd:ds[i]?=some d)(hy:J.yld i H x H') :
  ∃F2,Rel C Pr F2 env σ H'/\aM F1 F2/\Rep C.K F2 d x:=by
 rcases((y i H<|s.trans r.fr).2 d hd).2 x H' hy with ⟨rfl,p⟩|⟨p,vs,es,hp,rfl,rfl,rfl,hz,q⟩;exact⟨F1,r,aM.refl F1,Rep.mono s _ _ p⟩;obtain⟨r2,s2⟩:=r.new hp;exact⟨_,r2,s2,hz,p,vs,rfl,lG.of aU,bK.mono (s.trans s2) _ _ q⟩
noncomputable def ir(g:GV)(b:bO):List D->bO
 |[],env=>.nx env
 |d::ds,env=>(match g d env with
  |none=>.stuck
  |some e1=>(match b e1 with
   |.nx e2=>ir g b ds e2|.ct e2=>ir g b ds e2|.bk e2=>.nx e2|.rt o d e2=>.rt o d e2|.stuck=>.stuck))
noncomputable def iW(it:dZ)(g:GV)(b:bO):bO:=λenv=>gZ (it env) λds aJ=>ir g b ds aJ
theorem Wj(hp:PassesOwn (model X.prog X.w) X.A X.env X.xe)(hc:X.calm=true)(hi:Z2 X C tg iter it)(hg:Yv X C 0 tg g)(hb:rR X C body b)
  (hs:∀x,foldedSetIterable iter X.env x=pure x:=by intro _;rfl):Vt X C (.For tg iter body [] pos) (iW it g b):=(aaT hp hc hi hg hb hs).imp λD σ H h=>by
 obtain⟨Pr,F,env,r,f⟩:=h;obtain⟨ds,aJ,e1,f1⟩:=cZ f;refine⟨Pr,F,env,aJ,ds,r,e1,λJ H1 F1 r1 s1 y1=>?_⟩;refine⟨λi m σ' H'=>m=ds.length - i/\i<=ds.length/\∃F' env',Rel C Pr F' env' σ' H'/\aM F1 F'/\Fin C Pr F' D (ir g b (ds.drop i) env'),⟨ds.length,rfl,Qx0 _,F1,aJ,r1,aM.refl _,f1.mono s1⟩,?_⟩;rintro i m σ' H' ⟨rfl,hi,F',env',r',s',f'⟩;by_cases hl:i<ds.length;have hd:=Qqv hl;have hdr:=Qx8 hl;have yy:=y1 i H'<|s'.trans r'.fr;refine .inr ⟨(yy.2 _ hd).1,λσ2 H2=>∃F' env',Rel C Pr F' env' σ2 H2/\aM F1 F'/\Fin C Pr F' D (ir g b (ds.drop<|i+1) env'),λσ2 H2 h2=>⟨ds.length - (i+1),by omega,rfl,hl,h2⟩,λx H2 hy=>?_⟩;obtain⟨F2,r2,s2,p2⟩:=qW.item r' s' y1 hd hy;rw[hdr] at f';have f2:=f'.mono s2;unfold ir at f2;cases eg:g ds[i] env' with
 |none=>rw[eg] at f2;exact f2.elim
 |some e2=>
  rw[eg] at f2;refine⟨Pr,F2,env',e2,ds[i],r2,p2,eg,λσ3 H3 F3 r3 s3 _=>⟨Pr,F3,e2,r3,?_⟩⟩;simp at f2;have s13:=(s'.trans s2).trans s3;cases eb:b e2 with
  |nx e3=>rw[eb] at f2;exact λσ4 H4 F4 r4 s4=>⟨F4,e3,r4,s13.trans s4,f2.mono<|s3.trans s4⟩|ct e3=>rw[eb] at f2;exact λσ4 H4 F4 r4 s4=>⟨F4,e3,r4,s13.trans s4,f2.mono<|s3.trans s4⟩|bk e3=>rw[eb] at f2;exact λσ4 H4 F4 r4 s4=>f2 σ4 H4 F4 r4<|s3.trans s4|rt o d e3=>rw[eb] at f2;cases o<;>exact λv σ4 H4 F4 r4 s4 p4=>f2 v σ4 H4 F4 r4 (s3.trans s4) p4|stuck=>rw[eb] at f2;exact f2.elim
 have e:i=ds.length:=by omega
 subst e;rw[List.drop_length] at f';exact .inl ⟨(y1 _ H'<|s'.trans r'.fr).1 (List.getElem?_eq_none<|Qq1 _) rfl,f' σ' H' F' r'<|aM.refl F'⟩
noncomputable def fH(t:gh)(b:bO):Nat->bO
 |0,_=>.stuck
 |n+1,env=>gZ (t env) λc e1=>if c=true then (match b e1 with
   |.nx e2=>fH t b n e2|.ct e2=>fH t b n e2|.bk e2=>.nx e2|.rt o d e2=>.rt o d e2|.stuck=>.stuck) else .nx e1
theorem Ol(n)(hp:PassesOwn (model X.prog X.w) X.A X.env X.xe)(hc:PXT X C c t)(hb:rR X C body b):Vt X C (.While c body [] pos) (fH t b n):=(Sg hp hc hb).imp λD σ H h=>by
 obtain⟨Pr,F,env,r,f⟩:=h;refine⟨λm σ' H'=>∃F' env',Rel C Pr F' env' σ' H'/\aM F F'/\Fin C Pr F' D (fH t b m env'),⟨n,F,env,r,aM.refl _,f⟩,?_⟩;rintro m σ' H' ⟨F',env',r',s',f'⟩;cases m with
 |zero=>exact f'.elim
 |succ m=>
  unfold fH at f';obtain⟨k,e1,e2,f1⟩:=cZ f';refine⟨Pr,F',env',e1,k,r',e2,λH1 F1 r1 s1=>?_⟩;have f2:=f1.mono s1;show if k=true then _ else _;split at f2;rename_i hk;rw[if_pos hk];refine⟨λσ2 H2=>∃F' env',Rel C Pr F' env' σ2 H2/\aM F F'/\Fin C Pr F' D (fH t b m env'),λσ2 H2 h2=>⟨m,Nat.lt_succ_self _,h2⟩,Pr,F1,e1,r1,?_⟩;have s13:=s'.trans s1;cases eb:b e1 with
  |nx e3=>rw[eb] at f2;exact λσ4 H4 F4 r4 s4=>⟨F4,e3,r4,s13.trans s4,f2.mono s4⟩|ct e3=>rw[eb] at f2;exact λσ4 H4 F4 r4 s4=>⟨F4,e3,r4,s13.trans s4,f2.mono s4⟩|bk e3=>rw[eb] at f2;exact λσ4 H4 F4 r4 s4=>f2 σ4 H4 F4 r4 s4|rt o d e3=>rw[eb] at f2;cases o<;>exact λv σ4 H4 F4 r4 s4 p4=>f2 v σ4 H4 F4 r4 s4 p4|stuck=>rw[eb] at f2;exact f2.elim
  rename_i hk;rw[if_neg hk];exact f2 σ' H1 F1 r1<|aM.refl F1
end
end Ev
namespace L2
open PySem PySem.Spec PyProof.Rows
noncomputable def Its(z:Str):It:=⟨λi _=>i<z.cps.size,λi H x H'=>H'=H/\∃c,z.cps[i]?=some c/\x=.str ⟨#[c]⟩,λi _=>z.cps.size<=i⟩
theorem N6{P:Program}{w:World}{K:PySem.W.Frag}{tg:Expr}(it:Addr)(z:Str)(t:Tok):Turn P w K tg (Its z) [it] it (λi h=>h.IsStrIter it "str_ascii_iterator" z t i/\i<=z.cps.size) where
 mem:=by simp
 obj:=λi h st b hb=>by
  have e:b=it:=by simpa using hb
  subst e;obtain⟨⟨o,ho,hc,hd⟩,_⟩:=st;exact⟨o,ho,λv z=>by rw[hd] at z;cases z⟩
 keep:=λi h h' st k=>let ⟨⟨o,ho,r⟩,l⟩:=st;⟨⟨o,k it (by simp) o ho,r⟩,l⟩
 item:=by intro X hP hw hK hc i pins s σ H E I hf st hg;subst hP hw hK;obtain⟨f0,f1,f2,f3,f4,f5⟩:=hf it (by simp);have hg':i<z.cps.size:=hg;refine wpAny_pyNext_ascii_item st.1 (c:=z.cps[i]) (by simp[hg']) λh' hit' hs'=>?_;have I1:Inv X pins σ H { s with heap:=h',toks:=s.toks+1 }:=I.turned (λb o hb e=>hs'.extBut b o hb e) f0 f1 f3 f4 f5;obtain⟨o,ho,hcl,hda⟩:=hit';refine⟨_,rfl,Ip ho hcl hda (by decide) ⟨.str ⟨#[z.cps[i]]⟩,H,I1,⟨_,rfl⟩,⟨rfl,_,by simp[hg'],rfl⟩,⟨⟨o,ho,hcl,hda⟩,hg'⟩,λb hb=>(hf b hb).1⟩⟩
 done:=by intro X hP hw hK hc i pins s σ H E I hf st hg;subst hP hw hK;obtain⟨f0,f1,f2,f3,f4,f5⟩:=hf it (by simp);have hg':z.cps.size<=i:=hg;exact wpAny_pyNext_ascii_end (I.ok.hd hc) st.1 (by simp;omega) λh' eb=>⟨rfl,I.turned (λb o hb e=>eb b o hb e) f0 f1 f3 f4 f5⟩
 self:=λ_ _ _ _ _ st h=>wpAny_pyIter_striter_ascii st.1 h
theorem N5{P:Program}{w:World}{K:PySem.W.Frag}{tg:Expr}(it:Addr)(z:Str)(t:Tok):Turn P w K tg (Its z) [it] it (λi h=>h.IsStrIter it "str_iterator" z t i/\i<=z.cps.size) where
 mem:=by simp
 obj:=λi h st b hb=>by
  have e:b=it:=by simpa using hb
  subst e;obtain⟨⟨o,ho,hc,hd⟩,_⟩:=st;exact⟨o,ho,λv z=>by rw[hd] at z;cases z⟩
 keep:=λi h h' st k=>let ⟨⟨o,ho,r⟩,l⟩:=st;⟨⟨o,k it (by simp) o ho,r⟩,l⟩
 item:=by intro X hP hw hK hc i pins s σ H E I hf st hg;subst hP hw hK;obtain⟨f0,f1,f2,f3,f4,f5⟩:=hf it (by simp);have hg':i<z.cps.size:=hg;refine wpAny_pyNext_wide_item st.1 (c:=z.cps[i]) (by simp[hg']) λh' hit' hs'=>?_;have I1:Inv X pins σ H { s with heap:=h',toks:=s.toks+1 }:=I.turned (λb o hb e=>hs'.extBut b o hb e) f0 f1 f3 f4 f5;obtain⟨o,ho,hcl,hda⟩:=hit';refine⟨_,rfl,Ip ho hcl hda (by decide) ⟨.str ⟨#[z.cps[i]]⟩,H,I1,⟨_,rfl⟩,⟨rfl,_,by simp[hg'],rfl⟩,⟨⟨o,ho,hcl,hda⟩,hg'⟩,λb hb=>(hf b hb).1⟩⟩
 done:=by intro X hP hw hK hc i pins s σ H E I hf st hg;subst hP hw hK;obtain⟨f0,f1,f2,f3,f4,f5⟩:=hf it (by simp);have hg':z.cps.size<=i:=hg;exact wpAny_pyNext_wide_end (I.ok.hd hc) st.1 (by simp;omega) λh' eb=>⟨rfl,I.turned (λb o hb e=>eb b o hb e) f0 f1 f3 f4 f5⟩
 self:=λ_ _ _ _ _ st h=>wpAny_pyIter_striter_wide st.1 h
section
variable{X:Cx}{tg:Expr}
def ahe(K:PySem.W.Frag)(tl:TE):TI:=λσ H R=>tl σ H λx H1=>(∃a,x=.ref a/\(∃xs,oR K H1 a xs)/\R (Itl K a) H1)\/(∃a,x=.ref a/\(∃xs,lG K H1 a xs)/\R (Itt K a) H1)\/∃z,x=.str z/\R (Its z) H1
theorem aaY(hl:PE X l tl):PI X tg l (ahe X.K tl):=by
 intro pins s σ H R I h;refine fG (hl pins s σ H _ I h) λv s1 ⟨x,H1,I1,r1,q1⟩=>?_;have own:∀b ∈ [s1.heap.objs.size],vI X pins H1 b:=λb hb=>by
  have e:b=s1.heap.objs.size:=by simpa using hb
  subst e;exact I1.acA (Qq1 _)<|I1.hok.fresh<|Qq1 _
 rcases q1 with ⟨a,e,⟨xs,hq⟩,q⟩|⟨a,e,⟨xs,hq⟩,q⟩|⟨z,e,q⟩;subst e;cases r1;obtain⟨its,rv,p,hz⟩:=I1.list hq;refine wpAny_pyIter_list p.isList ?_;exact⟨s1.heap.objs.size,[s1.heap.objs.size],_,_,H1,rfl,I1.kept λb o e=>Qq0 _ e,N7 a _,⟨_,Qw2 _ rfl,rfl,rfl⟩,own,q⟩;subst e;cases r1;obtain⟨its,rv,p,hz⟩:=I1.tuple hq;refine wpAny_pyIter_tuple p ?_;exact⟨s1.heap.objs.size,[s1.heap.objs.size],_,_,H1,rfl,I1.kept λb o e=>Qq0 _ e,JQ a _,⟨_,Qw2 _ rfl,rfl,rfl⟩,own,q⟩;subst e;obtain⟨t,rfl⟩:=r1;cases ha:z.cps.all (·< 128);exact wpAny_pyIter_wide ha ⟨s1.heap.objs.size,[s1.heap.objs.size],_,_,H1,rfl,I1.kept λb o e=>Qq0 _ e,N5 _ z t,⟨⟨_,Qw2 _ rfl,rfl,rfl⟩,Qx0 _⟩,own,q⟩;exact wpAny_pyIter_ascii ha ⟨s1.heap.objs.size,[s1.heap.objs.size],_,_,H1,rfl,I1.kept λb o e=>Qq0 _ e,N6 _ z t,⟨⟨_,Qw2 _ rfl,rfl,rfl⟩,Qx0 _⟩,own,q⟩
end
end L2
namespace Ev
open PySem PySem.Spec PyProof.Rows L2
section
variable{X:Cx}{C:Cfg}{pos:Pos}{tg:Expr}
noncomputable def rB(x:List Nat):List D:=x.map λc=>.str [c]
theorem JF(h:lG C.K F a vs)(p:bK C.K F ds vs):qW C.K F ds (Itt C.K a):=λi H s=>by
 refine⟨λ_ e=>⟨vs,aM.tupK s h,by rw[p.length,e];exact Qq1 _⟩,λd hd=>?_⟩;obtain⟨v,h1,h2⟩:=p.get hd;refine⟨⟨vs,v,aM.tupK s h,h1⟩,λx H' hy=>.inl ⟨hy.1,?_⟩⟩;have:=hy.2 vs<|aM.tupK s h;rw[h1] at this;cases this;exact h2
theorem JG:qW C.K F (rB x) (Its (strOf x)):=λi H s=>by
 refine⟨λ_ e=>?_,λd hd=>?_⟩;show x.toArray.size<=i;rw[e];simp[rB];unfold rB at hd;rw[Qxz] at hd;obtain⟨c,hc,rfl⟩:=Qw8.mp hd;refine⟨?_,λv H' hy=>.inl ⟨hy.1,?_⟩⟩;show i<x.toArray.size;have:=(Qqy.mp hc).1;simpa using this;obtain⟨c',h1,rfl⟩:=hy.2;have h2:x[i]?=some c':=by simpa[strOf] using h1
 rw[hc] at h2;cases h2;exact⟨rfl,by show 1<=sizeLine;decide⟩
noncomputable def itD:D->Option (List D)
 |.lst xs=>some xs|.arr xs=>some xs|.tup xs=>some xs|.str x=>some (rB x)|_=>none
noncomputable def jn(a:Ev):dZ:=λenv=>bindR (a env) λd aJ=>iy (itD d) aJ
theorem Wn(hK:X.K=C.K)(h:PX X C l a):Z2 X C tg l (jn a):=(aaY h).imp λσ H R hq=>by
 obtain⟨Pr,F,env,env',ds,r,e,q⟩:=hq;obtain⟨d,aJ,e1,e2⟩:=aQ e;obtain⟨e3,rfl⟩:=eZ e2;refine⟨Pr,F,env,env',d,r,e1,λv H1 F1 r1 s1 p1=>?_⟩;rw[hK];cases d with
 |lst xs=>cases e3;obtain⟨z,a,vs,rfl,g1,g2⟩:=p1;refine .inl ⟨a,rfl,⟨vs,oR.of<|r1.fr _ _ g1⟩,q _ H1 F1 r1 s1 λi H s=>?_⟩;refine⟨λ_ e=>⟨vs,oR.of<|s _ _ g1,by rw[g2.length,e];exact Qq1 _⟩,λd hd=>?_⟩;obtain⟨v,h1,h2⟩:=g2.get hd;refine⟨⟨vs,v,oR.of<|s _ _ g1,h1⟩,λx H' hy=>.inl ⟨hy.1,?_⟩⟩;have:=hy.2 vs<|oR.of<|s _ _ g1;rw[h1] at this;cases this;exact h2|arr xs=>cases e3;obtain⟨z,a,vs,rfl,g1,g2⟩:=p1;refine .inl ⟨a,rfl,⟨vs,r1.fr.seq g1⟩,q _ H1 F1 r1 s1 λi H s=>?_⟩;refine⟨λ_ e=>⟨vs,s.seq g1,by rw[g2.length,e];exact Qq1 _⟩,λd hd=>?_⟩;obtain⟨v,h1,h2⟩:=g2.get hd;refine⟨⟨vs,v,s.seq g1,h1⟩,λx H' hy=>.inl ⟨hy.1,?_⟩⟩;have:=hy.2 vs<|s.seq g1;rw[h1] at this;cases this;exact h2|tup xs=>cases e3;obtain⟨z,a,vs,rfl,g1,g2⟩:=p1;exact .inr<|.inl ⟨a,rfl,⟨vs,aM.tupK r1.fr g1⟩,q _ H1 F1 r1 s1<|JF g1 g2⟩|str x=>cases e3;obtain⟨rfl,z⟩:=p1;exact .inr<|.inr ⟨_,rfl,q _ H1 F1 r1 s1 JG⟩|_=>cases e3
noncomputable def iZ(lo c:Int)(n:Nat):List D:=(List.range n).map λ(i:Nat)=>.int (lo+i*c)
theorem sG(lo c)(n):(iZ lo c n).length=n:=by simp[iZ]
theorem J6{lo c:Int}(h:(iZ lo c n)[i]?=some d):i<n/\d=.int (lo+i*c):=by
 have hi:i<n:=by
  have:=(Qqy.mp h).1
  rwa [sG] at this
 refine⟨hi,?_⟩;unfold iZ at h;rw[Qxz,List.getElem?_range hi] at h;cases h;rfl
theorem JK{lo:Int}:qW C.K F (iZ lo 1 n) (Itr lo n):=λi H s=>by
 refine⟨λ_ e=>by rw[e,sG];exact Qq1 _,λd hd=>?_⟩;obtain⟨hi,rfl⟩:=J6 hd;refine⟨hi,λx H' hy=>.inl ⟨hy.1,?_⟩⟩;rw[Int.mul_one];exact hy.2
noncomputable def kh(j:Int):Bool:=decide (-(2^62)<=j)&&decide (j<2^62)
theorem Kf(h:kh j=true) : -(2^62)<=j/\j<2^62:=by unfold kh at h;rw[Qzq] at h;exact⟨Qxj h.1,Qxj h.2⟩
noncomputable def yP:List D->Option (List D)
 |[.int j]=>if kh j=true then some (iZ 0 1 j.toNat) else none|[.int i,.int j]=>if kh i=true/\kh j=true then some (iZ i 1 (j - i).toNat) else none|[.int i,.int j,.int c]=>if c≠0/\c.natAbs<1073741824/\Builtin.Range.small i j c=true then some (iZ i c (Builtin.Range.rangeSize i j c).toNat) else none|_=>none
noncomputable def jj(a:dZ):dZ:=λenv=>bindR (a env) λds aJ=>iy (yP ds) aJ
theorem bK.ahc(h:bK C.K F [.int i] vs):vs=[.int i]:=by obtain⟨v,r,rfl,h1,h2⟩:=h;cases h1;cases h2;rfl
theorem Kl(hg:Gl X "range")(hm:X.mg "range"=none)(ha:Vk X C [a] ea)(hl:∀env ds env',ea env=.ok ds env'->ds.length=1)(hs:starEach [a] X.env=[(false,eval a X.env)]:=by rfl):Z2 X C tg (.Call (.Name "range" p) [a] [] pos) (jj ea):=
 (Ox hg hm ha hs).imp λσ H R hq=>by
  obtain⟨Pr,F,env,env',ds,r,e,q⟩:=hq;obtain⟨as,aJ,e1,e2⟩:=aQ e;obtain⟨e3,rfl⟩:=eZ e2;refine⟨Pr,F,env,env',as,r,e1,λvs H1 F1 r1 s1 p1=>?_⟩;have:=hl _ _ _ e1;unfold yP at e3;split at e3;split at e3;rename_i hf;cases e3;have hb:=Kf hf;exact⟨_,p1.ahc,hb.1,hb.2,q _ H1 F1 r1 s1 JK⟩;cases e3;simp at this;simp at this;cases e3
theorem Qa(env)(ds)(env')(h:aj env=.ok ds env'):ds.length=0:=by cases h;rfl
theorem KY(hr:∀env ds env',r env=.ok ds env'->ds.length=n)(env)(ds)(env')(h:aa a r env=.ok ds env'):ds.length=n+1:=by obtain⟨d,aJ,e1,e2⟩:=aQ h;obtain⟨ds2,dD,e3,e4⟩:=aQ e2;cases e4;rw[Qqw,hr _ _ _ e3]
theorem bK.vL{K:Fg}(h:bK K F ds vs)(e:L2.vL ds k=some d):∃v,L2.vL vs k=some v/\Rep K F d v:=by unfold L2.vL at e ⊢;rw[h.length];obtain⟨j,h1,h2⟩:=Qzj.mp e;obtain⟨v,h3,h4⟩:=h.get h2;exact⟨v,by rw[h1];exact h3,h4⟩
noncomputable def fj:D->D->Option D
 |.lst xs,.int k=>vL xs k|.arr xs,.int k=>vL xs k|.tup xs,.int k=>vL xs k|.str x,.int k=>(vL x k).map λc=>.str [c]|_,_=>none
theorem Zg:pH C (rIx C.K) fj:=by
 intro Pr F env σ H x y d vx vy Q r px py e q;unfold fj at e;split at e;obtain⟨z,a,vs,rfl,h1,h2⟩:=px.lst r.fr;cases py.int;obtain⟨v,e1,p1⟩:=h2.vL e;exact .inl ⟨a,vs,_,v,rfl,rfl,oR.of h1,e1,q _ _ F r (aM.refl F) p1⟩;obtain⟨z,a,vs,rfl,h1,h2⟩:=px.arr r.fr;cases py.int;obtain⟨v,e1,p1⟩:=h2.vL e;exact .inl ⟨a,vs,_,v,rfl,rfl,h1,e1,q _ _ F r (aM.refl F) p1⟩;obtain⟨z,a,vs,rfl,h1,_,h2⟩:=px.tup r.fr;cases py.int;obtain⟨v,e1,p1⟩:=h2.vL e;exact .inr<|.inl ⟨a,vs,_,v,rfl,rfl,h1,e1,q _ _ F r (aM.refl F) p1⟩;obtain⟨rfl,z⟩:=px.str;cases py.int;obtain⟨c,e1,rfl⟩:=Qw8.mp e;exact .inr<|.inr ⟨_,_,c,rfl,rfl,by simpa[strOf,Str.length] using z,by simpa[strOf] using e1,q _ _ F r (aM.refl F) ⟨rfl,by show 1<=sizeLine;decide⟩⟩;cases e
theorem aet(hK:X.K=C.K)(ha:PX X C x a)(hb:Vj X C y b)(hs:vG y:=by intro _ _;rfl):PX X C (.Subscript x y pos) (aO fj a b):=by have h:=(Zc (pos:=pos) T6 ha hb hs);rw[hK] at h;exact h.imp<|FZ Zg
theorem aaK{px:Pos}(i)(hK:X.K=C.K)(hN:X.N[i]?=some x)(hv:vM X.env.scope x)(hb:Vj X C y b)(hs:vG y:=by intro _ _;rfl)
  (hd:lK x:=by decide) (hcd:vJ x:=by decide):PX X C (.Subscript (.Name x px) y pos) (aB fj i b):=by
 have h:=(Zc (pos:=pos) T6 (jb (pos:=px) hN hv hd hcd) hb hs);rw[hK] at h;exact h.imp<|rM Zg
noncomputable def cutD{α:Type}(xs:List α)(lo hi:Option Int):List α:=(xs.drop (HT.fZ xs.length 0 lo)).take (HT.fZ xs.length xs.length hi - HT.fZ xs.length 0 lo)
theorem qT{α:Type}(xs:List α)(lo hi):(cutD xs lo hi).length<=xs.length:=by unfold cutD;rw[Qwy,Qxy];omega
theorem bK.cut{K:Fg}(h:bK K F ds vs)(lo hi):bK K F (cutD ds lo hi) (xY vs lo hi):=by unfold cutD xY;rw[h.length];exact bK.take _<|bK.drop _ h
abbrev Vn:=Env->R (Option Int)
def tP(C:Cfg)(ev:Vn):TO:=λσ H Q=>∃(Pr F:Hp) (env env':Env) (o:Option Int),Rel C Pr F env σ H/\ev env=.ok o env'/\∀H' F',Rel C Pr F' env' σ H'->aM F F'->Q o H'
def PXP(X:Cx)(C:Cfg)(e:Option Expr)(ev:Vn):Prop:=PO X e (tP C ev)
theorem _root_.L2.PO.imp{X:Cx}{e:Option Expr}{t t':TO}(h:PO X e t)(i:∀σ H Q,t' σ H Q->t σ H Q):PO X e t':=λpins s σ H Q I q=>h pins s σ H Q I<|i σ H Q q
noncomputable def zZ:Vn:=λenv=>.ok none env
noncomputable def Gv(a:Ev):Vn:=λenv=>bindR (a env) λd aJ=>match d with
 |.int i=>.ok (some i) aJ|_=>.stuck
theorem RT:PXP X C none zZ:=Wy.imp λσ H Q h=>by
 obtain⟨Pr,F,env,env',d,r,e,q⟩:=h;cases e;exact q H F r<|aM.refl F
noncomputable def gSl:D->Option Int->Option Int->Option D
 |.lst xs,lo,hi=>some (.lst (cutD xs lo hi))|.arr xs,lo,hi=>some (.lst (cutD xs lo hi))|.tup xs,lo,hi=>if HT.fZ xs.length 0 lo=0/\HT.fZ xs.length xs.length hi=xs.length then none else some (.tup (cutD xs lo hi))|_,_,_=>none
noncomputable def zX(a:Ev)(lo hi:Vn):Ev:=λenv=>bindR (a env) λd aJ=>bindR (lo aJ) λl dD=>bindR (hi dD) λu K1=>iy (gSl d l u) K1
theorem Ri{lo hi:Option Int}(r:Rel C Pr F env σ H)(p:ie C.K F H x v)(e:gSl x lo hi=some d)(q:∀v H' F',Rel C Pr F' env σ H'->aM F F'->Rep C.K F' d v->Q v H') :
  aeb C.K v lo hi H Q\/aaC C.K v lo hi H Q:=by
 unfold gSl at e;split at e;cases e;obtain⟨z,a,vs,rfl,h1,h2⟩:=p.lst r.fr;refine .inl ⟨a,vs,rfl,oR.of h1,λb hb=>?_⟩;obtain⟨r2,s2⟩:=r.new hb;exact q _ _ _ r2 s2 ⟨Qq4 (qT _ _ _) z,b,_,rfl,aU,bK.mono s2 _ _<|h2.cut lo hi⟩;cases e;obtain⟨z,a,vs,rfl,h1,h2⟩:=p.arr r.fr;refine .inl ⟨a,vs,rfl,h1,λb hb=>?_⟩;obtain⟨r2,s2⟩:=r.new hb;exact q _ _ _ r2 s2 ⟨Qq4 (qT _ _ _) z,b,_,rfl,aU,bK.mono s2 _ _<|h2.cut lo hi⟩;obtain⟨z,a,vs,rfl,h1,_,h2⟩:=p.tup r.fr;split at e;cases e;rename_i hn;cases e;refine .inr ⟨a,vs,rfl,h1,by rw[h2.length];exact hn,λb hb=>?_⟩;obtain⟨r2,s2⟩:=r.new hb;exact q _ _ _ r2 s2 ⟨Qq4 (qT _ _ _) z,b,_,rfl,lG.of aU,bK.mono s2 _ _<|h2.cut lo hi⟩;cases e
theorem aeq{lo hi:Option Expr}(hK:X.K=C.K)(ha:PX X C x a)(hl:PXP X C lo el)(hh:PXP X C hi eh):PX X C (.Subscript x (.Slice lo hi none p2) pos) (zX a el eh):=by have h:=Ht (pos:=pos) (p2:=p2) (Nv.or Ma J9) ha hl hh;rw[hK] at h;refine h.imp λσ H Q hq=>?_;obtain⟨Pr,F,env,env',d,r,e,q⟩:=hq;obtain⟨x,aJ,e1,e2⟩:=aQ e;obtain⟨l,dD,e3,e4⟩:=aQ e2;obtain⟨u,K1,e5,e6⟩:=aQ e4;obtain⟨e7,rfl⟩:=eZ e6;refine⟨Pr,F,env,aJ,x,r,e1,λv H1 F1 r1 s1 p1=>⟨Pr,F1,aJ,dD,l,r1,e3,λH2 F2 r2 s2=>⟨Pr,F2,dD,env',u,r2,e5,λH3 F3 r3 s3=>?_⟩⟩⟩;exact Ri r3 (.inl<|Rep.mono (s2.trans s3) _ _ p1) e7 λv H' F' r' s' p'=>q v H' F' r' (((s1.trans s2).trans s3).trans s') p'
noncomputable def pO(kvs:List (D×D))(q:Key):Option D:=match kvs with
 |[]=>none|(k,d)::r=>if rO k=some q then some d else pO r q
noncomputable def xQ(kvs:List (D×D))(q:Key)(d:D):List (D×D):=match kvs with
 |[]=>[]|(k,e)::r=>(if rO k=some q then (k,d) else (k,e))::xQ r q d
noncomputable def putD(kvs:List (D×D))(k:D)(q:Key)(d:D):List (D×D):=if (pO kvs q).isSome then xQ kvs q d else kvs++[(k,d)]
theorem dM.length{K:Fg}:∀{ds} {vs},dM K F ds vs->vs.length=ds.length
 |[],_,h=>by cases h;rfl
 |(k,d)::ds,vs,h=>by
  obtain⟨q,v,r,rfl,_,_,h2⟩:=h;rw[Qqw,Qqw,h2.length]
theorem dM.val{K:Fg}(q):∀{ds} {vs},dM K F ds vs->(pO ds q=none/\vQ vs q=none)\/∃d v,pO ds q=some d/\vQ vs q=some v/\Rep K F d v
 |[],_,h=>by cases h;exact .inl ⟨rfl,rfl⟩
 |(k,d)::ds,vs,h=>by
  obtain⟨q',v,r,rfl,hk,h1,h2⟩:=h;unfold pO;by_cases e:q'=q;subst e;rw[if_pos hk];exact .inr ⟨d,v,rfl,uf rfl,h1⟩;rw[if_neg (λz=>e<|Qw4<|hk.symm.trans z),ug e];exact dM.val q h2
theorem dM.set{K:Fg}(q)(hd:Rep K F d v):∀{ds} {vs},dM K F ds vs->dM K F (xQ ds q d) (vs.map λkv=>if kv.1=q then (kv.1,v) else kv)
 |[],_,h=>by cases h;exact rfl
 |(k,e)::ds,vs,h=>by
  obtain⟨q',u,r,rfl,hk,h1,h2⟩:=h;unfold xQ;by_cases e':q'=q;subst e';rw[if_pos hk];refine⟨q',v,_,?_,hk,hd,dM.set q' hd h2⟩;rw[Qwq,if_pos rfl];rw[if_neg (λz=>e'<|Qw4<|hk.symm.trans z)];refine⟨q',u,_,?_,hk,h1,dM.set q hd h2⟩;rw[Qwq,if_neg e']
theorem dM.append{K:Fg}:∀{ds es} {vs ws},dM K F ds vs->dM K F es ws->dM K F (ds++es) (vs++ws)
 |[],es,vs,ws,h,g=>by cases h;exact g
 |(k,d)::ds,es,vs,ws,h,g=>by
  obtain⟨q,v,r,rfl,h0,h1,h2⟩:=h;exact⟨q,v,r++ws,rfl,h0,h1,dM.append h2 g⟩
theorem G5(q)(d):∀kvs,(xQ kvs q d).length=kvs.length
 |[]=>rfl|(k,e)::r=>by unfold xQ;rw[Qqw,Qqw,G5 q d r]
theorem Hq(kvs)(k)(q)(d):(putD kvs k q d).length<=kvs.length+1:=by
 unfold putD;split;rw[G5];omega;rw[Qqk];exact Qq1 _
theorem dM.put{K:Fg}(h:dM K F ds vs)(hk:rO k=some q)(hd:Rep K F d v):dM K F (putD ds k q d) (putK vs q v):=by
 unfold putD putK;rw[yF];rcases h.val q with ⟨e1,e2⟩|⟨d',v',e1,e2,_⟩;rw[e1,e2];exact h.append ⟨q,v,[],rfl,hk,hd,rfl⟩;rw[e1,e2];exact dM.set q hd h
theorem TY{K:Fg}(h:rO k=some q)(p:Rep K F k v):v=kV q:=by
 cases k with
 |int i=>cases h;exact p|str x=>cases h;exact p.1|_=>cases h
theorem T3{K:Fg}(h:rO k=some q)(p:ie K F H k v):v=kV q:=by
 cases k with
 |int i=>cases h;exact p.int|str x=>cases h;exact p.str.1|_=>cases h
theorem ie.dct{K:Fg}(s:aM F H)(h:ie K F H (.dct kvs) v):kvs.length<=sizeLine/\∃a ks,v=.ref a/\Rd H a (.dK ks)/\dM K F kvs ks:=by
 rcases h with ⟨z,a,vs,rfl,h1,h2⟩|⟨a,rfl,z,vs,h1,h2⟩;exact⟨z,a,vs,rfl,aM.rd s h1,h2⟩;exact⟨z,a,vs,rfl,.inl h1,h2⟩
def Y4:R2:=λx y H Q=>∃a v,x=.ref a/\Qp H a y (some v)/\Q v H
noncomputable def kY:D->D->Option D
 |.dct kvs,k=>(rO k).bind λq=>pO kvs q|_,_=>none
theorem W7:pH C Y4 kY:=by
 intro Pr F env σ H x y d vx vy Q r px py e q;unfold kY at e;split at e;obtain⟨z,a,ks,rfl,h1,h2⟩:=px.dct r.fr;obtain⟨k,hk,hv⟩:=Qzj.mp e;cases T3 hk py;rcases h2.val k with ⟨e1,_⟩|⟨d',v',e1,e2,p2⟩;rw[e1] at hv;cases hv;rw[e1] at hv;cases hv;exact⟨a,v',rfl,.inl ⟨ks,k,h1,rfl,e2.symm⟩,q _ _ F r (aM.refl F) p2⟩;cases e
theorem R3{px:Pos}(i)(hu:X.A.units+1<cLine)(hN:X.N[i]?=some x)(hv:vM X.env.scope x)(hb:Vj X C y b)(hs:Qm y:=by intro _ _;rfl)
  (hd:lK x:=by decide) (hcd:vJ x:=by decide):PX X C (.Subscript (.Name x px) y pos) (aB kY i b):=by
 have h:PE X (.Subscript (.Name x px) y pos) (VP Y4 _ _):=WQ hu (jb hN hv hd hcd) hb hs;exact h.imp<|rM W7
noncomputable def z6:Ev:=λenv=>.ok (.dct []) env
theorem RV:Vu X C (.Dict [] [] pos) z6:=SN.imp λσ H Q hq=>by
 obtain⟨Pr,F,env,env',d,r,e,q⟩:=hq;cases e;exact λp hp=>q _ _ F (r.fresh hp) (aM.refl F)<|Qx.of r hp ⟨Qx0 _,[],aU,rfl⟩
noncomputable def p8(i:Nat)(k a:Ev):bO:=λenv=>gZ (a env) λd aJ=>match aJ[i]? with
 |some (some (_,_))=>gZ (k aJ) λkd dD=>(match dD[i]?,rO kd with
  |some (some (true,.dct kvs)),some q=>if kvs.length<sizeLine then .nx (dD.set i (some (true,.dct (putD kvs kd q d)))) else .stuck|_,_=>.stuck)
 |_=>.stuck
theorem RQ(hu:X.A.units+1<cLine)(hN:X.N[i]?=some x)(hv:vM X.env.scope x)(hk:PX X C k ek)(he:PX X C e a)
  (hs:swapsWith e (some (.Subscript (.Name x px) k pos')) pos.line X.env=pure false:=by rfl)
  (hd:lK x:=by decide) (hcd:vJ x:=by decide):Vt X C (.Assign [.Subscript (.Name x px) k pos'] e pos) (p8 i ek a):=
 (Ww hu (jb hN hv hd hcd) hk he hs).imp λD σ H h=>by
  obtain⟨Pr,F,env,r,f⟩:=h;obtain⟨d,aJ,e1,f1⟩:=cZ f;refine⟨Pr,F,env,aJ,d,r,e1,λv H1 F1 r1 s1 p1=>?_⟩;split at f1;rename_i o0 d0 h0;obtain⟨v0,hv0,_⟩:=r1.rd h0;obtain⟨kd,dD,e2,f2⟩:=cZ f1;refine⟨v0,hv0,Pr,F1,aJ,dD,kd,r1,e2,λvk H2 F2 r2 s2 p2=>?_⟩;split at f2;rename_i kvs q h2 hq;split at f2;rename_i hz;obtain⟨b,g1,⟨z,ks,g2,g3⟩,g4,g5⟩:=r2.own i _ h2;rw[hv0] at g1;cases g1;have hz':ks.length<sizeLine:=by rw[g3.length];exact hz
  cases TY hq p2;refine⟨b,_,rfl,Vo.k g2 hz',?_⟩;refine f2 σ _ F2 (r2.write h2 hv0 ⟨Qq4 (Hq _ _ _ _) hz,_,aU,g3.put hq<|Rep.mono s2 _ _ p1⟩)<|s1.trans s2;exact f2.elim;exact f2.elim;exact f1.elim
noncomputable def PJ(x:List Nat):List (List Nat)->List (List Nat)
 |[]=>[x]|y::r=>if y<x then y::PJ x r else x::y::r
noncomputable def je:List (List Nat)->List (List Nat)
 |[]=>[]|x::r=>PJ x (je r)
theorem wO(x):∀l,(PJ x l).Perm (x::l)
 |[]=>.refl _
 |y::r=>by
  unfold PJ;split;exact((wO x r).cons y).trans<|.swap x y r;exact .refl _
theorem iG:∀l,(je l).Perm l
 |[]=>.refl _|x::r=>(wO x<|je r).trans<|(iG r).cons x
theorem xA(x):∀l,l.Pairwise (λa b=>a<=b)->(PJ x l).Pairwise (λa b=>a<=b)
 |[],_=>List.pairwise_singleton _ _
 |y::r,h=>by
  unfold PJ;have h1:=Qz3.mp h;split;rename_i hyx;refine Qz3.mpr ⟨λz hz=>?_,xA x r h1.2⟩;rcases Qq7.mp ((wO x r).mem_iff.mp hz) with rfl|hz;exact List.le_of_lt hyx;exact h1.1 z hz;rename_i hyx;have hxy:=List.not_lt.mp hyx;refine Qz3.mpr ⟨λz hz=>?_,h⟩;rcases Qq7.mp hz with rfl|hz;exact hxy;exact List.le_trans hxy<|h1.1 z hz
theorem uv:∀l,(je l).Pairwise (λa b=>a<=b)
 |[]=>.nil|x::r=>xA x _<|uv r
theorem Cq:∀p l,risingS p l=true->(p::l).Pairwise (λa b=>a.cps.toList<=b.cps.toList)
 |p,[],_=>List.pairwise_singleton _ _
 |p,x::r,h=>by
  have h':(!Spec.ltCps x.cps.toList p.cps.toList&&risingS x r)=true:=h;rw[Qzq,PyProof.Rows.ltCps_eq] at h';have hxp:¬x.cps.toList<p.cps.toList:=by
   have:=h'.1;simpa using this
  have ih:=Cq x r h'.2;refine Qz3.mpr ⟨λz hz=>?_,ih⟩;have hpx:=List.not_lt.mp hxp;rcases Qq7.mp hz with rfl|hz;exact hpx;exact List.le_trans hpx<|(Qz3.mp ih).1 z hz
theorem Oe:∀l,sortedS l=true->l.Pairwise (λa b=>a.cps.toList<=b.cps.toList)
 |[],_=>.nil|x::r,h=>Cq x r h
theorem Oc(s):strOf s.cps.toList=s:=by obtain⟨c⟩:=s;simp[strOf]
theorem DG(e:ss=xs.map strOf)(hp:ss'.Perm ss)(hs:sortedS ss'=true):ss'=(je xs).map strOf:=by
 subst e;have h1:(ss'.map λs=>s.cps.toList).Perm xs:=by
  have:=hp.map (λs:Str=>s.cps.toList);rw[Qkw] at this;have e2:xs.map ((λs:Str=>s.cps.toList) ∘ strOf)=xs:=by rw[Qjk (g:=id) (λx _=>by simp[strOf])];simp
  rwa [e2] at this
 have h2:(ss'.map λs=>s.cps.toList)=je xs:=by refine List.Perm.eq_of_pairwise (λa b _ _=>List.le_antisymm) ?_ (uv xs)<|h1.trans (iG xs).symm;exact List.pairwise_map.mpr<|Oe ss' hs
 rw[<-h2,Qkw];have e3:∀l:List Str,l.map (strOf ∘ λs=>s.cps.toList)=l:=λl=>by
  induction l with
  |nil=>rfl|cons a r ih=>rw[Qwq,ih];show strOf a.cps.toList::r=a::r;rw[Oc]
 exact(e3 ss').symm
theorem ue:∀{us} {ss},StrsAre us ss->Vals (ss.map V.str) us
 |_,_,.nil=>.nil|_,_,.cons y t h=>.cons ⟨t,rfl⟩<|ue h
theorem uC{K:Fg}:∀(xs:List (List Nat)),(∀x∈xs,x.length<=sizeLine)->bK K F (xs.map D.str) (xs.map λz=>V.str (strOf z))
 |[],_=>rfl|x::xs,h=>⟨_,_,rfl,⟨rfl,h x<|Qqj ..⟩,uC xs λy hy=>h y<|Qqq _ hy⟩
def Ei(K:Fg):List V->Hp->VK->Prop:=λxs H Q=>∃p zs,xs=[.ref p]/\(oR K H p (zs.map λz=>V.str (strOf z))\/∃ks,Rd H p (.dK ks)/\ks.map (·.1)=zs.map λz=>Sum.inr (strOf z))/\zs.length<64/\∀l,H l=none->Q (.ref l) (upd H l (.lst ((je zs).map λz=>V.str (strOf z))))
theorem G4{σ:L2.St}{a:Addr}(I:Inv X pins σ H s)(hz:zs.length<64)(q:∀l,H l=none->Q (.ref l) (upd H l (.lst ((je zs).map λz=>V.str (strOf z)))))
  (a1:StrsAre out.toList ss') (a2:ss'.Perm (zs.map strOf)) (a3:sortedS ss'=true) (hk:∀b o,s.heap.get? b=some o->h'.get? b=some o) (ha:s.heap.objs.size<=a) (ho:h'.get? a=some (seqObj "list" out e)):EP X pins σ Q (.ref a) { s with heap:=h',toks:=tk }:=by
 have e1:=DG rfl a2 a3;subst e1;have rv:=ue a1;rw[Qkw] at rv;have hl:((je zs).map λz=>V.str<|strOf z).length<=sizeLine:=by rw[Qq3,(iG zs).length_eq];exact Qq4 (Qx3 hz) (by decide)
 exact⟨.ref a,_,I.laid hk ha<|show gf X.prog X.w _ h' a (.lst<|(je zs).map λz=>V.str<|strOf z) from⟨hl,out.toList,e,rv,by simpa[seqObj] using ho⟩,rfl,q a<|I.hok.fresh ha⟩
theorem Jm(hc:X.calm=true):jU X (.builtin "sorted") (Ei X.K):=by
 intro pins s σ H xs us Q I r h;obtain⟨p,zs,rfl,hq,hz,q⟩:=h;obtain⟨u,rfl,rx⟩:=vals1 r;cases rx;rcases hq with hq|⟨ks,hq,hks⟩;obtain⟨its,r',pl,hzz⟩:=I.list hq;have hS:StrsAre its (zs.map strOf):=vP r';refine sorted_strs pl.isList hS (by rw[<-r'.length,Qq3];exact hz) λout ss' a1 a2 a3=>?_;obtain⟨e,he⟩:=sortedAll_at s.heap its out;exact G4 I hz q a1 a2 a3 (λb o e=>sortedAll_old e) (Nat.le_succ _) he;obtain⟨hz2,hsys,vs,rkv,hD⟩:=Dc I.hok hq;obtain⟨ep,hat⟩:=hD.dictAt;have hlen:vs.length=zs.length:=by
  have e1:=rkv.length;have e2:=Qw9 List.length hks;rw[Qq3,Qq3] at e2;omega
 refine Calls.call_function_entry kind_sorted plain_sorted entry_sorted (args_sorted1 _) ?_;unfold Builtin.«sorted»;refine Qqx<|Qq6 ?_;refine Qqx<|PySem.W.kdu_collect (PySem.W.kdl_dict (kvs:=vs) (ep:=ep) hsys) (I.ok.hd hc) hat (by rw[hlen];exact Qq4 (Qx3 hz) (by decide)) λh' tk acc hk hacc=>?_;have hl:acc.toList.length=vs.length:=by rw[Qqz];exact hacc.1
 have hS:StrsAre acc.toList (zs.map strOf):=by
  have keys:∀j,j<vs.length->∃v t,acc.toList[j]?=some v/\v=Value.str (strOf<|zs.getD j []) t:=λj hj=>by
   have hja:j<acc.size:=by rw[hacc.1];exact hj
   have e1:acc[j]?=some acc[j]:=by simp[hja]
   obtain⟨k,x,hx,hkx⟩:=hacc.2 j _ e1;have e2:(vs.map (·.1))[j]?=some k:=by rw[Qxz,hx];rfl
   rw[<-rkv.keys,hks,Qxz] at e2;obtain⟨z,hzj,rfl⟩:=Qw8.mp e2;rcases eO (k:=Sum.inr<|strOf z) (v:=acc[j]) hkx with ⟨i,t,z1,_⟩|⟨y,t,z1,z2⟩;cases z1;cases z1;exact⟨_,t,by rw[Qkx];exact e1,by rw[z2,Qwv,hzj];rfl⟩
  have build:∀us (ys:List (List Nat)),us.length=ys.length->(∀j,j<us.length->∃v t,us[j]?=some v/\v=Value.str (strOf<|ys.getD j []) t)->StrsAre us (ys.map strOf):=λus=>by
   induction us with
   |nil=>intro ys hl _;cases ys with
    |nil=>exact .nil|cons _ _=>cases hl
   |cons u us ih=>intro ys hl hk;cases ys with
    |nil=>cases hl
    |cons y ys=>
     obtain⟨v,t,e1,e2⟩:=hk 0<|Nat.succ_pos _;cases e1;rw[e2];exact .cons _ t (ih ys (by simpa using hl) λj hj=>by
      obtain⟨v,t,e1,e2⟩:=hk (j+1) (by simpa using hj);exact⟨v,t,by simpa using e1,by simpa using e2⟩)
  exact build _ _ (by rw[hl,hlen]) λj hj=>keys j (by rw[<-hl];exact hj)
 refine Qqx<|wpAny_newList ?_ (by rw[hl,hlen];exact Qq4 (Qx3 hz) (by decide));have hoL:(h'.push<|seqObj "list" acc.toList.toArray 0).get? h'.objs.size=some (seqObj "list" acc.toList.toArray 0):=Qw2 _ rfl;show wpAny _ _ _ _ _ { s with heap:=h'.push<|seqObj "list" acc.toList.toArray 0,toks:=tk };refine Qqx<|Qjx<|Qz6 slot_list_sort ⟨_,hoL,rfl⟩ entry_list_sort (list_sort_treeK strKind_oneLt hoL hS.keysOf (λv₁ v₂ rest e=>keyKind_strs (by rw[<-e];exact hS)) (by rw[hl,hlen];exact hz) λst' b1 b2=>⟨_,rfl,?_⟩)<|args_list_sort _;obtain⟨ss',a1,a2,a3⟩:=sorted_out_str hS b1 b2;obtain⟨e,he⟩:=sortedHeap_at (out:=(arrOf st').map (·.2)) hoL;refine Qq6 ⟨_,rfl,?_⟩;have I1:L2.Inv X pins σ H { s with heap:=h',toks:=tk }:=I.kept hk;refine G4 (s:={ s with heap:=h',toks:=tk }) (tk:=tk) I1 hz q a1 a2 a3 (λb o e=>?_) (Qq1 _) he;have lt':=Qwx e;rw[sortedHeap_old (Qxv lt') (by rw[size_push'];exact Nat.lt_succ_of_lt lt')];exact Qq0 _ e
noncomputable def iB:List D->Option D
 |[.lst ds]=>(jr ds).bind λzs=>if zs.length<64/\(∀z∈zs,z.length<=sizeLine) then some (.lst ((je zs).map .str)) else none|[.dct kvs]=>(jr (kvs.map (·.1))).bind λzs=>if zs.length<64/\(∀z∈zs,z.length<=sizeLine) then some (.lst ((je zs).map .str)) else none|_=>none
theorem dM.keys{K:Fg}:∀{kvs} {ks} {zs},dM K F kvs ks->jr (kvs.map (·.1))=some zs->ks.map (·.1)=zs.map λz=>Sum.inr (strOf z)
 |[],ks,zs,h,e=>by cases h;simp[jr] at e;subst e;rfl
 |(k,d)::kvs,ks,zs,h,e=>by
  obtain⟨q,v,r,rfl,h0,h1,h2⟩:=h;cases k with
  |str x=>
   cases h0;have e':(jr<|kvs.map (·.1)).map (x :: ·)=some zs:=by simpa[jr] using e
   obtain⟨zs',e1,rfl⟩:=Qw8.mp e';rw[Qwq,Qwq,dM.keys h2 e1]
  |_=>simp[jr] at e
theorem J8(r:Rel C Pr F env σ H)(hl:H l=none)(hz:zs.length<64/\∀z∈zs,z.length<=sizeLine) :
  jT C.K F (upd H l (.lst ((je zs).map λz=>V.str (strOf z)))) (.lst ((je zs).map .str)) l:=by
 refine⟨by rw[Qq3,(iG zs).length_eq];exact Qq4 (Qx3 hz.1) (by decide),_,aU,uC _ λz h=>hz.2 z<|(iG zs).mem_iff.mp h⟩
theorem Qg:CallD C (Ei C.K) iB:=by
 intro Pr F env σ H ds d vs Q r p e q;have fin:∀zs l,(zs.length<64/\∀z∈zs,z.length<=sizeLine)->d=.lst ((je zs).map .str)->H l=none->Q (.ref l) (upd H l<|.lst<|(je zs).map λz=>V.str<|strOf z):=λzs l hz hd hl=>by
  subst hd;obtain⟨F2,r2,s2,p2⟩:=(r.fresh hl).keep<|Qx.of r hl<|J8 r hl hz;exact q _ _ F2 r2 s2 p2
 unfold iB at e;split at e;obtain⟨v,w,rfl,p1,p2⟩:=p;cases p2;obtain⟨zs,e1,e2⟩:=Qzj.mp e;split at e2;rename_i hz;cases e2;obtain⟨z,a,ws,rfl,h1,h2⟩:=p1.lst r.fr;have e6:=wC e1 h2;subst e6;exact⟨a,zs,rfl,.inl<|oR.of h1,hz.1,λl hl=>fin zs l hz rfl hl⟩;cases e2;obtain⟨v,w,rfl,p1,p2⟩:=p;cases p2;obtain⟨zs,e1,e2⟩:=Qzj.mp e;split at e2;rename_i hz;cases e2;obtain⟨z,a,ks,rfl,h1,h2⟩:=p1.dct r.fr;exact⟨a,zs,rfl,.inr ⟨ks,h1,h2.keys e1⟩,hz.1,λl hl=>fin zs l hz rfl hl⟩;cases e2;cases e
theorem Ot{p:Pos}(hK:X.K=C.K)(hc:X.calm=true)(hg:Gl X "sorted")(hm:X.mg "sorted"=none)(ha:Yw X C [e] a)(he:Qt e X.env:=by rfl)(hpl:(backTo pos (starEach [] X.env)).any (·.1)=false:=by rfl) :
  PX X C (.Call (.Name "sorted" p) [e] [] pos) (au iB a):=
 uG (by rw[<-hK];exact Jm hc) Qg hg hm PyProof.Rows.boot_sorted ha (by decide) (by decide) he hpl
end
theorem Rel.pad(m)(r:Rel C Pr F env σ H):Rel C Pr F (env++List.replicate m none) (uJ m σ) H:=by
 have un:∀j x,(env++List.replicate m none)[j]?=some (some x)->env[j]?=some (some x):=λj x he=>by
  by_cases hj:j<env.length;rwa [Qw7 hj] at he;rw[Qx4 (by omega),Qz1] at he;split at he<;>cases he
 have up:∀j v,σ[j]?=some (some v)->(uJ m σ)[j]?=some (some v):=λj v h=>by
  unfold uJ;rw[Qw7 (Qqy.mp h).1];exact h
 have dn:∀j v,(uJ m σ)[j]?=some (some v)->σ[j]?=some (some v):=λj v he=>by
  unfold uJ at he;by_cases hj:j<σ.length;rwa [Qw7 hj] at he;rw[Qx4 (by omega),Qz1] at he;split at he<;>cases he
 refine⟨r.pr,r.fr,by unfold uJ;rw[Qqk,Qqk,Qzx,Qzx,r.len],λj e he=>?_,λj e he=>?_,λj k e f b hj hk g1 g2=>r.apart j k e f b (un _ _ hj) (un _ _ hk) (dn _ _ g1)<|dn _ _ g2,r.dj,λj a h=>up _ _<|r.fix j a h⟩;obtain⟨v,h1,h2⟩:=r.val j e<|un _ _ he;exact⟨v,up _ _ h1,h2⟩;obtain⟨a,h1,h2⟩:=r.own j e<|un _ _ he;exact⟨a,up _ _ h1,h2⟩
theorem Rel.cut{σ σ0:L2.St}(r:Rel C Pr F env σ H)(h:σ.take σ0.length=σ0)(fix:∀i a,C.fx i=some a->σ0[i]?=some (some (V.ref a))):Rel C Pr F (env.take σ0.length) σ0 H:=by
 have hl:σ0.length<=σ.length:=by have:=Qw9 List.length h;rw[Qwy] at this;omega
 have un:∀j x,(env.take σ0.length)[j]?=some (some x)->env[j]?=some (some x)/\j<σ0.length:=λj x he=>by
  have hj:j<σ0.length:=by have:=(Qqy.mp he).1;rw[Qwy] at this;omega
  rw[Qz8 hj] at he;exact⟨he,hj⟩
 have dn:∀j,j<σ0.length->σ[j]?=σ0[j]?:=λj hj=>by
  have:=Qz8 (l:=σ) hj;rw[h] at this;exact this.symm
 refine⟨r.pr,r.fr,by rw[Qwy,r.len];omega,λj e he=>?_,λj e he=>?_,λj k e f b hj hk g1 g2=>r.apart j k e f b (un _ _ hj).1 (un _ _ hk).1 (by rw[dn _ (un _ _ hj).2];exact g1) (by rw[dn _ (un _ _ hk).2];exact g2),r.dj,fix⟩;obtain⟨e1,e2⟩:=un _ _ he;rw[<-dn j e2];exact r.val j e e1;obtain⟨e1,e2⟩:=un _ _ he;rw[<-dn j e2];exact r.own j e e1
noncomputable def Gu(g:GV)(c:gh)(e:Ev):List D->Env->R (List D)
 |[],env=>.ok [] env
 |d::ds,env=>(match g d env with
  |none=>.stuck|some e1=>bindR (c e1) λb e2=>if b=true then bindR (e e2) λy e3=>bindR (Gu g c e ds e3) λys e4=>.ok (y::ys) e4 else Gu g c e ds e2)
noncomputable def gY(lo n:Nat)(it:dZ)(g:GV)(c:gh)(e:Ev):Ev:=λenv=>bindR (it env) λds aJ=>if aJ.length=lo then bindR (Gu g c e ds (aJ++List.replicate (n - lo) none)) λys dD=>(if ys.length<=sizeLine then .ok (.lst ys) (dD.take lo) else .stuck) else .stuck
def Ql(X:Cx)(C:Cfg)(ifs:List Expr)(ev:gh):Prop:=PIf X ifs (tT C ev)
noncomputable def fK:gh:=λenv=>.ok true env
theorem RX:Ql X C [] fK:=λpins s σ H Q I h=>by
 obtain⟨Pr,F,env,env',b,r,e,q⟩:=h;cases e;exact WD pins s σ H Q I<|q H F r<|aM.refl F
theorem Zr{lo n:Nat}(h:tN C (gY lo n it g c e) σ H Q):tLC n (tI C it) (tG C lo g) (tT C c) (tE C e) σ H Q:=by
 obtain⟨Pr,F,env,env',d,r,ev,q⟩:=h;obtain⟨ds,aJ,e1,e2⟩:=aQ ev;split at e2;rename_i hlo;obtain⟨ys,dD,e3,e4⟩:=aQ e2;split at e4
 rename_i hz;cases e4;refine⟨Pr,F,env,aJ,ds,r,e1,λJ H1 F1 r1 s1 y1 a ha=>?_⟩;have hσ:=r1.len.symm.trans hlo;have hPa:=r1.pr.free ha;refine⟨λi m σ' H'=>m=ds.length - i/\i<=ds.length/\∃F' Jd acc ws rest,Rel C (upd Pr a<|.lst ws) F' Jd σ' H'/\aM F1 F'/\bK C.K F' acc ws/\σ'.take lo=σ/\Gu g c e (ds.drop i) Jd=.ok rest dD/\acc++rest=ys,
  ⟨ds.length,rfl,Qx0 _,F1,aJ++List.replicate (n - lo) none,[],[],ys,?_,aM.refl _,rfl,?_,e3,rfl⟩,?_⟩
 rw[hσ];exact(r1.aside ha).pad _;unfold uJ;rw[<-hσ,List.take_left];rintro i m σ' H' ⟨rfl,hi,F',Jd,acc,ws,rest,r',s',p',t',l',hacc⟩;have hFa:F' a=none:=by
  cases ez:F' a with
  |none=>rfl|some w=>have:=r'.dj a w ez;rw[aU] at this;cases this
 by_cases hl:i<ds.length
 have hd:=Qqv hl;have hdr:=Qx8 hl;have yy:=y1 i H'<|s'.trans r'.fr;refine .inr ⟨(yy.2 _ hd).1,λσ2 H2=>∃F' Jd acc ws rest,Rel C (upd Pr a<|.lst ws) F' Jd σ2 H2/\aM F1 F'/\bK C.K F' acc ws/\σ2.take lo=σ/\Gu g c e (ds.drop<|i+1) Jd=.ok rest dD/\acc++rest=ys,
  λσ2 H2 h2=>⟨ds.length - (i+1),by omega,rfl,hl,h2⟩,λx H2 hy=>?_⟩
 obtain⟨F2,r2,s2,p2⟩:=qW.item r' s' y1 hd hy;rw[hdr] at l';unfold Gu at l';cases eg:g ds[i] Jd with
 |none=>rw[eg] at l';cases l'
 |some e5=>
  rw[eg] at l';obtain⟨b,e6,c1,l2⟩:=aQ l';refine⟨_,F2,Jd,e5,ds[i],r2,p2,eg,λσ3 H3 F3 r3 s3 t3=>⟨_,F3,e5,e6,b,r3,c1,λH4 F4 r4 s4=>?_⟩⟩;have t3':=t3.trans t';have s24:=(s2.trans s3).trans s4;cases b with
  |false=>show if false=true then _ else _;rw[if_neg Qx1];rw[if_neg Qx1] at l2;exact⟨F4,e6,acc,ws,rest,r4,s'.trans s24,bK.mono s24 _ _ p',t3',l2,hacc⟩
  |true=>
   show if true=true then _ else _;rw[if_pos rfl];rw[if_pos rfl] at l2;obtain⟨y,e7,c2,l3⟩:=aQ l2;obtain⟨ys2,e8,c3,l4⟩:=aQ l3;cases l4;refine⟨_,F4,e6,e7,y,r4,c2,λv H5 F5 r5 s5 p5=>?_⟩;have hlen:acc.length+(ys2.length+1)=ys.length:=by rw[<-hacc,Qqk,Qqw]
   refine⟨ws,r5.pr _ _ aU,by rw[p'.length];omega,F5,e7,acc++[y],ws++[v],ys2,?_,s'.trans<|s24.trans s5,(bK.mono (s24.trans s5) _ _ p').append<|bK.one p5,t3',c3,by rw[Qwk];exact hacc⟩;have r6:=r5.turn (u:=.lst<|ws++[v]) aU;rwa [VF] at r6
 have ei:i=ds.length:=by omega
 subst ei;rw[List.drop_length] at l';cases l';rw[Qw6] at hacc;subst hacc;refine .inl ⟨(y1 _ H'<|s'.trans r'.fr).1 (List.getElem?_eq_none<|Qq1 _) rfl,?_⟩;have sP:aM Pr (upd Pr a<|.lst ws):=lW hPa;have r7:Rel C Pr F' (dD.take lo) σ H':=by
  have:=(r'.less sP).cut (by rw[hσ];exact t') r1.fix;rwa [hσ] at this
 refine q a H' F' r7 (s1.trans s') ⟨⟨hz,ws,r'.pr _ _ aU,p'⟩,hFa,hPa,λj e he hs=>?_⟩;have hj:=(Qqy.mp hs).1;have he':dD[j]?=some (some (true,e)):=by rw[Qz8 (by rw[<-hσ];exact hj)] at he;exact he
 obtain⟨b,g1,_,_,g4⟩:=r'.own j e he';have:σ'[j]?=some (some<|V.ref a):=by rw[<-t',Qz8 (by rw[<-hσ];exact hj)] at hs;exact hs
 rw[this] at g1;cases g1;rw[aU] at g4;cases g4;cases e4;cases e2
section
variable{X:Cx}{C:Cfg}{pos:Pos}
theorem aaE(N')(lo)(ok:mJ X scope N')(hc:X.calm=true)(hi:Z2 X C tg iter it)
  (bg:∀X',jQ X scope N' X'->Yv X' C lo tg g) (bc:∀X',jQ X scope N' X'->Ql X' C ifs c) (be:∀X',jQ X scope N' X'->PX X' C elt e)
  (hs:∀x,foldedSetIterable iter X.env x=pure x:=by intro _;rfl):Vu X C (.ListComp elt [⟨tg,iter,ifs,0⟩] scope pos) (gY lo N'.length it g c e):=
 (aeB ok hc hi bg bc be hs).imp λσ H Q h=>Zr h
theorem Om(N'){spos py:Pos}(lo)(ok:mJ X scope N')(hc:X.calm=true)(hi:Z2 X C tg iter it)
  (bg:∀X',jQ X scope N' X'->Yv X' C lo tg g) (bc:∀X',jQ X scope N' X'->Ql X' C ifs c) (be:∀X',jQ X scope N' X'->PX X' C elt e)
  (hN:X.N.Nodup) (hy:X.N[i]?=some y) (hx:Loc X.env.scope y) (hfx:C.fx i=none)
  (hsw:swapsWith (.ListComp elt [⟨tg,iter,ifs,0⟩] scope pos) (some (.Name y py)) spos.line X.env=pure true)
  (hf:X.fn y=true\/X.env.scope.names.lookup y=some .local:=by first|exact .inl rfl|exact .inr rfl|assumption)
  (hs:∀x,foldedSetIterable iter X.env x=pure x:=by intro _;rfl):Vt X C (.Assign [.Name y py] (.ListComp elt [⟨tg,iter,ifs,0⟩] scope pos) spos) (dF i (gY lo N'.length it g c e)):=
 (Sq ok hc hi bg bc be hN hy hx hsw hf hs).imp λD σ H h=>by
  obtain⟨Pr,F,env,r,f⟩:=h;obtain⟨d,aJ,e1,f1⟩:=cZ f;have:tN C (gY lo N'.length it g c e) σ H λv H1=>Iv i v σ H1 D.nx:=⟨Pr,F,env,aJ,d,r,e1,λv H1 F1 r1 s1 p1=>f1 _ H1 F1 (r1.R5 hfx p1) s1⟩;exact Zr this
end
def mK(K:Fg)(n:Nat)(f:List D->Option D):Sp:=λvs H Q _=>∃(F:Hp) (ds:List D) (d:D),ds.length=n/\aM F H/\bK K F ds vs/\f ds=some d/\
 ∀v H' F',aM H H'->aM F' H'->aM F F'->(∀b o,F' b=some o->F b=some o\/H b=none)->Rep K F' d v->Q v H'
def spN(K:Fg)(n:Nat)(f:List D->Option D):Sp:=λvs H Q _=>∃(F:Hp) (ds:List D) (d:D),ds.length=n/\aM F H/\bK K F ds vs/\f ds=some d/\
 ∀a H' F',aM H H'->aM F' H'->aM F F'->(∀b o,F' b=some o->F b=some o\/H b=none)->jT K F' H' d a->F' a=none->H a=none->Q (.ref a) H'
def sI(K:Fg)(n:Nat)(f:List D->Option (D×D)):Sp:=λvs H Q _=>∃(F:Hp) (a:Addr) (r:List V) (x:D) (ds:List D) (d x':D),vs=.ref a::r/\ds.length+1=n/\aM F H/\F a=none/\jT K F H x a/\bK K F ds r/\f (x::ds)=some (d,x')/\
 ∀v H' F',(∀b o,b≠a->H b=some o->H' b=some o)->aM F' H'->aM F F'->(∀b o,F' b=some o->F b=some o\/H b=none)->jT K F' H' x' a->Rep K F' d v->Q v H'
theorem Rel.after(r:Rel C Pr F env σ H)(s:aM H H')(sF:aM F' H')(YX:aM F F')(nw:∀b o,F' b=some o->F b=some o\/H b=none):Rel C Pr F' env σ H':=by
 refine⟨r.pr.trans s,sF,r.len,λj e he=>?_,λj e he=>?_,r.apart,λb o e=>?_,r.fix⟩;obtain⟨v,h1,h2⟩:=r.val j e he;exact⟨v,h1,Rep.mono YX _ _ h2⟩;obtain⟨a,h1,h2,h3,h4⟩:=r.own j e he;obtain⟨o,ho⟩:=h2.some;refine⟨a,h1,h2.mono YX (by rw[ho,s _ _ ho]),?_,h4⟩;cases e:F' a with
 |none=>rfl|some u=>rcases nw a u e with z|z;rw[h3] at z;cases z;rw[ho] at z;cases z
 rcases nw b o e with z|z;exact r.dj b o z;exact r.pr.free z
theorem Rel.Yn(r:Rel C Pr F env σ H)(h:env[i]?=some (some (true,d)))(hs:σ[i]?=some (some (V.ref a)))(s:∀b o,b≠a->H b=some o->H' b=some o)(sF:aM F' H')(YX:aM F F')(nw:∀b o,F' b=some o->F b=some o\/H b=none)(ho:jT C.K F' H' d' a):Rel C Pr F' (env.set i (some (true,d'))) σ H':=by
 obtain⟨a',h1,h2,h3,h4⟩:=r.own i d h;rw[hs] at h1;cases h1;have hi:=(Qqy.mp h).1;obtain⟨oa,hoa⟩:=h2.some;have ne:∀j e b,j≠i->env[j]?=some (some (true,e))->σ[j]?=some (some<|V.ref b)->b≠a:=λj e b hj he g z=>hj<|r.apart j i e d a he h (by rw[<-z];exact g) hs;have nF:∀b u,F b=none->H b=some u->F' b=none:=λb u e1 e2=>by
  cases e:F' b with
  |none=>rfl|some w=>rcases nw b w e with z|z;rw[e1] at z;cases z;rw[e2] at z;cases z
 refine⟨λb w e=>?_,sF,by rw[Qx6];exact r.len,λj e he=>?_,λj e he=>?_,λj k e f b hj hk g1 g2=>?_,λb o e=>?_,r.fix⟩;have hb:b≠a:=λz=>by rw[z,h4] at e;cases e
 exact s b w hb<|r.pr b w e;by_cases hj:j=i;subst hj;rw[Qw0 hi] at he;cases he;rw[Qq8 (Ne.symm hj)] at he;obtain⟨v,g1,g2⟩:=r.val j e he;exact⟨v,g1,Rep.mono YX _ _ g2⟩;by_cases hj:j=i;subst hj;rw[Qw0 hi] at he;cases he;exact⟨a,hs,ho,nF a oa h3 hoa,h4⟩;rw[Qq8 (Ne.symm hj)] at he;obtain⟨b,g1,g2,g3,g4⟩:=r.own j e he;obtain⟨ob,hob⟩:=g2.some;exact⟨b,g1,g2.mono YX (by rw[hob,s b ob (ne j e b hj he g1) hob]),nF b ob g3 hob,g4⟩;have un:∀j e,(env.set i<|some (true,d'))[j]?=some (some (true,e))->∃e',env[j]?=some (some (true,e')):=λj e he=>by
  by_cases hj:j=i;subst hj;exact⟨d,h⟩;rw[Qq8 (Ne.symm hj)] at he;exact⟨e,he⟩
 obtain⟨e',hj'⟩:=un j e hj;obtain⟨f',hk'⟩:=un k f hk;exact r.apart j k e' f' b hj' hk' g1 g2;rcases nw b o e with z|z;exact r.dj b o z;exact r.pr.free z
section
variable{X:Cx}{C:Cfg}{pos p:Pos}{k n:Nat}{f:Addr}{fd:FuncData}{ps:List Str}{x:Str}{e:Expr}{es:List Expr}
theorem tV(h:au g a env=.ok d env'):∃ds,a env=.ok ds env'/\g ds=some d:=by obtain⟨ds,aJ,e1,e2⟩:=aQ h;obtain⟨e3,rfl⟩:=eZ e2;exact⟨ds,e1,e3⟩
theorem aaH(G:lE X.prog X.w X.K X.mg X.base xg k f fd ps (mK C.K n g))(hr:fX k X.A)(hg:Gl X x)(hm:X.mg x=some (.ref f))(hk:PySem.W.keepIn X.K (.ref f)=true)(hb:Binds X.K fd ps [])
  (ha:Vk X C (e::es) a) (hn:∀env ds env',a env=.ok ds env'->ds.length=n) (hdb:lK x:=by decide) (he:starEach (e::es) X.env=(false,eval e X.env)::starEach es X.env:=by rfl) (hpl:(backTo pos (starEach es X.env)).any (·.1)=false:=by rfl) :
  PX X C (.Call (.Name x p) (e::es) [] pos) (au g a):=(yo G hr hg hm hk hb .nil Hv ha hdb he hpl).imp λσ H Q hq=>by
 obtain⟨Pr,F,env,env',d,r,e,q⟩:=hq;obtain⟨ds,e1,e2⟩:=tV e;refine⟨Pr,F,env,env',ds,r,e1,λvs H1 F1 r1 s1 p1=>?_⟩;show mK C.K n g (vs++[]) H1 Q E0;rw[Qw6];exact⟨F1,ds,d,hn _ _ _ e1,r1.fr,p1,e2,λv H2 F2 t1 t2 t3 t4 p2=>q v H2 F2 (r1.after t1 t2 t3 t4) (s1.trans t3) p2⟩
theorem Wl(G:lE X.prog X.w X.K X.mg X.base xg k f fd ps (spN C.K n g))(hr:fX k X.A)(hg:Gl X x)(hm:X.mg x=some (.ref f))(hk:PySem.W.keepIn X.K (.ref f)=true)(hb:Binds X.K fd ps [])
  (ha:Vk X C (e::es) a) (hn:∀env ds env',a env=.ok ds env'->ds.length=n) (hdb:lK x:=by decide) (he:starEach (e::es) X.env=(false,eval e X.env)::starEach es X.env:=by rfl) (hpl:(backTo pos (starEach es X.env)).any (·.1)=false:=by rfl) :
  Vu X C (.Call (.Name x p) (e::es) [] pos) (au g a):=(yo G hr hg hm hk hb .nil Hv ha hdb he hpl).imp λσ H Q hq=>by
 obtain⟨Pr,F,env,env',d,r,e,q⟩:=hq;obtain⟨ds,e1,e2⟩:=tV e;refine⟨Pr,F,env,env',ds,r,e1,λvs H1 F1 r1 s1 p1=>?_⟩;show spN C.K n g (vs++[]) H1 Q E0;rw[Qw6];refine⟨F1,ds,d,hn _ _ _ e1,r1.fr,p1,e2,λb H2 F2 t1 t2 t3 t4 ho hF hH=>q b H2 F2 (r1.after t1 t2 t3 t4) (s1.trans t3) ⟨ho,hF,r1.pr.free hH,λj e he hs=>?_⟩⟩;obtain⟨c,h1,h2,_⟩:=r1.own j e he;rw[hs] at h1;cases h1;obtain⟨u,hu⟩:=h2.some;rw[hH] at hu;cases hu
noncomputable def dI(f:List D->Option (D×D))(i:Nat)(a:dZ):Ev:=λenv=>match env[i]? with
 |some (some (true,_))=>bindR (a env) λds aJ=>(match aJ[i]? with
  |some (some (true,x))=>(match f (x::ds) with
   |some (d,x')=>.ok d (aJ.set i (some (true,x')))|none=>.stuck)
  |_=>.stuck)
 |_=>.stuck
theorem aeu{py:Pos}(hN:X.N[i]?=some y)(hv:vM X.env.scope y)(G:lE X.prog X.w X.K X.mg X.base xg k f fd ps (sI C.K n g))(hr:fX k X.A)(hg:Gl X x)(hm:X.mg x=some (.ref f))(hk:PySem.W.keepIn X.K (.ref f)=true)(hb:Binds X.K fd ps [])
  (ha:Vk X C es a) (hn:∀env ds env',a env=.ok ds env'->ds.length+1=n) (hdb:lK x:=by decide) (he:starEach (.Name y py::es) X.env=(false,eval (.Name y py) X.env)::starEach es X.env:=by rfl) (hpl:(backTo pos (starEach es X.env)).any (·.1)=false:=by rfl)
  (hd:lK y:=by decide) (hcd:vJ y:=by decide) :
  PX X C (.Call (.Name x p) (.Name y py::es) [] pos) (dI g i a):=(yo G hr hg hm hk hb .nil Hv (iw (jb hN hv hd hcd) ha he) hdb he hpl).imp λσ H Q hq=>by
 obtain⟨Pr,F,env,env',d,r,e,q⟩:=hq;unfold dI at e;split at e;rename_i d0 h0;obtain⟨ds,aJ,e1,e2⟩:=aQ e;split at e2;rename_i z hz;split at e2;rename_i d1 z' hg;cases e2;obtain⟨a0,hs0,_⟩:=r.own i _ h0;refine⟨_,hs0,Pr,F,env,aJ,ds,r,e1,λvs H1 F1 r1 s1 p1=>?_⟩;obtain⟨a1,hs1,ho1,hF1,hP1⟩:=r1.own i _ hz;rw[hs0] at hs1;cases hs1;show sI C.K n g (_::vs++[]) H1 Q E0;rw[Qw6];exact⟨F1,a0,vs,z,ds,d,z',rfl,hn _ _ _ e1,r1.fr,hF1,ho1,p1,hg,λv H2 F2 t1 t2 t3 t4 t5 p2=>q v H2 F2 (r1.Yn hz hs0 t1 t2 t3 t4 t5) (s1.trans t3) p2⟩;cases e2;cases e2;cases e
end
noncomputable def envOf(n:Nat)(ds:List D):Env:=ds.map (λd=>some (false,d))++List.replicate (n - ds.length) none
noncomputable def Ac(n:Nat)(x:D)(ds:List D):Env:=some (true,x)::(ds.map (λd=>some (false,d))++List.replicate (n - (ds.length+1)) none)
noncomputable def bY(n:Nat)(ev:bO)(ds:List D):Option D:=match ev (envOf n ds) with
 |.rt false d _=>some d|.nx _=>some .non|_=>none
noncomputable def runN(n:Nat)(ev:bO)(ds:List D):Option D:=match ev (envOf n ds) with
 |.rt true d _=>some d|_=>none
noncomputable def iu(n:Nat)(ev:bO)(ds:List D):Option (D×D):=match ds with
 |[]=>none
 |x::r=>(match ev (Ac n x r) with
  |.rt false d env=>(match env[0]? with
   |some (some (true,x'))=>some (d,x')|_=>none)
  |.nx env=>(match env[0]? with
   |some (some (true,x'))=>some (.non,x')|_=>none)
  |_=>none)
noncomputable def C0(K:Fg):Cfg:=⟨K,λ_=>none⟩
noncomputable def C1(K:Fg)(a:Addr):Cfg:=⟨K,λi=>if i=0 then some a else none⟩
noncomputable def Bq(H F:Hp):Hp:=λb=>if (F b).isSome then none else H b
theorem HS(h:Bq H F b=some o):H b=some o/\F b=none:=by
 unfold Bq at h;split at h;cases h;rename_i z;exact⟨h,by cases e:F b with|none=>rfl|some w=>rw[e] at z;exact absurd rfl z⟩
theorem zp(h:Bq H F b=none):H b=none\/∃o,F b=some o:=by
 unfold Bq at h;split at h;rename_i z;exact .inr<|Qz7.mp z;exact .inl h
theorem rC{K:Fg}(s:aM F H)(p:bK K F ds vs):Rel (C0 K) (Bq H F) F (envOf N.length ds) (start N vs) H:=by
 have un:∀j x,(envOf N.length ds)[j]?=some (some x)->∃d,x=(false,d)/\ds[j]?=some d:=λj x he=>by
  unfold envOf at he;by_cases hj:j<(ds.map λd=>some (false,d)).length;rw[Qw7 hj,Qxz] at he;obtain⟨d,h1,h2⟩:=Qw8.mp he;cases h2;exact⟨d,rfl,h1⟩;rw[Qx4 (by omega),Qz1] at he;split at he<;>cases he
 refine⟨λb o e=>(HS e).1,s,?_,λj d he=>?_,λj d he=>?_,λj k d e a hj hk=>?_,λb o e=>?_,λi a h=>by cases h⟩;unfold envOf L2.start;rw[Qqk,Qqk,Qq3,Qq3,Qzx,Qzx,p.length];obtain⟨d',z,hd⟩:=un j _ he;cases z;obtain⟨v,h1,h2⟩:=p.get hd;refine⟨v,?_,h2⟩;unfold L2.start;rw[Qw7 (by rw[Qq3];exact(Qqy.mp h1).1),Qxz,h1];rfl;obtain⟨d',z,_⟩:=un j _ he;cases z;obtain⟨d',z,_⟩:=un j _ hj;cases z;unfold Bq;rw[e];rfl
theorem aM.tu(s1:aM (Bq H F) H')(s2:aM F F')(s3:aM F' H')(sF:aM F H):aM H H':=λb o e=>by
 cases z:F b with
 |none=>exact s1 b o (by unfold Bq;rw[z];exact e)|some w=>have:=sF b w z;rw[e] at this;cases this;exact s3 b o<|s2 b o z
theorem tL(s2:aM F F')(dj:∀b o,F' b=some o->Bq H F b=none)(b)(o)(h:F' b=some o):F b=some o\/H b=none:=by
 rcases zp (dj b o h) with z|⟨w,z⟩;exact .inr z;have:=s2 b w z;rw[h] at this;cases this;exact .inl z
section
variable{P:Program}{w:World}{K:Fg}{mg:Str->Option Value}{base:Heap}{x qual:Str}{st:Stmt}{f:Addr}{fd:FuncData}{N ps:List Str}{k:Nat}{ev:bO}
noncomputable abbrev bx(P:Program)(w:World)(K:Fg)(mg:Str->Option Value)(base:Heap)(N:List Str)(qual:Str)(st:Stmt)(f:Addr)(cdv:Value)(A:Around)(outer:List PySem.Env)(s:Shared)(H:Hp)(E:XK):Cx:=(Ji xg P w K mg base N qual (aH st) f cdv A outer s H E).W8
theorem Uy(F:Qn K x qual st f fd)(S:bI N ps (aH st))
  (hb:∀cdv A outer s H E,fX k (A.deeper (envOfC qual (aH st) s.heap.objs.size f cdv))->rR (bx P w K mg base N qual st f cdv A outer s H E) (C0 K) (cD st) ev) :
  lE P w K mg base xg (k+1) f fd ps (mK K ps.length (bY N.length ev)):=by
 refine F.ok S (λvs H Q E h=>?_)<|λcdv A outer s H vs Q E hr h=>?_;obtain⟨F0,ds,d,hl,_,p,_⟩:=h;rw[p.length,hl];obtain⟨F0,ds,d,hl,sF,p,e,q⟩:=h;refine⟨_,hb cdv A outer s H E hr,Bq H F0,F0,envOf N.length ds,rC sF p,?_⟩;unfold bY at e;split at e;rename_i d' env' h1;cases e;rw[h1];exact λv σ' H' F' r' s' p'=>q v H' F' (aM.tu r'.pr s' r'.fr sF) r'.fr s' (tL s' r'.dj) p';rename_i env' h1;cases e;rw[h1];exact λσ' H' F' r' s'=>q .non H' F' (aM.tu r'.pr s' r'.fr sF) r'.fr s' (tL s' r'.dj) rfl;cases e
theorem X6(F:Qn K x qual st f fd)(S:bI N ps (aH st))
  (hb:∀cdv A outer s H E,fX k (A.deeper (envOfC qual (aH st) s.heap.objs.size f cdv))->rR (bx P w K mg base N qual st f cdv A outer s H E) (C0 K) (cD st) ev) :
  lE P w K mg base xg (k+1) f fd ps (spN K ps.length (runN N.length ev)):=by
 refine F.ok S (λvs H Q E h=>?_)<|λcdv A outer s H vs Q E hr h=>?_;obtain⟨F0,ds,d,hl,_,p,_⟩:=h;rw[p.length,hl];obtain⟨F0,ds,d,hl,sF,p,e,q⟩:=h;refine⟨_,hb cdv A outer s H E hr,Bq H F0,F0,envOf N.length ds,rC sF p,?_⟩;unfold runN at e;split at e;rename_i d' env' h1;cases e;rw[h1];refine λa σ' H' F' r' s' n'=>q a H' F' (aM.tu r'.pr s' r'.fr sF) r'.fr s' (tL s' r'.dj) n'.own n'.nF ?_;rcases zp n'.nP with z|⟨u,z⟩;exact z;have:=s' a u z;rw[n'.nF] at this;cases this;cases e
theorem Hj(s:aM F H)(hF:F a=none)(ho:jT K F H y a)(p:bK K F ds vs):Rel (C1 K a) (λb=>if b=a then none else Bq H F b) F (Ac N.length y ds) (start N (.ref a::vs)) H:=by
 have un:∀j x,(Ac N.length y ds)[j]?=some (some x)->(j=0/\x=(true,y))\/∃i d,j=i+1/\x=(false,d)/\ds[i]?=some d:=λj x he=>by
  unfold Ac at he;cases j with
  |zero=>cases he;exact .inl ⟨rfl,rfl⟩|succ i=>rw[List.getElem?_cons_succ] at he;by_cases hj:i<(ds.map λd=>some (false,d)).length;rw[Qw7 hj,Qxz] at he;obtain⟨d,h1,h2⟩:=Qw8.mp he;cases h2;exact .inr ⟨i,d,rfl,rfl,h1⟩;rw[Qx4 (by omega),Qz1] at he;split at he<;>cases he
 have z0:(start N (.ref a::vs))[0]?=some (some<|V.ref a):=rfl;refine⟨λb o e=>?_,s,?_,λj d he=>?_,λj d he=>?_,λj k d e b hj hk _ _=>?_,λb o e=>?_,λi b h=>?_⟩;have e':=e;split at e';cases e';exact(HS e').1;unfold Ac L2.start;simp only[Qqw,Qqk,Qq3,Qzx,p.length,Qwq];omega;rcases un j _ he with ⟨_,z⟩|⟨i,d',rfl,z,hd⟩;cases z;cases z;obtain⟨v,h1,h2⟩:=p.get hd;refine⟨v,?_,h2⟩;unfold L2.start;rw[Qwq,List.cons_append,List.getElem?_cons_succ,Qw7 (by rw[Qq3];exact(Qqy.mp h1).1),Qxz,h1];rfl;rcases un j _ he with ⟨rfl,z⟩|⟨i,d',rfl,z,hd⟩;cases z;exact⟨a,z0,ho,hF,if_pos rfl⟩;cases z;rcases un j _ hj with ⟨rfl,_⟩|⟨i,d',rfl,z,_⟩;rcases un k _ hk with ⟨rfl,_⟩|⟨i,d',rfl,z,_⟩;rfl;cases z;cases z;show(if b=a then none else Bq H F b)=none;split;rfl;unfold Bq;rw[e];rfl;have h':(if i=0 then some a else none)=some b:=h;split at h';rename_i hi;cases h';rw[hi];exact z0;cases h'
theorem acI(F:Qn K x qual st f fd)(S:bI N (y::qs) (aH st))
  (hb:∀cdv A outer s H E a,fX k (A.deeper (envOfC qual (aH st) s.heap.objs.size f cdv))->rR (bx P w K mg base N qual st f cdv A outer s H E) (C1 K a) (cD st) ev) :
  lE P w K mg base xg (k+1) f fd (y::qs) (sI K (qs.length+1) (iu N.length ev)):=by
 refine F.ok S (λvs H Q E h=>?_)<|λcdv A outer s H vs Q E hr h=>?_;obtain⟨F0,a,r,z,ds,d,z',rfl,hl,_,_,_,p,_⟩:=h;rw[Qqw,Qqw,p.length];exact hl;obtain⟨F0,a,r,z,ds,d,z',rfl,hl,sF,hFa,ho,p,e,q⟩:=h;refine⟨_,hb cdv A outer s H E a hr,_,F0,Ac N.length z ds,Hj sF hFa ho p,?_⟩;have fin:∀env' σ' H' F' v d z',env'[0]?=some (some (true,z'))->Rel (C1 K a) (λb=>if b=a then none else Bq H F0 b) F' env' σ' H'->aM F0 F'->Rep K F' d v->(∀v H' F',(∀b o,b≠a->H b=some o->H' b=some o)->aM F' H'->aM F0 F'->(∀b o,F' b=some o->F0 b=some o\/H b=none)->jT K F' H' z' a->Rep K F' d v->Q v H')->Q v H':=λenv' σ' H' F' v d z' h0 r' s' p' q=>by
  obtain⟨b,g1,g2,g3,g4⟩:=r'.own 0 z' h0;have g5:=r'.fix 0 a rfl;rw[g1] at g5;cases g5;refine q v H' F' (λc o hc e=>?_) r'.fr s' (λc o e=>?_) g2 p';cases u:F0 c with
  |none=>exact r'.pr c o (by show(if c=a then none else Bq H F0 c)=some o;rw[if_neg hc];unfold Bq;rw[u];exact e)|some w=>have:=sF c w u;rw[e] at this;cases this;exact r'.fr c o<|s' c o u
  by_cases hc:c=a;subst hc;rw[g3] at e;cases e;have h1:=r'.dj c o e;have h1':=h1;rw[if_neg hc] at h1';rcases zp h1' with u|⟨w,u⟩;exact .inr u;have:=s' c w u;rw[e] at this;cases this;exact .inl u
 unfold iu at e;simp at e;split at e;rename_i d' env' h1;split at e;rename_i z1 h0;cases e;rw[h1];exact λv σ' H' F' r' s' p'=>fin env' σ' H' F' v _ _ h0 r' s' p' q;cases e;rename_i env' h1;split at e;rename_i z1 h0;cases e;rw[h1];exact λσ' H' F' r' s'=>fin env' σ' H' F' .non .non _ h0 r' s' rfl q;cases e;cases e
end
structure Good(X:Cx)(C:Cfg):Prop where
 K:X.K=C.K
 calm:X.calm=true
 un:X.A.units+64<cLine
theorem Good.u1(G:Good X C):X.A.units+1<cLine:=Qw5 (Nat.add_le_add_left (by decide:1<=64) _) G.un
theorem Good.u60(G:Good X C):X.A.units+60<cLine:=Qw5 (Nat.add_le_add_left (by decide:60<=64) _) G.un
theorem Good.u61(G:Good X C):X.A.units+61<cLine:=Qw5 (Nat.add_le_add_left (by decide:61<=64) _) G.un
theorem Good.at(G:Good X C)(h:jQ X scope N' X'):Good X' C:=by obtain⟨_,_,_,_,_,rfl⟩:=h;exact⟨G.K,G.calm,G.un⟩
def Own(P:Program)(w:World)(K:Fg)(mg:Str->Option Value)(base:Heap)(x:Str)(k:Nat)(ps:List Str)(sp:Sp):Prop:=
 ∃f fd,lE P w K mg base xg k f fd ps sp/\mg x=some (.ref f)/\PySem.W.keepIn K (.ref f)=true/\Binds K fd ps []
def Glb(K:Fg)(mg:Str->Option Value)(x:Str)(d:D):Prop:=∃v u,mg x=some u/\RelV v u/\∀F,Rep K F d v
def dY(K:Fg)(mg:Str->Option Value)(x:Str)(st:Stmt)(ps:List Str):Prop:=∃f fd,Qn K x x st f fd/\mg x=some (.ref f)/\Binds K fd ps []
noncomputable def jm:List Str->Bool
 |[]=>true|x::r=>!(r.contains x)&&jm r
theorem fO:∀{l},jm l=true->l.Nodup
 |[],_=>.nil
 |x::r,h=>by
  have h':(!(r.contains x)&&jm r)=true:=h;rw[Qzq] at h';refine Qxk.mpr ⟨λhm=>?_,fO h'.2⟩;have:=List.contains_iff_mem.mpr hm;rw[this] at h';exact absurd h'.1 (by decide)
noncomputable def M5(outer:List (Str×NameKind)):List (Str×NameKind)->Bool
 |[]=>true|(n,k)::r=>(!decide (k=.free)||decide (outer.lookup n=some .cell)||decide (outer.lookup n=some .free))&&M5 outer r
theorem IK:∀{l},M5 outer l=true->∀x∈l,x.2=.free->outer.lookup x.1=some .cell\/outer.lookup x.1=some .free
 |[],_,x,hx,_=>by simp at hx
 |(n,k)::r,h,x,hx,hf=>by
  have h':((!decide (k=.free)||decide (outer.lookup n=some .cell)||decide (outer.lookup n=some .free))&&M5 outer r)=true:=h;rw[Qzq,Bool.or_eq_true,Bool.or_eq_true] at h';rcases Qq7.mp hx with rfl|hx;rcases h'.1 with (z|z)|z;have hf':=hf;rw[Qwj hf'] at z;exact absurd z (by decide);exact .inl<|Qxj z;exact .inr<|Qxj z;exact IK h'.2 x hx hf
theorem pA{X:Cx}{scope:Scope}{N':List Str}(h1:scope.kind=.function:=by rfl)(h2:jm (scope.names.map (·.1))=true:=by rfl)(h3:M5 X.env.scope.names scope.names=true:=by rfl)(h4:UJ scope.names N' X.N=true:=by rfl)(h5:Nat.ble X.N.length N'.length=true:=by rfl):mJ X scope N':=
 ⟨h1,fO h2,IK h3,h4,Qzz h5⟩
section
variable{X:Cx}{C:Cfg}{pos p px:Pos}{x y z:Expr}{a b c:Ev}{t u:gh}{i:Nat}{n:Str}
structure Bi(X:Cx)(C:Cfg)(op:Operator)(g:D->D->Option D):Prop where
 ex:∃r,mG X (binaryOp op) r/\pH C r g
structure Cm(X:Cx)(C:Cfg)(op:CmpOp)(g:D->D->Option D):Prop where
 ex:∃r,mG X (compareOp op) r/\pH C r g
theorem kZ(G:Good X C):Bi X C .Add dB:=⟨_,W4,by rw[G.K];exact abK⟩
theorem afD:Bi X C .Sub Ir:=⟨_,abd,aby⟩
theorem U7:Bi X C .Mult tQ:=⟨_,W2,abC⟩
theorem afF:Bi X C .Mod acv:=⟨_,abi,abD⟩
theorem ZS:Bi X C .Pow KQ:=⟨_,abg,abB⟩
theorem afE:Bi X C .LShift KJ:=⟨_,abf,abA⟩
theorem ZR:Bi X C .RShift zL:=⟨_,abe,abz⟩
theorem ZV:Bi X C .BitAnd Bw:=⟨_,abr,abJ⟩
theorem xZ(G:Good X C):Cm X C .Eq tR:=⟨_,abp G.u60,by rw[G.K];exact aeN⟩
theorem acR(G:Good X C):Cm X C .NotEq MT:=⟨_,abh G.u60,by rw[G.K];exact aeH⟩
theorem ahF(G:Good X C):Cm X C .In gIn:=⟨_,abo G.u61,by rw[G.K];exact aeL⟩
theorem Qj:Cm X C .Is JC:=⟨_,abl,aeK⟩
theorem yz:Cm X C .IsNot nO:=⟨_,O4,Tc⟩
theorem acS:Cm X C .Lt M4:=⟨_,abj,aeI⟩
theorem afA:Cm X C .LtE gLe:=⟨_,aeE,aeJ⟩
theorem ahG:Cm X C .Gt gGt:=⟨_,aeF,aeM⟩
variable{e:Expr}{es:List Expr}{ea:dZ}
theorem len0:∀env ds env',aj env=.ok ds env'->ds.length=0:=Qa
theorem bw(hr:∀env ds env',r env=.ok ds env'->ds.length=m):∀env ds env',aa a r env=.ok ds env'->ds.length=m+1:=KY hr
theorem jt{r:dZ}(hr:∀env ds env',r env=.ok ds env'->ds.length=m):∀env ds env',r env=.ok ds env'->ds.length+1=m+1:=λenv ds env' h=>by rw[hr env ds env' h]
theorem ag4(N')(lo)(ok:mJ X scope N')(G:Good X C)(hi:Z2 X C tg iter it)
  (bg:∀X',jQ X scope N' X'->Yv X' C lo tg g) (bc:∀X',jQ X scope N' X'->Ql X' C ifs cc) (be:∀X',jQ X scope N' X'->PX X' C elt ee)
  (hs:∀x,foldedSetIterable iter X.env x=pure x:=by intro _;rfl):Vu X C (.ListComp elt [⟨tg,iter,ifs,0⟩] scope pos) (gY lo N'.length it g cc ee):=aaE N' lo ok G.calm hi bg bc be hs
theorem agR(N'){spos py:Pos}(lo)(i)(ok:mJ X scope N')(G:Good X C)(hi:Z2 X C tg iter it)
  (bg:∀X',jQ X scope N' X'->Yv X' C lo tg g) (bc:∀X',jQ X scope N' X'->Ql X' C ifs cc) (be:∀X',jQ X scope N' X'->PX X' C elt ee)
  (hnd:jm X.N=true:=by rfl) (hfx:C.fx i=none:=by rfl) (hy:X.N[i]?=some n:=by rfl) (hx:Loc X.env.scope n:=by first|exact Or.inl rfl|exact Or.inr rfl)
  (hsw:swapsWith (.ListComp elt [⟨tg,iter,ifs,0⟩] scope pos) (some (.Name n py)) spos.line X.env=pure true:=by rfl)
  (hf:X.fn n=true\/X.env.scope.names.lookup n=some .local:=by first|exact .inl rfl|exact .inr rfl)
  (hs:∀x,foldedSetIterable iter X.env x=pure x:=by intro _;rfl):Vt X C (.Assign [.Name n py] (.ListComp elt [⟨tg,iter,ifs,0⟩] scope pos) spos) (dF i (gY lo N'.length it g cc ee)):=Om N' lo ok G.calm hi bg bc be (fO hnd) hy hx hfx hsw hf hs
end
section
variable{P:Program}{w:World}{K:Fg}{mg:Str->Option Value}{base:Heap}{x:Str}{st:Stmt}{N ps:List Str}{k:Nat}{ev:bO}
theorem yt(hC:C.K=K)(hr:fX k (A.deeper (envOfC x (aH st) s.heap.objs.size f cdv))):Good (bx P w K mg base N x st f cdv A outer s H E) C:=⟨hC.symm,rfl,hr.units⟩
theorem dw(F:dY K mg x st ps)(S:bI N ps (aH st))
  (hb:∀f cdv A outer s H E,fX k (A.deeper (envOfC x (aH st) s.heap.objs.size f cdv))->Good (bx P w K mg base N x st f cdv A outer s H E) (C0 K)->rR (bx P w K mg base N x st f cdv A outer s H E) (C0 K) (cD st) ev) :
  Own P w K mg base x (k+1) ps (mK K ps.length (bY N.length ev)):=by
 obtain⟨f,fd,h1,h2,h3⟩:=F;exact⟨f,fd,Uy h1 S λcdv A outer s H E hr=>hb f cdv A outer s H E hr<|yt rfl hr,h2,h1.kp,h3⟩
theorem WW(F:dY K mg x st ps)(S:bI N ps (aH st))
  (hb:∀f cdv A outer s H E,fX k (A.deeper (envOfC x (aH st) s.heap.objs.size f cdv))->Good (bx P w K mg base N x st f cdv A outer s H E) (C0 K)->rR (bx P w K mg base N x st f cdv A outer s H E) (C0 K) (cD st) ev) :
  Own P w K mg base x (k+1) ps (spN K ps.length (runN N.length ev)):=by
 obtain⟨f,fd,h1,h2,h3⟩:=F;exact⟨f,fd,X6 h1 S λcdv A outer s H E hr=>hb f cdv A outer s H E hr<|yt rfl hr,h2,h1.kp,h3⟩
theorem wI(F:dY K mg x st (y::qs))(S:bI N (y::qs) (aH st))
  (hb:∀f cdv A outer s H E a,fX k (A.deeper (envOfC x (aH st) s.heap.objs.size f cdv))->Good (bx P w K mg base N x st f cdv A outer s H E) (C1 K a)->rR (bx P w K mg base N x st f cdv A outer s H E) (C1 K a) (cD st) ev) :
  Own P w K mg base x (k+1) (y::qs) (sI K (qs.length+1) (iu N.length ev)):=by
 obtain⟨f,fd,h1,h2,h3⟩:=F;exact⟨f,fd,acI h1 S λcdv A outer s H E a hr=>hb f cdv A outer s H E a hr<|yt rfl hr,h2,h1.kp,h3⟩
theorem jf{sc:Scope}(h1:sc.kind=.function:=by rfl)(h2:sc.isCoroutine=false:=by rfl)(h3:sc.isGenerator=false:=by rfl)(h4:jm N=true:=by rfl)(h5:N.take ps.length=ps:=by rfl)
  (h6:(ps.all λx=>decide (sc.names.lookup x=some .local)||decide (sc.names.lookup x=some .cell))=true:=by rfl) (h7:(sc.names.all λy=>!decide (y.2=.free))=true:=by rfl):bI N ps sc:=by
 refine⟨h1,h2,h3,fO h4,h5,λx hx=>?_,λy hy z=>?_⟩;have:=Qx5.mp h6 x hx;rw[Bool.or_eq_true] at this;rcases this with z|z;exact .inl<|Qxj z;exact .inr<|Qxj z;have:=Qx5.mp h7 y hy;rw[Qwj z] at this;exact absurd this (by decide)
end
open PySem PySem.Spec PySem.W PySem.Calls PyProof.Rows L2
theorem xj:∀(ns:List Int) i,i∈ns->Builtin.Int.intBits i<=WData.weightAll (ns.map WData.int)
 |[],_,h=>by simp at h
 |n::ns,i,h=>by
  rw[Qwq,WData.weightAll];rcases Qq7.mp h with rfl|h;have e:WData.weight (.int i)=Builtin.Int.intBits i:=by rw[WData.weight];rfl
  rw[e];omega;have:=xj ns i h;omega
def Qq(ns:List Int):Prop:=∀i∈ns,Builtin.Int.intBits i<=2^20
theorem Ge{l:OpenLaw}
  (hn:l.most=some n) (hdf:d.params.defaults=[])
  (call:∀w s₀ s₁ mg mb fa o pm cd doc a vs ns,
   Ground q loose [] XP w s₀ mg mb s₁.heap->YP w s₁.heap->
   s₁.heap.get? fa=some o->o.data=.func (docDef d.name d.params d.body d.scope pm cd doc)->s₁.heap.CodeRec cd d.name->mg d.name=some (.ref fa)->
   s₁.heap.get? a=some { cls:=.type "list",data:=.seq vs.toArray }->IntsAre vs ns->ns.length<=n->Qq ns->s₁.gens=#[]->
   codeAny (model l.prog w) callerA (.call (.ref fa) ⟨[.ref a],[]⟩) (λr s'=>r=.ok (.ret (.bool true))/\OldK s₁.heap s'.heap/\s'.os=s₁.os/\AllBare s'.gens) s₁) :
  WalkO q loose XP YP l.row.toRowW d [] (λf vs=>PySem.call f vs):=by
 intro w s₀ s₁ mg mb G Y fa o pm cd doc dV kV ho hd hcd hD hmg hg args vals as hpre hlay hrd hwl hlo;obtain rfl:dV=.none:=Dflts.none hD hdf;obtain rfl:kV=.none:=Dflts.noKw hD;obtain⟨a,vs,ns,rfl,rfl,hobj,hints,hlen⟩:=Att.Oh hn hpre hwl;have Ui:=λi hi=>by
  have h1:=(layableW_iff.mp<|layableW_arg hlay _<|Qq2.mpr rfl).2.2;rw[WData.weight] at h1;exact Qq4 (xj ns i hi) h1
 refine enter_call<|codeAny_mono (call w s₀ s₁ mg mb fa o pm cd doc a vs ns G Y ho (fd_plain hd) hcd hmg hobj hints hlen Ui hg) λr s' hq=>?_;obtain⟨rfl,h2,h3,h4⟩:=hq;exact⟨.inl ⟨.bool true,.bool true,[],rfl,λ_=>rfl,.bool true,Att.Ow l _,λ_=>⟨List.Pairwise.nil,λ_ hm=>(nomatch hm)⟩⟩,h2,h3,h4⟩
section
variable{K:Fg}{h:Heap}{mg:Str->Option Value}
theorem funAt{st:Stmt}{kV doc pm cdv ct:Value}(X:K.In h)(G:h.Ns mainGlobals mg)
  (a:PySem.W.nsIn K mainGlobals x=some (some (.ref f))) (l:K.lookup f=some ⟨oc,od,.func (PySem.W.fnOf x x (fW st) (cD st) (aH st) .none kV doc pm an cdv ct),osl⟩)
  (c:PySem.W.codeIn K cdv x=true) (k:PySem.W.keepIn K (.ref f)=true)
  (b:∀kV doc pm an cdv ct us,us.length=ps.length->bindArgs (PySem.W.fnOf x x (fW st) (cD st) (aH st) .none kV doc pm an cdv ct) ⟨us,[]⟩=pure (ps.zip us)):dY K mg x st ps:=
 ⟨f,_,zP l c k,PySem.W.mg_of X G a,(zP l c k).binds b⟩
theorem XF(X:K.In h)(G:h.Ns mainGlobals mg)(a:PySem.W.nsIn K mainGlobals x=some (some (.str s t)))(hs:s=strOf z)(hz:z.length<=sizeLine):Glb K mg x (.str z):=
 ⟨.str s,_,PySem.W.mg_of X G a,⟨t,rfl⟩,λF=>⟨by rw[hs],hz⟩⟩
theorem zm(X:K.In h)(G:h.Ns mainGlobals mg)(e:PySem.W.nsIn K mainGlobals x=some none):mg x=none:=PySem.W.mg_none_of X G e
end
open PySem L2
theorem IV(P:Env->Prop):∀ds,(∀d∈ds,∀env,P env->∃e1 e2,g d env=some e1/\b e1=.nx e2/\P e2)->∀env,P env->∃e',ir g b ds env=.nx e'/\P e'
 |[],_,env,hp=>⟨env,rfl,hp⟩
 |d::ds,h,env,hp=>by
  obtain⟨e1,e2,h1,h2,h3⟩:=h d (Qqj ..) env hp;obtain⟨e',h4,h5⟩:=IV P ds (λd' hd=>h d'<|Qqq _ hd) e2 h3;refine⟨e',?_,h5⟩;unfold ir;rw[h1];simp;rw[h2];exact h4
theorem M7(P:List D->Env->Prop)(h:∀done d rest,all=done++d::rest->∀env,P done env->∃e1 e2,g d env=some e1/\b e1=.nx e2/\P (done++[d]) e2):∀ds done,all=done++ds->∀env,P done env->∃e',ir g b ds env=.nx e'/\P all e'
 |[],done,ha,env,hp=>⟨env,rfl,by rw[ha,Qw6];exact hp⟩
 |d::ds,done,ha,env,hp=>by
  obtain⟨e1,e2,h1,h2,h3⟩:=h done d ds ha env hp;obtain⟨e',h4,h5⟩:=M7 P h ds (done++[d]) (by rw[Qwk];exact ha) e2 h3;refine⟨e',?_,h5⟩;unfold ir;rw[h1];simp;rw[h2];exact h4
theorem rG(all)(P:List D->Env->Prop)(h:∀done d rest,all=done++d::rest->∀env,P done env->∃e1 e2,g d env=some e1/\b e1=.nx e2/\P (done++[d]) e2)(env)(h0:P [] env):∃e',ir g b all env=.nx e'/\P all e':=M7 P h all [] rfl env h0
theorem aA(h:a env=.nx e):aD a b env=b e:=by unfold aD;rw[h]
theorem jA(h:a env=.rt o d e):aD a b env=.rt o d e:=by unfold aD;rw[h]
theorem gU(h:it env=.ok ds e):iW it g b env=ir g b ds e:=by unfold iW;rw[h];rfl
theorem bH(h:a env=.ok d e)(h':g d e=some e'):aW a g env=.nx e':=by unfold aW;rw[h];show Tz (g d e)=_;rw[h'];rfl
theorem jV(h:t env=.ok true e):gK t a b env=a e:=by unfold gK;rw[h];rfl
theorem gJ(h:t env=.ok false e):gK t a b env=b e:=by unfold gK;rw[h];rfl
theorem bV(h:a env=.ok d e):bA a env=.rt false d e:=by unfold bA;rw[h];rfl
theorem aK(h:a env=.ok ds e)(h':g ds=some d):au g a env=.ok d e:=by unfold au;rw[h];show iy (g ds) e=_;rw[h'];rfl
theorem bL(h1:a env=.ok x e1)(h2:b e1=.ok y e2)(h3:g x y=some d):aO g a b env=.ok d e2:=by
 unfold aO;rw[h1];show bindR (b e1) _=_;rw[h2];show iy (g x y) e2=_;rw[h3]
 rfl
theorem cB(h1:env[i]?=some (some (o',x0)))(h2:b env=.ok y e2)(h4:e2[i]?=some (some (o,x)))(h3:g x y=some d):aB g i b env=.ok d e2:=by
 unfold aB;rw[h1];show bindR (b env) _=_;rw[h2];show(match e2[i]? with|some (some (_,x))=>iy (g x y) e2|_=>.stuck)=_;rw[h4];show iy (g x y) e2=_;rw[h3]
 rfl
theorem aC(h1:a env=.ok d e1)(h2:r e1=.ok ds e2):aa a r env=.ok (d::ds) e2:=by
 unfold aa;rw[h1];show bindR (r e1) _=_;rw[h2]
 rfl
theorem bu:aj env=.ok [] env:=rfl
theorem Jc(h:r env=.ok ds e)(hz:ds.length<=sizeLine):cM r env=.ok (.lst ds) e:=by unfold cM;rw[h];show(if ds.length<=sizeLine then _ else _)=_;rw[if_pos hz]
theorem bZ(h:r env=.ok ds e)(hz:ds.length<=sizeLine):bF r env=.ok (.tup ds) e:=by unfold bF;rw[h];show(if ds.length<=sizeLine then _ else _)=_;rw[if_pos hz]
theorem iT(h0:env[i]?=some (some (true,x0)))(h1:a env=.ok ds e1)(h2:e1[i]?=some (some (true,x)))(h3:f (x::ds)=some (d,x')):dI f i a env=.ok d (e1.set i (some (true,x'))):=by unfold dI;rw[h0];show bindR (a env) _=_;rw[h1];show(match e1[i]? with|some (some (true,x))=>(match f (x::ds) with|some (d,x')=>R.ok d (e1.set i<|some (true,x'))|none=>R.stuck)|_=>R.stuck)=_;rw[h2];show(match f (x::ds) with|some (d,x')=>R.ok d (e1.set i<|some (true,x'))|none=>.stuck)=_;rw[h3]
theorem M3(h:kE i j=true):tQ (.int i) (.int j)=some (.int (i*j)):=by show gI kE (λi j=>D.int<|i*j) (.int i) (.int j)=_;unfold gI;simp only;rw[if_pos h]
theorem Iw(h:a.length+b.length<=sizeLine):dB (.lst a) (.lst b)=some (.lst (a++b)):=by show(if a.length+b.length<=sizeLine then _ else _)=_;rw[if_pos h]
theorem f9(h:a env=.ok (.bl b) e):fL a env=.ok b e:=by unfold fL;rw[h];rfl
theorem p7(h:a env=.ok d e):dF i a env=.nx (e.set i (some (true,d))):=by unfold dF;rw[h];rfl
theorem uY(h:a env=.ok d e)(h':itD d=some ds):jn a env=.ok ds e:=by unfold jn;rw[h];show iy (itD d) e=_;rw[h'];rfl
theorem kW(h:ev (Ac n x r)=.rt false d env)(h0:env[0]?=some (some (true,x'))):iu n ev (x::r)=some (d,x'):=by unfold iu;simp;rw[h];simp;rw[h0]
theorem dC(h:ev (envOf n ds)=.rt false d env):bY n ev ds=some d:=by unfold bY;rw[h]
theorem X3(h:a env=.ok (.bl true) e):z8 a b env=b e:=by unfold z8;rw[h];rfl
theorem acD(h:a env=.ok (.bl true) e):pP a b env=.ok (.bl true) e:=by unfold pP;rw[h];rfl
theorem Uq(h:a env=.ok (.bl false) e):pP a b env=b e:=by unfold pP;rw[h];rfl
theorem Fv(h:a env=.ok false e):rY a b env=b e:=by unfold rY;rw[h];rfl
theorem P0(h:a env=.ok b e):zY a env=.ok (!b) e:=by unfold zY;rw[h];rfl
theorem yq(P:Env->Prop)(f):∀ds env,P env->(∀d∈ds,∀env,P env->∃e1 e2,g d env=some e1/\e e1=.ok (f d) e2/\P e2)->∃env',Gu g fK e ds env=.ok (ds.map f) env'/\P env'
 |[],env,hp,_=>⟨env,rfl,hp⟩
 |d::ds,env,hp,h=>by
  obtain⟨e1,e2,h1,h2,h3⟩:=h d (Qqj ..) env hp;obtain⟨e3,h4,h5⟩:=yq P f ds e2 h3 λd' hd=>h d'<|Qqq _ hd;refine⟨e3,?_,h5⟩;unfold Gu;rw[h1];show bindR (e e1) _=_;rw[h2];show bindR (Gu g fK e ds e2) _=_;rw[h4]
  rfl
theorem rH{lo n:Nat}(h1:it env=.ok ds aJ)(hl:aJ.length=lo)(h2:Gu g c e ds (aJ++List.replicate (n - lo) none)=.ok ys dD)(hz:ys.length<=sizeLine):gY lo n it g c e env=.ok (.lst ys) (dD.take lo):=by unfold gY;rw[h1];show(if aJ.length=lo then _ else _)=_;rw[if_pos hl,h2];show(if ys.length<=sizeLine then _ else _)=_;rw[if_pos hz]
theorem dig(n)(m)(hm:0<m):∃d:Nat,d<m/\n % m=(d:Int):=by have h1:0<=n % m:=Int.emod_nonneg n (by omega);have h2:n % m<m:=Int.emod_lt_of_pos n (by omega);exact⟨(n % m).toNat,by omega,by omega⟩
theorem K9{α:Type}{xs:List α}(h:d<xs.length):vL xs d=some xs[d]:=lN<|Qqv h
noncomputable def okN:Nat->D->Bool
 |0,_=>false|n+1,.tup xs=>xs.all (okN n)|n+1,.lst xs=>xs.all (okN n)|_+1,.dct _=>false|_+1,.gR _=>false|_+1,.clo _ _=>false|_+1,.arr _=>false|_+1,_=>true
theorem Ab:∀xs,(∀x∈xs,f x x=some true)->vK f xs xs=some true
 |[],_=>rfl
 |x::r,h=>by
  unfold vK;rw[h x (Qqj ..),Ab r λy hy=>h y<|Qqq _ hy]
  rfl
theorem z9:∀n d,okN n d=true->bh n d d=some true
 |0,_,h=>by cases h
 |n+1,d,h=>by
  cases d with
  |tup xs=>exact Ab xs λx hx=>z9 n x<|Qx5.mp h x hx|lst xs=>exact Ab xs λx hx=>z9 n x<|Qx5.mp h x hx|dct _=>cases h|gR _=>cases h|clo _ _=>cases h|arr _=>cases h|non=>rfl|bl b=>show some (b == b)=_;simp|int i=>show some (i == i)=_;simp|str x=>show some (x == x)=_;simp
end Ev
namespace L2
open PySem PySem.Spec PyProof.Rows
section
variable{X:Cx}{pins:List (Addr×Obj)}{σ:St}{H:Hp}{s:Shared}{h':Heap}
theorem Inv.drawn{ch:List Addr}{T:Addr}(I:Inv X pins σ H s)(hch:∀b∈ch,vI X pins H b)(k:∀b u,b ∉ ch->s.heap.get? b=some u->h'.get? b=some u)(hT:s.heap.objs.size<=T)
  (new:gf X.prog X.w (upd H T o) h' T o):Inv X pins σ (upd H T o) { s with heap:=h',toks:=t' }:=by
 have nT:=I.hok.fresh hT;have Zk:∀b u,H b=some u->b ∉ ch:=λb u e z=>by rw[(hch b z).1] at e;cases e
 have up:∀b u,H b=some u->upd H T o b=some u:=λb u e=>by rw[bj (cW e nT)];exact e
 refine I.step (λb hb=>?_) (λb u _ _ hc e _=>k b u hc e) (λb u _ _ hc e _=>⟨u.slots,k b u hc e⟩) (λb u hc e n=>?_)
  (λb u hc e=>⟨u,k b u hc e⟩) (λb xs e=>up b _ e) (λb u v e=>up b _ e) (λb ps e=>⟨#[],by rw[up b _ e];simp⟩) (λm hm=>?_) (λb u e=>?_) I.bare (λb qs e=>up b _ e)
 obtain⟨h0,h1,h2,h3,h4,h5⟩:=hch b hb;exact⟨h3,h1,h4,h5⟩;have hb:b≠T:=λz=>by
  subst z;exact absurd (Qwx e)<|Nat.not_lt.mpr hT
 rw[bj hb];exact n;obtain⟨u,es,ep,ho,r⟩:=hm;have hL:=λz=>(hch _ z).2.1 rfl;exact⟨u,es,ep,k _ u hL ho,r⟩;by_cases hb:b=T;subst hb;rw[aU] at e;cases e;exact new;rw[bj hb] at e;refine(I.hok b u e).stay (λc v hc q=>k c v ?_ q) (λc q=>up _ _ q) (λc xs q=>up _ _ q) λc _ _ _ _ q=>up _ _ q;rcases hc with z|z;rw[z];exact Zk b u e;exact Zk c _ z
theorem Inv.VJ{ch:List Addr}(I:Inv X pins σ H s)(hch:∀b∈ch,vI X pins H b)(k:∀b u,b ∉ ch->s.heap.get? b=some u->h'.get? b=some u):Inv X pins σ H { s with heap:=h',toks:=t' }:=by
 have Zk:∀b u,H b=some u->b ∉ ch:=λb u e z=>by rw[(hch b z).1] at e;cases e
 refine I.step (λb hb=>?_) (λb u _ _ hc e _=>k b u hc e) (λb u _ _ hc e _=>⟨u.slots,k b u hc e⟩) (λb u hc e n=>n)
  (λb u hc e=>⟨u,k b u hc e⟩) (λb xs e=>e) (λb u v e=>e) (λb ps e=>⟨#[],by rw[e];simp⟩) (λm hm=>?_) (λb u e=>?_) I.bare
 obtain⟨h0,h1,h2,h3,h4,h5⟩:=hch b hb;exact⟨h3,h1,h4,h5⟩;obtain⟨u,es,ep,ho,r⟩:=hm;have hL:=λz=>(hch _ z).2.1 rfl;exact⟨u,es,ep,k _ u hL ho,r⟩;refine(I.hok b u e).stay (λc v hc q=>k c v ?_ q) (λ_ q=>q) λ_ _ q=>q;rcases hc with z|z;rw[z];exact Zk b u e;exact Zk c _ z
end
open PySem PySem.Spec PyProof.Rows PySem.Builtin PySem.Builtin.Str
section
variable{X:Cx}{pins:List (Addr×Obj)}{σ:St}{H:Hp}{s:Shared}{a:Addr}{xs:List V}
theorem Inv.aak(I:Inv X pins σ H s)(h:lG X.K H a xs):∃its,Vals xs its/\BJ s.heap a its.toArray:=by
 rcases h with h|⟨o,its,n,hk,hc,hdn,hs,hz,r⟩;obtain⟨z,its,r,p⟩:=h.ok I.hok;exact⟨its,r,p⟩;exact⟨its.toList,r,⟨o,I.Px a o hk,hc,⟨n,by simpa using hs⟩,hdn⟩⟩
end
section
variable{X:Cx}{o e:Expr}{to te:TE}{name:Str}{apos cpos:Pos}{id:String}{r:V->List V->Hp->VK->Prop}{t:TA}
def agC(te ts:TE):TE:=λσ H Q=>te σ H λx H1=>ts σ H1 λy H2=>∃z,x=.str z/\z.length<=sizeLine/\y=.int (-1)/\Q (.str ⟨z.cps.toList.reverse.toArray⟩) H2
theorem Kg(z)(u):(⟨((slicePicked z none none (some (-1,u))).filterMap (z.cps[·]?)).toArray⟩:Str)=⟨z.cps.toList.reverse.toArray⟩:=by
 have h:=PyProof.Rows.step_rev_list z u;unfold Txt.sliceBy at h;have h1:¬(((((some ((-1),u)).map (·.1)).getD 1 == 1)&&((slicePicked z none none<|some (-1,u)).length == z.length))=true):=by have:((((some ((-1),u)).map (·.1)).getD 1 == 1))=false:=rfl;rw[this];simp
 rw[if_neg h1] at h;have h2:((slicePicked z none none<|some (-1,u)).filterMap (z.cps[·]?))=z.cps.toList.reverse:=by
  have h3:((slicePicked z none none<|some (-1,u)).filterMap (z.cps[·]?))=(List.range z.length).map λk=>z.cps.getD (z.length - 1 - k) 0:=by simpa using h
  rw[h3];apply List.ext_getElem;simp[Str.length];intro i h4 h5;have hi:i<z.cps.size:=by simpa[Str.length] using h4
  simp[Str.length,Array.getD,List.getElem_reverse];rw[dif_pos (by omega)]
 rw[h2]
theorem aa5{st:Expr}(he:PE X e te)(hst:PE X st ts):PE X (.Subscript e (.Slice none none (some st) p2) pos) (agC te ts):=by
 intro pins s σ H Q I h;refine Subscript_<|fG (he pins s σ H _ I h) λv s1 ⟨x,H1,I1,r1,q1⟩=>?_;refine wpAny_Slice ?_;rw[evalPart_none,evalPart_some];refine Qq6<|Qq6<|fG (hst pins s1 σ H1 _ I1 q1) λw s2 ⟨y,H2,I2,r2,q2⟩=>?_;obtain⟨z,ex,hz,ey,q⟩:=q2;subst ex;subst ey;obtain⟨t,rfl⟩:=r1;obtain⟨t',rfl⟩:=r2;have I4:Inv X pins σ H2 { s2 with heap:=s2.heap.push { cls:=.type "slice",data:=.fields #[.none,.none,.int (-1) t'] } }:=I2.kept λb ob q=>Qq0 _ q;show wpAny (model X.prog X.w) X.A (subscriptTail e (.Slice none none (some st) p2) (.str z t)<|.ref s2.heap.objs.size) (EP X pins σ Q) X.xe { s2 with heap:=s2.heap.push { cls:=.type "slice",data:=.fields #[.none,.none,.int (-1) t'] } };refine tail_any (typeIs_str _ z t) PySem.F.slot_str_getitem.lookup ?_ (by with_unfolding_all rfl);refine wpAny_getItem_str_slice (l:=none) (u:=none) (st:=some (-1,t')) ⟨_,Qw2 _ rfl,rfl,rfl⟩ rfl ?_;unfold sliceMade;have h1:¬(((((some ((-1:Int),t')).map (·.1)).getD 1 == 1)&&((slicePicked z none none<|some (-1,t')).length == z.length))=true):=by have:((((some ((-1:Int),t')).map (·.1)).getD 1 == 1))=false:=rfl;rw[this];simp
 rw[if_neg h1,Kg];refine⟨?_,⟨.str ⟨z.cps.toList.reverse.toArray⟩,H2,I4.tok _,⟨_,rfl⟩,q⟩⟩;show z.cps.toList.reverse.toArray.size<=sizeLine;simpa[Str.length] using hz
end
end L2
namespace Ev
open PySem PySem.Spec PyProof.Rows L2 PySem.Builtin
section
variable{X:Cx}{C:Cfg}{pos:Pos}{e x y:Expr}{a b:Ev}
noncomputable def acu:D->Option D
 |.int i=>some (.int (-i))|_=>none
theorem aaf:UnD C (rU λi=>.int (-i)) acu:=by
 intro Pr F env σ H x d vx Q r px e q;cases x with
 |int i=>cases e;exact⟨i,px.int,q _ H F r (aM.refl F) rfl⟩|_=>cases e
noncomputable def ahw:D->Option D
 |.str z=>some (.str z.reverse)|_=>none
noncomputable def ZK(a:Ev):Ev:=λenv=>bindR (a env) λd aJ=>iy (ahw d) aJ
end
theorem Pk
  (hx:s.heap.get? a=some o) (hc:o.cls=.type "tuple") (hdat:o.data=.seq xs k) (hd:o.dict=none) (hA:A.handled=none)
  (h:∀h' tk,(∀b u,s.heap.get? b=some u->h'.get? b=some u)->Q none { s with heap:=h',toks:=tk }):wpAny (model prog w) A (getAttr? (.ref a) "keys") Q E s:=by
 obtain⟨hp,g,d,tk,os⟩:=s;obtain⟨oc,od,dt,sl⟩:=o;cases hc;cases hdat;cases hd;have hT:∀tk',(⟨hp,g,d,tk',os⟩:Shared).TypeIs (.ref a) "tuple":=λ_=>⟨_,hx,rfl⟩;have f1:=sub_AttributeError;have f3:=F.slot_tuple_getattribute.lookup;have f4:=F.slot_tuple_getattribute.bind<|.ref a;have f5:=am_tuple_getattr_none;have hmiss:typeLookup (.type "tuple") "keys"=pure none:=by rw[typeLookup_type,builtinLookup_eq_fast];kernel_rfl
 unfold getAttr? getAttrBy? getAttrBy
 repeat (any_goals (first|assumption|exact hT _|((with_reducible show wpAny _ _ (call (Value.builtin "tuple.__getattribute__") _ _) _ _ _);refine call_meets F.slot_tuple_getattribute (hT _) am_entry_tuple_getattribute (F.args_tuple_getattribute_2 _ _) (meets_getattribute_miss_tuple a xs k sl "keys" _ hmiss (by decide +kernel) (by decide +kernel)) ⟨hx,hA,λh' tk' e hx'=>?_⟩)|wp_step))
 obtain⟨t',u',he⟩:=hx'.there;show wpAny _ _ (getattributeRaised _ _ _ _ _ _ _) _ _ _;unfold getattributeRaised
 repeat (any_goals (first|assumption|wp_step))
 exact h _ _ hx'.keeps
structure Pr where
 p:Addr
 k:Key
 kv:Value
 v:Value
def Vi(h:Heap)(r:Pr):Prop:=h.IsTuple r.p #[r.kv,r.v]/\zE r.k r.kv=true
theorem Vi.keep(x:Vi h r)(n1:r.p≠c)(n2:r.p≠d)(k:∀b o,b≠c->b≠d->h.get? b=some o->h'.get? b=some o):Vi h' r:=
 let ⟨⟨o,ho,q⟩,y⟩:=x;⟨⟨o,k _ o n1 n2 ho,q⟩,y⟩
noncomputable def putAll(kvs:List (Key×Value))(rs:List Pr):List (Key×Value):=rs.foldl (λacc r=>stored acc r.k r.v) kvs
theorem jF:plainId "dict.update.loop"=true:=by decide +kernel
theorem qP:entryFor table "dict.update.loop"=some Builtin.«dict.update.loop»:=entryFor_of_tree (by kernel_rfl)
theorem Gy{its:List Value}(hdi:d≠it)(hda:d≠a)(hia:it≠a):∀rs i kvs A R s,
  A.handled=none->its.drop i=rs.map (λr=>Value.ref r.p)->s.heap.IsTuple a its.toArray->s.heap.IsTupleIter it a i->s.heap.DictOf (dO prog w) d kvs->(∀r∈rs,Vi s.heap r/\r.p≠d/\r.p≠it)->kvs.length+rs.length<=sizeLine->
  (∀h' tk,h'.DictOf (dO prog w) d (putAll kvs rs)->(∀b o,b≠d->b≠it->s.heap.get? b=some o->h'.get? b=some o)->R (.ok (.ret .none)) { s with heap:=h',toks:=tk })->
  wpAny (model prog w) A.in1 (Builtin.«dict.update.loop» ⟨[.ref d,.ref it,rawInt i,.none],[]⟩) (λfin s'=>match fin with|.done f=>R (.ok f) s'|.again c'=>c'.quiet=true/\codeAny (model prog w) A c' R s') (λe s'=>R (.error e) s') s
 |[],i,kvs,A,R,s,hh,hdr,ht,hit,hD,_,_,h=>by
  unfold Builtin.«dict.update.loop»;have hx:its.toArray[i]?=none:=by
   have:its.length<=i:=by have:=Qw9 List.length hdr;rw[Qxy] at this;simp at this;omega
   simp;omega
  refine Qqx<|wpAny_pyNext_tuple_end hh hit ht hx λh' hex=>?_;show wpAny _ _ (Builtin.Dict.addKeywords d [] >>= _) _ _ _;refine Qqx<|Qq6<|Qq6 ?_;exact h h' s.toks (hD.extBut hex hdi) λb o _ h2 e=>hex b o h2 e
 |r::rs,i,kvs,A,R,s,hh,hdr,ht,hit,hD,hrs,hz,h=>by
  unfold Builtin.«dict.update.loop»;obtain⟨⟨hpt,hkey⟩,n1,n2⟩:=hrs r<|Qqj ..;have hlt:i<its.length:=by have:=Qw9 List.length hdr;rw[Qxy,Qwq,Qqw] at this;omega
  have hx0:its[i]?=some (.ref r.p):=by
   have:=Qw9 (λl=>l[0]?) hdr;simpa using this
  have hx:its.toArray[i]?=some (.ref r.p):=by simpa using hx0
  have ahl:its.drop (i+1)=rs.map (λr=>Value.ref r.p):=by
   have:=Qw9 List.tail hdr;rw[List.tail_drop] at this;simpa using this
  refine Qqx<|wpAny_pyNext_tuple_item hit ht hx λh' hit' hs'=>?_;have k1:∀b o,b≠it->s.heap.get? b=some o->h'.get? b=some o:=λb o hb e=>(hs'.2 b hb).trans e;obtain⟨op,hop,hcp,np,hdp⟩:=hpt;have hop':=k1 _ _ n2 hop;dsimp only;refine Qqx<|Qjx<|Qqx<|wpAny_tryCatch ?_;unfold Builtin.Dict.pairItems;refine Qqx<|wpAny_typeOf ⟨op,hop',hcp⟩ ?_;rw[if_pos (by decide)];unfold seqItems?;refine Qqx<|Qqx<|wpAny_load hop' ?_;rw[hdp];refine Qq6<|Qq6 ?_;show wpAny _ _ (holding [r.kv,r.v]<|dictSet d r.kv r.v) _ _ _;have hzk:kvs.length<=sizeLine:=by rw[Qqw] at hz;omega
  refine Qjx<|wpAny_dictSet_pairs hkey (hD.sameBut hs' hdi) λh'' ahr hs''=>?_;have k2:=λb o hb1 hb2 e=>(hs''.2 b hb1).trans<|k1 b o hb2 e;have hc:(i+1)=((i+1):Int):=by push_cast;rfl
  rw[hc];refine Qq6 ⟨plainId_quiet jF _,codeAny_builtin qP ?_⟩;rw[Around.under_plainId jF _];have hln:(stored kvs r.k r.v).length<=kvs.length+1:=by have:=stored_length_le kvs r.k r.v;exact this
  refine Gy hdi hda hia rs (i+1) (stored kvs r.k r.v) A R _ hh ahl ?_ ?_ ahr (λq hq=>?_) (by rw[Qqw] at hz;omega) λh3 tk hD3 k3=>?_;obtain⟨o,ho,q⟩:=ht;exact⟨o,k2 a o hda.symm hia.symm ho,q⟩;obtain⟨o,ho,q⟩:=hit';exact⟨o,(hs''.2 it hdi.symm).trans ho,q⟩;obtain⟨p1,p2,p3⟩:=hrs q<|Qqq _ hq;exact⟨p1.keep p2 p3 k2,p2,p3⟩;exact h h3 tk hD3 λb o hb1 hb2 e=>k3 b o hb1 hb2<|k2 b o hb1 hb2 e
section
variable{X:Cx}{C:Cfg}{pos:Pos}
abbrev Pv:=Addr×Key×V
noncomputable def mU(kvs:List (Key×V))(rs:List Pv):List (Key×V):=rs.foldl (λacc r=>putK acc r.2.1 r.2.2) kvs
def RL(K:Fg):List V->Hp->VK->Prop:=λxs H Q=>∃(a:Addr) (rs:List Pv),xs=[.ref a]/\lG K H a (rs.map λr=>V.ref r.1)/\(∀r∈rs,lG K H r.1 [kV r.2.1,r.2.2])/\rs.length<=sizeLine/\∀l,H l=none->Q (.ref l) (upd H l (.dK (mU [] rs)))
theorem Hw{σ:L2.St}(I:L2.Inv X pins σ H s):∀rs us,Vals (rs.map λr=>V.ref r.1) us->(∀r∈rs,lG X.K H r.1 [kV r.2.1,r.2.2])->∃ps,us=ps.map (λr=>Value.ref r.p)/\(∀r∈ps,Vi s.heap r)/\Paired (λ(r:Pv) q=>r.2.1=q.k/\RelV r.2.2 q.v) rs ps
 |[],us,h,_=>by cases h;exact⟨[],rfl,λr hr=>by simp at hr,.nil⟩
 |r::rs,us,h,hp=>by
  cases h with
  |cons h1 h2=>cases h1;obtain⟨ps,rfl,q1,q2⟩:=Hw I rs _ h2 λr' hr=>hp r'<|Qqq _ hr;obtain⟨its,rv,ht,_⟩:=I.tuple<|hp r<|Qqj ..;obtain⟨u1,u2,rfl,r1,r2⟩:=rv.two;refine⟨⟨r.1,r.2.1,u1,u2⟩::ps,rfl,λq hq=>?_,.cons ⟨rfl,r2⟩ q2⟩;rcases Qq7.mp hq with rfl|hq;exact⟨ht,Ik (P:=X.prog) (w:=X.w) r1⟩;exact q1 q hq
theorem Cv:∀{rs} {ps} {kvs} {vs},Paired (λr q=>r.2.1=q.k/\RelV r.2.2 q.v) rs ps->KV kvs vs->KV (mU kvs rs) (putAll vs ps)
 |_,_,_,_,.nil,h=>h
 |_,_,kvs,vs,.cons (a:=r) (b:=q) ⟨h1,h2⟩ hr,h=>by
  show KV (mU (putK kvs r.2.1 r.2.2) _) (putAll (stored vs q.k q.v) _);refine Cv hr ?_;rw[h1];exact h.put q.k h2
theorem xq:∀rs kvs,(mU kvs rs).length<=kvs.length+rs.length
 |[],kvs=>Qq1 _
 |r::rs,kvs=>by
  have h1:=xq rs<|putK kvs r.2.1 r.2.2;have h2:=qF kvs r.2.1 r.2.2;show(mU (putK kvs r.2.1 r.2.2) rs).length<=_;rw[Qqw];omega
theorem Qi(hc:X.calm=true):jU X (.type "dict") (RL X.K):=by
 intro pins s σ H xs us Q I r h;obtain⟨a,rs,rfl,hq,hp,hz,q⟩:=h;obtain⟨u,rfl,rx⟩:=vals1 r;cases rx;obtain⟨its,rv,ob,h1,h2,⟨n,h3⟩,h4⟩:=I.aak hq;obtain⟨ps,rfl,hps,hpr⟩:=Hw I rs its rv hp;have hA:=I.ok.hd hc;have hlt:=Qwx h1;refine callType_codes (Q₁:=λobj s₁=>obj=.ref s.heap.objs.size/\s₁={ s with heap:=s.heap.push { cls:=.type "dict",data:=.dict #[] } }) F.kt_called_dict (F.kt_typeCall_dict_1 _) F.entry_dict_init (kt_code_dict_new _ ⟨rfl,rfl⟩) ?_;rintro obj s₁ ⟨rfl,rfl⟩;have hnew:(s.heap.push { cls:=.type "dict",data:=.dict #[] }).DictOf (dO X.prog X.w) s.heap.objs.size []:=Heap.DictOf.new s.heap;have k0:∀b o,s.heap.get? b=some o->(s.heap.push { cls:=.type "dict",data:=.dict #[] }).get? b=some o:=λb o e=>Qq0 _ e;refine⟨hnew.typeIs,F.args_dict_init_2 _ _,?_⟩;unfold Builtin.«dict.__init__»;refine Qqx ?_;unfold Builtin.Dict.selfAndRest;refine Qqx<|wpAny_notOrdered_dict hnew.typeIs ?_;show wpAny _ _ (pure (s.heap.objs.size,[Value.ref a])) _ _ _;refine Qq6 ?_;show wpAny _ _ (Builtin.Dict.updateFrom "dict.__init__" s.heap.objs.size (.ref a) [] .none) _ _ _;unfold Builtin.Dict.updateFrom;refine Qqx<|wpAny_typeOf ⟨ob,k0 _ _ h1,h2⟩ ?_;rw[if_pos (by decide)];refine Qqx<|Pk (k0 _ _ h1) h2 h3 h4 hA λh' tk hk=>?_;simp only[Option.isNone_none,if_true];refine Qqx<|Qj8<|Qqx ?_;have hT:h'.IsTuple a (ps.map λr=>Value.ref r.p).toArray:=⟨ob,hk _ _<|k0 _ _ h1,h2,n,h3⟩;refine wpAny_pyIter_tuple hT ?_;refine Qq6 ⟨plainId_quiet jF _,codeAny_builtin qP ?_⟩;rw[Around.under_plainId jF _];have hD0:h'.DictOf (dO X.prog X.w) s.heap.objs.size []:=hnew.keep hk;have acn:s.heap.objs.size<h'.objs.size:=by obtain⟨o,_,_,ho,_⟩:=hD0;exact Qwx ho
 have halt:a<h'.objs.size:=Qwx<|hk _ _<|k0 _ _ h1;have hda:s.heap.objs.size≠a:=Qky hlt;refine Gy (Qxv acn) hda (Qky halt) ps 0 [] X.A.in1 _ _ hA rfl ?_ ⟨_,Qw2 _ rfl,rfl,rfl⟩ (hD0.push _) (λq hq=>?_) ?_ λh3 tk' hD3 k3=>?_;obtain⟨o,ho,r⟩:=hT;exact⟨o,Qq0 _ ho,r⟩;obtain⟨⟨o,ho,r⟩,y⟩:=hps q hq;have ae8:q.p<s.heap.objs.size:=Qwx ho;refine⟨⟨⟨o,Qq0 _<|hk _ _<|k0 _ _ ho,r⟩,y⟩,Qxv ae8,Qxv<|Nat.lt_trans ae8 acn⟩;rw[<-Paired.length hpr];simpa using hz;refine⟨rfl,?_⟩;have kk:∀b u,s.heap.get? b=some u->h3.get? b=some u:=λb u e=>by
  have hb:b<s.heap.objs.size:=Qwx e;exact k3 b u (Qxv hb) (Qxv<|Nat.lt_trans hb acn)<|Qq0 _<|hk _ _<|k0 _ _ e
 have hsys:(s.heap.objs.size == sysModules)=false:=by rw[Qzw];exact Qky I.big
 refine⟨.ref s.heap.objs.size,upd H s.heap.objs.size<|.dK<|mU [] rs,I.laid kk (Qq1 _) ⟨?_,hsys,_,Cv hpr .nil,hD3⟩,rfl,q _<|I.hok.fresh<|Qq1 _⟩;have:=xq rs [];exact Qq4 this (by simpa using hz)
noncomputable def My:D->Option (D×D)
 |.tup [k,v]=>(rO k).map λ_=>(k,v)|_=>none
noncomputable def o5:List D->Option (List (D×D))
 |[]=>some []
 |d::ds=>match My d,o5 ds with
  |some p,some r=>some (p::r)|_,_=>none
noncomputable def km(kvs : List (D × D)) : List (D × D) → List (D × D)
  |[] => kvs
  |(k, v) :: r => (match rO k with
    |some q => km (putD kvs k q v) r|none => km kvs r)
noncomputable def zO:List D->Option D
 |[.tup ds]=>(o5 ds).map λps=>.dct (km [] ps)|_=>none
theorem qu:∀ps kvs,(km kvs ps).length<=kvs.length+ps.length
 |[],kvs=>Qq1 _
 |(k,v)::r,kvs=>by
  unfold km;split;rename_i q hq;have h1:=qu r<|putD kvs k q v;have h2:=Hq kvs k q v;rw[Qqw];omega;have h1:=qu r kvs;rw[Qqw];omega
theorem zb:∀{ds} {ps},o5 ds=some ps->ps.length=ds.length
 |[],ps,h=>by cases h;rfl
 |d::ds,ps,h=>by
  unfold o5 at h;split at h;rename_i p r h1 h2;cases h;rw[Qqw,Qqw,zb h2];cases h
theorem Cw{K:Fg}:∀{ds} {ps} {vs} {kvs} {ks},o5 ds=some ps->bK K F ds vs->dM K F kvs ks->
  ∃rs,vs=rs.map (λr=>V.ref r.1)/\(∀r∈rs,lG K F r.1 [kV r.2.1,r.2.2])/\dM K F (km kvs ps) (mU ks rs)
 |[],ps,vs,kvs,ks,h,hr,hk=>by cases h;cases hr;exact⟨[],rfl,λr hr=>by simp at hr,hk⟩
 |d::ds,ps,vs,kvs,ks,h,hr,hk=>by
  unfold o5 at h;split at h;rename_i p r h1 h2;cases h;obtain⟨v,w,rfl,p1,p2⟩:=hr;unfold My at h1;split at h1;rename_i k x;obtain⟨q,hq,rfl⟩:=Qw8.mp h1;obtain⟨_,a,us,rfl,h3,h4⟩:=p1;obtain⟨u1,w1,rfl,q1,u2,w2,rfl,q2,q3⟩:=h4;cases q3;cases TY hq q1;obtain⟨rs,rfl,g1,g2⟩:=Cw h2 p2<|hk.put hq q2;refine⟨(a,q,u2)::rs,rfl,λr hr=>?_,?_⟩;rcases Qq7.mp hr with rfl|hr;exact h3;exact g1 r hr;unfold km;rw[hq];exact g2;cases h1;cases h
theorem Yd:CallD C (RL C.K) zO:=by
 intro Pr F env σ H ds d vs Q r p e q;unfold zO at e;split at e;rename_i ds;obtain⟨v,w,rfl,p1,p2⟩:=p;cases p2;obtain⟨ps,e1,rfl⟩:=Qw8.mp e;obtain⟨z,a,us,rfl,h1,h1F,h2⟩:=p1.tup r.fr;obtain⟨rs,rfl,g1,g2⟩:=Cw (kvs:=[]) e1 h2 rfl;have hl:rs.length=ds.length:=by
  have:=h2.length;rwa [Qq3] at this
 refine⟨a,rs,rfl,h1,λr' hr=>aM.tupK r.fr<|g1 r' hr,by rw[hl];exact z,λl hlf=>?_⟩;obtain⟨F2,r2,s2,p2⟩:=(r.fresh hlf).keep (Qx.of (d:=.dct<|km [] ps) r hlf ⟨by
  have h5:=qu ps [];rw[zb e1] at h5;exact Qq4 h5 (by simpa using z),_,aU,g2⟩)
 exact q _ _ F2 r2 s2 p2;cases e
end
end Ev
namespace L2
open PySem PySem.Spec PyProof.Rows PySem.Builtin PySem.Builtin.Str
section
variable{X:Cx}
theorem Jj(v)(n d:Nat):max 0 (min (if v<0 then v+(n:Int) else v) n)=(HT.fZ n d (some v)):=by
 show _=(((if v<0 then (v+n).toNat else min v.toNat n):Nat):Int);by_cases hv:v<0;simp[if_pos hv];omega;simp[if_neg hv];omega
theorem range_one(a b:Nat):sliceRange a b 1=List.range' a (b - a):=by
 unfold sliceRange;have h1:(1:Int) > 0:=by decide
 simp only[if_pos h1];have hc:(if a<(b:Int) then (b - (a:Int)+1 - 1) / 1 else 0).toNat=b - a:=by
  by_cases h:a<(b:Int);rw[if_pos h,Int.ediv_one];omega;rw[if_neg h];omega
 rw[hc,List.range'_eq_map_range];apply Qjk;intro k _;omega
theorem Sv(lo hi)(n):strSliceIndices lo hi 1 n=List.range' (HT.fZ n 0 lo) (HT.fZ n n hi - HT.fZ n 0 lo):=by
 have h1:1 > 0:=by decide
 unfold strSliceIndices;simp[if_pos h1];rw[<-range_one];congr 1;cases lo with
 |none=>rfl|some v=>exact Jj v n 0
 cases hi with
 |none=>rfl|some v=>exact Jj v n n
theorem IW(c:List Nat):∀m a,a+m<=c.length->(List.range' a m).filterMap (c.toArray[·]?)=(c.drop a).take m
 |0,a,_=>by simp
 |m+1,a,h=>by
  rw[List.range'_succ,List.filterMap_cons];have e:c.toArray[a]?=some c[a]:=by simp
  rw[e,IW c m (a+1) (by omega),Qx8 (i:=a) (by omega),List.take_succ_cons]
noncomputable def Bx(z:List Nat)(lo hi:Option Int):List Nat:=(z.drop (HT.fZ z.length 0 lo)).take (HT.fZ z.length z.length hi - HT.fZ z.length 0 lo)
def agW:V->Option Int->Option Int->Hp->VK->Prop:=λx lo hi H Q=>∃z:List Nat,x=.str ⟨z.toArray⟩/\z.length<=sizeLine/\Q (.str ⟨(Bx z lo hi).toArray⟩) H
theorem part_of(p:IsPart v o):∃l,v=partValue l/\l.map (·.1)=o:=by
 cases p with
 |none=>exact⟨none,rfl,rfl⟩|int i t=>exact⟨some (i,t),rfl,rfl⟩
theorem aay:Nv X agW:=by
 intro pins s σ H x v vl vu lo hi sl Q I rx hs pl pu h;obtain⟨z,rfl,hz,q⟩:=h;obtain⟨t,rfl⟩:=rx;obtain⟨l,rfl,el⟩:=part_of pl;obtain⟨u,rfl,eu⟩:=part_of pu;refine⟨"str",_,PySem.F.slot_str_getitem.lookup,typeIs_str s _ t,?_⟩;obtain⟨o,h1,h2,h3⟩:=hs;refine wpAny_getItem_str_slice (st:=none) ⟨o,h1,h2,h3⟩ rfl ?_;have hp:slicePicked ⟨z.toArray⟩ l u none=List.range' (HT.fZ z.length 0 lo) (HT.fZ z.length z.length hi - HT.fZ z.length 0 lo):=by unfold slicePicked;rw[el,eu];show strSliceIndices lo hi 1 z.toArray.size=_;rw[Qq5,Sv]
 have hle:HT.fZ z.length 0 lo+(HT.fZ z.length z.length hi - HT.fZ z.length 0 lo)<=z.length\/HT.fZ z.length z.length hi - HT.fZ z.length 0 lo=0:=by have a1:=HT.Ed z.length 0 (Qx0 _) lo;have a2:=HT.Ed z.length z.length (Qq1 _) hi;omega
 have ahm:((slicePicked ⟨z.toArray⟩ l u none).filterMap ((⟨z.toArray⟩:Str).cps[·]?))=Bx z lo hi:=by
  rw[hp];unfold Bx;rcases hle with hle|hle;exact IW z _ _ hle;rw[hle];simp
 unfold sliceMade;split;rename_i hc;have hlen:(slicePicked ⟨z.toArray⟩ l u none).length=z.length:=by
  have:=(Qkk.mp hc).2;have:=eq_of_beq this;simpa[Str.length] using this
 have hw:Bx z lo hi=z:=by
  rw[hp,List.length_range'] at hlen;unfold Bx;have a2:=HT.Ed z.length z.length (Qq1 _) hi;have a0:HT.fZ z.length 0 lo=0\/z.length=0:=by omega
  rcases a0 with a0|a0;rw[a0,List.drop_zero,Qj7 (by omega)];have:=Qj1 a0;subst this;simp
 rw[hw] at q;exact⟨.str ⟨z.toArray⟩,H,I,⟨t,rfl⟩,q⟩;rw[ahm];refine⟨?_,⟨.str ⟨(Bx z lo hi).toArray⟩,H,I.tok _,⟨_,rfl⟩,q⟩⟩;show(Bx z lo hi).toArray.size<=sizeLine;rw[Qq5];unfold Bx;rw[Qwy,Qxy];omega
end
end L2
namespace Ev
open PySem PySem.Spec PyProof.Rows L2 PySem.Builtin
section
variable{X:Cx}{C:Cfg}{pos:Pos}{x y:Expr}{a b:Ev}
theorem UG(z)(lo hi):(Bx z lo hi).length<=z.length:=by unfold Bx;rw[Qwy,Qxy];omega
end
end Ev
namespace HT
open PySem PySem.Spec PyProof PyProof.Rows PySem.Builtin
section
variable{prog:Program}{w:World}{A:Around}{E:Value->Shared->Prop}{s:Shared}
theorem rP{lo hi:Option Int}(ht:IsTup s.heap t items)(hs:s.heap.IsSliceOf sl vl vu .none)(pl:IsPart vl lo)(pu:IsPart vu hi)
  (hw:fZ items.size 0 lo=0/\fZ items.size items.size hi=items.size)
  (h:Q (.ref t) s):wpAny (model prog w) A (getItem (.ref t) (.ref sl)) Q E s:=by
 obtain⟨os,hos,hcs,hds⟩:=id hs;have hTs:s.TypeIs (.ref sl) "slice":=⟨os,hos,hcs⟩;unfold getItem
 try with_reducible refine Qjx ?_
 first|refine Qqx (Qq6 ?_)|skip
 refine Qqx<|wpAny_sequenceKey ht.typeIs (by decide) ?_;refine Qqx (Qjz ht.typeIs Qjv
  (Qz6 Qjv ht.typeIs entry_tuple_getitem ?_<|args_tuple_getitem _ _))
 show wpAny _ _ (Builtin.Tuple.tupleItemsOf (.ref t) >>= _) _ _ s;refine Qqx<|tupleItemsOf_ ht ?_;refine Qqx<|wpAny_typeOf hTs ?_;rw[if_pos (by decide)];refine Qqx<|oA hs pl pu ?_;have ahg:(((fZ items.size 0 lo):Int) == 0&&(1:Int) == 1&&(fZ items.size items.size hi - fZ items.size 0 lo) == items.size)=true:=by rw[hw.1,hw.2];simp
 show wpAny _ _ (if (((fZ items.size 0 lo):Int) == 0&&1 == 1&&(fZ items.size items.size hi - fZ items.size 0 lo) == items.size)=true then _ else _) _ _ s;rw[if_pos ahg];refine Qqx ?_;unfold Builtin.Tuple.tupleIsExact;refine Qqx<|wpAny_typeOf ht.typeIs ?_;refine Qq6 ?_;rw[if_pos (by decide)];exact Qqx<|Qj8<|Qq6 ⟨_,rfl,Qq6 h⟩
end
end HT
namespace L2
open PySem PySem.Spec PyProof.Rows
section
variable{X:Cx}
def aea(K:PySem.W.Frag):V->Option Int->Option Int->Hp->VK->Prop:=λx lo hi H Q=>∃a xs,x=.ref a/\lG K H a xs/\(HT.fZ xs.length 0 lo=0/\HT.fZ xs.length xs.length hi=xs.length)/\Q (.ref a) H
theorem Rh:Nv X (aea X.K):=by
 intro pins s σ H x v vl vu lo hi sl Q I rx hs pl pu h;obtain⟨a,xs,rfl,hx,hw,q⟩:=h;cases rx;obtain⟨its,r,ht,hz⟩:=I.tuple hx;have hlen:its.toArray.size=xs.length:=by rw[Qq5];exact r.length.symm
 refine⟨"tuple",_,PyProof.Rows.slot_tuple_getitem.lookup,ht.typeIs,?_⟩;refine HT.rP ht hs pl pu (by rw[hlen];exact hw) ?_;exact⟨.ref a,H,I,rfl,q⟩
end
end L2
namespace Ev
open PySem PySem.Spec PyProof.Rows L2
section
variable{X:Cx}{C:Cfg}{pos:Pos}{x:Expr}{a:Ev}{y z:Expr}{b c:Ev}{apos:Pos}
noncomputable def acr:D->Option Int->Option Int->Option D
 |.tup xs,lo,hi=>if HT.fZ xs.length 0 lo=0/\HT.fZ xs.length xs.length hi=xs.length then some (.tup xs) else some (.tup (cutD xs lo hi))|_,_,_=>none
theorem aaz{Pr F:Hp}{x d:D}{lo hi:Option Int}(r:Rel C Pr F env σ H)(p:Rep C.K F x v)(e:acr x lo hi=some d)(q:∀v H' F',Rel C Pr F' env σ H'->aM F F'->Rep C.K F' d v->Q v H') :
  aaC C.K v lo hi H Q\/aea C.K v lo hi H Q:=by
 unfold acr at e;split at e;obtain⟨z,a,vs,rfl,h1,_,h2⟩:=ie.tup r.fr<|.inl p;split at e;rename_i hn;cases e;exact .inr ⟨a,vs,rfl,h1,by rw[h2.length];exact hn,q _ H F r (aM.refl F) p⟩;rename_i hn;cases e;refine .inl ⟨a,vs,rfl,h1,by rw[h2.length];exact hn,λb hb=>?_⟩;obtain⟨r2,s2⟩:=r.new hb;exact q _ _ _ r2 s2 ⟨Qq4 (qT _ _ _) z,b,_,rfl,lG.of aU,bK.mono s2 _ _<|h2.cut lo hi⟩;cases e
noncomputable def Fx(g g':D->D->Option D)(a b c:Ev):Ev:=λenv=>bindR (a env) λu e1=>bindR (b e1) λv e2=>match g u v with
 |some (.bl k)=>if k=true then bindR (c e2) λt e3=>iy (g' v t) e3 else .ok (.bl false) e2|_=>.stuck
noncomputable def Ul:D->D->D->Option D
 |.dct kvs,k,t=>(rO k).map λq=>(pO kvs q).getD t|_,_,_=>none
noncomputable def Fw(a b c:Ev):Ev:=λenv=>bindR (a env) λd e1=>bindR (b e1) λk e2=>bindR (c e2) λt e3=>match d with
 |.dct kvs=>iy (Ul (.dct kvs) k t) e3|_=>.stuck
end
end Ev
namespace ZT
open PySem PySem.Spec PyProof.Rows L2 PySem.Builtin
section
variable{prog:Program}{w:World}{A:Around}{E:Value->Shared->Prop}{s:Shared}
theorem Th(hj:s.heap.IsTupleIter j t n)(ht:s.heap.IsTuple t its)(hx:its[n]?=some x)
  (q:∀g,g.IsTupleIter j t (n+1)->Heap.SameBut j s.heap g->Q x { s with heap:=g }):wpAny (model prog w) A (Builtin.SmallTypes.nextOf (.ref j)) Q E s:=by
 obtain⟨u,hu,uc,ud⟩:=id hj;obtain⟨ut,hut,_,m,mt⟩:=ht;unfold Builtin.SmallTypes.nextOf;refine Qqx<|Qjz hj.typeIs F.slot_tuple_iterator_next<|Qz6 F.slot_tuple_iterator_next hj.typeIs F.entry_tuple_iterator_next ?_<|F.args_tuple_iterator_next_1 _;show wpAny _ _ (field (.ref j) 0 >>= _) _ _ s;refine Qqx<|Qjj hu ud rfl ?_;show wpAny _ _ (if (Value.ref t == Value.none)=true then _ else _) _ _ s;rw[if_neg (show ¬((Value.ref t == Value.none)=true) from Qx1)];show wpAny _ _ (field (.ref j) 1 >>= _) _ _ s;refine Qqx<|Qjj hu ud rfl ?_;show wpAny _ _ (seqItems? (.ref t) >>= _) _ _ s;refine Qqx<|Qj2 hut mt ?_;simp[Qj3,hx];refine Qqx<|wpAny_setField hu ud (by simp)<|Qq6 ⟨x,rfl,Qq6<|q _ ?_<|Heap.SameBut.update ..⟩;exact⟨_,Heap.get?_update_self _ hu<|Obj.isFreed_of_fields<|Obj.data_mapFields ud _,(Obj.cls_mapFields ..).trans uc,by rw[Obj.data_mapFields ud];simp[rawInt]⟩
theorem Ew(hh:A.handled=none)(hj:s.heap.IsTupleIter j t n)(ht:s.heap.IsTuple t its)(hx:its[n]?=none)
  (q:∀g e,Heap.ExtBut j s.heap g->(∃o,g.get? e=some o/\o.cls=.type "StopIteration")->E (.ref e) { s with heap:=g }):wpAny (model prog w) A (Builtin.SmallTypes.nextOf (.ref j)) Q E s:=by
 obtain⟨u,hu,uc,ud⟩:=id hj;obtain⟨ut,hut,_,m,mt⟩:=ht;unfold Builtin.SmallTypes.nextOf;refine Qqx<|Qjz (name:=Str.ofString "__next__") hj.typeIs F.slot_tuple_iterator_next<|Qz6 F.slot_tuple_iterator_next hj.typeIs F.entry_tuple_iterator_next ?_<|F.args_tuple_iterator_next_1 _;show wpAny _ _ (field (.ref j) 0 >>= _) _ _ s;refine Qqx<|Qjj hu ud (x:=.ref t) rfl ?_;show wpAny _ _ (if (Value.ref t == Value.none)=true then _ else _) _ _ s;rw[if_neg (show ¬((Value.ref t == Value.none)=true) from Qx1)];show wpAny _ _ (field (.ref j) 1 >>= _) _ _ s;refine Qqx<|Qjj hu ud (x:=.int n 0) rfl ?_;show wpAny _ _ (seqItems? (.ref t) >>= _) _ _ s;refine Qqx<|Qj2 hut mt ?_;simp only[Qj3,hx];refine Qqx<|Qj8<|Qqx (wpAny_setField hu ud (by simp) ?_);show wpAny _ _ (newExc (.type "StopIteration") [] >>= _) _ _ _;refine Qqx ?_;simp only[newExc,newTuple];refine Qqx (Qjw ?_ (by size_fits));refine Qqx (m:=firstArgMember _ _) (wpAny_of_eq (a:=Value.none) (by first|rfl|(simp only[firstArgMember];rfl)) ?_);refine Qjw ?_ (by size_fits);simp only[raiseNew];refine Qqx (wpAny_handled ?_)
 first|rw[show A.in1.handled=none from hh]|rw[hh]
 refine Qqx (Qq6 (wpAny_throw ?_));exact q _ _ (((Heap.SameBut.update ..).extBut.push _).push _) ⟨_,Qw2 _ rfl,rfl⟩
end
theorem rJ{prog:Program}{w:World}{A:Around}(hh:A.handled=none)(j t:Addr)(hne:t≠j)(its:Array Value) :
  Draws prog w A j [j,t] its.size (λi v=>its[i]?=some v) (λi h=>h.IsTupleIter j t i/\h.IsTuple t its) where
 live:=λ_ _ st=>let ⟨o,ho,_⟩:=st.1;⟨o,ho⟩
 frame:=λ_ _ _ st hk=>by
  obtain⟨⟨o,ho,r⟩,o2,ho2,r2⟩:=st;exact⟨⟨o,hk j (by simp) o ho,r⟩,o2,hk t (by simp) o2 ho2,r2⟩
 item:=λi s Q E hi st hQ=>by
  refine Th st.1 st.2 (x:=its[i]) (by simp[hi]) λh' hit' hs'=>?_;exact hQ _ h' s.toks (by simp[hi]) ⟨hit',st.2.extBut hs'.extBut hne⟩ hs'
 done:=λs Q E st hE=>Ew hh st.1 st.2 (by simp) hE
structure Ap(z TI TO j1 j2:Addr)(f1 f2:List Addr):Prop where
 a1:TI≠z
 a2:TO≠z
 a3:TI≠TO
 a4:j1≠j2
 b1:j1∈f1
 b2:j2∈f2
 c1:z ∉ f1
 c2:z ∉ f2
 c3:TO ∉ f1
 c4:TO ∉ f2
 c5:TI ∉ f1
 c6:TI ∉ f2
 c7:j2 ∉ f1
 c8:j1 ∉ f2
section
variable{prog:Program}{w:World}{A:Around}{E:Value->Shared->Prop}{s:Shared}{z TI TO j1 j2:Addr}{f1 f2:List Addr}{n1 n2 k:Nat}{P1 P2:Nat->Value->Prop}{S1 S2:Nat->Heap->Prop}{a b:Value}
theorem fJ{f:List Addr}(h:c∈f)(h':d ∉ f):c≠d:=λe=>h'<|e ▸ h
theorem QB{Q:Value->Shared->Prop}(D:Ap z TI TO j1 j2 f1 f2)(D1:Draws prog w A j1 f1 n1 P1 S1)(D2:Draws prog w A j2 f2 n2 P2 S2)(k1:k<n1)(k2:k<n2)
  (hz:IsZip s.heap z TI TO .none) (hTI:IsPair s.heap TI (.ref j1) (.ref j2)) (hTO:IsPair s.heap TO a b) (s1:S1 k s.heap) (s2:S2 k s.heap)
  (q:∀x y g tk,P1 k x->P2 k y->IsZip g z TI TO (rawInt s.heap.objs.size)->IsPair g TO x y->S1 (k+1) g->S2 (k+1) g->IsPair g s.heap.objs.size x y->g.objs.size=s.heap.objs.size+1->
   (∀c o,c≠z->c≠TO->c≠j1->c≠j2->s.heap.get? c=some o->g.get? c=some o)->Q (.ref s.heap.objs.size) { s with heap:=g,toks:=tk }) :
  wpAny (model prog w) A (Builtin.«zip.__next__» ⟨[.ref z],[]⟩) (λfin s'=>∃v,fin=.done (.ret v)/\Q v s') E s:=by
 have X5:=fJ D.b1 D.c1;have acG:=fJ D.b2 D.c2;have acH:=fJ D.b1 D.c3;have afy:=fJ D.b2 D.c4;show wpAny _ _ (field (.ref z) 2 >>= _) _ _ _;refine Qqx<|Qjj hz rfl rfl ?_;show wpAny _ _ (field (.ref z) 3 >>= _) _ _ _;refine Qqx<|Qjj hz rfl rfl ?_;refine Qqx<|Qj2 hTI rfl ?_;show wpAny _ _ (Builtin.SmallTypes.ownedTupleIsFree (.ref z) >>= _) _ _ _;refine Qqx ?_;unfold Builtin.SmallTypes.ownedTupleIsFree;refine Qqx<|Qjj hz rfl rfl (Qq6 ?_);simp only[if_true];refine Qqx<|Qj8 ?_;refine Qqx<|Qjj hz rfl rfl ?_;refine Qqx<|Qkq hz (by simp) λg1 hz1 e1=>?_
 replace hz1:IsZip g1 z TI TO .ellipsis:=hz1
 refine Qqx ?_;simp only[List.zipIdx_cons,List.zipIdx_nil,Qk0,Qkz];refine Qqx<|Qqx<|wpAny_onRaise ?_;show wpAny _ _ (Builtin.SmallTypes.nextOf (.ref j1) >>= _) _ _ _;have YZ:=D1.frame k _ _ s1 λc hc o e=>e1.extBut _ _ (fJ hc D.c1) e;refine Qqx<|D1.item k { s with heap:=g1 } _ _ k1 YZ λx g2 tk2 px sx e2=>Qq6 ?_;have t2:=e2.extBut _ _ acH.symm<|e1.extBut _ _ D.a2 hTO;refine Qqx<|Qj2 t2 rfl ?_;refine Qqx<|wpAny_updateSeq_pair t2 λg3 t3 e3=>?_
 replace t3:IsPair g3 TO x b:=t3
 refine Qqx<|wpAny_letGo<|Qq6 ?_;refine Qqx<|Qqx<|wpAny_onRaise ?_;show wpAny _ _ (Builtin.SmallTypes.nextOf (.ref j2) >>= _) _ _ _;have Qu:=D2.frame k _ _ s2 λc hc o e=>e3.extBut _ _ (fJ hc D.c4)<|e2.extBut _ _ (fJ hc D.c8)<|e1.extBut _ _ (fJ hc D.c2) e;refine Qqx<|D2.item k { s with heap:=g3,toks:=tk2 } _ _ k2 Qu λy g4 tk4 py sy e4=>Qq6 ?_;have t4:=e4.extBut _ _ afy.symm t3;refine Qqx<|Qj2 t4 rfl ?_;refine Qqx<|wpAny_updateSeq_pair t4 λg5 t5 e5=>?_
 replace t5:IsPair g5 TO x y:=t5
 refine Qqx<|wpAny_letGo<|Qq6<|Qq6 ?_;refine Qqx<|Qj2 t5 rfl ?_;refine Qqx<|wpAny_newTuple ?_;have hsz:g5.objs.size=s.heap.objs.size:=by rw[e5.1,e4.1,e3.1,e2.1,e1.1]
 have hz5:=e5.extBut _ _ D.a2.symm<|e4.extBut _ _ acG.symm<|e3.extBut _ _ D.a2.symm<|e2.extBut _ _ X5.symm hz1;have ae0:∀c o,c≠z->c≠TO->c≠j1->c≠j2->s.heap.get? c=some o->g5.get? c=some o:=λc o c1 c2 c3 c4 e=>
  e5.extBut _ _ c2 (e4.extBut _ _ c4<|e3.extBut _ _ c2<|e2.extBut _ _ c3<|e1.extBut _ _ c1 e)
 have s15:=D1.frame _ _ _ sx λc hc o e=>e5.extBut _ _ (fJ hc D.c3)<|e4.extBut _ _ (fJ hc D.c7)<|e3.extBut _ _ (fJ hc D.c3) e;have s25:=D2.frame _ _ _ sy λc hc o e=>e5.extBut _ _ (fJ hc D.c4) e;have zlt:=Qwx hz5;show wpAny _ _ (Builtin.SmallTypes.ownedTupleHandOut (.ref z) (.ref g5.objs.size) >>= _) _ _ _;refine Qqx ?_;unfold Builtin.SmallTypes.ownedTupleHandOut;have hz6:IsZip (g5.push { cls:=.type "tuple",data:=.seq #[x,y] }) z TI TO .ellipsis:=Qq0 _ hz5;refine Qqx<|Qkq hz6 (by simp) λg7 hz7 e7=>?_
 replace hz7:IsZip g7 z TI TO (rawInt g5.objs.size):=hz7
 refine Qkq hz7 (by simp) λg8 hz8 e8=>?_
 replace hz8:IsZip g8 z TI TO (rawInt g5.objs.size):=hz8
 have up:∀c o,c≠z->g5.get? c=some o->g8.get? c=some o:=λc o c1 e=>e8.extBut _ _ c1<|e7.extBut _ _ c1<|Qq0 _ e;have t8:=e8.extBut _ _ (Qky zlt)<|e7.extBut _ _ (Qky zlt)<|Qw2 _ rfl;have l8:g8.objs.size=g5.objs.size+1:=by rw[e8.1,e7.1,Qjq]
 rw[hsz] at hz8 t8 l8;refine Qq6 ⟨_,rfl,?_⟩;show Q (.ref g5.objs.size) _;rw[hsz];exact q x y g8 _ px py hz8 (up _ _ D.a2 t5) (D1.frame _ _ _ s15 λc hc o e=>up c o (fJ hc D.c1) e) (D2.frame _ _ _ s25 λc hc o e=>up c o (fJ hc D.c2) e) t8 l8 λc o c1 c2 c3 c4 e=>up c o c1<|ae0 c o c1 c2 c3 c4 e
theorem Vw(D:Ap z TI TO j1 j2 f1 f2)(D1:Draws prog w A j1 f1 n1 P1 S1)(D2:Draws prog w A j2 f2 n2 P2 S2)(hk:k=n1\/(k<n1/\k=n2))
  (hz:IsZip s.heap z TI TO .none) (hTI:IsPair s.heap TI (.ref j1) (.ref j2)) (hTO:IsPair s.heap TO a b) (s1:S1 k s.heap) (s2:S2 k s.heap)
  (q:∀g e tk,(∀c o,c≠z->c≠TO->c≠j1->c≠j2->s.heap.get? c=some o->g.get? c=some o)->(∃o,g.get? e=some o/\o.cls=.type "StopIteration")->E (.ref e) { s with heap:=g,toks:=tk }) :
  wpAny (model prog w) A (Builtin.«zip.__next__» ⟨[.ref z],[]⟩) Q E s:=by
 have X5:=fJ D.b1 D.c1;have acG:=fJ D.b2 D.c2;have acH:=fJ D.b1 D.c3;have afy:=fJ D.b2 D.c4;show wpAny _ _ (field (.ref z) 2 >>= _) _ _ _;refine Qqx<|Qjj hz rfl rfl ?_;show wpAny _ _ (field (.ref z) 3 >>= _) _ _ _;refine Qqx<|Qjj hz rfl rfl ?_;refine Qqx<|Qj2 hTI rfl ?_;show wpAny _ _ (Builtin.SmallTypes.ownedTupleIsFree (.ref z) >>= _) _ _ _;refine Qqx ?_;unfold Builtin.SmallTypes.ownedTupleIsFree;refine Qqx<|Qjj hz rfl rfl (Qq6 ?_);simp only[if_true];refine Qqx<|Qj8 ?_;refine Qqx<|Qjj hz rfl rfl ?_;refine Qqx<|Qkq hz (by simp) λg1 hz1 e1=>?_;replace hz1:IsZip g1 z TI TO .ellipsis:=hz1;refine Qqx ?_;simp only[List.zipIdx_cons,List.zipIdx_nil,Qk0,Qkz];refine Qqx<|Qqx<|wpAny_onRaise ?_;show wpAny _ _ (Builtin.SmallTypes.nextOf (.ref j1) >>= _) _ _ _;have YZ:=D1.frame k _ _ s1 λc hc o e=>e1.extBut _ _ (fJ hc D.c1) e;rcases hk with rfl|⟨k1,rfl⟩;refine Qqx<|D1.done { s with heap:=g1 } _ _ YZ λg2 e x2 he=>?_;obtain⟨oe,hoe,hce⟩:=he;have hz2:=x2 _ _ X5.symm hz1;have hez:e≠z:=λx=>by subst x;rw[hz2] at hoe;cases hoe;simp at hce
 exact Qkq hz2 (by simp) λg3 _ e3=>q g3 e s.toks (λc o c1 _ c3 _ x=>e3.extBut _ _ c1<|x2 _ _ c3<|e1.extBut _ _ c1 x) ⟨oe,e3.extBut _ _ hez hoe,hce⟩;refine Qqx<|D1.item k { s with heap:=g1 } _ _ k1 YZ λx g2 tk2 px sx e2=>Qq6 ?_;have t2:=e2.extBut _ _ acH.symm<|e1.extBut _ _ D.a2 hTO;refine Qqx<|Qj2 t2 rfl ?_;refine Qqx<|wpAny_updateSeq_pair t2 λg3 t3 e3=>?_;refine Qqx<|wpAny_letGo<|Qq6 ?_;refine Qqx<|Qqx<|wpAny_onRaise ?_;show wpAny _ _ (Builtin.SmallTypes.nextOf (.ref j2) >>= _) _ _ _;have Qu:=D2.frame k _ _ s2 λc hc o e=>e3.extBut _ _ (fJ hc D.c4)<|e2.extBut _ _ (fJ hc D.c8)<|e1.extBut _ _ (fJ hc D.c2) e;refine Qqx<|D2.done { s with heap:=g3,toks:=tk2 } _ _ Qu λg4 e x4 he=>?_;obtain⟨oe,hoe,hce⟩:=he;have hz4:=x4 _ _ acG.symm<|e3.extBut _ _ D.a2.symm<|e2.extBut _ _ X5.symm hz1;have hez:e≠z:=λx=>by subst x;rw[hz4] at hoe;cases hoe;simp at hce
 exact Qkq hz4 (by simp) λg5 _ e5=>q g5 e tk2 (λc o c1 c2 c3 c4 x=>e5.extBut _ _ c1<|x4 _ _ c4<|e3.extBut _ _ c2<|e2.extBut _ _ c3<|e1.extBut _ _ c1 x) ⟨oe,e5.extBut _ _ hez hoe,hce⟩
theorem xU(D:Ap z TI TO j1 j2 f1 f2)(D1:Draws prog w A.in1 j1 f1 n1 P1 S1)(D2:Draws prog w A.in1 j2 f2 n2 P2 S2)(k1:k<n1)(k2:k<n2)
  (hz:IsZip s.heap z TI TO .none) (hTI:IsPair s.heap TI (.ref j1) (.ref j2)) (hTO:IsPair s.heap TO a b) (s1:S1 k s.heap) (s2:S2 k s.heap)
  (q:∀x y g tk,P1 k x->P2 k y->IsZip g z TI TO (rawInt s.heap.objs.size)->IsPair g TO x y->S1 (k+1) g->S2 (k+1) g->IsPair g s.heap.objs.size x y->g.objs.size=s.heap.objs.size+1->
   (∀c o,c≠z->c≠TO->c≠j1->c≠j2->s.heap.get? c=some o->g.get? c=some o)->Q (some (.ref s.heap.objs.size)) { s with heap:=g,toks:=tk }) :
  wpAny (model prog w) A (pyNext (.ref z)) Q E s:=by
 have hT:s.TypeIs (.ref z) "zip":=⟨_,hz,rfl⟩;unfold pyNext;exact Qqx (wpAny_attempt (Qjz hT F.slot_zip_next (Qz6 F.slot_zip_next hT F.entry_zip_next
  (QB D D1 D2 k1 k2 hz hTI hTO s1 s2 λx y g tk u1 u2 u3 u4 u5 u6 u7 u8 u9=>Qq6<|q x y g tk u1 u2 u3 u4 u5 u6 u7 u8 u9) (F.args_zip_next_1 _))))
theorem yS(D:Ap z TI TO j1 j2 f1 f2)(D1:Draws prog w A.in1 j1 f1 n1 P1 S1)(D2:Draws prog w A.in1 j2 f2 n2 P2 S2)(hk:k=n1\/(k<n1/\k=n2))
  (hz:IsZip s.heap z TI TO .none) (hTI:IsPair s.heap TI (.ref j1) (.ref j2)) (hTO:IsPair s.heap TO a b) (s1:S1 k s.heap) (s2:S2 k s.heap)
  (q:∀g tk,(∀c o,c≠z->c≠TO->c≠j1->c≠j2->s.heap.get? c=some o->g.get? c=some o)->Q none { s with heap:=g,toks:=tk }):wpAny (model prog w) A (pyNext (.ref z)) Q E s:=by
 have hT:s.TypeIs (.ref z) "zip":=⟨_,hz,rfl⟩;unfold pyNext;refine Qqx (wpAny_attempt (Qjz hT F.slot_zip_next (Qz6 F.slot_zip_next hT F.entry_zip_next
  (Vw D D1 D2 hk hz hTI hTO s1 s2 λg e tk hkp he=>?_) (F.args_zip_next_1 _))))
 obtain⟨o,ho,hc⟩:=he;refine Qqx<|wpAny_isInstance ⟨o,ho,hc⟩ isSubtype_stop ?_;exact Qq6<|q _ _ hkp
end
end ZT
namespace L2
open PySem PySem.Spec PyProof.Rows PySem.Builtin ZT
noncomputable def Itz(K:PySem.W.Frag)(a1 a2:Addr):It:=
 ⟨λi H=>∃xs ys x y,lG K H a1 xs/\lG K H a2 ys/\xs[i]?=some x/\ys[i]?=some y,
 λi H v H'=>∃p x y,(∀xs,lG K H a1 xs->xs[i]?=some x)/\(∀ys,lG K H a2 ys->ys[i]?=some y)/\H p=none/\H'=upd H p (.tup [x,y])/\v=.ref p,
 λi H=>∃xs ys,lG K H a1 xs/\lG K H a2 ys/\(i=xs.length\/(i<xs.length/\i=ys.length))⟩
structure Apz(z TI TO j1 j2 a1 a2:Addr):Prop where
 t1:TI≠z
 t2:TO≠z
 t3:TI≠TO
 t4:j1≠j2
 b1:z ∉ [j1,a1]
 b2:z ∉ [j2,a2]
 b3:TO ∉ [j1,a1]
 b4:TO ∉ [j2,a2]
 b5:TI ∉ [j1,a1]
 b6:TI ∉ [j2,a2]
 b7:j2 ∉ [j1,a1]
 b8:j1 ∉ [j2,a2]
 c1:a1≠j1
 c2:a2≠j2
theorem Apz.ap{z TI TO j1 j2 a1 a2:Addr}(D:Apz z TI TO j1 j2 a1 a2):Ap z TI TO j1 j2 [j1,a1] [j2,a2]:=⟨D.t1,D.t2,D.t3,D.t4,by simp,by simp,D.b1,D.b2,D.b3,D.b4,D.b5,D.b6,D.b7,D.b8⟩
theorem Q3{P:Program}{w:World}{K:PySem.W.Frag}{elts:List Expr}{kk:Nat}{pos:Pos}(z TI TO j1 j2 a1 a2:Addr)(D:Apz z TI TO j1 j2 a1 a2) :
  Turn P w K (.Tuple elts kk pos) (Itz K a1 a2) [z,TI,TO,j1,j2] z (λi h=>IsZip h z TI TO .none/\IsPair h TI (.ref j1) (.ref j2)/\(∃a b,IsPair h TO a b)/\h.IsTupleIter j1 a1 i/\h.IsTupleIter j2 a2 i) where
 mem:=by simp
 obj:=λi h st b hb=>by
  obtain⟨hz,hTI,⟨a,c,hTO⟩,⟨o1,e1,_,d1⟩,o2,e2,_,d2⟩:=st;simp only[Qq7,Qxw,Qj9] at hb;rcases hb with rfl|rfl|rfl|rfl|rfl;exact⟨_,hz,λv q=>by cases q⟩;exact⟨_,hTI,λv q=>by cases q⟩;exact⟨_,hTO,λv q=>by cases q⟩;exact⟨o1,e1,λv q=>by rw[d1] at q;cases q⟩;exact⟨o2,e2,λv q=>by rw[d2] at q;cases q⟩
 keep:=λi h h' st k=>by
  obtain⟨hz,hTI,⟨a,c,hTO⟩,⟨o1,e1,r1⟩,o2,e2,r2⟩:=st;exact⟨k z (by simp) _ hz,k TI (by simp) _ hTI,⟨a,c,k TO (by simp) _ hTO⟩,⟨o1,k j1 (by simp) _ e1,r1⟩,o2,k j2 (by simp) _ e2,r2⟩
 item:=by
  intro X hP hw hK hc i pins s σ H E I hf st hg;subst hP hw hK;obtain⟨hz,hTI,⟨a,b,hTO⟩,i1,i2⟩:=st;obtain⟨xs,ys,x,y,hx,hy,gx,gy⟩:=hg;obtain⟨us,ru,pu,zu⟩:=I.tuple hx;obtain⟨vs,rv,pv,zv⟩:=I.tuple hy;obtain⟨u,hu,rxu⟩:=ru.get gx;obtain⟨v,hv,ryv⟩:=rv.get gy;have lu:i<us.toArray.size:=by rw[Qq5];exact(Qqy.mp hu).1
  have lv:i<vs.toArray.size:=by rw[Qq5];exact(Qqy.mp hv).1
  have D1:Draws X.prog X.w X.A.in1 j1 [j1,a1] _ _ _:=rJ (A:=X.A.in1) (show X.A.in1.handled=none from I.ok.hd hc) j1 a1 D.c1 us.toArray;have D2:Draws X.prog X.w X.A.in1 j2 [j2,a2] _ _ _:=rJ (A:=X.A.in1) (show X.A.in1.handled=none from I.ok.hd hc) j2 a2 D.c2 vs.toArray;refine xU (A:=X.A) D.ap D1 D2 lu lv hz hTI hTO ⟨i1,pu⟩ ⟨i2,pv⟩ λx' y' g tk px py hz' ahp s1 s2 hT hsz hk=>?_;have ex:x'=u:=by have:us.toArray[i]?=some x':=px;rw[List.getElem?_toArray,hu] at this;exact(Qw4 this).symm
  have ey:y'=v:=by have:vs.toArray[i]?=some y':=py;rw[List.getElem?_toArray,hv] at this;exact(Qw4 this).symm
  subst ex ey;refine⟨_,rfl,?_⟩;refine wpAny_letOwnedTupleGo_zip (s:={ s with heap:=g,toks:=tk }) hz' λg' hz'' e'=>?_;have CT:∀b o,b≠z->g.get? b=some o->g'.get? b=some o:=λb o hb q=>(e'.2 b hb).trans q;have lts:∀b ∈ [z,TI,TO,j1,j2],b<s.heap.objs.size:=λb hb=>by
   simp only[Qq7,Qxw,Qj9] at hb;rcases hb with rfl|rfl|rfl|rfl|rfl;exact Qwx hz;exact Qwx hTI;exact Qwx hTO;obtain⟨_,q,_⟩:=i1;exact Qwx q;obtain⟨_,q,_⟩:=i2;exact Qwx q
  have nT:H s.heap.objs.size=none:=I.hok.fresh<|Qq1 _;refine⟨.ref s.heap.objs.size,upd H s.heap.objs.size<|.tup [x,y],I.drawn (t':=tk) (ch:=[z,TI,TO,j1,j2]) hf (λb o hb q=>?_) (Qq1 _) ?_,rfl,⟨_,x,y,λzs hq=>by rw[I.vU hq hx];exact gx,λzs hq=>by rw[I.vU hq hy];exact gy,nT,rfl,rfl⟩,⟨hz'',?_,⟨_,_,CT TO _ D.t2 ahp⟩,?_,?_⟩,λb hb=>?_⟩;have n1:b≠z:=λq=>hb (by simp[q]);exact CT b o n1<|hk b o n1 (λq=>hb (by simp[q])) (λq=>hb (by simp[q])) (λq=>hb (by simp[q])) q;exact⟨by show 2<=sizeLine;decide,[x',y'],.cons rxu<|.cons ryv .nil,_,CT _ _ (Qky<|lts z (by simp)) hT,rfl,⟨_,rfl⟩,rfl⟩;exact CT TI _ D.t1<|hk TI _ D.t1 D.t3 (λq=>D.b5 (by simp[q])) (λq=>D.b6 (by simp[q])) hTI;obtain⟨o,q,r⟩:=s1.1;exact⟨o,CT j1 o (λq=>D.b1 (by simp[q])) q,r⟩;obtain⟨o,q,r⟩:=s2.1;exact⟨o,CT j2 o (λq=>D.b2 (by simp[q])) q,r⟩;rw[bj (Qxv (lts b hb))];exact(hf b hb).1
 done:=by intro X hP hw hK hc i pins s σ H E I hf st hg;subst hP hw hK;obtain⟨hz,hTI,⟨a,b,hTO⟩,i1,i2⟩:=st;obtain⟨xs,ys,hx,hy,hi⟩:=hg;obtain⟨us,ru,pu,zu⟩:=I.tuple hx;obtain⟨vs,rv,pv,zv⟩:=I.tuple hy;have l1:=ru.length;have l2:=rv.length;have D1:Draws X.prog X.w X.A.in1 j1 [j1,a1] _ _ _:=rJ (A:=X.A.in1) (show X.A.in1.handled=none from I.ok.hd hc) j1 a1 D.c1 us.toArray;have D2:Draws X.prog X.w X.A.in1 j2 [j2,a2] _ _ _:=rJ (A:=X.A.in1) (show X.A.in1.handled=none from I.ok.hd hc) j2 a2 D.c2 vs.toArray;refine yS (A:=X.A) (k:=i) D.ap D1 D2 (by rw[Qq5,Qq5];omega) hz hTI hTO ⟨i1,pu⟩ ⟨i2,pv⟩ λg tk hk=>⟨rfl,I.VJ (t':=tk) (ch:=[z,TI,TO,j1,j2]) hf λb o hb e=>?_⟩;exact hk b o (λq=>hb (by simp[q])) (λq=>hb (by simp[q])) (λq=>hb (by simp[q])) (λq=>hb (by simp[q])) e
 self:=λA i s Q E st h=>wpAny_pyIter_zip st.1 h
end L2
namespace ZT
open PySem PySem.Spec PyProof.Rows L2 PySem.Builtin
noncomputable abbrev h1T(h:Heap)(l1:Addr):Heap:=h.push { cls:=.type "tuple_iterator",data:=.fields #[.ref l1,.int 0 0] }
noncomputable abbrev h2T(h:Heap)(l1 l2:Addr):Heap:=(h1T h l1).push { cls:=.type "tuple_iterator",data:=.fields #[.ref l2,.int 0 0] }
noncomputable abbrev h3T(h:Heap)(l1 l2:Addr):Heap:=(h2T h l1 l2).push { cls:=.type "tuple",data:=.seq #[.ref h.objs.size,.ref (h1T h l1).objs.size] }
noncomputable abbrev h4T(h:Heap)(l1 l2:Addr):Heap:=(h3T h l1 l2).push { cls:=.type "tuple",data:=.seq #[.none,.none] }
noncomputable abbrev h5T(h:Heap)(l1 l2:Addr):Heap:=(h4T h l1 l2).push { cls:=.type "zip",data:=.fields #[.none,.bool false,.bool false,.ref (h2T h l1 l2).objs.size,.ref (h3T h l1 l2).objs.size] }
theorem abM(l1 l2)(xs ys):Meets (Builtin.«zip.__new__» ⟨[.type "zip",.ref l1,.ref l2],[]⟩) (λ_ R s=>s.heap.IsTuple l1 xs/\s.heap.IsTuple l2 ys/\
   R (.ok (.ret (.ref (h4T s.heap l1 l2).objs.size))) { s with heap:=h5T s.heap l1 l2 }):=
 .of_wp λprog w A R s h=>by
  obtain⟨hp,g,d,tk,os⟩:=s;obtain⟨hl1,hl2,h⟩:=h;have hsub:=sub_zip;have hL1:=hl1;have hL2:Heap.IsTuple (Shared.heap ⟨hp.push { cls:=.type "tuple_iterator",data:=.fields #[.ref l1,.int 0 0] },g,d,tk,os⟩) l2 ys:=Heap.IsTuple.push hl2 _
  wp_walk using wpAny_pyIter_tuple hL1,wpAny_pyIter_tuple hL2
  exact⟨_,rfl,h⟩
section
variable{prog:Program}{w:World}{A:Around}{E:Value->Shared->Prop}{s:Shared}
theorem Yg(hl1:s.heap.IsTuple l1 xs)(hl2:s.heap.IsTuple l2 ys)
  (h:∀g,IsZip g (s.heap.objs.size+4) (s.heap.objs.size+2) (s.heap.objs.size+3) .none->IsPair g (s.heap.objs.size+2) (.ref s.heap.objs.size) (.ref (s.heap.objs.size+1))->
   IsPair g (s.heap.objs.size+3) .none .none->g.IsTupleIter s.heap.objs.size l1 0->g.IsTupleIter (s.heap.objs.size+1) l2 0->g.objs.size=s.heap.objs.size+5->
   (∀c o,s.heap.get? c=some o->g.get? c=some o)->Q (.ref (s.heap.objs.size+4)) { s with heap:=g }) :
  wpAny (model prog w) A (call (.type "zip") [.ref l1,.ref l2]) Q E s:=by
 refine callType_new F.called_zip (by decide) (F.typeCall_zip_2 _ _) (F.newCall_zip_2 _ _) (λobj=>F.args_object_init_3 obj _ _) F.entry_zip_new (abM l1 l2 xs ys) ⟨hl1,hl2,?_⟩;have z1:(h1T s.heap l1).objs.size=s.heap.objs.size+1:=Qjq ..;have z2:(h2T s.heap l1 l2).objs.size=s.heap.objs.size+2:=by rw[Qjq,z1]
 have z3:(h3T s.heap l1 l2).objs.size=s.heap.objs.size+3:=by rw[Qjq,z2]
 have z4:(h4T s.heap l1 l2).objs.size=s.heap.objs.size+4:=by rw[Qjq,z3]
 have z5:(h5T s.heap l1 l2).objs.size=s.heap.objs.size+5:=by rw[Qjq,z4]
 have g5:(h5T s.heap l1 l2).get? (h4T s.heap l1 l2).objs.size=some _:=Qw2 _ rfl;have g4:(h5T s.heap l1 l2).get? (h3T s.heap l1 l2).objs.size=some _:=Qq0 _<|Qw2 _ rfl;have g3:(h5T s.heap l1 l2).get? (h2T s.heap l1 l2).objs.size=some _:=Qq0 _<|Qq0 _<|Qw2 _ rfl;have g2:(h5T s.heap l1 l2).get? (h1T s.heap l1).objs.size=some _:=Qq0 _<|Qq0 _<|Qq0 _<|Qw2 _ rfl;have g1:(h5T s.heap l1 l2).get? s.heap.objs.size=some _:=Qq0 _<|Qq0 _<|Qq0 _<|Qq0 _<|Qw2 _ rfl;rw[z2,z3,z4] at g5;rw[z1,z2] at g3;rw[z3] at g4;rw[z1] at g2;rw[z4];exact⟨⟨_,g5,rfl⟩,h _ g5 g3 g4 ⟨_,g1,rfl,rfl⟩ ⟨_,g2,rfl,rfl⟩ z5 λc o x=>Qq0 _<|Qq0 _<|Qq0 _<|Qq0 _<|Qq0 _ x⟩
end
end ZT
namespace L2
open PySem PySem.Spec PyProof.Rows PySem.Builtin ZT
section
variable{X:Cx}
def ahd(K:PySem.W.Frag)(ta:TA):TI:=λσ H R=>ta σ H λvs H1=>∃a1 a2,vs=[.ref a1,.ref a2]/\(∃xs,lG K H1 a1 xs)/\(∃ys,lG K H1 a2 ys)/\R (Itz K a1 a2) H1
theorem aaX{elts:List Expr}{k:Nat}{tp:Pos}{p pos:Pos}(hg:Gl X "zip")(hm:X.mg "zip"=none)(ha:PA X [a,b] ta)(hs:starEach [a,b] X.env=(false,eval a X.env)::starEach [b] X.env:=by rfl)(hs2:starEach [b] X.env=[(false,eval b X.env)]:=by rfl):PI X (.Tuple elts k tp) (.Call (.Name "zip" p) [a,b] [] pos) (ahd X.K ta):=by
 intro pins s σ H R I h;refine Call_<|zx I hg hm PyProof.Rows.boot_zip<|PyProof.Rows.callWith_type1 (fG (ha pos pins s σ H _ I h) λus s1 ⟨vs,H1,I1,r1,q1⟩=>?_) hs (by rw[hs2];rfl);obtain⟨a1,a2,e,⟨xs,hx⟩,⟨ys,hy⟩,q⟩:=q1;subst e;cases r1 with
 |cons r rr=>
  cases rr with
  |cons r' rr'=>
   cases rr';cases r;cases r';obtain⟨u1,ru1,p1,z1⟩:=I1.tuple hx;obtain⟨u2,ru2,p2,z2⟩:=I1.tuple hy;have lt1:a1<s1.heap.objs.size:=by obtain⟨_,e,_⟩:=p1;exact Qwx e
   have Br:a2<s1.heap.objs.size:=by obtain⟨_,e,_⟩:=p2;exact Qwx e
   refine Yg p1 p2 λg hz hTI hTO i1 i2 hsz hk=>?_;refine wpAny_pyIter_zip hz ?_;have I2:Inv X pins σ H1 { s1 with heap:=g }:=I1.kept (t':=s1.toks) hk;have own:∀b,s1.heap.objs.size<=b->vI X pins H1 b:=λb hb=>I1.acA hb<|I1.hok.fresh hb;generalize hn:s1.heap.objs.size=n at *;have ne:∀{c d:Nat},c<d->(c:Addr)≠d:=λh e=>Qz0 _ (by subst e;exact h);have ne':∀{c d:Nat},d<c->(c:Addr)≠d:=λh e=>Qz0 _ (by subst e;exact h);have D:Apz (n+4) (n+2) (n+3) n (n+1) a1 a2:={
    t1:=ne (by omega),t2:=ne (by omega),t3:=ne (by omega),t4:=ne (by omega)
    b1:=by simp only[Qq7,Qxw,Qj9,not_or];exact⟨ne' (by omega),ne' (Qwz lt1 (by omega))⟩
    b2:=by simp only[Qq7,Qxw,Qj9,not_or];exact⟨ne' (by omega),ne' (Qwz Br (by omega))⟩
    b3:=by simp only[Qq7,Qxw,Qj9,not_or];exact⟨ne' (by omega),ne' (Qwz lt1 (by omega))⟩
    b4:=by simp only[Qq7,Qxw,Qj9,not_or];exact⟨ne' (by omega),ne' (Qwz Br (by omega))⟩
    b5:=by simp only[Qq7,Qxw,Qj9,not_or];exact⟨ne' (by omega),ne' (Qwz lt1 (by omega))⟩
    b6:=by simp only[Qq7,Qxw,Qj9,not_or];exact⟨ne' (by omega),ne' (Qwz Br (by omega))⟩
    b7:=by simp only[Qq7,Qxw,Qj9,not_or];exact⟨ne' (by omega),ne' (Qwz lt1 (by omega))⟩
    b8:=by simp only[Qq7,Qxw,Qj9,not_or];exact⟨ne (by omega),ne' Br⟩
    c1:=ne lt1,c2:=ne (Qwz Br (by omega)) }
   refine⟨n+4,[n+4,n+2,n+3,n,n+1],_,_,H1,rfl,I2,Q3 _ _ _ _ _ a1 a2 D,⟨hz,hTI,⟨_,_,hTO⟩,i1,i2⟩,λb hb=>own b ?_,q⟩;simp only[Qq7,Qxw,Qj9] at hb;rcases hb with rfl|rfl|rfl|rfl|rfl;exact Nat.le_add_right _ _;exact Nat.le_add_right _ _;exact Nat.le_add_right _ _;exact Qq1 _;exact Nat.le_add_right _ _
end
end L2
namespace Ev
open PySem PySem.Spec PyProof.Rows L2 PySem.Builtin
section
variable{X:Cx}{C:Cfg}{pos:Pos}{e e2:Expr}
noncomputable def vN(x y:List D):List D:=(x.zip y).map λp=>.tup [p.1,p.2]
noncomputable def zW(a:dZ):dZ:=λenv=>bindR (a env) λds aJ=>match ds with
 |[.tup x,.tup y]=>.ok (vN x y) aJ|_=>.stuck
theorem Ef{K:Fg}:∀{ds} {vs},bK K F ds vs->∀{i:Nat} {d},ds[i]?=some d->∃v,vs[i]?=some v/\Rep K F d v
 |[],vs,_,i,d,h=>by simp at h
 |x::ds,vs,r,i,d,h=>by
  obtain⟨v,w,rfl,p,q⟩:=r;cases i with
  |zero=>simp at h;subst h;exact⟨v,rfl,p⟩|succ i=>obtain⟨u,h1,h2⟩:=Ef q (by simpa using h);exact⟨u,by simpa using h1,h2⟩
end
open PySem PySem.Spec PyProof.Rows L2
theorem Rel.hold{Pr F:Hp}(r:Rel C Pr F env σ H)(n:Qx C.K Pr F env σ H d a)(ho:H a=some o):Rel C (upd Pr a o) F env σ H:=by
 refine⟨λb u e=>?_,r.fr,r.len,r.val,λj e he=>?_,r.apart,λb u e=>?_,r.fix⟩;by_cases hb:b=a;subst hb;rw[aU] at e;cases e;exact ho;rw[bj hb] at e;exact r.pr b u e;obtain⟨b,h1,h2,h3,h4⟩:=r.own j e he;have hb:b≠a:=λz=>n.ap j e he (by rw[<-z];exact h1);exact⟨b,h1,h2,h3,by rw[bj hb];exact h4⟩;have hb:b≠a:=λz=>by rw[z,n.nF] at e;cases e
 rw[bj hb];exact r.dj b u e
theorem Rel.acW{Pr F F':Hp}(r:Rel C (upd Pr a oa) F env σ H)(nP:Pr a=none)(s:∀b o,b≠a->H b=some o->H' b=some o)(sF:aM F' H')(YX:aM F F')(nw:∀b o,F' b=some o->F b=some o\/H b=none):Rel C Pr F' env σ H':=by
 refine⟨λb u e=>?_,sF,r.len,λj e he=>?_,λj e he=>?_,r.apart,λb o e=>?_,r.fix⟩;have hb:b≠a:=λz=>by rw[z,nP] at e;cases e
 exact s b u hb<|r.pr b u (by rw[bj hb];exact e);obtain⟨v,h1,h2⟩:=r.val j e he;exact⟨v,h1,Rep.mono YX _ _ h2⟩;obtain⟨b,h1,h2,h3,h4⟩:=r.own j e he;obtain⟨o,ho⟩:=h2.some;have hb:b≠a:=λz=>by rw[z,aU] at h4;cases h4
 refine⟨b,h1,h2.mono YX (by rw[ho,s _ _ hb ho]),?_,HJ h4⟩;cases e:F' b with
 |none=>rfl|some u=>rcases nw b u e with z|z;rw[h3] at z;cases z;rw[ho] at z;cases z
 rcases nw b o e with z|z;exact HJ<|r.dj b o z;cases hp:Pr b with
 |none=>rfl
 |some u=>
  have hb:b≠a:=λy=>by rw[y,nP] at hp;cases hp
  have:=r.pr b u (by rw[bj hb];exact hp);rw[this] at z;cases z
noncomputable def Nb(f:List D->Option (D×D))(c:Ev)(a:dZ):Ev:=λenv=>bindR (c env) λx aJ=>bindR (a aJ) λds dD=>match f (x::ds) with
 |some (d,_)=>.ok d dD|none=>.stuck
section
variable{X:Cx}{C:Cfg}{pos p:Pos}{n:Str}{e1:Expr}{es:List Expr}{ea:dZ}{c:Ev}{x y z:Expr}{a b:Ev}
theorem XH{K:Fg}{x:Str}(X:K.In h)(G:h.Ns mainGlobals mg)(a:PySem.W.nsIn K mainGlobals x=some (some (.int i t))):Glb K mg x (.int i):=
 ⟨.int i,_,PySem.W.mg_of X G a,⟨t,rfl⟩,λF=>rfl⟩
end
end Ev
namespace SX
open PySem PySem.Spec PyProof.Rows L2 PySem.Builtin
noncomputable def led(w:World):Bool:=!(w.params.followText "set-order")
structure TOk(P:Program)(w:World)(es:Array (Int×Value))(t:SetTable)(ys:List Str):Prop where
 el:ElemsOf (strKind P w) es.toList
 tx:∃ss:List Str,StrsAre (es.toList.map (·.2)) ss/\ss.Perm ys
 fit:t.fits es.size=true
 ld:t.led=led w
 pl:es.size≠0->t.plain=false
def Lg(P:Program)(w:World)(h:Heap)(a:Addr)(ys:List Str):Prop:=
 ∃o es ep t,h.get? a=some o/\o.ExactSet/\o.data=.set es ep t/\TOk P w es t ys
open PySem PySem.Spec PyProof.Rows L2 PySem.Builtin Ev
noncomputable def afI(P:Program)(w:World)(a:Addr)(ys:List Str):HO:=.ext λh=>Lg P w h a ys
theorem n8(h:Ev.strOf x=Ev.strOf y):x=y:=by
 have:=Qw9 (λs:Str=>s.cps.toList) h
 simpa[Ev.strOf] using this
end SX
namespace Ev
open PySem PySem.Spec PyProof.Rows L2 PySem.Builtin
section
variable{X:Cx}{C:Cfg}{pos:Pos}
structure PXL(X:Cx)(C:Cfg)(es:List Expr)(ev:dZ):Prop where
 go:Vk X C es ev
theorem Wm:PXL X C [] aj:=⟨Mh⟩
end
open PySem L2
theorem nr{α:Type}{a b:α}(h:a=b):a=b:=h
theorem bR{α β:Type}(a)(e)(f:α->Env->R β):bindR (.ok a e) f=f a e:=nr rfl
noncomputable def bQ{α:Type}(_:Env):R α:=.stuck
theorem Uj(xs)(lo hi):acr (.tup xs) lo hi=some (.tup (cutD xs lo hi)):=by
 show(if HT.fZ xs.length 0 lo=0/\HT.fZ xs.length xs.length hi=xs.length then some (D.tup xs) else some (D.tup<|cutD xs lo hi))=_;split;rename_i h;unfold cutD;rw[h.1,h.2];simp;rfl
theorem aau(n):iZ 0 1 n=(List.range n).map λ(i:Nat)=>D.int i:=by
 unfold iZ;apply Qjk;intro i _
 congr 1
 omega
theorem Wa{n:Nat}(h:n<2^62):yP [.int n]=some ((List.range n).map λ(i:Nat)=>D.int i):=by
 have hf:kh n=true:=by unfold kh;simp[Qzq,decide_eq_true_eq];omega
 show(if kh n=true then some (iZ 0 1 (n:Int).toNat) else none)=_;rw[if_pos hf,Qj3,aau]
theorem Zu{α:Type}(enc)(ext:α->Env)(p)(out)(env)(k):∀(l:List α) vs,vs.length=k->
  (∀a∈l,(ext a).length=k/\(∀vs,vs.length=k->g (enc a) (env++vs)=some (env++ext a))/\c (env++ext a)=.ok (p a) (env++ext a)/\(p a=true->e (env++ext a)=.ok (out a) (env++ext a)))->
  ∃vs',vs'.length=k/\Gu g c e (l.map enc) (env++vs)=.ok ((l.filter p).map out) (env++vs')
 |[],vs,hv,_=>⟨vs,hv,rfl⟩
 |a::l,vs,hv,h=>by
  obtain⟨h1,h2,h3,h4⟩:=h a Qqj;obtain⟨vs',h5,h6⟩:=Zu enc ext p out env k l (ext a) h1 λb hb=>h b<|Qqq _ hb;refine⟨vs',h5,?_⟩;rw[Qwq];unfold Gu;rw[h2 vs hv];show bindR (c<|env++ext a) _=_;rw[h3,bR];cases hp:p a with
  |true=>rw[if_pos rfl,h4 hp,bR,h6,bR,List.filter_cons_of_pos hp,Qwq]|false=>rw[if_neg Qx1,h6,List.filter_cons_of_neg (by rw[hp];exact Qx1)]
theorem acE{α:Type}{lo n:Nat}(l:List α)(enc)(ext:α->Env)(p)(out)(hit:it env=.ok (l.map enc) aJ)(hlo:aJ.length=lo)
  (h:∀a∈l,(ext a).length=n - lo/\(∀vs,vs.length=n - lo->g (enc a) (aJ++vs)=some (aJ++ext a))/\c (aJ++ext a)=.ok (p a) (aJ++ext a)/\(p a=true->e (aJ++ext a)=.ok (out a) (aJ++ext a)))
  (hz:l.length<=sizeLine):gY lo n it g c e env=.ok (.lst ((l.filter p).map out)) aJ:=by
 obtain⟨vs',h5,h6⟩:=Zu enc ext p out aJ (n - lo) l (List.replicate (n - lo) none) Qzx h;have:=rH hit hlo h6<|Qq4 (by rw[Qq3];exact List.length_filter_le _ _) hz;rw[this,<-hlo,List.take_left]
theorem M9{α:Type}{lo n:Nat}(l:List α)(enc)(p)(out)(hit:it env=.ok (l.map enc) aJ)(hlo:aJ.length=lo)(hn:n=lo+1)
  (hc:∀a∈l,c (aJ++[some (false,enc a)])=.ok (p a) (aJ++[some (false,enc a)]))
  (h:∀a∈l,p a=true->e (aJ++[some (false,enc a)])=.ok (out a) (aJ++[some (false,enc a)])) (hz:l.length<=sizeLine):gY lo n it (ak lo) c e env=.ok (.lst ((l.filter p).map out)) aJ:=by
 subst hn hlo;refine acE l enc (λa=>[some (false,enc a)]) p out hit rfl (λa ha=>⟨by simp,λvs hv=>?_,hc a ha,λhp=>h a ha hp⟩) hz;have hv:vs.length=1:=by omega
 obtain⟨v,rfl⟩:=List.length_eq_one_iff.mp hv;unfold ak;rw[List.set_append_right _ _ (Qq1 _),Nat.sub_self]
 rfl
open PySem PySem.Spec PyProof.Rows L2
section
variable{X:Cx}{C:Cfg}{pos:Pos}{x:Expr}{a:Ev}
noncomputable def XJ:D->Option Int->Option Int->Option D
 |.str z,lo,hi=>some (.str (cutD z lo hi))|.tup xs,lo,hi=>some (.tup (cutD xs lo hi))|.lst xs,lo,hi=>some (.lst (cutD xs lo hi))|.arr xs,lo,hi=>some (.lst (cutD xs lo hi))|_,_,_=>none
noncomputable def Ja(a:Ev)(lo hi:Vn):Ev:=λenv=>bindR (a env) λd aJ=>bindR (lo aJ) λl dD=>bindR (hi dD) λu K1=>iy (XJ d l u) K1
end
structure SX(X:Cx)(C:Cfg)(e:Expr)(ev:Ev):Prop where
 u:Ev.PX X C e ev
structure Ny(X:Cx)(C:Cfg)(e:Expr)(ev:Ev):Prop where
 u:Ev.Vj X C e ev
structure Vs(X:Cx)(C:Cfg)(e:Expr)(ev:Ev):Prop where
 u:Ev.Vu X C e ev
structure Lh(X:Cx)(C:Cfg)(e:Expr)(ev:gh):Prop where
 u:Ev.PXT X C e ev
structure SXW(X:Cx)(C:Cfg)(e:Expr)(ev:gh):Prop where
 u:Ev.PXW X C e ev
structure JD(X:Cx)(C:Cfg)(e:List Expr)(ev:dZ):Prop where
 u:Ev.Vk X C e ev
structure BL(X:Cx)(C:Cfg)(e:List Expr)(ev:dZ):Prop where
 u:Ev.Yw X C e ev
structure SXL(X:Cx)(C:Cfg)(e:List Expr)(ev:dZ):Prop where
 u:Ev.PXL X C e ev
structure Gm(X:Cx)(C:Cfg)(e:Stmt)(ev:bO):Prop where
 u:Ev.Vt X C e ev
structure fM(X:Cx)(C:Cfg)(e:List Stmt)(ev:bO):Prop where
 u:Ev.rR X C e ev
structure Yt(X:Cx)(C:Cfg)(e:List Expr)(ev:gh):Prop where
 u:Ev.Ql X C e ev
structure SXP(X:Cx)(C:Cfg)(e:Option Expr)(ev:Vn):Prop where
 u:Ev.PXP X C e ev
structure SXI(X:Cx)(C:Cfg)(tg e:Expr)(ev:dZ):Prop where
 u:Ev.Z2 X C tg e ev
structure Z0(X:Cx)(C:Cfg)(lo:Nat)(e:Expr)(ev:GV):Prop where
 u:Ev.Yv X C lo e ev
structure Yu(X:Cx)(C:Cfg)(lo:Nat)(e:List Expr)(ev:Vv):Prop where
 u:Ev.ac5 X C lo e ev
section
variable{X:Cx}{C:Cfg}{pos p px:Pos}{x y z:Expr}{a b c:Ev}{t u:gh}{i:Nat}{n:Str}{e:Expr}{es:List Expr}{ea:dZ}{e1:Expr}{apos:Pos}{e2:Expr}
theorem az(ha:SX X C e a)(hr:JD X C es r)(hs:starEach (e::es) X.env=(false,eval e X.env)::starEach es X.env:=by rfl):JD X C (e::es) (aa a r):=⟨Ev.Ho ha.u hr.u hs⟩
theorem bJ(i)(hN:X.N[i]?=some n:=by rfl)(hv:vM X.env.scope n:=by first|exact Or.inl rfl|exact Or.inr (Or.inl rfl)|exact Or.inr (Or.inr rfl))(hd:lK n:=by decide)(hcd:vJ n:=by decide):SX X C (.Name n pos) (aR i):=⟨aaG i hN hv hd hcd⟩
theorem cJ(i)(hr:JD X C es r)(hN:X.N[i]?=some n:=by rfl)(hv:vM X.env.scope n:=by first|exact Or.inl rfl|exact Or.inr (Or.inl rfl)|exact Or.inr (Or.inr rfl))(hd:lK n:=by decide)(hcd:vJ n:=by decide)(hs:starEach (.Name n pos::es) X.env=(false,eval (.Name n pos) X.env)::starEach es X.env:=by rfl):JD X C (.Name n pos::es) (aa (aR i) r):=az (bJ i hN hv hd hcd) hr hs
theorem ao  : JD X C [] aj:=⟨Ev.Mh ⟩
theorem bz(h:SX X C e ev):Ny X C e ev:=⟨Ev.PX.b h.u⟩
theorem aX{i:Int}:SX X C (.Constant (.int i) j pos) (jR (.int i)):=⟨Ev.aaL ⟩
theorem aq{st:Stmt}{rest:List Stmt}{a b:bO}(h1:Gm X C st a)(h2:fM X C rest b):fM X C (st::rest) (aD a b):=⟨(Sd h1.u h2.u).imp λD σ H h=>by
 obtain⟨Pr,F,env,r,f⟩:=h;refine⟨Pr,F,env,r,?_⟩;unfold aD at f;cases e:a env with
 |nx e1=>rw[e] at f;exact λσ' H' F' r' s'=>⟨Pr,F',e1,r',f.mono s'⟩|rt o d e1=>rw[e] at f;cases o<;>exact f|bk e1=>rw[e] at f;exact f|ct e1=>rw[e] at f;exact f|stuck=>rw[e] at f;exact f⟩
theorem aL{st:Stmt}{a:bO}(h1:Gm X C st a):fM X C [st] a:=⟨Mm h1.u⟩
theorem aP{lo:Nat}(i)(hnd:jm X.N=true:=by rfl)(hlo:Nat.ble lo i=true:=by rfl)(hfx:C.fx i=none:=by rfl)(hi:X.N[i]?=some n:=by rfl)(hx:Loc X.env.scope n:=by first|exact Or.inl rfl|exact Or.inr rfl)(hf:X.fn n=true\/X.env.scope.names.lookup n=some .local:=by first|exact .inl rfl|exact .inr rfl):Z0 X C lo (.Name n pos) (ak i):=⟨R0 (fO hnd) hi hx (Qzz hlo) hfx hf⟩
theorem cC(z){x:Str}{j:Nat}(hz:x=strOf z:=by decide +kernel)(hl:z.length<=sizeLine:=by decide):SX X C (.Constant (.str x) j pos) (jR (.str z)):=⟨by
 subst hz;refine aa4.imp λσ H Q h=>?_;obtain⟨Pr,F,env,env',d,r,e,q⟩:=h;cases e;exact q _ _ F r (aM.refl F) ⟨rfl,hl⟩⟩
theorem cL(i)(hN:X.N[i]?=some n:=by rfl)(hv:vM X.env.scope n:=by first|exact Or.inl rfl|exact Or.inr (Or.inl rfl)|exact Or.inr (Or.inr rfl))(hd:lK n:=by decide)(hcd:vJ n:=by decide):Ny X C (.Name n pos) (aZ i):=⟨Wq i hN hv hd hcd⟩
theorem cP{pos':Pos}(i)(he:SX X C e a)(hnd:jm X.N=true:=by rfl)(hfx:C.fx i=none:=by rfl)(hi:X.N[i]?=some n:=by rfl)(hx:Loc X.env.scope n:=by first|exact Or.inl rfl|exact Or.inr rfl)(hs:swapsWith e (some (.Name n pos')) pos.line X.env=pure false:=by rfl)(hf:X.fn n=true\/X.env.scope.names.lookup n=some .local:=by first|exact .inl rfl|exact .inr rfl):Gm X C (.Assign [.Name n pos'] e pos) (aW a (ak i)):=⟨Wh (fO hnd) hi hx hfx he.u hs hf⟩
theorem bf(h:SX X C e a):Gm X C (.Return (some e) pos) (bA a):=⟨(Ko h.u).imp λD σ H hq=>by
 obtain⟨Pr,F,env,r,f⟩:=hq;obtain⟨d,aJ,e1,f1⟩:=cZ f;exact⟨Pr,F,env,aJ,d,r,e1,λv H1 F1 r1 s1 p1=>f1 v σ H1 F1 r1 s1 p1⟩⟩
theorem bD(h:Ny X C e a)(hs:Qt e X.env:=by rfl):BL X C [e] (aa a aj):=⟨(iw h.u wH hs).imp λσ H Q hq=>by
 obtain⟨Pr,F,env,env',ds,rl,e,q⟩:=hq;obtain⟨d1,aJ,e1,e2⟩:=aQ e;cases e2;exact⟨Pr,F,env,env',d1,rl,e1,λv H1 F1 r1 s1 p1=>q _ H1 F1 r1 s1 ⟨v,[],rfl,p1,rfl⟩⟩⟩
theorem cI(O:Own X.prog X.w X.K X.mg X.base n k ps (mK X.K m g))(G:Good X C)(hr:fX k' X.A)(ha:JD X C (e::es) ea)(hn:∀env ds env',ea env=.ok ds env'->ds.length=m)(hk:Nat.ble k k'=true:=by rfl)(hg:Gl X n:=by rfl)(hdb:lK n:=by decide)(he:starEach (e::es) X.env=(false,eval e X.env)::starEach es X.env:=by rfl)(hpl:(backTo pos (starEach es X.env)).any (·.1)=false:=by rfl):SX X C (.Call (.Name n p) (e::es) [] pos) (au g ea):=⟨by
 obtain⟨f,fd,h1,h2,h3,h4⟩:=O;rw[G.K] at h1;have h1':lE X.prog X.w X.K X.mg X.base xg k f fd ps (mK C.K m g):=by rw[G.K];exact h1
 exact aaH h1' (hr.mono<|Qzz hk) hg h2 h3 h4 ha.u hn hdb he hpl⟩
theorem bM(h:JD X C es r):SX X C (.Tuple es k pos) (bF r):=⟨(aa3 h.u).imp λσ H Q hq=>by
 obtain⟨Pr,F,env,env',d,rl,e,q⟩:=hq;obtain⟨ds,aJ,e1,e2⟩:=aQ e;split at e2
 rename_i hz;cases e2;refine⟨Pr,F,env,env',ds,rl,e1,λvs H1 F1 r1 s1 p1=>⟨by rw[p1.length];exact hz,λp hp=>?_⟩⟩;obtain⟨r2,s2⟩:=r1.new hp;exact q _ _ _ r2 (s1.trans s2) ⟨hz,p,vs,rfl,lG.of aU,bK.mono s2 _ _ p1⟩
 cases e2⟩
theorem aF{lo:Nat}(h1:Z0 X C lo e g)(h2:Yu X C lo es gs)(hs:(assignEach (e::es) X.env).map (·.2)=assign e X.env::(assignEach es X.env).map (·.2):=by rfl):Yu X C lo (e::es) (aG g gs):=⟨(Sx h1.u h2.u hs).imp λv σ H Q h=>by
 obtain⟨Pr,F,env,env',ds,r,p,e,q⟩:=h;cases ds with
 |nil=>cases e|cons d ds=>obtain⟨u,w,rfl,p1,p2⟩:=p;obtain⟨aJ,e1,e2⟩:=Qzj.mp e;refine⟨u,w,rfl,Pr,F,env,aJ,d,r,p1,e1,λσ1 H1 F1 r1 s1 t1=>?_⟩;exact⟨Pr,F1,aJ,env',ds,r1,bK.mono s1 _ _ p2,e2,λσ2 H2 F2 r2 s2 t2=>q σ2 H2 F2 r2 (s1.trans s2)<|t2.trans t1⟩⟩
theorem gQ(h:Vs X C e ev):SX X C e ev:=⟨Ev.Vu.px h.u⟩
theorem fY(i)(G:Good X C)(hb:Ny X C y b)(hN:X.N[i]?=some n:=by rfl)(hv:vM X.env.scope n:=by first|exact Or.inl rfl|exact Or.inr (Or.inl rfl)|exact Or.inr (Or.inr rfl))(hs:vG y:=by intro _ _;rfl)(hd:lK n:=by decide)(hcd:vJ n:=by decide):SX X C (.Subscript (.Name n px) y pos) (aB fj i b):=⟨aaK i G.K hN hv hb.u hs hd hcd⟩
theorem jy{v:Str}{pv:Pos}(i)(O:Own X.prog X.w X.K X.mg X.base n k ps (sI X.K m g))(G:Good X C)(hr:fX k' X.A)(ha:JD X C es ea)(hn:∀env ds env',ea env=.ok ds env'->ds.length+1=m)(hk:Nat.ble k k'=true:=by rfl)(hN:X.N[i]?=some v:=by rfl)(hv:vM X.env.scope v:=by first|exact Or.inl rfl|exact Or.inr (Or.inl rfl)|exact Or.inr (Or.inr rfl))(hg:Gl X n:=by rfl)(hdb:lK n:=by decide)(he:starEach (.Name v pv::es) X.env=(false,eval (.Name v pv) X.env)::starEach es X.env:=by rfl)(hpl:(backTo pos (starEach es X.env)).any (·.1)=false:=by rfl)(hd:lK v:=by decide)(hcd:vJ v:=by decide):SX X C (.Call (.Name n p) (.Name v pv::es) [] pos) (dI g i ea):=⟨by
 obtain⟨f,fd,h1,h2,h3,h4⟩:=O;rw[G.K] at h1;have h1':lE X.prog X.w X.K X.mg X.base xg k f fd ps (sI C.K m g):=by rw[G.K];exact h1
 exact aeu hN hv h1' (hr.mono<|Qzz hk) hg h2 h3 h4 ha.u hn hdb he hpl hd hcd⟩
theorem iD(o:Bi X C op g)(ha:SX X C x a)(hb:Ny X C y b):SX X C (.BinOp x op y pos) (aO g a b):=⟨let ⟨_,h1,h2⟩:=o.ex;aer h1 h2 ha.u hb.u⟩
theorem lO(ha:SX X C e a)(hr:SXL X C es r)(hs:starEach (e::es) X.env=(false,eval e X.env)::starEach es X.env:=by rfl):SXL X C (e::es) (aa a r):=⟨⟨Ev.Ho ha.u hr.u.go hs⟩⟩
theorem jl(i)(o:Bi X C op g)(hb:Ny X C y b)(hN:X.N[i]?=some n:=by rfl)(hv:vM X.env.scope n:=by first|exact Or.inl rfl|exact Or.inr (Or.inl rfl)|exact Or.inr (Or.inr rfl))(hd:lK n:=by decide)(hcd:vJ n:=by decide):SX X C (.BinOp (.Name n px) op y pos) (aB g i b):=⟨let ⟨_,h1,h2⟩:=o.ex;aaI i hN hv h1 h2 hb.u hd hcd⟩
theorem d8{c:Expr}{a b:List Stmt}{ea eb:bO}(hc:Lh X C c t)(ha:fM X C a ea)(hb:fM X C b eb):Gm X C (.If c a b pos) (gK t ea eb):=⟨(aew hc.u ha.u hb.u).imp λD σ H h=>by
 obtain⟨Pr,F,env,r,f⟩:=h;obtain⟨k,aJ,e1,f1⟩:=cZ f;refine⟨Pr,F,env,aJ,k,r,e1,λH1 F1 r1 s1=>?_⟩;split at f1
 rename_i hk;rw[if_pos hk];exact⟨Pr,F1,aJ,r1,f1.mono s1⟩
 rename_i hk;rw[if_neg hk];exact⟨Pr,F1,aJ,r1,f1.mono s1⟩⟩
theorem dU(h:JD X C es r):Vs X C (.List es pos) (cM r):=⟨Ev.Mg h.u⟩
theorem cU  : fM X C [] cT:=⟨Ev.RP ⟩
theorem mq(G:Good X C)(h:SX X C x a):SXI X C tg x (jn a):=⟨Wn G.K h.u⟩
theorem jE{b:Bool}:SX X C (.Constant (.bool b) j pos) (jR (.bl b)):=⟨Ev.aev ⟩
theorem xx{elt tg iter:Expr}(N')(lo)(ok:mJ X scope N')(G:Good X C)(hi:SXI X C tg iter it)(bg:∀X',jQ X scope N' X'->Z0 X' C lo tg g)(bc:∀X',jQ X scope N' X'->Yt X' C ifs cc)(be:∀X',jQ X scope N' X'->SX X' C elt ee)(hs:∀x,foldedSetIterable iter X.env x=pure x:=by intro _;rfl):Vs X C (.ListComp elt [⟨tg,iter,ifs,0⟩] scope pos) (gY lo N'.length it g cc ee):=⟨Ev.ag4 N' lo ok G hi.u (λX1 h1=>(bg X1 h1).u) (λX1 h1=>(bc X1 h1).u) (λX1 h1=>(be X1 h1).u) hs⟩
theorem iY(G:Good X C)(hm:X.mg "len"=none)(ha:BL X C [e] ea)(hg:Gl X "len":=by rfl)(he:Qt e X.env:=by rfl):SX X C (.Call (.Name "len" p) [e] [] pos) (au d7 ea):=⟨uG (by rw[<-G.K];exact U3) acQ hg hm PySem.boot_len ha.u (by decide) (by decide) he rfl⟩
theorem jD(h:SX X C e a)(he:∀whole,isTrue e X.env whole=(do let v <-whole;standAt e.pos;holding [v] (truthy v)):=by intro _;rfl):Lh X C e (fL a):=⟨(aaP h.u he).imp λσ H Q hq=>Ly hq⟩
theorem bT{lo:Nat}:Yu X C lo [] cG:=⟨Ev.RZ ⟩
theorem eE{lo:Nat}{k:Nat}(G:Good X C)(h:Yu X C lo es gs)(hn:(assignEach es X.env).length=m:=by rfl)(hst:(assignEach es X.env).findIdx? (·.1)=none:=by rfl):Z0 X C lo (.Tuple es k pos) (cF m gs):=⟨Wo G.calm G.K h.u hn hst⟩
theorem lQ:Yt X C [] fK:=⟨Ev.RX ⟩
theorem oZ{tg iter:Expr}(G:Good X C)(hi:SXI X C tg iter it)(hg:Z0 X C 0 tg g)(hb:fM X C body bs)(hp:PassesOwn (model X.prog X.w) X.A X.env X.xe:=by exact PassesOwn.never)(hs:∀x,foldedSetIterable iter X.env x=pure x:=by intro _;rfl):Gm X C (.For tg iter body [] pos) (iW it g bs):=⟨Wj hp G.calm hi.u hg.u hb.u hs⟩
theorem p6(o:Cm X C op g)(ha:SX X C x a)(hb:Ny X C y b)(hm:behindInMarks op y=false:=by rfl):Lh X C (.Compare x [op] [y] pos) (fL (aO g a b)):=⟨let ⟨_,h1,h2⟩:=o.ex;Wg h1 h2 ha.u hb.u hm⟩
theorem jC{pos':Pos}(i)(he:Vs X C e a)(hnd:jm X.N=true:=by rfl)(hfx:C.fx i=none:=by rfl)(hi:X.N[i]?=some n:=by rfl)(hx:Loc X.env.scope n:=by first|exact Or.inl rfl|exact Or.inr rfl)(hs:swapsWith e (some (.Name n pos')) pos.line X.env=pure false:=by rfl)(hf:X.fn n=true\/X.env.scope.names.lookup n=some .local:=by first|exact .inl rfl|exact .inr rfl):Gm X C (.Assign [.Name n pos'] e pos) (dF i a):=⟨Wi (fO hnd) hi hx hfx he.u hs hf⟩
theorem gk(G:Good X C)(hm:X.mg "tuple"=none)(ha:BL X C [e] ea)(hg:Gl X "tuple":=by rfl)(he:Qt e X.env:=by rfl):SX X C (.Call (.Name "tuple" p) [e] [] pos) (au cV ea):=⟨wG (by rw[<-G.K];exact By) UL hg hm (by decide +kernel) ha.u (by decide) (by decide) he rfl⟩
theorem mL(G:Good X C)(ha:SX X C x a)(hb:Ny X C y b)(hs:vG y:=by intro _ _;rfl):SX X C (.Subscript x y pos) (aO fj a b):=⟨aet G.K ha.u hb.u hs⟩
theorem gH(i)(o:Cm X C op g)(hb:Ny X C y b)(hN:X.N[i]?=some n:=by rfl)(hv:vM X.env.scope n:=by first|exact Or.inl rfl|exact Or.inr (Or.inl rfl)|exact Or.inr (Or.inr rfl))(hm:behindInMarks op y=false:=by rfl)(hd:lK n:=by decide)(hcd:vJ n:=by decide):Lh X C (.Compare (.Name n px) [op] [y] pos) (fL (aB g i b)):=⟨by
 obtain⟨r,h1,h2⟩:=o.ex;exact(Ml h1 (jb hN hv hd hcd) hb.u hm).imp λσ H Q h=>rM h2 σ H _<|Ly h⟩
theorem du(he:SX X C e a)(hg:Z0 X C 0 tg g)(hs:swapsWithSole [tg] e pos.line X.env=pure false:=by rfl)(hw:swappedStores [tg] e X.env=pure none:=by rfl)(h1:(assignEach [tg] X.env).map (·.2)=[assign tg X.env]:=by rfl):Gm X C (.Assign [tg] e pos) (aW a g):=⟨(aaV he.u hg.u hs hw h1).imp λD σ H h=>acV h⟩
theorem oF(h:SX X C e a):SXP X C (some e) (Gv a):=⟨(Wx h.u).imp λσ H Q hq=>by
 obtain⟨Pr,F,env,env',o,r,e,q⟩:=hq;obtain⟨d,aJ,e1,e2⟩:=aQ e;refine⟨Pr,F,env,aJ,d,r,e1,λv H1 F1 r1 s1 p1=>?_⟩;cases d with
 |int i=>cases e2;exact⟨i,p1,q H1 F1 r1 s1⟩|_=>cases e2⟩
theorem Hm{a:gh}(h:Lh X C x a):Lh X C (.UnaryOp .Not x pos) (zY a):=⟨(aaQ h.u).imp λσ H Q hq=>by
 obtain⟨Pr,F,env,env',b,rl,e,q⟩:=hq;obtain⟨c,aJ,e1,e2⟩:=aQ e;cases e2;exact⟨Pr,F,env,env',c,rl,e1,λH1 F1 r1 s1=>q H1 F1 r1 s1⟩⟩
theorem pG{a:gh}(h:SXW X C e a):Lh X C e a:=⟨Ev.PXW.pt h.u⟩
theorem uT{tg:Expr}(hm:X.mg "range"=none)(ha:JD X C [e] ea)(hl:∀env ds env',ea env=.ok ds env'->ds.length=1)(hg:Gl X "range":=by rfl)(hs:starEach [e] X.env=[(false,eval e X.env)]:=by rfl):SXI X C tg (.Call (.Name "range" p) [e] [] pos) (jj ea):=⟨Kl hg hm ha.u hl hs⟩
theorem qZ(i)(o:Cm X C op g)(hb:Ny X C y b)(hN:X.N[i]?=some n:=by rfl)(hv:vM X.env.scope n:=by first|exact Or.inl rfl|exact Or.inr (Or.inl rfl)|exact Or.inr (Or.inr rfl))(hm:behindInMarks op y=false:=by rfl)(hd:lK n:=by decide)(hcd:vJ n:=by decide):SX X C (.Compare (.Name n px) [op] [y] pos) (aB g i b):=⟨by
 obtain⟨r,h1,h2⟩:=o.ex;exact(Mr h1 (jb hN hv hd hcd) hb.u hm).imp<|rM h2⟩
theorem iK:SX X C (.Constant .none j pos) (jR .non):=⟨Ev.aaJ ⟩
theorem Km(ha:SX X C e a)(hr:BL X C es r)(hs:starEach (e::es) X.env=(false,eval e X.env)::starEach es X.env:=by rfl):BL X C (e::es) (aa a r):=⟨(iw ha.u hr.u hs).imp λσ H Q h=>by
  obtain⟨Pr,F,env,env',ds,rl,e,q⟩:=h;obtain⟨d1,aJ,e1,e2⟩:=aQ e;obtain⟨ds2,dD,e3,e4⟩:=aQ e2;cases e4;refine⟨Pr,F,env,aJ,d1,rl,e1,λv H1 F1 r1 s1 p1=>?_⟩;refine⟨Pr,F1,aJ,env',ds2,r1,e3,λvs H2 F2 r2 s2 p2=>?_⟩;exact q _ H2 F2 r2 (s1.trans s2) ⟨v,vs,rfl,.inl<|Rep.mono s2 d1 v p1,p2⟩⟩
theorem kj(h:SX X C x a):SX X C (.BoolOp op [x] pos) a:=⟨aa6 h.u⟩
theorem nH{apos cpos:Pos}(i)(G:Good X C)(he:SX X C e a)(hN:X.N[i]?=some n:=by rfl)(hv:vM X.env.scope n:=by first|exact Or.inl rfl|exact Or.inr (Or.inl rfl)|exact Or.inr (Or.inr rfl))(hs:swapsWith (.Call (.Attribute (.Name n px) "append" apos) [e] [] cpos) none pos.line X.env=pure false:=by rfl) (hfew:((backTo cpos (starEach [e] X.env)).all (λx=>!x.1)&&(backToKw cpos (keywordEach [] X.env)).all (λx=>x.1.isSome)
   && decide ([e].length+([]:List Keyword).length+(if ([]:List Keyword).isEmpty then 0 else 1)<30))=true:=by rfl) (hbase:attributeBase (.Name n px) "append" X.env (eval (.Name n px) X.env)=eval (.Name n px) X.env:=by rfl) (hline:(apos.endLine == cpos.line)=true:=by rfl) (hst:Qt e X.env:=by rfl) (hplain:(backTo cpos (starEach [] X.env)).any (·.1)=false:=by rfl) (hd:lK n:=by decide) (hcd:vJ n:=by decide):Gm X C (.Expr (.Call (.Attribute (.Name n px) "append" apos) [e] [] cpos) pos) (fU i a):=⟨Wk hN hv he.u G.K hs hfew hbase hline hst hplain hd hcd⟩
theorem wD  : SXP X C none zZ:=⟨Ev.RT ⟩
theorem El{rest:List Expr}(ha:SX X C x a)(hb:SX X C (.BoolOp .And (y::rest) pos) b):SX X C (.BoolOp .And (x::y::rest) pos) (z8 a b):=⟨(aba ha.u hb.u).imp λσ H Q hq=>by
  obtain⟨Pr,F,env,env',k,rl,e,q⟩:=hq;obtain⟨c,aJ,e1,e2⟩:=aQ e;refine⟨Pr,F,env,aJ,c,rl,e1,λv H1 F1 r1 s1 p1=>?_⟩;cases c with
  |bl z=>
   refine⟨z,p1,?_⟩;cases z with
   |true=>exact ae1 ⟨Pr,F1,aJ,env',k,r1,e2,λv2 H2 F2 r2 s2 p2=>q v2 H2 F2 r2 (s1.trans s2) p2⟩|false=>cases e2;exact ae2<|q _ H1 F1 r1 s1 rfl
  |_=>cases e2⟩
theorem Ej{rest:List Expr}{a b:gh}(ha:Lh X C x a)(hb:SXW X C (.BoolOp .Or (y::rest) pos) b):SXW X C (.BoolOp .Or (x::y::rest) pos) (rY a b):=⟨(pw_or ha.u hb.u).imp λσ H Q hq=>by
  obtain⟨Pr,F,env,env',k,rl,e,q⟩:=hq;obtain⟨c,aJ,e1,e2⟩:=aQ e;refine⟨Pr,F,env,aJ,c,rl,e1,λH1 F1 r1 s1=>?_⟩;split at e2
  rename_i hc;rw[if_pos hc];cases e2;exact q H1 F1 r1 s1
  rename_i hc;rw[if_neg hc];exact⟨Pr,F1,aJ,env',k,r1,e2,λH2 F2 r2 s2=>q H2 F2 r2<|s1.trans s2⟩⟩
theorem yU{a:gh}(h:Lh X C x a):SXW X C (.BoolOp .Or [x] pos) a:=⟨pw_or1 h.u⟩
theorem Mi{p q pos:Pos}(hg:Gl X "isinstance")(hm:X.mg "isinstance"=none)(hgT:Gl X xT)(hmT:X.mg xT=none)(hvT:bootBuiltins xT=some (.type T))(hk:∀d,PySem.W.kitOne X.K (.type (VH d)) (.type T)=some (uR d T))(hK:X.K=C.K)(ha:SX X C e a)(hn:xT ≠ "__name__":=by decide)(hd:lK xT:=by decide)(he:starEach [e,.Name xT q] X.env=(false,eval e X.env)::starEach [.Name xT q] X.env:=by rfl):SX X C (.Call (.Name "isinstance" p) [e,.Name xT q] [] pos) (PQ (Uk T) a):=⟨by
 refine(Hu (U4 hk) hg hm boot_isinstance (iw ha.u (iw (WR (v:=.ty T) hgT hmT hvT rfl hn hd) wH) he) (by decide) (by decide) he rfl).imp λσ H Q h=>?_;obtain⟨Pr,F,env,env',d,rl,e1,qq⟩:=h;obtain⟨d0,aJ,e2,e3⟩:=aQ e1;obtain⟨e4,rfl⟩:=eZ e3;obtain⟨nc,rfl⟩:=XM e4;refine⟨Pr,F,env,env',d0,rl,e2,λv H1 F1 r1 s1 p1=>⟨d0,v,rfl,nc,?_,qq _ H1 F1 r1 s1 rfl⟩⟩;rw[hK];exact Rep.mono r1.fr d0 v p1⟩
theorem wF{c:Expr}(h:Lh X C c t):Yt X C [c] t:=⟨Wz h.u⟩
theorem Tj(O:Own X.prog X.w X.K X.mg X.base n k ps (spN X.K m g))(G:Good X C)(hr:fX k' X.A)(ha:JD X C (e::es) ea)(hn:∀env ds env',ea env=.ok ds env'->ds.length=m)(hk:Nat.ble k k'=true:=by rfl)(hg:Gl X n:=by rfl)(hdb:lK n:=by decide)(he:starEach (e::es) X.env=(false,eval e X.env)::starEach es X.env:=by rfl)(hpl:(backTo pos (starEach es X.env)).any (·.1)=false:=by rfl):Vs X C (.Call (.Name n p) (e::es) [] pos) (au g ea):=⟨by
 obtain⟨f,fd,h1,h2,h3,h4⟩:=O;rw[G.K] at h1;have h1':lE X.prog X.w X.K X.mg X.base xg k f fd ps (spN C.K m g):=by rw[G.K];exact h1
 exact Wl h1' (hr.mono<|Qzz hk) hg h2 h3 h4 ha.u hn hdb he hpl⟩
theorem uF{rest:List Expr}{a b:gh}(ha:Lh X C x a)(hb:SXW X C (.BoolOp .And (y::rest) pos) b):SXW X C (.BoolOp .And (x::y::rest) pos) (mD a b):=⟨(pw_and ha.u hb.u).imp λσ H Q hq=>by
  obtain⟨Pr,F,env,env',k,rl,e,q⟩:=hq;obtain⟨c,aJ,e1,e2⟩:=aQ e;refine⟨Pr,F,env,aJ,c,rl,e1,λH1 F1 r1 s1=>?_⟩;split at e2
  rename_i hc;rw[if_pos hc];exact⟨Pr,F1,aJ,env',k,r1,e2,λH2 F2 r2 s2=>q H2 F2 r2<|s1.trans s2⟩
  rename_i hc;rw[if_neg hc];cases e2;exact q H1 F1 r1 s1⟩
theorem yW{x:Str}{u:Value}(d)(hg:Gl X x)(hm:X.mg x=some u)(rv:RelV v u)(hr:∀F,Rep C.K F d v)(hd:lK x:=by decide):SX X C (.Name x pos) (jR d):=⟨(WM hg hm rv hd).imp λσ H Q h=>by
  obtain⟨Pr,F,env,env',d,r,e,q⟩:=h;cases e;exact q _ _ F r (aM.refl F)<|hr F⟩
theorem Lq{apos cpos:Pos}(G:Good X C)(ho:SX X C o a)(he:Ny X C e b)(hbase:attributeBase o "join" X.env (eval o X.env)=eval o X.env:=by rfl)(hs:Qt e X.env:=by rfl) (hfew:((backTo cpos (starEach [e] X.env)).all (λx=>!x.1)&&(backToKw cpos (keywordEach [] X.env)).all (λx=>x.1.isSome)
   && decide ([e].length+([]:List Keyword).length+(if ([]:List Keyword).isEmpty then 0 else 1)<30))=true:=by rfl) (hline:(apos.endLine == cpos.line)=true:=by rfl) (hplain:(backTo cpos (starEach [] X.env)).any (·.1)=false:=by rfl):SX X C (.Call (.Attribute o "join" apos) [e] [] cpos) (aO qK a b):=⟨Ws G.K ho.u he.u hbase hs hfew hline hplain⟩
theorem YF{lo hi:Option Expr}(G:Good X C)(ha:SX X C x a)(hl:SXP X C lo el)(hh:SXP X C hi eh):SX X C (.Subscript x (.Slice lo hi none p2) pos) (zX a el eh):=⟨aeq G.K ha.u hl.u hh.u⟩
theorem rD{a:gh}(h:Lh X C x a):SXW X C (.BoolOp .And [x] pos) a:=⟨pw_and1 h.u⟩
theorem Z6(ha:SX X C x a):SX X C (.UnaryOp .USub x pos) (PQ acu a):=⟨aep Q0 aaf ha.u⟩
theorem JL(o:Cm X C op g)(ha:SX X C x a)(hb:Ny X C y b)(hm:behindInMarks op y=false:=by rfl):SX X C (.Compare x [op] [y] pos) (aO g a b):=⟨let ⟨_,h1,h2⟩:=o.ex;aaN h1 h2 ha.u hb.u hm⟩
theorem RW  : SXL X C [] aj:=⟨Ev.Wm ⟩
theorem Xd{a:dZ}(h:SXL X C es a):Vs X C (.List es pos) (cM a):=⟨Ev.Mg h.u.go⟩
theorem QK(i)(G:Good X C)(hb:Ny X C y b)(hN:X.N[i]?=some n:=by rfl)(hv:vM X.env.scope n:=by first|exact Or.inl rfl|exact Or.inr (Or.inl rfl)|exact Or.inr (Or.inr rfl))(hs:Qm y:=by intro _ _;rfl)(hd:lK n:=by decide)(hcd:vJ n:=by decide):SX X C (.Subscript (.Name n px) y pos) (aB kY i b):=⟨R3 i G.u1 hN hv hb.u hs hd hcd⟩
theorem Z5(ha:SX X C x a):SX X C (.Subscript x (.Slice none none (some (.UnaryOp .USub (.Constant (.int 1) k p4) p3)) p2) pos) (ZK a):=⟨by
 refine(aa5 ha.u<|Y9 Q0<|Sy).imp λσ H Q hq=>?_;obtain⟨Pr,F,env,env',d,r,e,q⟩:=hq;obtain⟨z,aJ,e1,e2⟩:=aQ e;obtain⟨e3,rfl⟩:=eZ e2;cases z with
 |str z=>cases e3;refine⟨Pr,F,env,env',.str z,r,e1,λv H1 F1 r1 s1 p1=>?_⟩;obtain⟨rfl,hz⟩:=p1;refine⟨1,rfl,strOf z,rfl,by rw[fQ];exact hz,rfl,q _ H1 F1 r1 s1 ⟨by simp[strOf],by rw[Qzy];exact hz⟩⟩|_=>cases e3⟩
theorem Oq  : Vs X C (.Dict [] [] pos) z6:=⟨Ev.RV ⟩
theorem BW(G:Good X C)(hm:X.mg "sorted"=none)(ha:BL X C [e] ea)(hg:Gl X "sorted":=by rfl)(he:Qt e X.env:=by rfl):SX X C (.Call (.Name "sorted" p) [e] [] pos) (au iB ea):=⟨Ot G.K G.calm hg hm ha.u he rfl⟩
theorem sZ{rest:List Expr}(ha:SX X C x a)(hb:SX X C (.BoolOp .Or (y::rest) pos) b):SX X C (.BoolOp .Or (x::y::rest) pos) (pP a b):=⟨(aeA ha.u hb.u).imp λσ H Q hq=>by
  obtain⟨Pr,F,env,env',k,rl,e,q⟩:=hq;obtain⟨c,aJ,e1,e2⟩:=aQ e;refine⟨Pr,F,env,aJ,c,rl,e1,λv H1 F1 r1 s1 p1=>?_⟩;cases c with
  |bl z=>
   refine⟨z,p1,?_⟩;cases z with
   |true=>cases e2;exact ae1<|q _ H1 F1 r1 s1 rfl|false=>exact ae2 ⟨Pr,F1,aJ,env',k,r1,e2,λv2 H2 F2 r2 s2 p2=>q v2 H2 F2 r2 (s1.trans s2) p2⟩
  |_=>cases e2⟩
theorem Vx(G:Good X C)(hm:X.mg "list"=none)(ha:BL X C [e] ea)(hg:Gl X "list":=by rfl)(he:Qt e X.env:=by rfl):SX X C (.Call (.Name "list" p) [e] [] pos) (au zM ea):=⟨wG (by rw[<-G.K];exact K7 G.calm) Yc hg hm (by decide +kernel) ha.u (by decide) (by decide) he rfl⟩
theorem ad1{elt tg iter:Expr}(N'){spos py:Pos}(lo)(i)(ok:mJ X scope N')(G:Good X C)(hi:SXI X C tg iter it)(bg:∀X',jQ X scope N' X'->Z0 X' C lo tg g)(bc:∀X',jQ X scope N' X'->Yt X' C ifs cc)(be:∀X',jQ X scope N' X'->SX X' C elt ee)(hnd:jm X.N=true:=by rfl)(hfx:C.fx i=none:=by rfl)(hy:X.N[i]?=some n:=by rfl)(hx:Loc X.env.scope n:=by first|exact Or.inl rfl|exact Or.inr rfl)(hsw:swapsWith (.ListComp elt [⟨tg,iter,ifs,0⟩] scope pos) (some (.Name n py)) spos.line X.env=pure true:=by rfl)(hf:X.fn n=true\/X.env.scope.names.lookup n=some .local:=by first|exact .inl rfl|exact .inr rfl)(hs:∀x,foldedSetIterable iter X.env x=pure x:=by intro _;rfl):Gm X C (.Assign [.Name n py] (.ListComp elt [⟨tg,iter,ifs,0⟩] scope pos) spos) (dF i (gY lo N'.length it g cc ee)):=⟨Ev.agR N' lo i ok G hi.u (λX1 h1=>(bg X1 h1).u) (λX1 h1=>(bc X1 h1).u) (λX1 h1=>(be X1 h1).u) hnd hfx hy hx hsw hf hs⟩
theorem NP(G:Good X C)(hm:X.mg "divmod"=none)(ha:BL X C [e,e2] ea)(hg:Gl X "divmod":=by rfl)(he:starEach [e,e2] X.env=(false,eval e X.env)::starEach [e2] X.env:=by rfl)(hpl:(backTo pos (starEach [e2] X.env)).any (·.1)=false:=by rfl):SX X C (.Call (.Name "divmod" p) [e,e2] [] pos) (au uV ea):=⟨uG Jo Qh hg hm (by decide +kernel) ha.u (by decide) (by decide) he hpl⟩
theorem Hn(h:Vs X C e a):Gm X C (.Return (some e) pos) (yH a):=⟨(Ko h.u).imp λD σ H hq=>by
 obtain⟨Pr,F,env,r,f⟩:=hq;obtain⟨d,aJ,e1,f1⟩:=cZ f;exact⟨Pr,F,env,aJ,d,r,e1,λv H1 F1 r1 s1 p1=>f1 v σ H1 F1 r1 s1 p1⟩⟩
theorem afk{lo:Nat}(i)(h:SX X C ix ev)(hN:X.N[i]?=some n:=by rfl)(hv:vM X.env.scope n:=by first|exact Or.inl rfl|exact Or.inr (Or.inl rfl)|exact Or.inr (Or.inr rfl)) (ha:∀v,assign (.Subscript (.Name n px) ix pos) X.env v=(do
   let ov <-holding [v] (eval (.Name n px) X.env)
   let iv <-holding [v,ov] (eval ix X.env)
   standAt pos
   holding [v,ov,iv] (setItem ov iv v)
   release [v,ov,iv] []):=by intro _;rfl) (hd:lK n:=by decide) (hcd:vJ n:=by decide):Z0 X C lo (.Subscript (.Name n px) ix pos) (XD i ev):=⟨aaF hN hv h.u ha hd hcd⟩
theorem Vz(G:Good X C)(hm:X.mg "dict"=none)(ha:BL X C [e] ea)(hg:Gl X "dict":=by rfl)(he:Qt e X.env:=by rfl):SX X C (.Call (.Name "dict" p) [e] [] pos) (au zO ea):=⟨wG (by rw[<-G.K];exact Qi G.calm) Yd hg hm (by decide +kernel) ha.u (by decide) (by decide) he rfl⟩
theorem V6{pos':Pos}(i)(G:Good X C)(hk:SX X C k ek)(he:SX X C e a)(hN:X.N[i]?=some n:=by rfl)(hv:vM X.env.scope n:=by first|exact Or.inl rfl|exact Or.inr (Or.inl rfl)|exact Or.inr (Or.inr rfl))(hs:swapsWith e (some (.Subscript (.Name n px) k pos')) pos.line X.env=pure false:=by rfl)(hd:lK n:=by decide)(hcd:vJ n:=by decide):Gm X C (.Assign [.Subscript (.Name n px) k pos'] e pos) (p8 i ek a):=⟨RQ G.u1 hN hv hk.u he.u hs hd hcd⟩
theorem Z7(O:Own X.prog X.w X.K X.mg X.base n k ps (sI X.K m g))(G:Good X C)(hr:fX k' X.A)(hc:Vs X C e1 c)(ha:JD X C es ea)(hn:∀env ds env',ea env=.ok ds env'->ds.length+1=m)(hk:Nat.ble k k'=true:=by rfl)(hg:Gl X n:=by rfl)(hdb:lK n:=by decide)(he:starEach (e1::es) X.env=(false,eval e1 X.env)::starEach es X.env:=by rfl)(hpl:(backTo pos (starEach es X.env)).any (·.1)=false:=by rfl):SX X C (.Call (.Name n p) (e1::es) [] pos) (Nb g c ea):=⟨by
 obtain⟨f,fd,h1,h2,h3,h4⟩:=O;rw[G.K] at h1;have h1':lE X.prog X.w X.K X.mg X.base xg k f fd ps (sI C.K m g):=by rw[G.K];exact h1
 refine(yo h1' (hr.mono<|Qzz hk) hg h2 h3 h4 .nil Hv (iw hc.u ha.u he) hdb he hpl).imp λσ H Q hq=>?_;obtain⟨Pr,F,env,env',d,r,e,q⟩:=hq;obtain⟨x,aJ,u1,u2⟩:=aQ e;obtain⟨ds,dD,u3,u4⟩:=aQ u2;split at u4
 rename_i d1 z' hf;cases u4;refine⟨Pr,F,env,aJ,x,r,u1,λa H1 F1 r1 s1 n1=>?_⟩;obtain⟨o,ho⟩:=n1.own.some;refine⟨upd Pr a o,F1,aJ,env',ds,r1.hold n1 ho,u3,λvs H2 F2 r2 s2 p2=>?_⟩;have ho2:=r2.pr a o aU;have hF2:F2 a=none:=by
  cases z:F2 a with
  |none=>rfl|some w=>have:=r2.dj a w z;rw[aU] at this;cases this
 show sI C.K m g (_::vs++[]) H2 Q E0;rw[Qw6];exact⟨F2,a,vs,x,ds,d,z',rfl,hn _ _ _ u3,r2.fr,hF2,n1.own.mono s2 (by rw[ho2,ho]),p2,hf,λv H3 F3 t1 t2 t3 t4 t5 p3=>q v H3 F3 (r2.acW n1.nP t1 t2 t3 t4) ((s1.trans s2).trans t3) p3⟩
 cases u4⟩
theorem Vy(G:Good X C)(ha:SX X C x a)(hb:SX X C y b)(hc:SX X C z c)(m:M2 X x "get" apos y z pos:=by exact⟨by rfl,by rfl,by rfl,by rfl⟩):SX X C (.Call (.Attribute x "get" apos) [y,z] [] pos) (Fw a b c):=⟨by
 refine(S5 G.u1 ha.u hb.u hc.u m).imp λσ H Q hq=>?_;obtain⟨Pr,F,env,env',d,rl,e,q⟩:=hq;obtain⟨u,aJ,e1,e2⟩:=aQ e;obtain⟨k,dD,e3,e4⟩:=aQ e2;obtain⟨t,K1,e5,e6⟩:=aQ e4;split at e6
 rename_i kvs;obtain⟨e7,rfl⟩:=eZ e6;obtain⟨kk,hk,rfl⟩:=Qw8.mp<|show(rO k).map (λq=>(pO kvs q).getD t)=some d from e7;refine⟨Pr,F,env,aJ,.dct kvs,rl,e1,λvu H1 F1 r1 s1 p1=>?_⟩;obtain⟨z1,a1,ks,rfl,h1,h2⟩:=ie.dct r1.fr<|.inl p1;refine⟨a1,rfl,.inl ⟨ks,h1⟩,Pr,F1,aJ,dD,k,r1,e3,λvk H2 F2 r2 s2 p2=>⟨Pr,F2,dD,env',t,r2,e5,λvt H3 F3 r3 s3 p3=>?_⟩⟩;obtain⟨z2,a2,ks2,ea,h3,h4⟩:=ie.dct r3.fr<|.inl<|Rep.mono (s2.trans s3) _ _ p1;cases ea;cases T3 hk (.inl (Rep.mono s3 _ _ p2):ie C.K F3 H3 k vk);refine⟨vQ ks2 kk,.inl ⟨ks2,kk,h3,rfl,rfl⟩,?_⟩;rcases h4.val kk with ⟨g1,g2⟩|⟨d',v',g1,g2,g3⟩
 rw[g2];rw[g1] at q;exact q _ H3 F3 r3 ((s1.trans s2).trans s3) p3
 rw[g2];rw[g1] at q;exact q _ H3 F3 r3 ((s1.trans s2).trans s3) g3
 cases e6⟩
theorem QH{lo hi:Option Expr}(G:Good X C)(ha:SX X C x a)(hl:SXP X C lo el)(hh:SXP X C hi eh):SX X C (.Subscript x (.Slice lo hi none p2) pos) (Ja a el eh):=⟨by
 have h:=Ht (pos:=pos) (p2:=p2) (Nv.or (Nv.or Ma J9)<|Nv.or (Nv.or J9 Rh) aay) ha.u hl.u hh.u;rw[G.K] at h;refine h.imp λσ H Q hq=>?_;obtain⟨Pr,F,env,env',d,r,e,q⟩:=hq;obtain⟨x,aJ,e1,e2⟩:=aQ e;obtain⟨l,dD,e3,e4⟩:=aQ e2;obtain⟨u,K1,e5,e6⟩:=aQ e4;obtain⟨e7,rfl⟩:=eZ e6;refine⟨Pr,F,env,aJ,x,r,e1,λv H1 F1 r1 s1 p1=>⟨Pr,F1,aJ,dD,l,r1,e3,λH2 F2 r2 s2=>⟨Pr,F2,dD,env',u,r2,e5,λH3 F3 r3 s3=>?_⟩⟩⟩;have p3:=Rep.mono (s2.trans s3) _ _ p1;have q3:=λv H' F' r' s' p'=>q v H' F' r' (((s1.trans s2).trans s3).trans s') p';cases x with
 |str z=>cases e7;obtain⟨rfl,hz⟩:=p1;exact .inr<|.inr ⟨z,rfl,hz,q3 _ H3 F3 r3 (aM.refl _) ⟨rfl,Qq4 (UG _ _ _) hz⟩⟩|tup xs=>exact .inr<|.inl<|aaz r3 p3 (by rw[Uj];exact e7) q3|lst xs=>exact .inl<|Ri r3 (.inl p3) e7 q3|arr xs=>exact .inl<|Ri r3 (.inl p3) e7 q3|_=>cases e7⟩
theorem Uc{elts:List Expr}{k:Nat}{tp p:Pos}(G:Good X C)(hm:X.mg "zip"=none)(ha:JD X C [e,e2] ea)(hg:Gl X "zip":=by rfl)(hs:starEach [e,e2] X.env=(false,eval e X.env)::starEach [e2] X.env:=by rfl)(hs2:starEach [e2] X.env=[(false,eval e2 X.env)]:=by rfl):SXI X C (.Tuple elts k tp) (.Call (.Name "zip" p) [e,e2] [] pos) (zW ea):=⟨by
 have h:=aaX (elts:=elts) (k:=k) (tp:=tp) (p:=p) (pos:=pos) hg hm ha.u hs hs2;rw[G.K] at h;refine h.imp λσ H R hq=>?_;obtain⟨Pr,F,env,env',ds,r,e,q⟩:=hq;obtain⟨as,aJ,e1,e2⟩:=aQ e;refine⟨Pr,F,env,aJ,as,r,e1,λvs H1 F1 r1 s1 p1=>?_⟩;split at e2
 rename_i xs ys;cases e2;obtain⟨v,w,rfl,p2,v2,w2,rfl,p3,p4⟩:=p1;cases p4;obtain⟨z1,a1,us,rfl,h1,h2⟩:=p2;obtain⟨z2,a2,ws,rfl,h3,h4⟩:=p3;have l1:=h2.length;have l2:=h4.length;refine⟨a1,a2,rfl,⟨us,aM.tupK r1.fr h1⟩,⟨ws,aM.tupK r1.fr h3⟩,q _ H1 F1 r1 s1 λi H2 s2=>⟨λ_ ei=>⟨us,ws,aM.tupK s2 h1,aM.tupK s2 h3,?_⟩,λd hd=>?_⟩⟩
 have:(vN xs ys).length=min xs.length ys.length:=by unfold vN;rw[Qq3,List.length_zip]
 omega
 unfold vN at hd;rw[Qxz] at hd;obtain⟨⟨c,j⟩,hc,rfl⟩:=Qw8.mp hd;obtain⟨g1,g2⟩:=List.getElem?_zip_eq_some.mp hc;obtain⟨v1,k1,k2⟩:=Ef h2 g1;obtain⟨v2,k3,k4⟩:=Ef h4 g2;refine⟨⟨us,ws,v1,v2,aM.tupK s2 h1,aM.tupK s2 h3,k1,k3⟩,λy H3 hy=>.inr ?_⟩;obtain⟨p,x',y',m1,m2,m3,rfl,rfl⟩:=hy;have n1:=m1 us<|aM.tupK s2 h1;have n2:=m2 ws<|aM.tupK s2 h3;rw[k1] at n1;rw[k3] at n2;cases n1;cases n2;exact⟨p,_,_,m3,rfl,rfl,rfl,by show 2<=sizeLine;decide,_,_,rfl,k2,_,_,rfl,k4,rfl⟩
 cases e2⟩
theorem Q8(o:Cm X C op g)(o':Cm X C op' g')(ha:SX X C x a)(hb:SX X C y b)(hc:SX X C z c)(hm:lastMarks [op,op'] [y,z]=false:=by with_unfolding_all rfl):Lh X C (.Compare x [op,op'] [y,z] pos) (fL (Fx g g' a b c)):=⟨by
 obtain⟨r,h1,h2⟩:=o.ex;obtain⟨r',h1',h2'⟩:=o'.ex;refine(R9 h1 h1' ha.u hb.u hc.u hm).imp λσ H Q' hq'=>?_;have hq:=Ly hq';show Rc r r' (tE C a) (tE C b) (tE C c) σ H _;generalize(λ(z:V) H'=>∃b,z=.bl b/\Q' b H')=Q at *;obtain⟨Pr,F,env,env',d,rl,e,q⟩:=hq;obtain⟨u,aJ,e1,e2⟩:=aQ e;obtain⟨v,dD,e3,e4⟩:=aQ e2;refine⟨Pr,F,env,aJ,u,rl,e1,λvu H1 F1 r1 s1 p1=>⟨Pr,F1,aJ,dD,v,r1,e3,λvv H2 F2 r2 s2 p2=>?_⟩⟩;split at e4
 rename_i k hg;refine h2 Pr F2 dD σ H2 u v (.bl k) vu vv _ r2 (.inl<|Rep.mono s2 _ _ p1) (.inl p2) hg λvz H3 F3 r3 s3 p3=>⟨k,p3,?_⟩;cases k with
 |false=>rw[if_neg Qx1] at e4 ⊢;cases e4;exact q _ H3 F3 r3 ((s1.trans s2).trans s3) rfl|true=>rw[if_pos rfl] at e4 ⊢;obtain⟨t,K1,e5,e6⟩:=aQ e4;obtain⟨e7,rfl⟩:=eZ e6;exact⟨Pr,F3,dD,env',t,r3,e5,λvt H4 F4 r4 s4 p4=>h2' Pr F4 env' σ H4 v t d vv vt Q r4 (.inl<|Rep.mono (s3.trans s4) _ _ p2) (.inl p4) e7 λv' H5 F5 r5 s5 p5=>q v' H5 F5 r5 ((((s1.trans s2).trans s3).trans s4).trans s5) p5⟩
 cases e4⟩
theorem aaM{c x y:Expr}(hc:Lh X C c t)(ha:SX X C x a)(hb:SX X C y b):SX X C (.IfExp c x y pos) (afq t a b):=⟨(SJ hc.u ha.u hb.u).imp λσ H Q hq=>by
 obtain⟨Pr,F,env,env',k,rl,e,q⟩:=hq;obtain⟨z,aJ,e1,e2⟩:=aQ e;refine⟨Pr,F,env,aJ,z,rl,e1,λH1 F1 r1 s1=>?_⟩;split at e2
 rename_i hz;rw[if_pos hz];exact⟨Pr,F1,aJ,env',k,r1,e2,λv2 H2 F2 r2 s2 p2=>q v2 H2 F2 r2 (s1.trans s2) p2⟩
 rename_i hz;rw[if_neg hz];exact⟨Pr,F1,aJ,env',k,r1,e2,λv2 H2 F2 r2 s2 p2=>q v2 H2 F2 r2 (s1.trans s2) p2⟩⟩
theorem Hh(m)(G:Good X C)(hc:Lh X C cd t)(hb:fM X C body bs)(hp:PassesOwn (model X.prog X.w) X.A X.env X.xe:=by exact PassesOwn.never):Gm X C (.While cd body [] pos) (fH t bs m):=⟨Ol m hp hc.u hb.u⟩
theorem Wr(ha:SX X C x a):SX X C (.UnaryOp .Not x pos) (ZL a):=⟨(aa7 ha.u).imp λσ H Q hq=>by
 obtain⟨Pr,F,env,env',k,rl,e,q⟩:=hq;obtain⟨c,aJ,e1,e2⟩:=aQ e;refine⟨Pr,F,env,aJ,c,rl,e1,λv H1 F1 r1 s1 p1=>?_⟩;cases c with
 |bl z=>cases e2;exact⟨z,p1,q _ H1 F1 r1 s1 rfl⟩|_=>cases e2⟩
theorem Bl  : Gm X C (.Continue pos) (λenv=>.ct env):=⟨Ev.Ek ⟩
end
open PySem PySem.W PySem.Calls PyProof.Rows
section
variable{N:Nat}{r:Nat->Nat}
noncomputable abbrev kK(r:Nat->Nat)(p:Array Nat)(i:Nat):Nat:=r (p.getD i 0)
def kUp(r:Nat->Nat)(p:Array Nat)(k:Nat):Prop:=∀i j,i<=j->j<k->kK r p i<=kK r p j
structure KB(N:Nat)(p:Array Nat):Prop where
 pos:1<=N
 perm:p.Perm (List.range N).toArray
theorem KB.size(h:KB N p):p.size=N:=by have:=h.perm.size_eq;simpa using this
theorem KB.lt(h:KB N p)(k):p.getD k 0<N:=by
 by_cases hk:k<p.size;have e:p.getD k 0=p[k]:=by simp[Array.getD,hk]
 rw[e];have hm:p[k]∈p.toList:=by simp
 have:=(Array.perm_iff_toList_perm.mp h.perm).mem_iff.mp hm;simpa using this;have e:p.getD k 0=0:=by simp[Array.getD,hk]
 rw[e];exact h.pos
end
open PySem PySem.Spec PyProof.Rows PySem.Calls PySem.W L2
noncomputable def ltB:D->D->Option Bool
 |.bl a,.bl b=>some (decide (b2i a<b2i b))|.int a,.int b=>some (decide (a<b))|.str a,.str b=>some (decide (a<b))|_,_=>none
noncomputable def Xh:List D->List D->Option Bool
 |[],[]=>some false|[],_::_=>some true|_::_,[]=>some false
 |x::xs,y::ys=>match bh 40 x y with
  |some true=>Xh xs ys|some false=>ltB x y|none=>none
noncomputable def Zq(t:Bool):D->D->Option Bool
 |.int a,.int b=>some (decide (a<b))|.str a,.str b=>some (decide (a<b))|.tup xs,.tup ys=>if t=true then Xh xs ys else none|_,_=>none
noncomputable def Zo(t:Bool):List D->List D->Option Bool
 |[],[]=>some false|[],_::_=>some true|_::_,[]=>some false
 |x::xs,y::ys=>match bh 57 x y with
  |some true=>Zo t xs ys|some false=>Zq t x y|none=>none
noncomputable def Vr(t:Bool):D->D->Option Bool
 |.tup xs,.tup ys=>Zo t xs ys|_,_=>none
noncomputable abbrev oO:D->D->Option Bool:=Vr true
theorem abW:∀{x y} {b},Zq false x y=some b->Zq true x y=some b:=by intro x y b h;cases x<;>cases y<;>simp[Zq,reduceCtorEq] at h ⊢<;>first|exact h|(simp at h)
theorem Tu:∀{xs ys} {b},Zo false xs ys=some b->Zo true xs ys=some b
 |[],[],_,h=>h|[],_::_,_,h=>h|_::_,[],_,h=>h
 |x::xs,y::ys,b,h=>by
  unfold Zo at h ⊢;split at h;exact Tu h;exact abW h;cases h
theorem abU(h:Vr false x y=some b):oO x y=some b:=by cases x<;>cases y<;>simp[Vr,reduceCtorEq] at h;exact Tu h
noncomputable def acd:D->Bool
 |.tup (.tup _::_)=>true|_=>false
noncomputable def acf:D->Bool
 |.tup (.int _::_)=>true|_=>false
noncomputable def ace:D->Bool
 |.tup (.str _::_)=>true|_=>false
noncomputable def PK(x:D):List D->List D
 |[]=>[x]|y::r=>if oO y x=some true then y::PK x r else x::y::r
noncomputable def kO:List D->List D
 |[]=>[]|x::r=>PK x (kO r)
noncomputable def okP:Nat->D->Bool
 |n+1,.tup xs=>xs.all (okP n)|_+1,.str _=>true|_+1,.int _=>true|_+1,.bl _=>true|_+1,.non=>true|_,_=>false
def qX(ds:List D):Prop:=ds.length<2\/((ds.length<=1000/\∀d∈ds,okP 60 d=true)/\((((∀d∈ds,acf d=true)\/∀d∈ds,ace d=true)/\∀x∈ds,∀y∈ds,Vr false x y≠none)\/(∀d∈ds,acd d=true)/\∀x∈ds,∀y∈ds,oO x y≠none)/\(∀x∈ds,oO x x=some false)/\
 (∀x∈ds,∀y∈ds,∀z∈ds,oO x y=some true->oO y z=some true->oO x z=some true)/\ds.Pairwise λx y=>oO x y=some true\/oO y x=some true)
instance (ds:List D):Decidable (qX ds):=by unfold qX;exact inferInstance
theorem wQ(x):∀l,(PK x l).Perm (x::l)
 |[]=>.refl _
 |y::r=>by
  unfold PK;split;exact((wQ x r).cons y).trans<|.swap x y r;exact .refl _
theorem lV:∀l,(kO l).Perm l
 |[]=>.refl _|x::r=>(wQ x<|kO r).trans<|(lV r).cons x
structure nA(S:D->Prop):Prop where
 irr:∀x,S x->oO x x=some false
 tr:∀x y z,S x->S y->S z->oO x y=some true->oO y z=some true->oO x z=some true
 tot:∀x y,S x->S y->x=y\/oO x y=some true\/oO y x=some true
theorem nA.ahH(o:nA S)(hx:S x)(hy:S y)(h:oO x y=some true):oO y x≠some true:=λh'=>by
 have:=o.tr x y x hx hy hx h h';rw[o.irr x hx] at this;cases this
theorem nA.ahI(o:nA S)(hx:S x)(hy:S y)(h:oO y x≠some true)(h':oO x y≠some true):x=y:=by
 rcases o.tot x y hx hy with e|e|e;exact e;exact absurd e h';exact absurd e h
theorem nA.ag6(o:nA S)(hx:S x)(hy:S y)(hz:S z)(h:oO y x≠some true)(h':oO z y≠some true):oO z x≠some true:=λc=>by
 rcases o.tot x y hx hy with e|e|e;subst e;exact h' c;exact h'<|o.tr z x y hz hx hy c e;exact h e
theorem xB(o:nA S)(hx:S x):∀l,(∀y∈l,S y)->l.Pairwise (λa b=>oO b a≠some true)->(PK x l).Pairwise (λa b=>oO b a≠some true)
 |[],_,_=>List.pairwise_singleton _ _
 |y::r,hl,h=>by
  unfold PK;have h1:=Qz3.mp h;have hy:=hl y<|Qqj ..;have hr:=λz hz=>hl z<|Qqq _ hz;split;rename_i c;refine Qz3.mpr ⟨λz hz=>?_,xB o hx r hr h1.2⟩;rcases Qq7.mp ((wQ x r).mem_iff.mp hz) with rfl|hz;exact o.ahH hy hx c;exact h1.1 z hz;rename_i c;refine Qz3.mpr ⟨λz hz=>?_,h⟩;rcases Qq7.mp hz with rfl|hz;exact c;exact o.ag6 hx hy (hr z hz) c<|h1.1 z hz
theorem uw(o:nA S):∀l,(∀y∈l,S y)->(kO l).Pairwise (λa b=>oO b a≠some true)
 |[],_=>.nil|x::r,h=>xB o (h x<|Qqj ..) _ (λy hy=>h y<|Qqq _<|(lV r).mem_iff.mp hy)<|uw o r λy hy=>h y<|Qqq _ hy
theorem DK(o:nA S)(h:∀y∈l,S y)(p:l'.Perm l)(s:l'.Pairwise (λa b=>oO b a≠some true)):l'=kO l:=by refine List.Perm.eq_of_pairwise (λa b ha hb x y=>o.ahI (h a<|p.mem_iff.mp ha) (h b<|(lV l).mem_iff.mp hb) x y) s (uw o l h)<|p.trans (lV l).symm
theorem nA.of{ds:List D}(h1:∀x∈ds,oO x x=some false)(h2:∀x∈ds,∀y∈ds,∀z∈ds,oO x y=some true->oO y z=some true->oO x z=some true)
  (h3:ds.Pairwise λx y=>oO x y=some true\/oO y x=some true):nA (·∈ ds):=by
 refine⟨h1,λx y z a b c=>h2 x a y b z c,λx y hx hy=>?_⟩;obtain⟨i,hi,rfl⟩:=List.mem_iff_getElem.mp hx;obtain⟨j,hj,rfl⟩:=List.mem_iff_getElem.mp hy;have hp:=List.pairwise_iff_getElem.mp h3;rcases Nat.lt_trichotomy i j with c|c|c;exact .inr<|hp i j hi hj c;subst c;exact .inl rfl;exact .inr<|(hp j i hj hi c).symm
theorem wY{α:Type}{p q:α->Bool}:∀(l:List α),(∀x∈l,p x=true->q x=true)->(∃x∈l,q x=true/\p x=false)->l.countP p<l.countP q
 |[],_,h=>by obtain⟨x,hx,_⟩:=h;cases hx
 |a::l,h,e=>by
  have ha:=h a<|Qqj ..;have hl:=λx hx=>h x<|Qqq _ hx;obtain⟨x,hx,e1,e2⟩:=e;rw[List.countP_cons,List.countP_cons];rcases Qq7.mp hx with rfl|hx;have:=List.countP_mono_left hl;rw[e1,e2];simp;omega;have:=wY l hl ⟨x,hx,e1,e2⟩;cases c:p a with
  |true=>rw[ha c];simp;omega|false=>simp;omega
noncomputable def Rx(ds:List D)(i:Nat):Nat:=ds.countP λy=>oO y (ds.getD i .non) == some true
theorem Rw(o:nA (·∈ ds))(hi:i<ds.length)(hj:j<ds.length):(oO (ds.getD i .non) (ds.getD j .non)=some true)↔Rx ds i<Rx ds j:=by
 have mi:ds.getD i .non∈ds:=by rw[Qwv,Qqv hi];exact Qx9 ..
 have mj:ds.getD j .non∈ds:=by rw[Qwv,Qqv hj];exact Qx9 ..
 constructor;intro h;refine wY ds (λx hx e=>?_) ⟨_,mi,?_,?_⟩;simp[beq_iff_eq] at e ⊢;exact o.tr _ _ _ hx mi mj e h;simpa using h;rw[o.irr _ mi];rfl;intro h;rcases o.tot _ _ mi mj with e|e|e;unfold Rx at h;rw[e] at h;exact absurd h<|Qz0 _;exact e;have:=wY (p:=λy=>oO y (ds.getD j .non) == some true) (q:=λy=>oO y (ds.getD i .non) == some true) ds (λx hx c=>by simp[beq_iff_eq] at c ⊢;exact o.tr _ _ _ hx mj mi c e) ⟨_,mj,by simpa using e,by rw[o.irr _ mj];rfl⟩;unfold Rx at h;omega
end Ev
namespace ST
open PySem PyProof.Rows
noncomputable def iQ:Bool->Keyed->Array Keyed->Nat->Nat->Nat->StateT SortSt Sem (Option Nat):=sortPriv% PySem.Builtin.gallop
noncomputable def byd(left:Bool)(key:Keyed)(arr:Array Keyed)(base i:Nat):StateT SortSt Sem (Option Bool):=do
 let x <-elem' arr (base+i);if left then lt' x key else return (<-lt' key x).map (!·)
noncomputable def MN(left:Bool)(key:Keyed)(arr:Array Keyed)(base n lo hi:Nat):StateT SortSt Sem (Option Nat):=do
 let mut lo:=lo
 let mut hi:=hi
 for _ in [0:n] do
  if lo ≥ hi then break
  let m:=lo+(hi - lo) / 2
  let some more <-byd left key arr base m|return none
  if more then lo:=m+1 else hi:=m
 return some hi
theorem acq(left)(key)(arr)(base n hint):iQ left key arr base n hint=(do
 let some right <-byd left key arr base hint|return none
 let mut lastofs:=0
 let mut ofs:=1
 if right then
  for _ in [0:n] do
   if ofs ≥ n - hint then break
   let some more <-byd left key arr base (hint+ofs)|return none
   if !more then break
   lastofs:=ofs
   ofs:=2*ofs+1
  MN left key arr base n (hint+lastofs+1) (hint+min ofs (n - hint))
 else
  for _ in [0:n] do
   if ofs ≥ hint+1 then break
   let some found <-byd left key arr base (hint - ofs)|return none
   if found then break
   lastofs:=ofs
   ofs:=2*ofs+1
  MN left key arr base n (hint+1 - min ofs (hint+1)) (hint - lastofs)):=rfl
section
variable{prog:Program}{w:World}{A:Around}{E:Value->Shared->Prop}{s:Shared}{kd:SortKind}{r:Keyed->Nat}{a₀:Array Keyed}
def NB(prog:Program)(w:World)(A:Around)(E:Value->Shared->Prop)(s:Shared)(kd:SortKind)(r:Keyed->Nat)(a₀:Array Keyed):Prop:=
 ∀x y,x∈a₀->y∈a₀->∀(st:SortSt) (Q:Option Bool->SortSt->Prop),kindOf st=kd->Q (some (decide (r x<r y))) st->wpS (model prog w) A E s (lt' x y) Q st
theorem eY{st:SortSt}(hi:i<arr.size)(h:Q arr[i] st):wpS (model prog w) A E s (elem' arr i) Q st:=by rw[elem'_eq,Array.getElem?_eq_getElem hi];exact wpS_pure h
noncomputable def bB(left:Bool)(r:Keyed->Nat)(key x:Keyed):Bool:=if left then decide (r x<r key) else !decide (r key<r x)
theorem Lw(C:NB prog w A E s kd r a₀){st:SortSt}(hk:kindOf st=kd)(hkey:key∈a₀)(tO:∀x∈arr,x∈a₀)(hi:base+i<arr.size)
  (h:Q (some (bB left r key arr[base+i])) st):wpS (model prog w) A E s (byd left key arr base i) Q st:=by
 unfold byd;refine wpS_bind<|eY hi ?_;have hx:=tO _<|Array.getElem_mem hi;cases left with
 |true=>exact C _ _ hx hkey st _ hk h|false=>exact wpS_bind<|C _ _ hkey hx st _ hk<|wpS_pure h
section
variable{left:Bool}{key:Keyed}{arr:Array Keyed}{base n:Nat}{st:SortSt}(C:NB prog w A E s kd r a₀)(hk:kindOf st=kd)(hkey:key∈a₀)(tO:∀x∈arr,x∈a₀)(hb:base+n<=arr.size)
 (B:Nat->Bool) (hB:∀i (h:base+i<arr.size),i<n->bB left r key arr[base+i]=B i) (hm:∀i j,i<=j->j<n->B j=true->B i=true)
include C hk hkey tO hb hB hm
theorem rm{lo hi:Nat}(h1:lo<=hi)(h2:hi<=n)(t:∀i,i<lo->B i=true)(f:∀i,hi<=i->i<n->B i=false)
  (h:∀m,m<=n->(∀i,i<m->B i=true)->(∀i,m<=i->i<n->B i=false)->Q (some m) st):wpS (model prog w) A E s (MN left key arr base n lo hi) Q st:=by
 unfold MN;refine wpS_bind (wpS_forRange (I:=λx c st'=>st'=st/\c.1=none/\c.2.1<=c.2.2/\c.2.2<=n/\c.2.2 - c.2.1+x<=n/\(∀i,i<c.2.1->B i=true)/\∀i,c.2.2<=i->i<n->B i=false)
  ?_ ?_ ⟨rfl,rfl,h1,h2,by(try dsimp only at *);omega,t,f⟩)
 rintro x ⟨c,lo,hi⟩ st' _ hx ⟨rfl,e,q1,q2,q3,q4,q5⟩;cases e;dsimp only at q1 q2 q3 q4 q5 ⊢;by_cases hl:lo ≥ hi;rw[if_pos hl];have e:=Nat.le_antisymm q1 hl;subst e;exact wpS_pure<|wpS_pure<|h lo q2 q4 q5;rw[if_neg hl];have hmid:lo+(hi - lo) / 2<n:=by omega
 refine wpS_bind<|Lw C hk hkey tO (by(try dsimp only at *);omega) ?_;rw[hB _ (by(try dsimp only at *);omega) hmid];cases e:B (lo+(hi - lo) / 2) with
 |true=>exact wpS_pure ⟨rfl,rfl,by(try dsimp only at *);omega,q2,by(try dsimp only at *);omega,λi hi=>hm i _ (by(try dsimp only at *);omega) hmid e,q5⟩
 |false=>
  refine wpS_pure ⟨rfl,rfl,by(try dsimp only at *);omega,by(try dsimp only at *);omega,by(try dsimp only at *);omega,q4,λi hi hn=>?_⟩;cases e':B i with
  |false=>rfl|true=>rw[hm _ i hi hn e'] at e;cases e
 rintro⟨c,lo,hi⟩ st' ⟨rfl,e,q1,q2,q3,q4,q5⟩;cases e;dsimp only at q1 q2 q3 q4 q5 ⊢;have e:lo=hi:=by omega
 subst e;exact wpS_pure<|h lo q2 q4 q5
theorem pW(hh:hint<n)
  (h:∀m,m<=n->(∀i,i<m->B i=true)->(∀i,m<=i->i<n->B i=false)->Q (some m) st):wpS (model prog w) A E s (iQ left key arr base n hint) Q st:=by
 rw[acq];refine wpS_bind<|Lw C hk hkey tO (by(try dsimp only at *);omega) ?_;rw[hB _ (by(try dsimp only at *);omega) hh];have fl:∀i j,i<=j->j<n->B i=false->B j=false:=λi j q1 q2 q3=>by
  cases e:B j with
  |false=>rfl|true=>rw[hm i j q1 q2 e] at q3;cases q3
 cases e:B hint with
 |true=>
  dsimp only;rw[if_pos rfl];refine wpS_bind (wpS_forRange (I:=λx (c:Option (Option Nat)×Nat×Nat) st'=>st'=st/\c.1=none/\c.2.1<c.2.2/\x+1<=c.2.2/\hint+c.2.1<n/\B (hint+c.2.1)=true)
   ?_ ?_ ⟨rfl,rfl,by decide,by decide,hh,e⟩)
  rintro x ⟨c,la,of⟩ st' _ hx ⟨rfl,e,q1,q2,q3,q4⟩;cases e;dsimp only at q1 q2 q3 q4 ⊢;by_cases hl:of ≥ n - hint;rw[if_pos hl];exact wpS_pure<|rm C hk hkey tO hb B hB hm (by(try dsimp only at *);omega) (by(try dsimp only at *);omega) (λi hi=>hm i _ (by(try dsimp only at *);omega) q3 q4) (λi hi hn=>by(try dsimp only at *);omega) h;rw[if_neg hl];refine wpS_bind<|Lw C hk hkey tO (by(try dsimp only at *);omega) ?_;rw[hB _ (by(try dsimp only at *);omega) (by(try dsimp only at *);omega)];cases e:B (hint+of) with
  |true=>exact wpS_pure ⟨rfl,rfl,by(try dsimp only at *);omega,by(try dsimp only at *);omega,by(try dsimp only at *);omega,e⟩|false=>exact wpS_pure<|rm C hk hkey tO hb B hB hm (by(try dsimp only at *);omega) (by(try dsimp only at *);omega) (λi hi=>hm i _ (by(try dsimp only at *);omega) q3 q4) (λi hi hn=>fl _ _ (by(try dsimp only at *);omega) hn e) h
  rintro⟨c,la,of⟩ st' ⟨rfl,e,q1,q2,q3,q4⟩;cases e;dsimp only at q1 q2 q3 q4 ⊢;exact rm C hk hkey tO hb B hB hm (by(try dsimp only at *);omega) (by(try dsimp only at *);omega) (λi hi=>hm i _ (by(try dsimp only at *);omega) q3 q4) (λi hi hn=>by(try dsimp only at *);omega) h
 |false=>
  dsimp only;rw[if_neg (by decide)];refine wpS_bind (wpS_forRange (I:=λx (c:Option (Option Nat)×Nat×Nat) st'=>st'=st/\c.1=none/\c.2.1<c.2.2/\x+1<=c.2.2/\c.2.1<=hint/\B (hint - c.2.1)=false)
   ?_ ?_ ⟨rfl,rfl,by decide,by decide,Qx0 _,e⟩)
  rintro x ⟨c,la,of⟩ st' _ hx ⟨rfl,e,q1,q2,q3,q4⟩;cases e;dsimp only at q1 q2 q3 q4 ⊢;by_cases hl:of ≥ hint+1;rw[if_pos hl];exact wpS_pure<|rm C hk hkey tO hb B hB hm (by(try dsimp only at *);omega) (by(try dsimp only at *);omega) (λi hi=>by(try dsimp only at *);omega) (λi hi hn=>fl _ _ hi hn q4) h;rw[if_neg hl];refine wpS_bind<|Lw C hk hkey tO (by(try dsimp only at *);omega) ?_;rw[hB _ (by(try dsimp only at *);omega) (by(try dsimp only at *);omega)];cases e:B (hint - of) with
  |true=>exact wpS_pure<|rm C hk hkey tO hb B hB hm (by(try dsimp only at *);omega) (by(try dsimp only at *);omega) (λi hi=>hm i _ (by(try dsimp only at *);omega) (by(try dsimp only at *);omega) e) (λi hi hn=>fl _ _ hi hn q4) h|false=>exact wpS_pure ⟨rfl,rfl,by(try dsimp only at *);omega,by(try dsimp only at *);omega,by(try dsimp only at *);omega,e⟩
  rintro⟨c,la,of⟩ st' ⟨rfl,e,q1,q2,q3,q4⟩;cases e;dsimp only at q1 q2 q3 q4 ⊢;exact rm C hk hkey tO hb B hB hm (by(try dsimp only at *);omega) (by(try dsimp only at *);omega) (λi hi=>by(try dsimp only at *);omega) (λi hi hn=>fl _ _ hi hn q4) h
end
end
section
variable{le:Keyed->Keyed->Prop}
structure J(le:Keyed->Keyed->Prop)(X Y out:List Keyed)(i j:Nat):Prop where
 hi:i<=X.length
 hj:j<=Y.length
 perm:out.Perm (X.take i++Y.take j)
 srt:out.Pairwise le
 low:∀x∈out,∀y∈X.drop i++Y.drop j,le x y
theorem J.swap(h:J le X Y out i j):J le Y X out j i:=
 ⟨h.hj,h.hi,h.perm.trans List.perm_append_comm,h.srt,λx hx y hy=>h.low x hx y<|List.perm_append_comm.mem_iff.mp hy⟩
theorem J.push(h:J le X Y out i j)(hX:X.Pairwise le)(hi:i<X.length)(hY:∀y∈Y.drop j,le X[i] y):J le X Y (out++[X[i]]) (i+1) j:=by
 have e:=Qx8 hi;have hXd:=hX.sublist<|List.drop_sublist i X;rw[e,Qz3] at hXd;refine⟨hi,h.hj,?_,?_,λx hx y hy=>?_⟩;rw[List.take_succ_eq_append_getElem hi,Qwk];refine(h.perm.append_right _).trans ?_;rw[Qwk];exact List.perm_append_comm.append_left _;rw[List.pairwise_append];exact⟨h.srt,List.pairwise_singleton _ _,λx hx y hy=>by rw[Qq2.mp hy];exact h.low x hx _<|Qzv _ (by rw[e];exact Qqj ..)⟩;rcases Qww.mp hx with hx|hx;refine h.low x hx y ?_;rw[e];rcases Qww.mp hy with hy|hy;exact Qzv _<|Qqq _ hy;exact Qxx _ hy;rw[Qq2.mp hx];rcases Qww.mp hy with hy|hy;exact hXd.1 y hy;exact hY y hy
theorem J.Em(hX:X.Pairwise le):∀k i out,J le X Y out i j->i+k<=X.length->(∀m (h:m<X.length),i<=m->m<i+k->∀y∈Y.drop j,le X[m] y)->J le X Y (out++(X.drop i).take k) (i+k) j
 |0,i,out,h,_,_=>by rw[List.take_zero,Qw6];exact h
 |k+1,i,out,h,hl,hm=>by
  have hi:i<X.length:=by omega
  have:=J.Em hX k (i+1) _ (h.push hX hi<|hm i hi (Qq1 _) (by omega)) (by omega) λm q1 q2 q3=>hm m q1 (by omega) (by omega);rw[Qx8 hi,List.take_succ_cons];rw[Qwk] at this;have e:i+1+k=i+(k+1):=by omega
  rw[e] at this;exact this
def Good(le:Keyed->Keyed->Prop)(X Y R:List Keyed):Prop:=R.Perm (X++Y)/\R.Pairwise le
theorem Good.swap(h:Good le X Y R):Good le Y X R:=⟨h.1.trans List.perm_append_comm,h.2⟩
theorem J.fin(h:J le X Y out i j)(hp:L.Perm (X.drop i++Y.drop j))(hL:L.Pairwise le):Good le X Y (out++L):=by
 refine⟨?_,?_⟩;refine((h.perm.append_right _).trans<|hp.append_left _).trans ?_;have e1:=List.take_append_drop i X;have e2:=List.take_append_drop j Y;have:(X.take i++Y.take j++(X.drop i++Y.drop j)).Perm ((X.take i++X.drop i)++(Y.take j++Y.drop j)):=by
  rw[Qwk,Qwk];refine List.Perm.append_left _ ?_;rw[<-Qwk,<-Qwk];exact List.perm_append_comm.append_right _
 rw[e1,e2] at this;exact this;rw[List.pairwise_append];exact⟨h.srt,hL,λx hx y hy=>h.low x hx y<|hp.mem_iff.mp hy⟩
theorem qQ{X:List Keyed}(h:X.length<=i):X.drop i=[]:=List.drop_of_length_le h
theorem J.ahy(h:J le X Y out i j)(hX:X.Pairwise le)(hj:j=Y.length):Good le X Y (out++X.drop i++Y.drop j):=by rw[Qwk];refine h.fin (List.Perm.refl _) ?_;rw[qQ (Nat.le_of_eq hj.symm),Qw6];exact hX.sublist<|List.drop_sublist i X
theorem J.fin2(h:J le X Y out i j)(hY:Y.Pairwise le)(hi:i+1=X.length)(hl:∀y∈Y,le y (X[i]'(by omega))):Good le X Y (out++Y.drop j++X.drop i):=by
 rw[Qwk];refine h.fin List.perm_append_comm ?_;have hi':i<X.length:=by omega
 rw[Qx8 hi',qQ (i:=i+1) (by omega),List.pairwise_append];exact⟨hY.sublist<|List.drop_sublist j Y,List.pairwise_singleton _ _,λx hx y hy=>by rw[Qq2.mp hy];exact hl x<|List.mem_of_mem_drop hx⟩
theorem pw_le{X:List Keyed}(rf:∀x,le x x)(hX:X.Pairwise le)(hij:i<=j)(hj:j<X.length):le (X[i]'(by omega)) X[j]:=by
 by_cases e:i=j;subst e;exact rf _;exact List.pairwise_iff_getElem.mp hX i j (by omega) hj (by omega)
theorem Nh{X:List Keyed}(rf:∀x,le x x)(hX:X.Pairwise le)(hi:i<X.length)(hy:y∈X.drop i):le X[i] y:=by obtain⟨m,hm,rfl⟩:=List.mem_iff_getElem.mp hy;rw[List.getElem_drop];rw[Qxy] at hm;exact pw_le rf hX (by omega) (by omega)
end
abbrev SM:=StateT SortSt Sem
noncomputable abbrev setG(st:SortSt)(g:Nat):SortSt:=SortSt.mk' (kindOf st) (arrOf st) (pendingOf st) g (failedOf st)
noncomputable def Ov:Nat->SM Unit:=sortPriv% PySem.Builtin.setMinGallop
theorem Wt(g):Ov g=modify λst=>setG st g:=rfl
noncomputable def mLo:Array Keyed->Array Keyed->SM (Array Keyed):=sortPriv% PySem.Builtin.mergeLo
noncomputable def cat(a b o:Array Keyed)(i j:Nat):Array Keyed:=o++a.extract i a.size++b.extract j b.size
noncomputable abbrev C1:=Option (Array Keyed)×Array Keyed×Nat×Nat×Nat×Nat
abbrev C2:=Option (Array Keyed)×Array Keyed×Nat×Nat×Nat×Nat×Nat
noncomputable abbrev C0:=Option (Array Keyed)×Array Keyed×Nat×Nat×Nat
noncomputable def lo1(a b:Array Keyed)(g:Nat)(o:Array Keyed)(i j p q:Nat):SM (ForInStep C1):=do
 let y <-elem' b j
 let x <-elem' a i
 match <-lt' y x with
 |some v=>
  if v=true then do
   let z <-elem' b j
   if (j+1 == b.size)=true then pure (.done (some (cat a b (o.push z) i (j+1)),o.push z,i,j+1,0,q+1))
   else if q+1 ≥ g then pure (.done (none,o.push z,i,j+1,0,q+1))
   else pure (.yield (none,o.push z,i,j+1,0,q+1))
  else do
   let z <-elem' a i
   if (i+1+1 == a.size)=true then pure (.done (some (cat b a (o.push z) j (i+1)),o.push z,i+1,j,p+1,0))
   else if p+1 ≥ g then pure (.done (none,o.push z,i+1,j,p+1,0))
   else pure (.yield (none,o.push z,i+1,j,p+1,0))
 |_=>pure (.done (some (cat a b o i j),o,i,j,p,q))
noncomputable def Xl(a b o:Array Keyed)(i j g k m:Nat):SM (ForInStep C2):=do
 let z <-elem' a i
 if (i+1+1 == a.size)=true then pure (.done (some (cat b a (o.push z) j (i+1)),o.push z,i+1,j,g,k,m))
 else if (decide (k<7)&&decide (m<7))=true then pure (.done (none,o.push z,i+1,j,g,k,m))
 else pure (.yield (none,o.push z,i+1,j,g,k,m))
noncomputable def Xm(a b o:Array Keyed)(i j g k q:Nat):SM (ForInStep C2):=do
 let z <-elem' b j
 if (j+1 == b.size)=true then pure (.done (some (cat a b (o.push z) i (j+1)),o.push z,i,j+1,g,k,q))
 else do
  let x <-elem' a i
  match <-iQ true x b (j+1) (b.size - (j+1)) 0 with
  |some m=>
   if m > 0 then
    if (j+1+m == b.size)=true then pure (.done (some (cat a b (o.push z++b.extract (j+1) (j+1+m)) i (j+1+m)),o.push z++b.extract (j+1) (j+1+m),i,j+1+m,g,k,m))
    else Xl a b (o.push z++b.extract (j+1) (j+1+m)) i (j+1+m) g k m
   else Xl a b (o.push z) i (j+1) g k m
  |_=>pure (.done (some (cat a b (o.push z) i (j+1)),o.push z,i,j+1,g,k,q))
noncomputable def Tv(a b o:Array Keyed)(i j p q g:Nat):SM (ForInStep C2):=do
 Ov g
 let y <-elem' b j
 match <-iQ false y a i (a.size - i) 0 with
 |some k=>
  if k > 0 then
   if (i+k+1 == a.size)=true then pure (.done (some (cat b a (o++a.extract i (i+k)) j (i+k)),o++a.extract i (i+k),i+k,j,g,k,q))
   else if (i+k == a.size)=true then pure (.done (some (cat a b (o++a.extract i (i+k)) (i+k) j),o++a.extract i (i+k),i+k,j,g,k,q))
   else Xm a b (o++a.extract i (i+k)) (i+k) j g k q
  else Xm a b o i j g k q
 |_=>pure (.done (some (cat a b o i j),o,i,j,g,p,q))
noncomputable def loS(a b:Array Keyed)(t:Nat)(o:Array Keyed)(i j g:Nat):SM (ForInStep C0):=do
 let c <-forIn [0:t] ((none,o,i,j,0,0):C1) λ_ c=>lo1 a b g c.2.1 c.2.2.1 c.2.2.2.1 c.2.2.2.2.1 c.2.2.2.2.2
 match c.1 with
 |some r=>pure (.done (some r,c.2.1,c.2.2.1,c.2.2.2.1,g))
 |none=>do
  rule "list.sort.gallop"
  let d <-forIn [0:t] ((none,c.2.1,c.2.2.1,c.2.2.2.1,g+1,c.2.2.2.2.1,c.2.2.2.2.2):C2) λ_ d=>
   if d.2.2.2.2.1 > 1 then Tv a b d.2.1 d.2.2.1 d.2.2.2.1 d.2.2.2.2.2.1 d.2.2.2.2.2.2 (d.2.2.2.2.1 - 1) else Tv a b d.2.1 d.2.2.1 d.2.2.2.1 d.2.2.2.2.2.1 d.2.2.2.2.2.2 d.2.2.2.2.1
  match d.1 with
  |some r=>pure (.done (some r,d.2.1,d.2.2.1,d.2.2.2.1,d.2.2.2.2.1))
  |none=>do
   Ov (d.2.2.2.2.1+1)
   pure (.yield (none,d.2.1,d.2.2.1,d.2.2.2.1,d.2.2.2.2.1+1))
theorem aeY(a b):mLo a b=(do
 rule "list.sort.merge-lo"
 let z <-elem' b 0
 if (1 == b.size)=true then pure (cat a b #[z] 0 1)
 else if (0+1 == a.size)=true then pure (cat b a #[z] 1 0)
 else do
  let st <-get
  let c <-forIn [0:a.size+b.size] (none, #[z],0,1,gallopOf st) λ_ c=>loS a b (a.size+b.size) c.2.1 c.2.2.1 c.2.2.2.1 c.2.2.2.2
  match c.1 with
  |some r=>pure r|none=>unsupported "internal:list.sort.merge-bound"):=by
 refine rfl.trans ?_;refine Qw9 (bind _)<|funext λ_=>?_;refine Qw9 (bind _)<|funext λz=>?_;dsimp only;congr 1;congr 1;refine Qw9 (bind _)<|funext λst=>?_;refine congr (Qw9 bind ?_)<|funext λc=>?_;congr 1;funext u c;unfold loS;refine congr (Qw9 bind ?_)<|funext λd=>?_;congr 1;rcases d with ⟨_|r,d⟩;refine Qw9 (bind _)<|funext λ_=>?_;refine congr (Qw9 bind ?_)<|funext λf=>?_;congr 1;rcases f with ⟨_|r,f⟩<;>rfl;rfl;rcases c with ⟨_|r,c⟩<;>rfl
theorem UW(a b o)(i j):(cat a b o i j).toList=o.toList++a.toList.drop i++b.toList.drop j:=by unfold cat;rw[Array.toList_append,Array.toList_append,Array.toList_extract,Array.toList_extract];unfold List.extract;rw[Qj7 (by rw[Qxy,Qqz];exact Qq1 _),Qj7 (by rw[Qxy,Qqz];exact Qq1 _)]
theorem ZJ(a o:Array Keyed)(i k):(o++a.extract i (i+k)).toList=o.toList++(a.toList.drop i).take k:=by rw[Array.toList_append,Array.toList_extract];unfold List.extract;rw[Nat.add_sub_cancel_left]
section
variable{prog:Program}{w:World}{A:Around}{E:Value->Shared->Prop}{s:Shared}{kd:SortKind}{r:Keyed->Nat}{a₀:Array Keyed}
abbrev jH(r:Keyed->Nat):Keyed->Keyed->Prop:=λx y=>r x<=r y
theorem t7{st:SortSt}(h:Q () (setG st g)):wpS (model prog w) A E s (Ov g) Q st:=by rw[Wt];exact wpS_modify h
def Sm(st st':SortSt):Prop:=∃g,st'=setG st g
theorem Sm.Bk(st):Sm st st:=⟨gallopOf st,rfl⟩
theorem Sm.put{st st':SortSt}(h:Sm st st')(g):Sm st (setG st' g):=by obtain⟨_,rfl⟩:=h;exact⟨g,rfl⟩
theorem Sm.kind{st st':SortSt}(h:Sm st st')(hk:kindOf st=kd):kindOf st'=kd:=by obtain⟨_,rfl⟩:=h;exact hk
section
variable{a b:Array Keyed}{st:SortSt}(C:NB prog w A E s kd r a₀)(hk:kindOf st=kd)(ma:∀x∈a,x∈a₀)(mb:∀x∈b,x∈a₀)(hX:a.toList.Pairwise (jH r))(hY:b.toList.Pairwise (jH r))
 (hl:∀y∈b.toList,∀h:a.size - 1<a.toList.length,jH r y a.toList[a.size - 1])
structure JS(r:Keyed->Nat)(a b o:Array Keyed)(i j:Nat):Prop where
 on:J (jH r) a.toList b.toList o.toList i j
 hi:i+1<a.size
 hj:j<b.size
abbrev GD(r:Keyed->Nat)(a b R:Array Keyed):Prop:=Good (jH r) a.toList b.toList R.toList
theorem rf(x):jH r x x:=Qq1 _
include hX in
theorem Ie(hi:i<a.size)(h:x<=r a[i]):∀y∈a.toList.drop i,x<=r y:=λy hy=>Qq4 h<|Nh rf hX (by rw[Qqz];exact hi) hy
theorem R4{o:Array Keyed}(h:J (jH r) a.toList b.toList o.toList i j)(hY:b.toList.Pairwise (jH r))(hj:j<b.size)(hle:∀y∈a.toList.drop i,r b[j]<=r y):J (jH r) a.toList b.toList (o.push b[j]).toList i (j+1):=by rw[Array.toList_push];exact(h.swap.push hY (by rw[Qqz];exact hj) hle).swap
theorem Y6{o:Array Keyed}(h:J (jH r) a.toList b.toList o.toList i j)(hX:a.toList.Pairwise (jH r))(hi:i<a.size)(hle:∀y∈b.toList.drop j,r a[i]<=r y):J (jH r) a.toList b.toList (o.push a[i]).toList (i+1) j:=by rw[Array.toList_push];exact h.push hX (by rw[Qqz];exact hi) hle
include hX in
theorem Ng(h:J (jH r) a.toList b.toList o.toList i j)(hj:j=b.size):GD r a b (cat a b o i j):=by unfold GD;rw[UW];exact h.ahy hX (by rw[Qqz];exact hj)
include hY hl in
theorem EY(h:J (jH r) a.toList b.toList o.toList i j)(hi:i+1=a.size):GD r a b (cat b a o j i):=by
 unfold GD;rw[UW];refine h.fin2 hY (by rw[Qqz];exact hi) λy hy=>?_;have:a.size - 1=i:=by omega
 have q:=hl y hy (by rw[Qqz];omega);simp[this] at q;exact q
include hY in
theorem afu(h:J (jH r) a.toList b.toList o.toList i j)(hi:i=a.size):GD r a b (cat a b o i j):=by unfold GD;rw[UW,Qwk];refine h.fin (List.Perm.refl _) ?_;rw[qQ (by rw[Qqz];omega),Qj6];exact hY.sublist<|List.drop_sublist j _
def P1(r:Keyed->Nat)(a b:Array Keyed)(n:Nat)(c:Option (Array Keyed))(o:Array Keyed)(i j:Nat):Prop:=match c with
 |some R=>GD r a b R|none=>JS r a b o i j/\n<=i+j
include C hk ma mb hX hY hl
theorem adJ(h:JS r a b o i j):wpS (model prog w) A E s (lo1 a b g o i j p q) (λt st'=>st'=st/\match t with
  |.done c=>P1 r a b (i+j+1) c.1 c.2.1 c.2.2.1 c.2.2.2.1|.yield c=>c.1=none/\P1 r a b (i+j+1) none c.2.1 c.2.2.1 c.2.2.2.1) st:=by
 have hi:=h.hi;have hj:=h.hj;have hi':i<a.size:=by omega
 unfold lo1;refine wpS_bind<|eY hj<|wpS_bind<|eY hi'<|wpS_bind<|C _ _ (mb _<|Array.getElem_mem hj) (ma _<|Array.getElem_mem hi') st _ hk ?_;by_cases e:r b[j]<r a[i];rw[Qwj e];dsimp only;rw[if_pos rfl];have h':=R4 h.on hY hj<|Ie hX hi'<|Qx3 e;refine wpS_bind<|eY hj ?_;by_cases q1:j+1=b.size;rw[if_pos (beq_iff_eq.mpr q1)];exact wpS_pure ⟨rfl,Ng hX h' q1⟩;rw[if_neg (λz=>q1<|beq_iff_eq.mp z)];split;exact wpS_pure ⟨rfl,⟨h',hi,by dsimp only;omega⟩,by dsimp only;omega⟩;exact wpS_pure ⟨rfl,rfl,⟨h',hi,by dsimp only;omega⟩,by dsimp only;omega⟩;rw[Qq9 e];dsimp only;rw[if_neg (by decide)];have h':=Y6 h.on hX hi'<|Ie hY hj<|Nat.le_of_not_lt e;refine wpS_bind<|eY hi' ?_;by_cases q1:i+1+1=a.size;rw[if_pos (beq_iff_eq.mpr q1)];exact wpS_pure ⟨rfl,EY hY hl h' q1⟩;rw[if_neg (λz=>q1<|beq_iff_eq.mp z)];split;exact wpS_pure ⟨rfl,⟨h',by dsimp only;omega,hj⟩,by dsimp only;omega⟩;exact wpS_pure ⟨rfl,rfl,⟨h',by dsimp only;omega,hj⟩,by dsimp only;omega⟩
theorem QT(h:JS r a b o i j)(hle:∀y∈b.toList.drop j,r (a[i]'(by have:=h.hi;omega))<=r y)(hn:n<=i+j+1):wpS (model prog w) A E s (Xl a b o i j g k m) (λt st'=>st'=st/\match t with
  |.done c=>P1 r a b n c.1 c.2.1 c.2.2.1 c.2.2.2.1|.yield c=>c.1=none/\P1 r a b n none c.2.1 c.2.2.1 c.2.2.2.1) st:=by
 have hi:=h.hi;have hi':i<a.size:=by omega
 have h':=Y6 h.on hX hi' hle;unfold Xl;refine wpS_bind<|eY hi' ?_;by_cases q1:i+1+1=a.size;rw[if_pos (beq_iff_eq.mpr q1)];exact wpS_pure ⟨rfl,EY hY hl h' q1⟩;rw[if_neg (λz=>q1<|beq_iff_eq.mp z)];split;exact wpS_pure ⟨rfl,⟨h',by dsimp only;omega,h.hj⟩,by dsimp only;omega⟩;exact wpS_pure ⟨rfl,rfl,⟨h',by dsimp only;omega,h.hj⟩,by dsimp only;omega⟩
theorem afj(hi:i<a.size)(hj:j<b.size)(h:∀k,i+k<=a.size->(∀m (hm:m<a.toList.length),i<=m->m<i+k->r a.toList[m]<=r b[j])->(∀y∈a.toList.drop (i+k),r b[j]<=r y)->Q (some k) st) :
  wpS (model prog w) A E s (iQ false b[j] a i (a.size - i) 0) Q st:=by
 refine pW C hk (mb _<|Array.getElem_mem hj) ma (by omega) (λm=>match a.toList[i+m]? with|some x=>!decide (r b[j]<r x)|none=>false) (λm hm hm'=>?_) (λm m' h1 h2 h3=>?_) (by omega) λk h1 h2 h3=>?_;rw[Qqv (by rw[Qqz];omega)];rfl;rw[Qqv (by rw[Qqz];omega)] at h3 ⊢;simp[Bool.not_eq_true',decide_eq_false_iff_not,Nat.not_lt] at h3 ⊢;exact Qq4 (pw_le rf hX (by omega) (by rw[Qqz];omega)) h3;refine h k (by omega) (λm hm q1 q2=>?_)<|λy hy=>?_;have:=h2 (m - i) (by omega);rw[Qqv (by omega)] at this;simp[Bool.not_eq_true',decide_eq_false_iff_not,Nat.not_lt] at this;have e:i+(m - i)=m:=by omega
 simp[e] at this;exact this;obtain⟨m,hm,rfl⟩:=List.mem_iff_getElem.mp hy;rw[Qxy,Qqz] at hm;rw[List.getElem_drop];have:=h3 (k+m) (by omega) (by omega);rw[Qqv (by rw[Qqz];omega)] at this;simp[Bool.not_eq_false',decide_eq_true_eq] at this;have e:i+(k+m)=i+k+m:=by omega
 simp[e] at this;exact Qx3 this
theorem afi(hi:i<a.size)(hj:j<b.size)(h:∀k,j+k<=b.size->(∀m (hm:m<b.toList.length),j<=m->m<j+k->r b.toList[m]<=r a[i])->(∀y∈b.toList.drop (j+k),r a[i]<=r y)->Q (some k) st) :
  wpS (model prog w) A E s (iQ true a[i] b j (b.size - j) 0) Q st:=by
 refine pW C hk (ma _<|Array.getElem_mem hi) mb (by omega) (λm=>match b.toList[j+m]? with|some x=>decide (r x<r a[i])|none=>false) (λm hm hm'=>?_) (λm m' h1 h2 h3=>?_) (by omega) λk h1 h2 h3=>?_;rw[Qqv (by rw[Qqz];omega)];rfl;rw[Qqv (by rw[Qqz];omega)] at h3 ⊢;simp[decide_eq_true_eq] at h3 ⊢;exact Qw5 (pw_le rf hY (by omega) (by rw[Qqz];omega)) h3;refine h k (by omega) (λm hm q1 q2=>?_)<|λy hy=>?_;have:=h2 (m - j) (by omega);rw[Qqv (by omega)] at this;simp[decide_eq_true_eq] at this;have e:j+(m - j)=m:=by omega
 simp[e] at this;exact Qx3 this;obtain⟨m,hm,rfl⟩:=List.mem_iff_getElem.mp hy;rw[Qxy,Qqz] at hm;rw[List.getElem_drop];have:=h3 (k+m) (by omega) (by omega);rw[Qqv (by rw[Qqz];omega)] at this;simp[decide_eq_false_iff_not,Nat.not_lt] at this;have e:j+(k+m)=j+k+m:=by omega
 simp[e] at this;exact this
end
end
section
variable{prog:Program}{w:World}{A:Around}{E:Value->Shared->Prop}{s:Shared}{kd:SortKind}{r:Keyed->Nat}{a₀:Array Keyed}
variable{a b:Array Keyed}{st:SortSt}(C:NB prog w A E s kd r a₀)(hk:kindOf st=kd)(ma:∀x∈a,x∈a₀)(mb:∀x∈b,x∈a₀)(hX:a.toList.Pairwise (jH r))(hY:b.toList.Pairwise (jH r))
 (hl:∀y∈b.toList,∀h:a.size - 1<a.toList.length,jH r y a.toList[a.size - 1])
theorem P1.mono(h:P1 r a b n c o i j)(hm:m<=n):P1 r a b m c o i j:=by
 cases c with
 |some R=>exact h|none=>exact⟨h.1,Qq4 hm h.2⟩
include C hk ma mb hX hY hl
theorem QV(h:JS r a b o i j)(hle:∀y∈a.toList.drop i,r (b[j]'h.hj)<=r y)(hn:n<=i+j+1):wpS (model prog w) A E s (Xm a b o i j g k q) (λt st'=>st'=st/\match t with
  |.done c=>P1 r a b n c.1 c.2.1 c.2.2.1 c.2.2.2.1|.yield c=>c.1=none/\P1 r a b n none c.2.1 c.2.2.1 c.2.2.2.1) st:=by
 have hi:=h.hi;have hj:=h.hj;have hi':i<a.size:=by omega
 have h':=R4 h.on hY hj hle;unfold Xm;refine wpS_bind<|eY hj ?_;by_cases q1:j+1=b.size;rw[if_pos (beq_iff_eq.mpr q1)];exact wpS_pure ⟨rfl,Ng hX h' q1⟩;rw[if_neg (λz=>q1<|beq_iff_eq.mp z)];refine wpS_bind<|eY hi'<|wpS_bind<|afi C hk ma mb hX hY hl hi' (by omega) λm m1 m2 m3=>?_;dsimp only;by_cases m0:m > 0;rw[if_pos m0];have h2:J (jH r) a.toList b.toList (o.push b[j]++b.extract (j+1) (j+1+m)).toList i (j+1+m):=by
  rw[ZJ];exact(J.Em hY m (j+1) _ h'.swap (by rw[Qqz];exact m1) λu hu u1 u2=>Ie hX hi'<|m2 u hu u1 u2).swap
 by_cases q2:j+1+m=b.size;rw[if_pos (beq_iff_eq.mpr q2)];exact wpS_pure ⟨rfl,Ng hX h2 q2⟩;rw[if_neg (λz=>q2<|beq_iff_eq.mp z)];exact QT C hk ma mb hX hY hl ⟨h2,hi,by omega⟩ m3 (by omega);rw[if_neg m0];have:m=0:=by omega
 subst this;exact QT C hk ma mb hX hY hl ⟨h',hi,by omega⟩ m3 (by omega)
theorem aab(h:JS r a b o i j)(hn:n<=i+j+1):wpS (model prog w) A E s (Tv a b o i j p q g) (λt st'=>Sm st st'/\match t with
  |.done c=>P1 r a b n c.1 c.2.1 c.2.2.1 c.2.2.2.1|.yield c=>c.1=none/\P1 r a b n none c.2.1 c.2.2.1 c.2.2.2.1) st:=by
 have hi:=h.hi;have hj:=h.hj;have hi':i<a.size:=by omega
 have hk2:kindOf (setG st g)=kd:=hk;have sm:Sm st (setG st g):=⟨g,rfl⟩;unfold Tv;refine wpS_bind<|t7<|wpS_bind<|eY hj<|wpS_bind<|afj C hk2 ma mb hX hY hl hi' hj λk k1 k2 k3=>?_;dsimp only;by_cases k0:k > 0;rw[if_pos k0];have h2:J (jH r) a.toList b.toList (o++a.extract i (i+k)).toList (i+k) j:=by
  rw[ZJ];exact J.Em hX k i _ h.on (by rw[Qqz];exact k1) λu hu u1 u2=>Ie hY hj<|k2 u hu u1 u2
 by_cases q1:i+k+1=a.size;rw[if_pos (beq_iff_eq.mpr q1)];exact wpS_pure ⟨sm,EY hY hl h2 q1⟩;rw[if_neg (λz=>q1<|beq_iff_eq.mp z)];by_cases q2:i+k=a.size;rw[if_pos (beq_iff_eq.mpr q2)];exact wpS_pure ⟨sm,afu hY h2 q2⟩;rw[if_neg (λz=>q2<|beq_iff_eq.mp z)];exact wpS_mono (QV C hk2 ma mb hX hY hl ⟨h2,by omega,hj⟩ k3 (by omega)) λt st' ⟨e,z⟩=>⟨by rw[e];exact sm,z⟩;rw[if_neg k0];have:k=0:=by omega
 subst this;exact wpS_mono (QV C hk2 ma mb hX hY hl h k3 (by omega)) λt st' ⟨e,z⟩=>⟨by rw[e];exact sm,z⟩
theorem adI(ht:0<t)(h:JS r a b o i j):wpS (model prog w) A E s (loS a b t o i j g) (λt st'=>Sm st st'/\match t with
  |.done c=>∃R,c.1=some R/\GD r a b R|.yield c=>c.1=none/\P1 r a b (i+j+1) none c.2.1 c.2.2.1 c.2.2.2.1) st:=by
 unfold loS;refine wpS_bind<|wpS_mono (wpS_forRange (I:=λx c st'=>st'=st/\c.1=none/\JS r a b c.2.1 c.2.2.1 c.2.2.2.1/\i+j+x<=c.2.2.1+c.2.2.2.1) (Q:=λc st'=>st'=st/\P1 r a b (i+j+1) c.1 c.2.1 c.2.2.1 c.2.2.2.1) ?_ ?_ ⟨rfl,rfl,h,Qq1 _⟩) ?_;rintro x ⟨c,o',i',j',p,q⟩ st' _ hx ⟨rfl,e,h',hp⟩;cases e;dsimp only at h' hp ⊢;refine wpS_mono (adJ C hk ma mb hX hY hl h') λu st2 ⟨e,z⟩=>?_;cases u with
 |done c=>exact⟨e,z.mono (by omega)⟩|yield c=>exact⟨e,z.1,z.2.1,by have:=z.2.2;omega⟩
 rintro⟨c,o',i',j',p,q⟩ st' ⟨rfl,e,h',hp⟩;cases e;exact⟨rfl,h',by dsimp only at hp ⊢;omega⟩;rintro⟨c,o',i',j',p,q⟩ st' ⟨rfl,hp⟩;dsimp only at hp ⊢;cases c with
 |some R=>exact wpS_pure ⟨Sm.Bk _,R,rfl,hp⟩
 |none=>
  dsimp only;refine wpS_bind<|wpS_lift<|Qj8 ⟨rfl,?_⟩;refine wpS_bind<|wpS_mono (wpS_forRange (I:=λx c st2=>Sm st' st2/\c.1=none/\JS r a b c.2.1 c.2.2.1 c.2.2.2.1/\i+j+1<=c.2.2.1+c.2.2.2.1) (Q:=λc st2=>Sm st' st2/\P1 r a b (i+j+1) c.1 c.2.1 c.2.2.1 c.2.2.2.1) ?_ ?_ ⟨Sm.Bk _,rfl,hp.1,hp.2⟩) ?_
  rintro x ⟨c,o2,i2,j2,g2,p2,q2⟩ st2 _ hx ⟨sm,e,h',hp⟩;cases e;dsimp only at h' hp ⊢;have go:∀g3,wpS (model prog w) A E s (Tv a b o2 i2 j2 p2 q2 g3) (λu st3=>match u with
    |.done c=>Sm st' st3/\P1 r a b (i+j+1) c.1 c.2.1 c.2.2.1 c.2.2.2.1|.yield c=>Sm st' st3/\c.1=none/\JS r a b c.2.1 c.2.2.1 c.2.2.2.1/\i+j+1<=c.2.2.1+c.2.2.2.1) st2:=λg3=>by
   refine wpS_mono (aab C (sm.kind hk) ma mb hX hY hl (n:=i+j+1) h' (by omega)) λu st3 ⟨e,z⟩=>?_;have sm3:Sm st' st3:=by obtain⟨g4,rfl⟩:=sm;obtain⟨g5,rfl⟩:=e;exact⟨g5,rfl⟩
   cases u with
   |done c=>exact⟨sm3,z⟩|yield c=>exact⟨sm3,z.1,z.2.1,z.2.2⟩
  split;exact wpS_mono (go _) λu st3 z=>by cases u<;>exact z
  exact wpS_mono (go _) λu st3 z=>by cases u<;>exact z
  rintro⟨c,o2,i2,j2,g2,p2,q2⟩ st2 ⟨sm,e,h',hp⟩;cases e;exact⟨sm,h',hp⟩;rintro⟨c,o2,i2,j2,g2,p2,q2⟩ st2 ⟨sm,hp⟩;dsimp only at hp ⊢;cases c with
  |some R=>exact wpS_pure ⟨sm,R,rfl,hp⟩|none=>exact wpS_bind<|t7<|wpS_pure ⟨sm.put _,rfl,hp⟩
theorem adE(ha:0<a.size)(hb:0<b.size)(h0:r b[0]<=r a[0])(h:∀R st',Sm st st'->GD r a b R->Q R st'):wpS (model prog w) A E s (mLo a b) Q st:=by
 rw[aeY];refine wpS_bind<|wpS_lift<|Qj8 ⟨rfl,wpS_bind<|eY hb ?_⟩;have j0:J (jH r) a.toList b.toList (#[]).toList 0 0:=⟨Qx0 _,Qx0 _,List.Perm.refl _,List.Pairwise.nil,λx hx=>absurd hx (by simp)⟩;have j1:=R4 j0 hY hb<|Ie hX ha h0;by_cases q1:1=b.size;rw[if_pos (beq_iff_eq.mpr q1)];exact wpS_pure<|h _ st (Sm.Bk _)<|Ng hX j1 q1;rw[if_neg (λz=>q1<|beq_iff_eq.mp z)];by_cases q2:0+1=a.size;rw[if_pos (beq_iff_eq.mpr q2)];exact wpS_pure<|h _ st (Sm.Bk _)<|EY hY hl j1 q2;rw[if_neg (λz=>q2<|beq_iff_eq.mp z)];refine wpS_bind<|wpS_get<|wpS_bind<|wpS_mono (wpS_forRange (I:=λx c st'=>Sm st st'/\c.1=none/\JS r a b c.2.1 c.2.2.1 c.2.2.2.1/\x+1<=c.2.2.1+c.2.2.2.1) (Q:=λc st'=>Sm st st'/\∃R,c.1=some R/\GD r a b R) ?_ ?_ ⟨Sm.Bk _,rfl,⟨j1,by dsimp only;omega,by dsimp only;omega⟩,Qq1 1⟩) ?_;rintro x ⟨c,o,i,j,g⟩ st' _ hx ⟨sm,e,h',hp⟩;cases e;dsimp only at h' hp ⊢;refine wpS_mono (adI C (sm.kind hk) ma mb hX hY hl (by omega) h') λu st2 ⟨e,z⟩=>?_;have sm3:Sm st st2:=by
  obtain⟨g4,rfl⟩:=sm;obtain⟨g5,rfl⟩:=e;exact⟨g5,rfl⟩
 cases u with
 |done c=>exact⟨sm3,z⟩|yield c=>exact⟨sm3,z.1,z.2.1,by have:=z.2.2;omega⟩
 rintro⟨c,o,i,j,g⟩ st' ⟨sm,e,h',hp⟩;dsimp only at h' hp ⊢;have:=h'.hi;have:=h'.hj;omega;rintro⟨c,d⟩ st' ⟨sm,R,e,z⟩;cases e;exact wpS_pure<|h R st' sm z
end
noncomputable def mHi:Array Keyed->Array Keyed->SM (Array Keyed):=sortPriv% PySem.Builtin.mergeHi
noncomputable def Jx(a b o:Array Keyed)(m n:Nat):Array Keyed:=a.extract 0 m++b.extract 0 n++o.reverse
abbrev H1:=Option (Array Keyed)×Nat×Nat×Array Keyed×Nat×Nat
abbrev H2:=Option (Array Keyed)×Nat×Nat×Array Keyed×Nat×Nat×Nat
abbrev H0:=Option (Array Keyed)×Nat×Nat×Array Keyed×Nat
noncomputable def hi1(a b:Array Keyed)(g m n:Nat)(o:Array Keyed)(p q:Nat):SM (ForInStep H1):=do
 let y <-elem' b (n - 1)
 let x <-elem' a (m - 1)
 match <-lt' y x with
 |some v=>
  if v=true then do
   let z <-elem' a (m - 1)
   if (m - 1 == 0)=true then pure (.done (some (Jx a b (o.push z) (m - 1) n),m - 1,n,o.push z,p+1,0))
   else if p+1 ≥ g then pure (.done (none,m - 1,n,o.push z,p+1,0))
   else pure (.yield (none,m - 1,n,o.push z,p+1,0))
  else do
   let z <-elem' b (n - 1)
   if (n - 1 == 1)=true then pure (.done (some (Jx b a (o.push z) (n - 1) m),m,n - 1,o.push z,0,q+1))
   else if q+1 ≥ g then pure (.done (none,m,n - 1,o.push z,0,q+1))
   else pure (.yield (none,m,n - 1,o.push z,0,q+1))
 |_=>pure (.done (some (Jx a b o m n),m,n,o,p,q))
noncomputable def Xz(a b:Array Keyed)(m n:Nat)(o:Array Keyed)(g k l:Nat):SM (ForInStep H2):=do
 let z <-elem' a (m - 1)
 if (m - 1 == 0)=true then pure (.done (some (Jx a b (o.push z) (m - 1) n),m - 1,n,o.push z,g,k,l))
 else if (decide (k<7)&&decide (l<7))=true then pure (.done (none,m - 1,n,o.push z,g,k,l))
 else pure (.yield (none,m - 1,n,o.push z,g,k,l))
noncomputable def XC(a b:Array Keyed)(m n:Nat)(o:Array Keyed)(g k q:Nat):SM (ForInStep H2):=do
 let z <-elem' b (n - 1)
 if (n - 1 == 1)=true then pure (.done (some (Jx b a (o.push z) (n - 1) m),m,n - 1,o.push z,g,k,q))
 else do
  let x <-elem' a (m - 1)
  match <-iQ true x b 0 (n - 1) (n - 1 - 1) with
  |some t=>
   if n - 1 - t > 0 then
    if (t == 1)=true then pure (.done (some (Jx b a (o.push z++(b.extract t (n - 1)).reverse) t m),m,t,o.push z++(b.extract t (n - 1)).reverse,g,k,n - 1 - t))
    else if (t == 0)=true then pure (.done (some (Jx a b (o.push z++(b.extract t (n - 1)).reverse) m t),m,t,o.push z++(b.extract t (n - 1)).reverse,g,k,n - 1 - t))
    else Xz a b m t (o.push z++(b.extract t (n - 1)).reverse) g k (n - 1 - t)
   else Xz a b m (n - 1) (o.push z) g k (n - 1 - t)
  |_=>pure (.done (some (Jx a b (o.push z) m (n - 1)),m,n - 1,o.push z,g,k,q))
noncomputable def Ug(a b:Array Keyed)(m n:Nat)(o:Array Keyed)(p q g:Nat):SM (ForInStep H2):=do
 Ov g
 let y <-elem' b (n - 1)
 match <-iQ false y a 0 m (m - 1) with
 |some t=>
  if m - t > 0 then
   if (t == 0)=true then pure (.done (some (Jx a b (o++(a.extract t m).reverse) t n),t,n,o++(a.extract t m).reverse,g,m - t,q))
   else XC a b t n (o++(a.extract t m).reverse) g (m - t) q
  else XC a b m n o g (m - t) q
 |_=>pure (.done (some (Jx a b o m n),m,n,o,g,p,q))
noncomputable def hiS(a b:Array Keyed)(t m n:Nat)(o:Array Keyed)(g:Nat):SM (ForInStep H0):=do
 let c <-forIn [0:t] ((none,m,n,o,0,0):H1) λ_ c=>hi1 a b g c.2.1 c.2.2.1 c.2.2.2.1 c.2.2.2.2.1 c.2.2.2.2.2
 match c.1 with
 |some r=>pure (.done (some r,c.2.1,c.2.2.1,c.2.2.2.1,g))
 |none=>do
  rule "list.sort.gallop"
  let d <-forIn [0:t] ((none,c.2.1,c.2.2.1,c.2.2.2.1,g+1,c.2.2.2.2.1,c.2.2.2.2.2):H2) λ_ d=>
   if d.2.2.2.2.1 > 1 then Ug a b d.2.1 d.2.2.1 d.2.2.2.1 d.2.2.2.2.2.1 d.2.2.2.2.2.2 (d.2.2.2.2.1 - 1) else Ug a b d.2.1 d.2.2.1 d.2.2.2.1 d.2.2.2.2.2.1 d.2.2.2.2.2.2 d.2.2.2.2.1
  match d.1 with
  |some r=>pure (.done (some r,d.2.1,d.2.2.1,d.2.2.2.1,d.2.2.2.2.1))
  |none=>do
   Ov (d.2.2.2.2.1+1)
   pure (.yield (none,d.2.1,d.2.2.1,d.2.2.2.1,d.2.2.2.2.1+1))
theorem afc(a b):mHi a b=(do
 rule "list.sort.merge-hi"
 let z <-elem' a (a.size - 1)
 if (a.size - 1 == 0)=true then pure (Jx a b #[z] (a.size - 1) b.size)
 else if (b.size == 1)=true then pure (Jx b a #[z] b.size (a.size - 1))
 else do
  let st <-get
  let c <-forIn [0:a.size+b.size] (none,a.size - 1,b.size, #[z],gallopOf st) λ_ c=>hiS a b (a.size+b.size) c.2.1 c.2.2.1 c.2.2.2.1 c.2.2.2.2
  match c.1 with
  |some r=>pure r|none=>unsupported "internal:list.sort.merge-bound"):=by
 refine rfl.trans ?_;refine Qw9 (bind _)<|funext λ_=>?_;refine Qw9 (bind _)<|funext λz=>?_;dsimp only;congr 1;congr 1;refine Qw9 (bind _)<|funext λst=>?_;refine congr (Qw9 bind ?_)<|funext λc=>?_;congr 1;funext u c;unfold hiS;refine congr (Qw9 bind ?_)<|funext λd=>?_;congr 1;rcases d with ⟨_|r,d⟩;refine Qw9 (bind _)<|funext λ_=>?_;refine congr (Qw9 bind ?_)<|funext λf=>?_;congr 1;rcases f with ⟨_|r,f⟩<;>rfl;rfl;rcases c with ⟨_|r,c⟩<;>rfl
abbrev geR(r:Keyed->Nat):Keyed->Keyed->Prop:=λx y=>r y<=r x
theorem Hl(l:List Keyed)(h:m<=l.length):l.reverse.drop (l.length - m)=(l.take m).reverse:=by
 rw[List.drop_reverse]
 congr 2
 omega
theorem ad4(l:List Keyed)(h0:0<m)(h:m<=l.length):l.reverse[l.length - m]'(by rw[Qzy];omega)=l[m - 1]'(by omega):=by
 rw[List.getElem_reverse]
 congr 1
 omega
theorem YQ(a b o)(m n)(hm:m<=a.size)(hn:n<=b.size):(Jx a b o m n).toList=(o.toList++b.toList.reverse.drop (b.size - n)++a.toList.reverse.drop (a.size - m)).reverse:=by have e1:=Hl a.toList (by rw[Qqz];exact hm);have e2:=Hl b.toList (by rw[Qqz];exact hn);rw[Qqz] at e1 e2;rw[e1,e2];unfold Jx;rw[Array.toList_append,Array.toList_append,Array.toList_extract,Array.toList_extract,Array.toList_reverse];unfold List.extract;simp
theorem ad5(a o:Array Keyed)(ht:t<=m)(hm:m<=a.size):(o++(a.extract t m).reverse).toList=o.toList++(a.toList.reverse.drop (a.size - m)).take (m - t):=by
 have e1:=Hl a.toList (by rw[Qqz];exact hm);rw[Qqz] at e1;rw[e1,Array.toList_append,Array.toList_reverse,Array.toList_extract,List.take_reverse,Qwy,Qqz];unfold List.extract;have:min m a.size - (m - t)=t:=by omega
 rw[this,List.drop_take]
section
variable{prog:Program}{w:World}{A:Around}{E:Value->Shared->Prop}{s:Shared}{kd:SortKind}{r:Keyed->Nat}{a₀:Array Keyed}
variable{a b:Array Keyed}{st:SortSt}(C:NB prog w A E s kd r a₀)(hk:kindOf st=kd)(ma:∀x∈a,x∈a₀)(mb:∀x∈b,x∈a₀)(hX:a.toList.Pairwise (jH r))(hY:b.toList.Pairwise (jH r))
 (hl:∀y∈a.toList,∀h:0<b.toList.length,r b.toList[0]<=r y)
abbrev JH(r:Keyed->Nat)(a b o:Array Keyed)(m n:Nat):Prop:=J (geR r) a.toList.reverse b.toList.reverse o.toList (a.size - m) (b.size - n)
structure KS(r:Keyed->Nat)(a b o:Array Keyed)(m n:Nat):Prop where
 on:JH r a b o m n
 m0:0<m
 ml:m<=a.size
 n1:1<n
 nl:n<=b.size
theorem Ru{l:List Keyed}(h:l.Pairwise (jH r)):l.reverse.Pairwise (geR r):=List.pairwise_reverse.mpr h
theorem un(h:Good (geR r) a.toList.reverse b.toList.reverse L)(e:R.toList=L.reverse):GD r a b R:=by
 refine⟨?_,?_⟩;rw[e];exact(List.reverse_perm L).trans<|h.1.trans<|(List.reverse_perm _).append<|List.reverse_perm _;rw[e];exact List.pairwise_reverse.mpr h.2
theorem JH.swap(h:JH r a b o m n):JH r b a o n m:=J.swap h
theorem Xy(h:JH r a b o m n)(hX:a.toList.Pairwise (jH r))(h0:0<m)(hm:m<=a.size)(hn:n<=b.size)(hle:∀y∈b.toList.take n,r y<=r (a[m - 1]'(by omega))):JH r a b (o.push (a[m - 1]'(by omega))) (m - 1) n:=by
 have g:=ad4 a.toList h0 (by rw[Qqz];exact hm);have e2:=Hl b.toList (by rw[Qqz];exact hn);simp only[Qqz] at g e2;have:=h.push (Ru hX) (by rw[Qzy,Qqz];omega) (λy hy=>by
  rw[g];rw[e2] at hy;exact hle y<|List.mem_reverse.mp hy)
 rw[g] at this;have e:a.size - m+1=a.size - (m - 1):=by omega
 rw[e] at this;unfold JH;rw[Array.toList_push];exact this
theorem ae9(h:JH r a b o m n)(hY:b.toList.Pairwise (jH r))(h0:0<n)(hm:m<=a.size)(hn:n<=b.size)(hle:∀y∈a.toList.take m,r y<=r (b[n - 1]'(by omega))):JH r a b (o.push (b[n - 1]'(by omega))) m (n - 1):=
 (Xy h.swap hY h0 hn hm hle).swap
theorem Zz(h:JH r a b o m n)(hX:a.toList.Pairwise (jH r))(ht:t<=m)(hm:m<=a.size)(hn:n<=b.size)(hle:∀u (hu:u<a.toList.length),t<=u->u<m->∀y∈b.toList.take n,r y<=r a.toList[u]):JH r a b (o++(a.extract t m).reverse) t n:=by
 have e2:=Hl b.toList (by rw[Qqz];exact hn);simp[Qqz] at e2;have:=J.Em (Ru hX) (m - t) (a.size - m) _ h (by rw[Qzy,Qqz];omega) (λu hu u1 u2 y hy=>by
  rw[List.getElem_reverse];rw[e2] at hy;rw[Qzy,Qqz] at hu;exact hle _ _ (by rw[Qqz];omega) (by rw[Qqz];omega) y<|List.mem_reverse.mp hy)
 have e:a.size - m+(m - t)=a.size - t:=by omega
 rw[e] at this;unfold JH;rw[ad5 a o ht hm];exact this
include hX hY in
theorem Us(h:JH r a b o m n)(hm:m<=a.size)(hn:n<=b.size)(h0:m=0\/n=0):GD r a b (Jx a b o m n):=by
 refine un (h.fin List.perm_append_comm ?_) (by rw[YQ a b o m n hm hn,Qwk]);rcases h0 with rfl|rfl;rw[qQ (X:=a.toList.reverse) (by rw[Qzy,Qqz];omega),Qw6];exact(Ru hY).sublist<|List.drop_sublist _ _;rw[qQ (by rw[Qzy,Qqz];omega),Qj6];exact(Ru hX).sublist<|List.drop_sublist _ _
include hX hl in
theorem Fq(h:JH r a b o m n)(hm:m<=a.size)(hn:1<=b.size)(h1:n=1):GD r a b (Jx b a o n m):=by subst h1;have g:=ad4 b.toList (m:=1) (by decide) (by rw[Qqz];exact hn);simp only[Qqz] at g;refine un (Good.swap<|J.fin2 h.swap (Ru hX) (by rw[Qzy,Qqz];omega) λy hy=>?_)<|YQ b a o 1 m hn hm;rw[g];exact hl y (List.mem_reverse.mp hy) (by rw[Qqz];omega)
include hX in
theorem Gz(h0:0<m)(hm:m<=a.size)(h:r (a[m - 1]'(by omega))<=x):∀y∈a.toList.take m,r y<=x:=λy hy=>by
 obtain⟨u,hu,rfl⟩:=List.mem_iff_getElem.mp hy;rw[List.getElem_take];rw[Qwy,Qqz] at hu;exact Qq4 (pw_le rf hX (by omega) (by rw[Qqz];omega)) h
def P2(r:Keyed->Nat)(a b:Array Keyed)(k:Nat)(c:Option (Array Keyed))(m n:Nat)(o:Array Keyed):Prop:=match c with
 |some R=>GD r a b R|none=>KS r a b o m n/\m+n<=k
theorem P2.mono(h:P2 r a b k c m n o)(hm:k<=l):P2 r a b l c m n o:=by
 cases c with
 |some R=>exact h|none=>exact⟨h.1,Qq4 h.2 hm⟩
include C hk ma mb hX hY hl
theorem adL(h:KS r a b o m n):wpS (model prog w) A E s (hi1 a b g m n o p q) (λt st'=>st'=st/\match t with
  |.done c=>P2 r a b (m+n - 1) c.1 c.2.1 c.2.2.1 c.2.2.2.1|.yield c=>c.1=none/\P2 r a b (m+n - 1) none c.2.1 c.2.2.1 c.2.2.2.1) st:=by
 obtain⟨hj,m0,ml,n1,nl⟩:=h;have bm:m - 1<a.size:=by omega
 have bn:n - 1<b.size:=by omega
 unfold hi1;refine wpS_bind<|eY bn<|wpS_bind<|eY bm<|wpS_bind<|C _ _ (mb _<|Array.getElem_mem bn) (ma _<|Array.getElem_mem bm) st _ hk ?_;by_cases e:r b[n - 1]<r a[m - 1];rw[Qwj e];dsimp only;rw[if_pos rfl];have h':=Xy hj hX m0 ml nl<|Gz hY (by omega) nl<|Qx3 e;refine wpS_bind<|eY bm ?_;by_cases q1:m - 1=0;rw[if_pos (beq_iff_eq.mpr q1)];exact wpS_pure ⟨rfl,Us hX hY h' (by omega) nl<|.inl q1⟩;rw[if_neg (λz=>q1<|beq_iff_eq.mp z)];split;exact wpS_pure ⟨rfl,⟨h',by dsimp only;omega,by dsimp only;omega,n1,nl⟩,by dsimp only;omega⟩;exact wpS_pure ⟨rfl,rfl,⟨h',by dsimp only;omega,by dsimp only;omega,n1,nl⟩,by dsimp only;omega⟩;rw[Qq9 e];dsimp only;rw[if_neg (by decide)];have h':=ae9 hj hY (by omega) ml nl<|Gz hX m0 ml<|Nat.le_of_not_lt e;refine wpS_bind<|eY bn ?_;by_cases q1:n - 1=1;rw[if_pos (beq_iff_eq.mpr q1)];exact wpS_pure ⟨rfl,Fq hX hl h' ml (by omega) q1⟩;rw[if_neg (λz=>q1<|beq_iff_eq.mp z)];split;exact wpS_pure ⟨rfl,⟨h',m0,ml,by dsimp only;omega,by dsimp only;omega⟩,by dsimp only;omega⟩;exact wpS_pure ⟨rfl,rfl,⟨h',m0,ml,by dsimp only;omega,by dsimp only;omega⟩,by dsimp only;omega⟩
theorem QW(h:KS r a b o m n)(hle:∀y∈b.toList.take n,r y<=r (a[m - 1]'(by have:=h.m0;have:=h.ml;omega)))(hz:m+n<=z+1):wpS (model prog w) A E s (Xz a b m n o g k l) (λt st'=>st'=st/\match t with
  |.done c=>P2 r a b z c.1 c.2.1 c.2.2.1 c.2.2.2.1|.yield c=>c.1=none/\P2 r a b z none c.2.1 c.2.2.1 c.2.2.2.1) st:=by
 obtain⟨hj,m0,ml,n1,nl⟩:=h;have bm:m - 1<a.size:=by omega
 have h':=Xy hj hX m0 ml nl hle;unfold Xz;refine wpS_bind<|eY bm ?_;by_cases q1:m - 1=0;rw[if_pos (beq_iff_eq.mpr q1)];exact wpS_pure ⟨rfl,Us hX hY h' (by omega) nl<|.inl q1⟩;rw[if_neg (λz=>q1<|beq_iff_eq.mp z)];split;exact wpS_pure ⟨rfl,⟨h',by dsimp only;omega,by dsimp only;omega,n1,nl⟩,by dsimp only;omega⟩;exact wpS_pure ⟨rfl,rfl,⟨h',by dsimp only;omega,by dsimp only;omega,n1,nl⟩,by dsimp only;omega⟩
theorem gah(m0:0<m)(ml:m<=a.size)(n0:n - 1<b.size)(h:∀t,t<=m->(∀u (hu:u<a.toList.length),t<=u->u<m->r b[n - 1]<=r a.toList[u])->(∀y∈a.toList.take t,r y<=r b[n - 1])->Q (some t) st) :
  wpS (model prog w) A E s (iQ false b[n - 1] a 0 m (m - 1)) Q st:=by
 refine pW C hk (mb _<|Array.getElem_mem n0) ma (by omega) (λu=>match a.toList[u]? with|some x=>!decide (r b[n - 1]<r x)|none=>false) (λu hu hu'=>?_) (λu u' h1 h2 h3=>?_) (by omega) λk h1 h2 h3=>?_;rw[Qqv (by rw[Qqz];omega)];simp[Nat.zero_add];rfl;rw[Qqv (by rw[Qqz];omega)] at h3 ⊢;simp[Bool.not_eq_true',decide_eq_false_iff_not,Nat.not_lt] at h3 ⊢;exact Qq4 (pw_le rf hX (by omega) (by rw[Qqz];omega)) h3;refine h k h1 (λu hu q1 q2=>?_)<|λy hy=>?_;have:=h3 u q1 q2;rw[Qqv hu] at this;simp[Bool.not_eq_false',decide_eq_true_eq] at this;exact Qx3 this;obtain⟨u,hu,rfl⟩:=List.mem_iff_getElem.mp hy;rw[Qwy,Qqz] at hu;rw[List.getElem_take];have:=h2 u (by omega);rw[Qqv (by rw[Qqz];omega)] at this;simp[Bool.not_eq_true',decide_eq_false_iff_not,Nat.not_lt] at this;exact this
theorem gbh(n0:0<n)(nl:n<=b.size)(m0:m - 1<a.size)(h:∀t,t<=n->(∀u (hu:u<b.toList.length),t<=u->u<n->r a[m - 1]<=r b.toList[u])->(∀y∈b.toList.take t,r y<=r a[m - 1])->Q (some t) st) :
  wpS (model prog w) A E s (iQ true a[m - 1] b 0 n (n - 1)) Q st:=by
 refine pW C hk (ma _<|Array.getElem_mem m0) mb (by omega) (λu=>match b.toList[u]? with|some x=>decide (r x<r a[m - 1])|none=>false) (λu hu hu'=>?_) (λu u' h1 h2 h3=>?_) (by omega) λk h1 h2 h3=>?_;rw[Qqv (by rw[Qqz];omega)];simp[Nat.zero_add];rfl;rw[Qqv (by rw[Qqz];omega)] at h3 ⊢;simp[decide_eq_true_eq] at h3 ⊢;exact Qw5 (pw_le rf hY (by omega) (by rw[Qqz];omega)) h3;refine h k h1 (λu hu q1 q2=>?_)<|λy hy=>?_;have:=h3 u q1 q2;rw[Qqv hu] at this;simp[decide_eq_false_iff_not,Nat.not_lt] at this;exact this;obtain⟨u,hu,rfl⟩:=List.mem_iff_getElem.mp hy;rw[Qwy,Qqz] at hu;rw[List.getElem_take];have:=h2 u (by omega);rw[Qqv (by rw[Qqz];omega)] at this;simp[decide_eq_true_eq] at this;exact Qx3 this
end
section
variable{prog:Program}{w:World}{A:Around}{E:Value->Shared->Prop}{s:Shared}{kd:SortKind}{r:Keyed->Nat}{a₀:Array Keyed}
variable{a b:Array Keyed}{st:SortSt}(C:NB prog w A E s kd r a₀)(hk:kindOf st=kd)(ma:∀x∈a,x∈a₀)(mb:∀x∈b,x∈a₀)(hX:a.toList.Pairwise (jH r))(hY:b.toList.Pairwise (jH r))
 (hl:∀y∈a.toList,∀h:0<b.toList.length,r b.toList[0]<=r y)
include C hk ma mb hX hY hl
theorem QX(h:KS r a b o m n)(hle:∀y∈a.toList.take m,r y<=r (b[n - 1]'(by have:=h.n1;have:=h.nl;omega)))(hz:m+n<=z+1):wpS (model prog w) A E s (XC a b m n o g k q) (λt st'=>st'=st/\match t with
  |.done c=>P2 r a b z c.1 c.2.1 c.2.2.1 c.2.2.2.1|.yield c=>c.1=none/\P2 r a b z none c.2.1 c.2.2.1 c.2.2.2.1) st:=by
 obtain⟨hj,m0,ml,n1,nl⟩:=h;have bm:m - 1<a.size:=by omega
 have bn:n - 1<b.size:=by omega
 have h':=ae9 hj hY (by omega) ml nl hle;unfold XC;refine wpS_bind<|eY bn ?_;by_cases q1:n - 1=1;rw[if_pos (beq_iff_eq.mpr q1)];exact wpS_pure ⟨rfl,Fq hX hl h' ml (by omega) q1⟩;rw[if_neg (λz=>q1<|beq_iff_eq.mp z)];refine wpS_bind<|eY bm<|wpS_bind<|gbh C hk ma mb hX hY hl (by omega) (by omega) bm λt t1 t2 t3=>?_;dsimp only;by_cases t0:n - 1 - t > 0;rw[if_pos t0];have h2:=(Zz h'.swap hY t1 (by omega) ml λu hu u1 u2=>Gz hX m0 ml<|t2 u hu u1 u2).swap;by_cases q2:t=1;rw[if_pos (beq_iff_eq.mpr q2)];exact wpS_pure ⟨rfl,Fq hX hl h2 ml (by omega) q2⟩;rw[if_neg (λz=>q2<|beq_iff_eq.mp z)];by_cases q3:t=0;rw[if_pos (beq_iff_eq.mpr q3)];exact wpS_pure ⟨rfl,Us hX hY h2 ml (by omega)<|.inr q3⟩;rw[if_neg (λz=>q3<|beq_iff_eq.mp z)];exact QW C hk ma mb hX hY hl ⟨h2,m0,ml,by omega,by omega⟩ t3 (by omega);rw[if_neg t0];have:t=n - 1:=by omega
 subst this;exact QW C hk ma mb hX hY hl ⟨h',m0,ml,by omega,by omega⟩ t3 (by omega)
theorem aac(h:KS r a b o m n)(hz:m+n<=z+1):wpS (model prog w) A E s (Ug a b m n o p q g) (λt st'=>Sm st st'/\match t with
  |.done c=>P2 r a b z c.1 c.2.1 c.2.2.1 c.2.2.2.1|.yield c=>c.1=none/\P2 r a b z none c.2.1 c.2.2.1 c.2.2.2.1) st:=by
 have h0:=h;obtain⟨hj,m0,ml,n1,nl⟩:=h;have bn:n - 1<b.size:=by omega
 have hk2:kindOf (setG st g)=kd:=hk;have sm:Sm st (setG st g):=⟨g,rfl⟩;unfold Ug;refine wpS_bind<|t7<|wpS_bind<|eY bn<|wpS_bind<|gah C hk2 ma mb hX hY hl m0 ml bn λt t1 t2 t3=>?_;dsimp only;by_cases t0:m - t > 0;rw[if_pos t0];have h2:=Zz hj hX t1 ml nl λu hu u1 u2=>Gz hY (by omega) nl<|t2 u hu u1 u2;by_cases q2:t=0;rw[if_pos (beq_iff_eq.mpr q2)];exact wpS_pure ⟨sm,Us hX hY h2 (by omega) nl<|.inl q2⟩;rw[if_neg (λz=>q2<|beq_iff_eq.mp z)];exact wpS_mono (QX C hk2 ma mb hX hY hl ⟨h2,by omega,by omega,n1,nl⟩ t3 (by omega)) λt st' ⟨e,z⟩=>⟨by rw[e];exact sm,z⟩;rw[if_neg t0];have:t=m:=by omega
 subst this;exact wpS_mono (QX C hk2 ma mb hX hY hl h0 t3 (by omega)) λt st' ⟨e,z⟩=>⟨by rw[e];exact sm,z⟩
theorem adK(ht:0<t)(h:KS r a b o m n):wpS (model prog w) A E s (hiS a b t m n o g) (λt st'=>Sm st st'/\match t with
  |.done c=>∃R,c.1=some R/\GD r a b R|.yield c=>c.1=none/\P2 r a b (m+n - 1) none c.2.1 c.2.2.1 c.2.2.2.1) st:=by
 unfold hiS;refine wpS_bind<|wpS_mono (wpS_forRange (I:=λx c st'=>st'=st/\c.1=none/\KS r a b c.2.2.2.1 c.2.1 c.2.2.1/\c.2.1+c.2.2.1+x<=m+n) (Q:=λc st'=>st'=st/\P2 r a b (m+n - 1) c.1 c.2.1 c.2.2.1 c.2.2.2.1) ?_ ?_ ⟨rfl,rfl,h,Qq1 _⟩) ?_;rintro x ⟨c,m',n',o',p,q⟩ st' _ hx ⟨rfl,e,h',hp⟩;cases e;dsimp only at h' hp ⊢;have:=h'.m0;refine wpS_mono (adL C hk ma mb hX hY hl h') λu st2 ⟨e,z⟩=>?_;cases u with
 |done c=>exact⟨e,z.mono (by omega)⟩|yield c=>exact⟨e,z.1,z.2.1,by have:=z.2.2;omega⟩
 rintro⟨c,m',n',o',p,q⟩ st' ⟨rfl,e,h',hp⟩;cases e;exact⟨rfl,h',by dsimp only at hp ⊢;omega⟩;rintro⟨c,m',n',o',p,q⟩ st' ⟨rfl,hp⟩;dsimp only at hp ⊢;cases c with
 |some R=>exact wpS_pure ⟨Sm.Bk _,R,rfl,hp⟩
 |none=>
  dsimp only;refine wpS_bind<|wpS_lift<|Qj8 ⟨rfl,?_⟩;refine wpS_bind<|wpS_mono (wpS_forRange (I:=λx c st2=>Sm st' st2/\c.1=none/\KS r a b c.2.2.2.1 c.2.1 c.2.2.1/\c.2.1+c.2.2.1<=m+n - 1) (Q:=λc st2=>Sm st' st2/\P2 r a b (m+n - 1) c.1 c.2.1 c.2.2.1 c.2.2.2.1) ?_ ?_ ⟨Sm.Bk _,rfl,hp.1,hp.2⟩) ?_
  rintro x ⟨c,m2,n2,o2,g2,p2,q2⟩ st2 _ hx ⟨sm,e,h',hp⟩;cases e;dsimp only at h' hp ⊢;have go:∀g3,wpS (model prog w) A E s (Ug a b m2 n2 o2 p2 q2 g3) (λu st3=>match u with
    |.done c=>Sm st' st3/\P2 r a b (m+n - 1) c.1 c.2.1 c.2.2.1 c.2.2.2.1|.yield c=>Sm st' st3/\c.1=none/\KS r a b c.2.2.2.1 c.2.1 c.2.2.1/\c.2.1+c.2.2.1<=m+n - 1) st2:=λg3=>by
   refine wpS_mono (aac C (sm.kind hk) ma mb hX hY hl (z:=m+n - 1) h' (by omega)) λu st3 ⟨e,z⟩=>?_;have sm3:Sm st' st3:=by obtain⟨g4,rfl⟩:=sm;obtain⟨g5,rfl⟩:=e;exact⟨g5,rfl⟩
   cases u with
   |done c=>exact⟨sm3,z⟩|yield c=>exact⟨sm3,z.1,z.2.1,z.2.2⟩
  split;exact wpS_mono (go _) λu st3 z=>by cases u<;>exact z
  exact wpS_mono (go _) λu st3 z=>by cases u<;>exact z
  rintro⟨c,m2,n2,o2,g2,p2,q2⟩ st2 ⟨sm,e,h',hp⟩;cases e;exact⟨sm,h',hp⟩;rintro⟨c,m2,n2,o2,g2,p2,q2⟩ st2 ⟨sm,hp⟩;dsimp only at hp ⊢;cases c with
  |some R=>exact wpS_pure ⟨sm,R,rfl,hp⟩|none=>exact wpS_bind<|t7<|wpS_pure ⟨sm.put _,rfl,hp⟩
theorem adF(ha:0<a.size)(hb:0<b.size)(h0:r (b[b.size - 1]'(by omega))<=r (a[a.size - 1]'(by omega)))(h:∀R st',Sm st st'->GD r a b R->Q R st'):wpS (model prog w) A E s (mHi a b) Q st:=by
 rw[afc];refine wpS_bind<|wpS_lift<|Qj8 ⟨rfl,wpS_bind<|eY (by omega) ?_⟩;have j0:JH r a b #[] a.size b.size:=⟨by omega,by omega,by rw[Nat.sub_self,Nat.sub_self];exact List.Perm.refl _,List.Pairwise.nil,λx hx=>absurd hx (by simp)⟩;have j1:=Xy j0 hX ha (Qq1 _) (Qq1 _)<|Gz hY hb (Qq1 _) h0;by_cases q1:a.size - 1=0;rw[if_pos (beq_iff_eq.mpr q1)];exact wpS_pure<|h _ st (Sm.Bk _)<|Us hX hY j1 (by omega) (Qq1 _)<|.inl q1;rw[if_neg (λz=>q1<|beq_iff_eq.mp z)];by_cases q2:b.size=1;rw[if_pos (beq_iff_eq.mpr q2)];exact wpS_pure<|h _ st (Sm.Bk _)<|Fq hX hl j1 (by omega) (by omega) q2;rw[if_neg (λz=>q2<|beq_iff_eq.mp z)];refine wpS_bind<|wpS_get<|wpS_bind<|wpS_mono (wpS_forRange (I:=λx c st'=>Sm st st'/\c.1=none/\KS r a b c.2.2.2.1 c.2.1 c.2.2.1/\c.2.1+c.2.2.1+x+1<=a.size+b.size) (Q:=λc st'=>Sm st st'/\∃R,c.1=some R/\GD r a b R) ?_ ?_ ⟨Sm.Bk _,rfl,⟨j1,by dsimp only;omega,by dsimp only;omega,by dsimp only;omega,Qq1 _⟩,by dsimp only;omega⟩) ?_;rintro x ⟨c,m,n,o,g⟩ st' _ hx ⟨sm,e,h',hp⟩;cases e;dsimp only at h' hp ⊢;refine wpS_mono (adK C (sm.kind hk) ma mb hX hY hl (by omega) h') λu st2 ⟨e,z⟩=>?_;have sm3:Sm st st2:=by
  obtain⟨g4,rfl⟩:=sm;obtain⟨g5,rfl⟩:=e;exact⟨g5,rfl⟩
 cases u with
 |done c=>exact⟨sm3,z⟩|yield c=>exact⟨sm3,z.1,z.2.1,by have:=z.2.2;have:=h'.m0;omega⟩
 rintro⟨c,m,n,o,g⟩ st' ⟨sm,e,h',hp⟩;dsimp only at h' hp ⊢;have:=h'.m0;omega;rintro⟨c,d⟩ st' ⟨sm,R,e,z⟩;cases e;exact wpS_pure<|h R st' sm z
end
noncomputable def kA(r:Keyed->Nat)(a:Array Keyed)(i:Nat):Nat:=match a[i]? with
 |some x=>r x|none=>0
theorem qI(h:a[i]?=b[j]?):kA r a i=kA r b j:=by unfold kA;rw[h]
section
variable{prog:Program}{w:World}{A:Around}{E:Value->Shared->Prop}{s:Shared}{kd:SortKind}{r:Keyed->Nat}{a₀:Array Keyed}
structure Bs(kd:SortKind)(a₀:Array Keyed)(st:SortSt):Prop where
 perm:(arrOf st).Perm a₀
 fail:failedOf st=none
 kind:kindOf st=kd
theorem Bs.size{st:SortSt}(h:Bs kd a₀ st):(arrOf st).size=a₀.size:=h.perm.size_eq
theorem Bs.mem{st:SortSt}(h:Bs kd a₀ st)(hx:x∈arrOf st):x∈a₀:=h.perm.mem_iff.mp hx
theorem Bs.arr{st:SortSt}(h:Bs kd a₀ st)(hp:b.Perm (arrOf st)):Bs kd a₀ (setArr st b):=⟨hp.trans h.perm,h.fail,h.kind⟩
theorem QZ(C:NB prog w A E s kd r a₀){st:SortSt}(hB:Bs kd a₀ st)(hi:i<(arrOf st).size)(hj:j<(arrOf st).size)(h:Q (some (decide (kA r (arrOf st) i<kA r (arrOf st) j))) st) :
  wpS (model prog w) A E s (ltAt' i j) Q st:=by
 rw[ltAt'_eq];refine wpS_bind<|wpS_get<|wpS_bind<|eY hi<|wpS_bind<|eY hj<|C _ _ (hB.mem<|Array.getElem_mem hi) (hB.mem<|Array.getElem_mem hj) st _ hB.kind ?_;unfold kA at h;rw[Array.getElem?_eq_getElem hi,Array.getElem?_eq_getElem hj] at h;exact h
theorem KC(hj:j<=a.size)(k):kA r (mirror a i j ((j - i) / 2)) k=if i<=k/\k<j then kA r a (i+j - 1 - k) else kA r a k:=by
 by_cases q:i<=k/\k<j;rw[if_pos q];exact qI (by rw[getElem?_mirror_all hj,if_pos q]);rw[if_neg q];exact qI (by rw[getElem?_mirror_all hj,if_neg q])
theorem kI(hj:j<=a.size)(h:∀k,i<=k->k<j->kA r a k=kA r a (j - 1))(k):kA r (mirror a i j ((j - i) / 2)) k=kA r a k:=by
 rw[KC hj];split;rename_i q;rw[h _ (by omega) (by omega),h k q.1 q.2];rfl
def Lo(lo:Nat)(a b:Array Keyed):Prop:=∀m,m<lo->b[m]?=a[m]?
theorem Lo.refl(lo)(a):Lo lo a a:=λ_ _=>rfl
theorem Lo.mir{lo i j:Nat}(h:Lo lo a b)(hi:lo<=i)(hj:j<=b.size):Lo lo a (mirror b i j ((j - i) / 2)):=λm hm=>by
 rw[getElem?_mirror_all hj,if_neg (by omega)];exact h m hm
def Up(r:Keyed->Nat)(a:Array Keyed)(lo n:Nat):Prop:=∀i j,i<=j->j<n->kA r a (lo+i)<=kA r a (lo+j)
def Dn(r:Keyed->Nat)(a:Array Keyed)(lo n:Nat):Prop:=∀i j,i<=j->j<n->kA r a (lo+j)<=kA r a (lo+i)
theorem Up.more{lo n:Nat}(h:Up r a lo n)(hn:0<n->kA r a (lo+n - 1)<=kA r a (lo+n)):Up r a lo (n+1):=λi j hij hj=>by
 by_cases e:j<n;exact h i j hij e;have e:j=n:=by omega
 subst e;by_cases e2:i=j;subst e2;exact Qq1 _;have:=h i (j - 1) (by omega) (by omega);have e3:lo+(j - 1)=lo+j - 1:=by omega
 rw[e3] at this;exact Qq4 this (hn (by omega))
theorem Dn.more{lo n:Nat}(h:Dn r a lo n)(hn:0<n->kA r a (lo+n)<=kA r a (lo+n - 1)):Dn r a lo (n+1):=λi j hij hj=>by
 by_cases e:j<n;exact h i j hij e;have e:j=n:=by omega
 subst e;by_cases e2:i=j;subst e2;exact Qq1 _;have:=h i (j - 1) (by omega) (by omega);have e3:lo+(j - 1)=lo+j - 1:=by omega
 rw[e3] at this;exact Qq4 (hn (by omega)) this
theorem up1{lo:Nat}:Up r a lo 1:=λi j h1 h2=>by
 have:i=j:=by omega
 subst this;exact Qq1 _
theorem dn1{lo:Nat}:Dn r a lo 1:=λi j h1 h2=>by
 have:i=j:=by omega
 subst this;exact Qq1 _
abbrev A1:=Option (Option Nat)×Nat
noncomputable def asc(lo n z:Nat):SM A1:=forIn [n:z] ((none,n):A1) λ_ c=>do
 match <-ltAt' (lo+c.2) (lo+c.2 - 1) with
 |some v=>if v=true then pure (.done (none,c.2)) else pure (.yield (none,c.2+1))|_=>pure (.done (some none,c.2))
noncomputable def tl3(lo n z:Nat):SM (Option Nat):=do
 reverseSlice' lo (lo+n)
 let c <-asc lo n z
 match c.1 with
 |some t=>pure t|none=>pure (some c.2)
abbrev A2:=Option (Option Nat)×Nat×Nat
noncomputable def dsc(lo n z:Nat):SM A2:=forIn [n:z] ((none,n,0):A2) λ_ c=>do
 match <-ltAt' (lo+c.2.1) (lo+c.2.1 - 1) with
 |some v=>
  if v=true then
   if c.2.2 > 0 then do
    reverseSlice' (lo+c.2.1 - (c.2.2+1)) (lo+c.2.1)
    pure (.yield (none,c.2.1+1,0))
   else pure (.yield (none,c.2.1+1,0))
  else do
   match <-ltAt' (lo+c.2.1 - 1) (lo+c.2.1) with
   |some u=>if u=true then pure (.done (none,c.2.1,c.2.2)) else pure (.yield (none,c.2.1+1,c.2.2+1))|_=>pure (.done (some none,c.2.1,c.2.2))
 |_=>pure (.done (some none,c.2.1,c.2.2))
noncomputable def dpt(lo n z:Nat):SM (Option Nat):=do
 rule "list.sort.descending-run"
 let c <-dsc lo (n+1) z
 match c.1 with
 |some t=>pure t
 |none=>
  if c.2.2 > 0 then do
   reverseSlice' (lo+c.2.1 - (c.2.2+1)) (lo+c.2.1)
   tl3 lo c.2.1 z
  else tl3 lo c.2.1 z
theorem Dq(lo n z)(f:A1->SM (Option Nat))(hf:∀c,f c=match c.1 with|some t=>pure t|none=>pure (some c.2)):(do reverseSlice' lo (lo+n);let c <-asc lo n z;f c)=tl3 lo n z:=by unfold tl3;refine Qw9 (bind _)<|funext λ_=>Qw9 (bind _)<|funext λc=>hf c
theorem acO(lo z):countRun' lo z=(do
 let c <-asc lo 1 z
 match c.1 with
 |some t=>pure t
 |none=>
  if (c.2 == z)=true then pure (some c.2)
  else if c.2 > 1 then do
   match <-ltAt' lo (lo+c.2 - 1) with
   |some v=>
    if v=true then pure (some c.2)
    else do
     reverseSlice' lo (lo+c.2)
     dpt lo c.2 z
   |_=>pure none
  else dpt lo c.2 z):=by
 refine rfl.trans ?_;refine congr (Qw9 bind ?_)<|funext λc=>?_;rfl;rcases c with ⟨_|t,n⟩;dsimp only;congr 1;congr 1;refine Qw9 (bind _)<|funext λv=>?_;rcases v with _|v;rfl;dsimp only;congr 1;refine Qw9 (bind _)<|funext λ_=>?_;unfold dpt;refine Qw9 (bind _)<|funext λ_=>?_;refine congr (Qw9 bind ?_)<|funext λc=>?_;rfl;rcases c with ⟨_|t,m,q⟩;dsimp only;congr 1;refine Qw9 (bind _)<|funext λ_=>?_;exact Dq lo m z _ λc=>by rcases c with ⟨_|t,m⟩<;>rfl
 exact Dq lo m z _ λc=>by rcases c with ⟨_|t,m⟩<;>rfl
 rfl;unfold dpt;refine Qw9 (bind _)<|funext λ_=>?_;refine congr (Qw9 bind ?_)<|funext λc=>?_;rfl;rcases c with ⟨_|t,m,q⟩;dsimp only;congr 1;refine Qw9 (bind _)<|funext λ_=>?_;exact Dq lo m z _ λc=>by rcases c with ⟨_|t,m⟩<;>rfl
 exact Dq lo m z _ λc=>by rcases c with ⟨_|t,m⟩<;>rfl
 rfl;rfl
theorem w_rev{st:SortSt}(h:Q () (setArr st (mirror (arrOf st) i j ((j - i) / 2)))):wpS (model prog w) A E s (reverseSlice' i j) Q st:=by rw[reverseSlice'_eq];exact wpS_modify h
section
variable{lo z:Nat}(C:NB prog w A E s kd r a₀)(hz:lo+z<=a₀.size)
include C hz
theorem YM{st:SortSt}(hB:Bs kd a₀ st)(h1:1<=n)(hn:n<=z)(hs:Up r (arrOf st) lo n)
  (h:∀m,n<=m->m<=z->Up r (arrOf st) lo m->(m=z\/kA r (arrOf st) (lo+m)<kA r (arrOf st) (lo+m - 1))->Q (none,m) st):wpS (model prog w) A E s (asc lo n z) Q st:=by
 unfold asc;refine wpS_forRange (I:=λx c st'=>st'=st/\c=(none,x)/\Up r (arrOf st) lo x) ?_ ?_ ⟨rfl,rfl,hs⟩;rintro x c st' hx1 hx2 ⟨rfl,rfl,hs'⟩;have:=hB.size;refine wpS_bind<|QZ C hB (by dsimp only;omega) (by dsimp only;omega) ?_;dsimp only;by_cases e:kA r (arrOf st') (lo+x)<kA r (arrOf st') (lo+x - 1);rw[Qwj e];exact wpS_pure<|h x hx1 (by omega) hs'<|.inr e;rw[Qq9 e];exact wpS_pure ⟨rfl,rfl,hs'.more λ_=>Nat.le_of_not_lt e⟩;rintro c st' ⟨rfl,rfl,hs'⟩;have e:max n z=z:=by omega
 rw[e] at hs' ⊢;exact h z hn (Qq1 _) hs'<|.inl rfl
theorem YJ{st:SortSt}(hB:Bs kd a₀ st)(h1:1<=n)(hn:n<=z)(hs:Dn r (arrOf st) lo n)(hL:Lo lo a (arrOf st))
  (h:∀m st',Bs kd a₀ st'->pendingOf st'=pendingOf st->1<=m->m<=z->Up r (arrOf st') lo m->Lo lo a (arrOf st')->Q (some m) st'):wpS (model prog w) A E s (tl3 lo n z) Q st:=by
 have hsz:=hB.size;unfold tl3;refine wpS_bind<|w_rev ?_;have hB':=hB.arr<|mirror_perm (arrOf st) lo (lo+n)<|(lo+n - lo) / 2;refine wpS_bind<|YM C hz hB' h1 hn ?_ λm m1 m2 m3 _=>wpS_pure<|h m _ hB' rfl (by omega) m2 m3 (hL.mir (Qq1 _) (by omega));intro i j hij hj;show kA r (mirror (arrOf st) lo (lo+n) _) _<=kA r (mirror (arrOf st) lo (lo+n) _) _;rw[KC (by omega),KC (by omega),if_pos (by omega),if_pos (by omega)];have:=hs (n - 1 - j) (n - 1 - i) (by omega) (by omega);have e1:lo+(lo+n) - 1 - (lo+i)=lo+(n - 1 - i):=by omega
 have e2:lo+(lo+n) - 1 - (lo+j)=lo+(n - 1 - j):=by omega
 rw[e1,e2];exact this
theorem adM{st:SortSt}(hB:Bs kd a₀ st)(h1:1<=n)(hn:n<=z)(hs:Dn r (arrOf st) lo n)(hL:Lo lo a (arrOf st))
  (h:∀m q st',Bs kd a₀ st'->pendingOf st'=pendingOf st->n<=m->m<=z->Dn r (arrOf st') lo m->Lo lo a (arrOf st')->q+1<=m->(∀i,lo+m - (q+1)<=i->i<lo+m->kA r (arrOf st') i=kA r (arrOf st') (lo+m - 1))->Q (none,m,q) st'):wpS (model prog w) A E s (dsc lo n z) Q st:=by
 unfold dsc;refine wpS_forRange (I:=λx c st'=>∃q,c=(none,x,q)/\Bs kd a₀ st'/\pendingOf st'=pendingOf st/\Dn r (arrOf st') lo x/\Lo lo a (arrOf st')/\q+1<=x/\∀i,lo+x - (q+1)<=i->i<lo+x->kA r (arrOf st') i=kA r (arrOf st') (lo+x - 1)) ?_ ?_
  ⟨0,rfl,hB,rfl,hs,hL,h1,λi q1 q2=>by congr 1;omega⟩
 rintro x c st' hx1 hx2 ⟨q,rfl,hB',hp,hs',hL',hq,he⟩;have hsz:=hB'.size;refine wpS_bind<|QZ C hB' (by dsimp only;omega) (by dsimp only;omega) ?_;dsimp only;by_cases e:kA r (arrOf st') (lo+x)<kA r (arrOf st') (lo+x - 1);rw[Qwj e,if_pos rfl];by_cases hq0:q > 0;rw[if_pos hq0];refine wpS_bind<|w_rev<|wpS_pure ⟨0,rfl,hB'.arr<|mirror_perm _ _ _ _,hp,Dn.more (λi j hij hj=>?_) λ_=>?_,hL'.mir (by omega) (by omega),by omega,λi q1 q2=>by congr 1;omega⟩;show kA r (mirror (arrOf st') _ _ _) _<=kA r (mirror (arrOf st') _ _ _) _;rw[kI (by omega) he,kI (by omega) he];exact hs' i j hij hj;show kA r (mirror (arrOf st') _ _ _) _<=kA r (mirror (arrOf st') _ _ _) _;rw[kI (by omega) he,kI (by omega) he];exact Qx3 e;rw[if_neg hq0];exact wpS_pure ⟨0,rfl,hB',hp,hs'.more λ_=>Qx3 e,hL',by omega,λi q1 q2=>by congr 1;omega⟩;rw[Qq9 e,if_neg (by decide)];refine wpS_bind<|QZ C hB' (by omega) (by omega) ?_;by_cases e2:kA r (arrOf st') (lo+x - 1)<kA r (arrOf st') (lo+x);rw[Qwj e2];exact wpS_pure<|h x q st' hB' hp hx1 (by omega) hs' hL' hq he;rw[Qq9 e2];have e3:kA r (arrOf st') (lo+x)=kA r (arrOf st') (lo+x - 1):=by omega
 refine wpS_pure ⟨q+1,rfl,hB',hp,hs'.more λ_=>by omega,hL',by omega,λi q1 q2=>?_⟩;have e4:lo+(x+1) - 1=lo+x:=by omega
 rw[e4];by_cases e5:i=lo+x;rw[e5];rw[e3];exact he i (by omega) (by omega);rintro c st' ⟨q,rfl,hB',hp,hs',hL',hq,he⟩;have e:max n z=z:=by omega
 rw[e] at hs' hq he ⊢;exact h z q st' hB' hp hn (Qq1 _) hs' hL' hq he
theorem YL{st:SortSt}(hB:Bs kd a₀ st)(hn:n+1<=z)(hs:Dn r (arrOf st) lo (n+1))(hL:Lo lo a (arrOf st))
  (h:∀m st',Bs kd a₀ st'->pendingOf st'=pendingOf st->1<=m->m<=z->Up r (arrOf st') lo m->Lo lo a (arrOf st')->Q (some m) st'):wpS (model prog w) A E s (dpt lo n z) Q st:=by
 unfold dpt;refine wpS_bind<|wpS_lift<|Qj8 ⟨rfl,?_⟩;refine wpS_bind<|adM C hz hB (by omega) hn hs hL λm q st' hB' hp m1 m2 hs' hL' hq he=>?_;have hsz:=hB'.size;dsimp only;by_cases hq0:q > 0;rw[if_pos hq0];refine wpS_bind<|w_rev<|YJ C hz (hB'.arr<|mirror_perm _ _ _ _) (by omega) m2 (λi j hij hj=>?_) (hL'.mir (by omega) (by omega)) λm st2 b1 b2=>h m st2 b1<|b2.trans hp;show kA r (mirror (arrOf st') _ _ _) _<=kA r (mirror (arrOf st') _ _ _) _;rw[kI (by omega) he,kI (by omega) he];exact hs' i j hij hj;rw[if_neg hq0];exact YJ C hz hB' (by omega) m2 hs' hL' λm st2 b1 b2=>h m st2 b1<|b2.trans hp
theorem adN{st:SortSt}(h1:1<=z)(hB:Bs kd a₀ st)
  (h:∀m st',Bs kd a₀ st'->pendingOf st'=pendingOf st->1<=m->m<=z->Up r (arrOf st') lo m->Lo lo (arrOf st) (arrOf st')->Q (some m) st'):wpS (model prog w) A E s (countRun' lo z) Q st:=by
 have hsz:=hB.size;rw[acO];refine wpS_bind<|YM C hz hB (Qq1 1) h1 up1 λn n1 n2 hs hor=>?_;dsimp only;by_cases q1:n=z;rw[if_pos (beq_iff_eq.mpr q1)];exact wpS_pure<|h n st hB rfl n1 n2 hs (Lo.refl _ _);rw[if_neg (λz=>q1<|beq_iff_eq.mp z)];have hlt:=hor.resolve_left q1;by_cases q2:n > 1;rw[if_pos q2];refine wpS_bind<|QZ C hB (by omega) (by omega) ?_;by_cases e:kA r (arrOf st) lo<kA r (arrOf st) (lo+n - 1);rw[Qwj e];exact wpS_pure<|h n st hB rfl n1 n2 hs (Lo.refl _ _);rw[Qq9 e];have flat:∀k,lo<=k->k<lo+n->kA r (arrOf st) k=kA r (arrOf st) (lo+n - 1):=λk k1 k2=>by
  have a1:=hs 0 (k - lo) (by omega) (by omega);have a2:=hs (k - lo) (n - 1) (by omega) (by omega);have e1:lo+(k - lo)=k:=by omega
  have e2:lo+(n - 1)=lo+n - 1:=by omega
  rw[e1] at a1 a2;rw[e2] at a2;rw[Nat.add_zero] at a1;omega
 refine wpS_bind<|w_rev<|YL C hz (hB.arr<|mirror_perm _ _ _ _) (by omega) (Dn.more (λi j hij hj=>?_) λ_=>?_) ((Lo.refl _ _).mir (Qq1 _) (by omega)) h;show kA r (mirror (arrOf st) _ _ _) _<=kA r (mirror (arrOf st) _ _ _) _;rw[kI (by omega) flat,kI (by omega) flat,flat _ (by omega) (by omega),flat (lo+i) (by omega) (by omega)];exact Qq1 _;show kA r (mirror (arrOf st) _ _ _) _<=kA r (mirror (arrOf st) _ _ _) _;rw[kI (by omega) flat,kI (by omega) flat];exact Qx3 hlt;rw[if_neg q2];have:n=1:=by omega
 subst this;exact YL C hz hB (by omega) (dn1.more λ_=>Qx3 hlt) (Lo.refl _ _) h
theorem adO{st:SortSt}(hB:Bs kd a₀ st)(h1:1<=ok)(hok:ok<=z)(hs:Up r (arrOf st) lo ok)
  (h:∀st',Bs kd a₀ st'->pendingOf st'=pendingOf st->Up r (arrOf st') lo z->Lo lo (arrOf st) (arrOf st')->Q true st'):wpS (model prog w) A E s (binarySort' lo z ok) Q st:=by
 rw[binarySort'_eq];refine wpS_bind (wpS_mono (wpS_forRange (I:=λk c st'=>c=(none,())/\Bs kd a₀ st'/\pendingOf st'=pendingOf st/\Up r (arrOf st') lo k/\Lo lo (arrOf st) (arrOf st'))
  (Q:=λc st'=>c=(none,())/\Bs kd a₀ st'/\pendingOf st'=pendingOf st/\Up r (arrOf st') lo z/\Lo lo (arrOf st) (arrOf st')) ?_ ?_ ⟨rfl,hB,rfl,by rw[Nat.max_eq_left h1];exact hs,Lo.refl _ _⟩) ?_)
 rintro k c st' k1 k2 ⟨rfl,hB',hp,hs',hL⟩;have hsz:=hB'.size;refine wpS_bind (wpS_mono (wpS_forRange (I:=λx (c:Option Bool×Nat×Nat) st2=>st2=st'/\c.1=none/\c.2.1<=c.2.2/\c.2.2<=k/\c.2.2 - c.2.1+x<=k/\(∀i,i<c.2.1->kA r (arrOf st') (lo+i)<=kA r (arrOf st') (lo+k))/\∀i,c.2.2<=i->i<k->kA r (arrOf st') (lo+k)<=kA r (arrOf st') (lo+i))
  (Q:=λc st2=>st2=st'/\c.1=none/\c.2.1<=k/\(∀i,i<c.2.1->kA r (arrOf st') (lo+i)<=kA r (arrOf st') (lo+k))/\∀i,c.2.1<=i->i<k->kA r (arrOf st') (lo+k)<=kA r (arrOf st') (lo+i)) ?_ ?_ ⟨rfl,rfl,Qx0 _,Qq1 _,by dsimp only;omega,λi hi=>absurd hi<|Qj5 i,λi i1 i2=>by dsimp only at i1;omega⟩) ?_)
 rintro x ⟨c,l,u⟩ st2 _ hx ⟨rfl,e,q1,q2,q3,q4,q5⟩;cases e;dsimp only at q1 q2 q3 q4 q5 ⊢;by_cases hl:l ≥ u;rw[if_pos hl];exact wpS_pure ⟨rfl,rfl,by dsimp only;omega,q4,λi i1 i2=>q5 i (by dsimp only at i1;omega) i2⟩;rw[if_neg hl];refine wpS_bind<|QZ C hB' (by omega) (by omega) ?_;by_cases e:kA r (arrOf st2) (lo+k)<kA r (arrOf st2) (lo+(l+u) / 2);rw[Qwj e];refine wpS_pure ⟨rfl,rfl,by dsimp only;omega,by dsimp only;omega,by dsimp only;omega,q4,λi i1 i2=>?_⟩;exact Qq4 (Qx3 e)<|hs' _ i i1 i2;rw[Qq9 e];refine wpS_pure ⟨rfl,rfl,by dsimp only;omega,q2,by dsimp only;omega,λi hi=>?_,q5⟩;dsimp only at hi;exact Qq4 (hs' i ((l+u) / 2) (by omega) (by omega))<|Nat.le_of_not_lt e;rintro⟨c,l,u⟩ st2 ⟨rfl,e,q1,q2,q3,q4,q5⟩;cases e;dsimp only at q1 q2 q3 q4 q5 ⊢;exact⟨rfl,rfl,by omega,q4,λi i1 i2=>q5 i (by omega) i2⟩;rintro⟨c,l,u⟩ st2 ⟨rfl,e,q1,q4,q5⟩;cases e;dsimp only at q1 q4 q5 ⊢;rw[moveDown'_eq];refine wpS_bind<|wpS_modify<|wpS_pure ⟨rfl,hB'.arr<|bubble_perm _ _ _,hp,?_,?_⟩;have kb:∀m,kA r (bubble (arrOf st2) (lo+k)<|lo+k - (lo+l)) m=if m=lo+l then kA r (arrOf st2) (lo+k) else if lo+l<m/\m<=lo+k then kA r (arrOf st2) (m - 1) else kA r (arrOf st2) m:=λm=>by
  have g:=getElem?_bubble (xs:=arrOf st2) (src:=lo+k) (by omega) (lo+k - (lo+l)) (by omega) m;have e1:lo+k - (lo+k - (lo+l))=lo+l:=by omega
  rw[e1] at g;by_cases c1:m=lo+l;rw[if_pos c1];rw[if_pos c1] at g;exact qI g;rw[if_neg c1];rw[if_neg c1] at g;by_cases c2:lo+l<m/\m<=lo+k;rw[if_pos c2];rw[if_pos c2] at g;exact qI g;rw[if_neg c2];rw[if_neg c2] at g;exact qI g
 intro i j hij hj;show kA r (bubble (arrOf st2) _ _) _<=kA r (bubble (arrOf st2) _ _) _;rw[kb,kb];by_cases c1:i=l;rw[if_pos (by omega)];by_cases c2:j=l;rw[if_pos (by omega)];exact Qq1 _;rw[if_neg (by omega),if_pos (by omega)];have:=q5 (j - 1) (by omega) (by omega);have e2:lo+(j - 1)=lo+j - 1:=by omega
 rw[e2] at this;exact this;rw[if_neg (by omega)];by_cases c2:j=l;rw[if_neg (show ¬(lo+l<lo+i/\lo+i<=lo+k) by omega),if_pos (by omega)];exact q4 i (by omega);rw[if_neg (show ¬lo+j=lo+l by omega)];by_cases c3:l<i;rw[if_pos (by omega),if_pos (by omega)];have:=hs' (i - 1) (j - 1) (by omega) (by omega);have e2:lo+(j - 1)=lo+j - 1:=by omega
 have e3:lo+(i - 1)=lo+i - 1:=by omega
 rw[e2,e3] at this;exact this;rw[if_neg (by omega)];by_cases c4:l<j;rw[if_pos (by omega)];have:=hs' i (j - 1) (by omega) (by omega);have e2:lo+(j - 1)=lo+j - 1:=by omega
 rw[e2] at this;exact this;rw[if_neg (by omega)];exact hs' i j hij (by omega);intro m hm;show(bubble (arrOf st2) _ _)[m]?=_;rw[getElem?_bubble (by omega) _ (by omega),if_neg (by omega),if_neg (by omega)];exact hL m hm;rintro c st' ⟨rfl,hB',hp,hs',hL⟩;refine⟨rfl,hB',hp,?_,hL⟩;have e:max (max ok 1) z=z:=by omega
 rw[e] at hs';exact hs';rintro c st' ⟨rfl,hB',hp,hs',hL⟩;exact wpS_pure (h st' hB' hp hs' hL)
end
end
noncomputable def mA3(sa na nb k m:Nat)(a:Array Keyed)(sb:Nat):SM Bool:=do
 let R <-if na - k<=m then mLo (a.extract (sa+k) sb) (a.extract sb (sb+m)) else mHi (a.extract (sa+k) sb) (a.extract sb (sb+m))
 modify λst=>setArr st (R.toList.zipIdx.foldl (λa p=>a.setIfInBounds (sa+k+p.2) p.1) (arrOf st))
 let st <-get
 pure (failedOf st).isNone
noncomputable def mA2(a:Array Keyed)(sa na sb nb:Nat):SM Bool:=do
 let y <-elem' a sb
 match <-iQ false y a sa na 0 with
 |some k=>
  if (na - k == 0)=true then pure true else do
   let x <-elem' a (sa+k+(na - k) - 1)
   match <-iQ true x a sb nb (nb - 1) with
   |some m=>if (m == 0)=true then pure true else mA3 sa na nb k m a sb|_=>pure false
 |_=>pure false
theorem abS(i):mergeAt' i=(do
 let st <-get
 match (pendingOf st)[i]?,(pendingOf st)[i+1]? with
 |some p,some q=>do
  set (setPending st (((pendingOf st).setIfInBounds i (p.1,p.2.1+q.2.1,p.2.2)).eraseIdxIfInBounds (i+1)))
  mA2 (arrOf st) p.1 p.2.1 q.1 q.2.1
 |_,_=>unsupported "internal:list.sort.pending"):=by
 refine rfl.trans ?_;refine Qw9 (bind _)<|funext λst=>?_;dsimp only;rcases h1:(pendingOf st)[i]? with _|⟨sa,na,pw⟩<;>rcases h2:(pendingOf st)[i+1]? with _|⟨sb,nb,pw2⟩;rfl;rfl;rfl;dsimp only;refine Qw9 (bind _)<|funext λ_=>?_;unfold mA2;refine Qw9 (bind _)<|funext λy=>?_;refine Qw9 (bind _)<|funext λk=>?_;rcases k with _|k;rfl;dsimp only;congr 1
theorem wb:∀R n base (a:Array Keyed),base+n+R.length<=a.size->((R.zipIdx n).foldl (λa p=>a.setIfInBounds (base+p.2) p.1) a).toList=a.toList.take (base+n)++R++a.toList.drop (base+n+R.length)
 |[],n,base,a,h=>by simp
 |x::R,n,base,a,h=>by
  rw[Qqw] at h;have hi:base+n<a.size:=by omega
  rw[List.zipIdx_cons,List.foldl_cons,wb R (n+1) base _ (by rw[Array.size_setIfInBounds];omega),Array.toList_setIfInBounds];have e1:base+(n+1)=base+n+1:=by omega
  have e2:base+(n+1)+R.length=base+n+(x::R).length:=by rw[Qqw];omega
  dsimp only;rw[e2,e1];have hl:base+n<a.toList.length:=by rw[Qqz];exact hi
  rw[List.take_set,List.drop_set_of_lt (by rw[Qqw];omega)];rw[List.take_succ_eq_append_getElem hl];have:(a.toList.take (base+n)++[a.toList[base+n]]).set (base+n) x=a.toList.take (base+n)++[x]:=by
   rw[List.set_append_right _ _ (by rw[Qwy];omega)]
   congr 1
   have:base+n - (a.toList.take<|base+n).length=0:=by rw[Qwy];omega
   rw[this]
   rfl
  rw[this];simp
section
variable{prog:Program}{w:World}{A:Around}{E:Value->Shared->Prop}{s:Shared}{kd:SortKind}{r:Keyed->Nat}{a₀:Array Keyed}
theorem YK(C:NB prog w A E s kd r a₀){st:SortSt}(hk:kindOf st=kd)(hkey:key∈a₀)(tO:∀x∈a,x∈a₀)(hb:base+n<=a.size)(hh:hint<n)
  (hS:S=(a.toList.drop base).take n) (hs:S.Pairwise (jH r)) (h:∀k,k<=n->(∀x∈S.take k,bB left r key x=true)->(∀x∈S.drop k,bB left r key x=false)->Q (some k) st):wpS (model prog w) A E s (iQ left key a base n hint) Q st:=by
 have hl:S.length=n:=by rw[hS,Qwy,Qxy,Qqz];omega
 have hg:∀i (hi:i<S.length),S[i]=a[base+i]'(by omega):=λi hi=>by
  subst hS;rw[List.getElem_take,List.getElem_drop];rfl
 refine pW C hk hkey tO hb (λi=>match S[i]? with|some x=>bB left r key x|none=>false) (λi h1 h2=>?_) (λi j h1 h2 h3=>?_) hh λk k1 k2 k3=>h k k1 (λx hx=>?_)<|λx hx=>?_;rw[Qqv (by omega),hg i (by omega)];rw[Qqv (by omega)] at h3 ⊢;have:=pw_le rf hs h1 (by omega);dsimp only at h3 ⊢;unfold bB at h3 ⊢;cases left with
 |true=>simp[if_true,decide_eq_true_eq] at h3 ⊢;exact Qw5 this h3|false=>simp[Bool.false_eq_true,if_false,Bool.not_eq_true',decide_eq_false_iff_not,Nat.not_lt] at h3 ⊢;exact Qq4 this h3
 obtain⟨i,hi,rfl⟩:=List.mem_iff_getElem.mp hx;rw[Qwy] at hi;have:=k2 i (by omega);rw[Qqv (by omega)] at this;rw[List.getElem_take];exact this;obtain⟨i,hi,rfl⟩:=List.mem_iff_getElem.mp hx;rw[Qxy] at hi;have:=k3 (k+i) (by omega) (by omega);rw[Qqv (by omega)] at this;rw[List.getElem_drop];exact this
theorem adC{st st1:SortSt}(h:Q ⟨⟩ st1):wpS (model prog w) A E s (set st1:SM PUnit) Q st:=by unfold wpS;rw[StateT.run_set];exact Qq6 ⟨rfl,h⟩
noncomputable def part(l:List Keyed)(b n:Nat):List Keyed:=(l.drop b).take n
theorem za(h:b+n<=l.length):(part l b n).length=n:=by unfold part;rw[Qwy,Qxy];omega
theorem uI(hi:i<(part l b n).length)(hb:b+i<l.length):(part l b n)[i]=l[b+i]:=by simp[part,List.getElem_take,List.getElem_drop]
theorem aaw(b n m):l=l.take b++(part l b n++(part l (b+n) m++l.drop (b+n+m))):=by
 unfold part;have e1:(l.drop<|b+n).take m++l.drop (b+n+m)=l.drop (b+n):=by rw[<-List.drop_drop (j:=b+n)];exact List.take_append_drop ..
 have e2:(l.drop b).take n++l.drop (b+n)=l.drop b:=by rw[<-List.drop_drop];exact List.take_append_drop ..
 rw[e1,e2,List.take_append_drop]
theorem pw_app{X Y:List Keyed}(hX:X.Pairwise (jH r))(hY:Y.Pairwise (jH r))(h:∀x∈X,∀y∈Y,r x<=r y):(X++Y).Pairwise (jH r):=List.pairwise_append.mpr ⟨hX,hY,h⟩
def Mgd(r:Keyed->Nat)(l l':List Keyed)(b n:Nat):Prop:=∃M,l'=l.take b++M++l.drop (b+n)/\M.length=n/\M.Pairwise (jH r)
section
variable{st:SortSt}{sa na nb:Nat}(C:NB prog w A E s kd r a₀)(hB:Bs kd a₀ st)(na0:0<na)(nb0:0<nb)(hs:sa+na+nb<=a₀.size)(S1:(part (arrOf st).toList sa na).Pairwise (jH r))(S2:(part (arrOf st).toList (sa+na) nb).Pairwise (jH r))
include C hB na0 nb0 hs S1 S2
theorem adH(h:∀st',Bs kd a₀ st'->pendingOf st'=pendingOf st->Mgd r (arrOf st).toList (arrOf st').toList sa (na+nb)->Q true st'):wpS (model prog w) A E s (mA2 (arrOf st) sa na (sa+na) nb) Q st:=by
 have hsz:=hB.size;have hz:(arrOf st).toList.length=a₀.size:=by rw[Qqz];exact hsz
 have mem:∀x∈arrOf st,x∈a₀:=λx hx=>hB.mem hx;have l1:(part (arrOf st).toList sa na).length=na:=za (by omega);have l2:(part (arrOf st).toList (sa+na) nb).length=nb:=za (by omega);have dec:=aaw (l:=(arrOf st).toList) sa na nb;generalize hRa:part (arrOf st).toList sa na=Ra at *;generalize hRb:part (arrOf st).toList (sa+na) nb=Rb at *;have hb0:sa+na<(arrOf st).size:=by omega
 have k0:(arrOf st)[sa+na]=Rb[0]'(by omega):=by
  subst hRb;rw[uI _ (by omega)];rfl
 have all:∀T,T=Ra++Rb->T.Pairwise (jH r)->Q true st:=λT e q=>h st hB rfl ⟨T,by
  have e3:sa+(na+nb)=sa+na+nb:=by omega
  rw[e3,e,Qwk,Qwk];exact dec,by rw[e,Qqk];omega,q⟩
 have low:∀y∈Rb,r (Rb[0]'(by omega))<=r y:=λy hy=>Nh (le:=jH r) rf S2 (i:=0) (by omega) (by rw[List.drop_zero];exact hy);unfold mA2;refine wpS_bind<|eY hb0<|wpS_bind<|YK C hB.kind (mem _<|Array.getElem_mem hb0) mem (by omega) na0 hRa.symm S1 λk k1 k2 k3=>?_;rw[k0] at k2 k3;have k2':∀x∈Ra.take k,r x<=r (Rb[0]'(by omega)):=λx hx=>by
  have:=k2 x hx;unfold bB at this;simpa using this
 have k3':∀x∈Ra.drop k,r (Rb[0]'(by omega))<r x:=λx hx=>by
  have:=k3 x hx;unfold bB at this;simpa using this
 dsimp only;by_cases q1:na - k=0;rw[if_pos (beq_iff_eq.mpr q1)];refine wpS_pure<|all _ rfl (pw_app S1 S2 λx hx y hy=>Qq4 (k2' x ?_)<|low y hy);rw[Qj7 (by omega)];exact hx;rw[if_neg (λz=>q1<|beq_iff_eq.mp z)];have hb1:sa+k+(na - k) - 1<(arrOf st).size:=by omega
 have k4:(arrOf st)[sa+k+(na - k) - 1]=Ra[na - 1]'(by omega):=by
  subst hRa;rw[uI _ (by omega)];have:sa+k+(na - k) - 1=sa+(na - 1):=by omega
  simp only[this];rfl
 refine wpS_bind<|eY hb1<|wpS_bind<|YK C hB.kind (mem _<|Array.getElem_mem hb1) mem (by omega) (by omega) hRb.symm S2 λm m1 m2 m3=>?_;rw[k4] at m2 m3;have m2':∀y∈Rb.take m,r y<r (Ra[na - 1]'(by omega)):=λy hy=>by
  have:=m2 y hy;unfold bB at this;simpa using this
 have m3':∀y∈Rb.drop m,r (Ra[na - 1]'(by omega))<=r y:=λy hy=>by
  have:=m3 y hy;unfold bB at this;simpa using this
 have top:∀x∈Ra,r x<=r (Ra[na - 1]'(by omega)):=λx hx=>by
  obtain⟨u,hu,rfl⟩:=List.mem_iff_getElem.mp hx;exact pw_le (le:=jH r) rf S1 (i:=u) (j:=na - 1) (by omega) (by omega)
 dsimp only;by_cases q2:m=0;rw[if_pos (beq_iff_eq.mpr q2)];subst q2;exact wpS_pure (all _ rfl (pw_app S1 S2 λx hx y hy=>Qq4 (top x hx) (m3' y (by rw[List.drop_zero];exact hy))));rw[if_neg (λz=>q2 (beq_iff_eq.mp z))];unfold mA3;have xe:((arrOf st).extract (sa+k) (sa+na)).toList=Ra.drop k:=by
  rw[Array.toList_extract];unfold List.extract;subst hRa;unfold part;rw[List.drop_take,List.drop_drop];congr 1;omega
 have ye:((arrOf st).extract (sa+na) (sa+na+m)).toList=Rb.take m:=by rw[Array.toList_extract];unfold List.extract;subst hRb;unfold part;rw[List.take_take,Nat.add_sub_cancel_left,Nat.min_eq_left m1]
 generalize hx:(arrOf st).extract (sa+k) (sa+na)=X at *;generalize hy:(arrOf st).extract (sa+na) (sa+na+m)=Y at *;have xs:X.size=na - k:=by rw[<-Qqz,xe,Qxy];omega
 have ys:Y.size=m:=by rw[<-Qqz,ye,Qwy];omega
 have mX:∀x∈X,x∈a₀:=λx hx'=>by
  have:x∈X.toList:=Array.mem_toList_iff.mpr hx';rw[xe,<-hRa] at this;exact mem x (Array.mem_toList_iff.mp (List.mem_of_mem_drop (List.mem_of_mem_take (List.mem_of_mem_drop this))))
 have mY:∀x∈Y,x∈a₀:=λx hx'=>by
  have:x∈Y.toList:=Array.mem_toList_iff.mpr hx';rw[ye,<-hRb] at this;exact mem x (Array.mem_toList_iff.mp (List.mem_of_mem_drop (List.mem_of_mem_take (List.mem_of_mem_take this))))
 have pX:X.toList.Pairwise (jH r):=by rw[xe];exact S1.sublist (List.drop_sublist _ _)
 have pY:Y.toList.Pairwise (jH r):=by rw[ye];exact S2.sublist (List.take_sublist _ _)
 have gx:∀i (hi:i<X.size),X[i]=Ra[k+i]'(by omega):=λi hi=>by
  show X.toList[i]'(by rw[Qqz];exact hi)=_;simp only[xe,List.getElem_drop]
 have gy:∀i (hi:i<Y.size),Y[i]=Rb[i]'(by omega):=λi hi=>by
  show Y.toList[i]'(by rw[Qqz];exact hi)=_;simp only[ye,List.getElem_take]
 have fin:∀R st2,Sm st st2->GD r X Y R->wpS (model prog w) A E s (do
   modify λst=>setArr st (R.toList.zipIdx.foldl (λa p=>a.setIfInBounds (sa+k+p.2) p.1) (arrOf st))
   let st <-get
   pure (failedOf st).isNone:SM Bool) Q st2:=λR st2 sm gd=>by
  obtain⟨g,rfl⟩:=sm;refine wpS_bind (wpS_modify (wpS_bind (wpS_get (wpS_pure ?_))));have rl:R.toList.length=na - k+m:=by rw[gd.1.length_eq,Qqk,xe,ye,Qxy,Qwy];omega
  have wr:=wb R.toList 0 (sa+k) (arrOf st) (by omega);rw[Nat.add_zero,rl] at wr;have e0:(arrOf st).toList.take (sa+k)=(arrOf st).toList.take sa++Ra.take k:=by rw[<-hRa];unfold part;rw[List.take_take,Nat.min_eq_left k1,List.take_add]
  have e1:(arrOf st).toList.drop (sa+k+(na - k+m))=Rb.drop m++(arrOf st).toList.drop (sa+na+nb):=by
   have e2:sa+k+(na - k+m)=sa+na+m:=by omega
   rw[e2,<-hRb];unfold part;rw[List.drop_take,List.drop_drop];have e3:(arrOf st).toList.drop (sa+na+nb)=((arrOf st).toList.drop (sa+na+m)).drop (nb - m):=by rw[List.drop_drop];congr 1;omega
   rw[e3,List.take_append_drop]
  rw[e0,e1] at wr;have aeW:∀x∈R.toList,(x∈Ra.drop k\/x∈Rb.take m):=λx hx'=>by
   have:=gd.1.mem_iff.mp hx';rw[xe,ye] at this;exact Qww.mp this
  have key:Mgd r (arrOf st).toList (R.toList.zipIdx.foldl (λa p=>a.setIfInBounds (sa+k+p.2) p.1) (arrOf st)).toList sa (na+nb):=by
   refine⟨Ra.take k++(R.toList++Rb.drop m),?_,?_,pw_app (S1.sublist (List.take_sublist _ _)) (pw_app gd.2 (S2.sublist (List.drop_sublist _ _)) λx hx' y hy'=>?_) λx hx' y hy'=>?_⟩;rw[wr];have e3:sa+(na+nb)=sa+na+nb:=by omega
   rw[e3];simp only[Qwk];simp only[Qqk,Qwy,Qxy];omega;rcases aeW x hx' with q|q;exact Qq4 (top x (List.mem_of_mem_drop q)) (m3' y hy');exact Qq4 (Qx3 (m2' x q)) (m3' y hy');refine Qq4 (k2' x hx') ?_;rcases Qww.mp hy' with q|q;rcases aeW y q with q|q;exact Qx3 (k3' y q);exact low y (List.mem_of_mem_take q);exact low y (List.mem_of_mem_drop q)
  have hperm:(R.toList.zipIdx.foldl (λa p=>a.setIfInBounds (sa+k+p.2) p.1) (arrOf st)).Perm (arrOf st):=by
   refine Array.perm_iff_toList_perm.mpr ?_;refine List.Perm.trans (List.Perm.of_eq wr) (List.Perm.trans ?_ (List.Perm.of_eq dec.symm));have pR:R.toList.Perm (Ra.drop k++Rb.take m):=by have:=gd.1;rwa [xe,ye] at this
   have t1:(Ra.take k++(R.toList++Rb.drop m)).Perm (Ra++Rb):=by have e4:=List.take_append_drop k Ra;have e5:=List.take_append_drop m Rb;have:(Ra.take k++(R.toList++Rb.drop m)).Perm (Ra.take k++((Ra.drop k++Rb.take m)++Rb.drop m)):=(pR.append_right _).append_left _;refine this.trans ?_;rw[Qwk,e5,<-Qwk,e4]
   have:=(t1.append_right ((arrOf st).toList.drop (sa+na+nb))).append_left ((arrOf st).toList.take sa);simp only[Qwk] at this ⊢;exact this
  have hf:(failedOf (setArr (setG st g) (R.toList.zipIdx.foldl (λa p=>a.setIfInBounds (sa+k+p.2) p.1) (arrOf st)))).isNone=true:=by
   show(failedOf st).isNone=true;rw[hB.fail];rfl
  show Q (failedOf (setArr (setG st g) (R.toList.zipIdx.foldl (λa p=>a.setIfInBounds (sa+k+p.2) p.1) (arrOf st)))).isNone _;rw[hf];exact h _ ⟨hperm.trans hB.perm,hB.fail,hB.kind⟩ rfl key
 have x0:0<X.size:=by omega
 have y0:0<Y.size:=by omega
 have hX0:r Y[0]<=r X[0]:=by rw[gx 0 x0,gy 0 y0];refine Qx3 (k3' _ ?_);rw[List.mem_iff_getElem];exact⟨0,by rw[Qxy];omega,by rw[List.getElem_drop]⟩
 dsimp only;by_cases q3:na - k<=m;rw[if_pos q3];refine wpS_bind ?_;refine adE C hB.kind mX mY pX pY (λy hy' hlt=>?_) x0 y0 hX0 fin;rw[ye] at hy';have:=m2' y hy';have e4:X.toList[X.size - 1]=Ra[na - 1]'(by omega):=by
  have:=gx (X.size - 1) (by omega);have e5:k+(X.size - 1)=na - 1:=by omega
  simp only[e5] at this;exact this
 show r y<=r _;rw[e4];exact Qx3 this;rw[if_neg q3];refine wpS_bind ?_;refine adF C hB.kind mX mY pX pY (λy hy' hlt=>?_) x0 y0 ?_ fin;rw[xe] at hy';have e4:Y.toList[0]=Rb[0]'(by omega):=gy 0 y0;rw[e4];exact Qx3 (k3' y hy');rw[gx _ (by omega),gy _ (by omega)];have e5:k+(X.size - 1)=na - 1:=by omega
 simp only[e5];refine Qx3 (m2' _ ?_);rw[List.mem_iff_getElem];exact⟨Y.size - 1,by rw[Qwy];omega,by rw[List.getElem_take]⟩
end
theorem adG(C:NB prog w A E s kd r a₀){st:SortSt}(hB:Bs kd a₀ st)(h1:(pendingOf st)[i]?=some (sa,na,pw))(h2:(pendingOf st)[i+1]?=some (sa+na,nb,pw2))(na0:0<na)(nb0:0<nb)(hs:sa+na+nb<=a₀.size)
  (S1:(part (arrOf st).toList sa na).Pairwise (jH r)) (S2:(part (arrOf st).toList (sa+na) nb).Pairwise (jH r))
  (h:∀st',Bs kd a₀ st'->pendingOf st'=((pendingOf st).setIfInBounds i (sa,na+nb,pw)).eraseIdxIfInBounds (i+1)->Mgd r (arrOf st).toList (arrOf st').toList sa (na+nb)->Q true st'):wpS (model prog w) A E s (mergeAt' i) Q st:=by
 rw[abS];refine wpS_bind<|wpS_get ?_;rw[h1,h2];dsimp only;refine wpS_bind<|adC ?_;exact adH C (st:=setPending st<|((pendingOf st).setIfInBounds i (sa,na+nb,pw)).eraseIdxIfInBounds<|i+1) ⟨hB.perm,hB.fail,hB.kind⟩ na0 nb0 hs S1 S2 λst' b1 b2 b3=>h st' b1 b2 b3
end
theorem WT(hb:b<=l.length)(h:b'+n'<=b):part (l.take b++M++D) b' n'=part l b' n':=by
 unfold part;rw[Qwk,List.drop_append_of_le_length (by rw[Qwy];omega),List.take_append_of_le_length (by rw[Qxy,Qwy];omega),List.drop_take,List.take_take]
 congr 1
 omega
theorem Ni{l M:List Keyed}(hb:b+n<=l.length)(hM:M.length=n)(h:b+n<=b'):(l.take b++M++l.drop (b+n)).drop b'=l.drop b':=by
 have hl:(l.take b++M).length=b+n:=by rw[Qqk,Qwy,hM];omega
 have e:b'=(l.take b++M).length+(b' - (b+n)):=by omega
 rw[e,List.drop_append,List.drop_of_length_le (by omega),Qj6,Nat.add_sub_cancel_left,List.drop_drop]
 congr 1
 omega
theorem S7{l M D:List Keyed}(hb:b<=l.length):part (l.take b++M++D) b M.length=M:=by unfold part;rw[Qwk,List.drop_left' (by rw[Qwy];omega),List.take_left' rfl]
section
variable{prog:Program}{w:World}{A:Around}{E:Value->Shared->Prop}{s:Shared}{kd:SortKind}{r:Keyed->Nat}{a₀:Array Keyed}
abbrev Pn:=Nat×Nat×Nat
def yc(r:Keyed->Nat)(l:List Keyed):List Pn->Nat->Nat->Prop
 |[],b,e=>b=e|p::ps,b,e=>p.1=b/\0<p.2.1/\(part l b p.2.1).Pairwise (jH r)/\yc r l ps (b+p.2.1) e
theorem yf:∀{P} {b e},yc r l P b e->b+P.length<=e
 |[],b,e,h=>Nat.le_of_eq h|p::P,b,e,h=>by have:=yf h.2.2.2;have:=h.2.1;rw[Qqw];omega
theorem ur:∀{P Q} {b e},yc r l (P++Q) b e ↔ ∃m,yc r l P b m/\yc r l Q m e
 |[],Q,b,e=>⟨λh=>⟨b,rfl,h⟩,λ⟨m,h1,h2⟩=>by have h1:=h1;subst h1;exact h2⟩
 |p::P,Q,b,e=>⟨λh=>by
   obtain⟨m,h1,h2⟩:=ur.mp h.2.2.2;exact⟨m,⟨h.1,h.2.1,h.2.2.1,h1⟩,h2⟩,λ⟨m,h1,h2⟩=>⟨h1.1,h1.2.1,h1.2.2.1,ur.mpr ⟨m,h1.2.2.2,h2⟩⟩⟩
theorem uq:∀{P} {b e},yc r l P b e->(∀b' n',b<=b'->b'+n'<=e->part l' b' n'=part l b' n')->yc r l' P b e
 |[],b,e,h,_=>h
 |p::P,b,e,h,hs=>by
  have h0:=h.2.1;have hl:=yf h.2.2.2;exact⟨h.1,h0,by rw[hs _ _ (Qq1 _) (by omega)];exact h.2.2.1,uq h.2.2.2 λb' n' h1 h2=>hs b' n' (by omega) h2⟩
theorem LC(hf:∀p,(f p).1=p.1/\(f p).2.1=p.2.1):∀{P} {i b e},yc r l P b e->yc r l (P.modify i f) b e
 |[],i,b,e,h=>by cases i<;>exact h
 |p::P,0,b,e,h=>by
  rw[List.modify_cons,if_pos rfl];refine⟨(hf p).1.trans h.1,?_,?_,?_⟩;rw[(hf p).2];exact h.2.1;rw[(hf p).2];exact h.2.2.1;rw[(hf p).2];exact h.2.2.2
 |p::P,i+1,b,e,h=>by
  rw[List.modify_cons,if_neg (by omega)];exact⟨h.1,h.2.1,h.2.2.1,LC hf h.2.2.2⟩
theorem aai{P:List Pn}(h:i+1<P.length):P=P.take i++P[i]::P[i+1]::P.drop (i+2):=by have e1:=List.take_append_drop i P;rw[Qx8 (by omega:i<P.length),Qx8 h] at e1;exact e1.symm
theorem V3{P1 P2:List Pn}:((P1++x::y::P2).set P1.length v).eraseIdx (P1.length+1)=P1++v::P2:=by
 rw[List.set_append_right _ _ (Qq1 _),Nat.sub_self,List.eraseIdx_append_of_length_le (by omega)];have:P1.length+1 - P1.length=1:=by omega
 rw[this]
 rfl
theorem adD(C:NB prog w A E s kd r a₀){st:SortSt}(hB:Bs kd a₀ st)(hS:yc r (arrOf st).toList (pendingOf st).toList 0 e)(he:e<=a₀.size)(hi:i+1<(pendingOf st).size)
  (h:∀st',Bs kd a₀ st'->yc r (arrOf st').toList (pendingOf st').toList 0 e->(pendingOf st').size+1=(pendingOf st).size->(arrOf st').toList.drop e=(arrOf st).toList.drop e->Q true st'):wpS (model prog w) A E s (mergeAt' i) Q st:=by
 have hz:(arrOf st).toList.length=a₀.size:=by rw[Qqz];exact hB.size
 have hi':i+1<(pendingOf st).toList.length:=by rw[Qqz];exact hi
 have g1:(pendingOf st)[i]?=some ((pendingOf st).toList[i]):=by rw[<-Qkx];exact Qqv _
 have g2:(pendingOf st)[i+1]?=some ((pendingOf st).toList[i+1]):=by rw[<-Qkx];exact Qqv _
 have d:=aai hi';have lP:((pendingOf st).toList.take i).length=i:=by rw[Qwy];omega
 generalize hp1:(pendingOf st).toList.take i=P1 at *;generalize hp2:(pendingOf st).toList.drop (i+2)=P2 at *;generalize hx:(pendingOf st).toList[i]=x at *;generalize hy:(pendingOf st).toList[i+1]=y at *;rw[d] at hS;obtain⟨m,s1,s2⟩:=ur.mp hS;obtain⟨sa,na,pw⟩:=x;obtain⟨sb,nb,pw2⟩:=y;obtain⟨b1,b2,b3,c1,c2,c3,c4⟩:=s2;dsimp only at b1 b2 b3 c1 c2 c3 c4;subst b1;subst c1;have hle:=yf c4;refine adG C hB g1 g2 b2 c2 (by omega) b3 c3 λst' hB' hp hM=>h st' hB' ?_ ?_ ?_;obtain⟨M,e1,e2,e3⟩:=hM;have el:(pendingOf st').toList=P1++(sa,na+nb,pw)::P2:=by
  rw[hp,Array.toList_eraseIdxIfInBounds,Array.toList_setIfInBounds,d,<-lP];exact V3
 rw[el,e1];refine ur.mpr ⟨sa,uq s1 λb' n' _ h2=>WT (by omega) h2,rfl,by dsimp only;omega,?_,?_⟩;dsimp only;rw[<-e2,S7 (by omega)];exact e3;dsimp only;have e4:sa+(na+nb)=sa+na+nb:=by omega
 rw[e4] at e1 ⊢;refine uq c4 λb' n' h1 _=>?_;unfold part;have:=Ni (l:=(arrOf st).toList) (M:=M) (b:=sa) (n:=na+nb) (b':=b') (by omega) e2 (by omega);rw[e4] at this;rw[this];rw[hp,<-Qqz,Array.toList_eraseIdxIfInBounds,Array.toList_setIfInBounds,List.length_eraseIdx,Qx6,if_pos hi',Qqz];omega;obtain⟨M,e1,e2,e3⟩:=hM;rw[e1];exact Ni (by omega) e2 (by omega)
theorem VG{lo n:Nat}(h:Up r a lo n)(hn:lo+n<=a.size):(part a.toList lo n).Pairwise (jH r):=by refine List.pairwise_iff_getElem.mpr λi j hi hj hij=>?_;have hl:(part a.toList lo n).length=n:=za (by rw[Qqz];exact hn);rw[uI hi (by rw[Qqz];omega),uI hj (by rw[Qqz];omega)];have:=h i j (by omega) (by omega);unfold kA at this;rw[Array.getElem?_eq_getElem (by omega),Array.getElem?_eq_getElem (by omega)] at this;exact this
theorem Xk{lo:Nat}(h:Lo lo a b)(hn:b'+n'<=lo):part b.toList b' n'=part a.toList b' n':=by
 unfold part;refine List.ext_getElem? λi=>?_;rw[List.getElem?_take,List.getElem?_take];split;rw[List.getElem?_drop,List.getElem?_drop,Qkx,Qkx];exact h _ (by omega);rfl
theorem aca[Decidable c](h1:a+1<n)(h2:b+1<n):(if c then a else b)+1<n:=by split<;>assumption
theorem aaa(C:NB prog w A E s kd r a₀){st:SortSt}(hB:Bs kd a₀ st)(h2:2<=a₀.size)(hp0:pendingOf st=#[])(h:∀st',Bs kd a₀ st'->(arrOf st').toList.Pairwise (jH r)->Q () st'):wpS (model prog w) A E s sortRuns' Q st:=by
 rw[sortRuns'_eq];refine wpS_bind (wpS_get ?_);dsimp only;have hsz:=hB.size;rw[hsz];refine wpS_bind (wpS_mono (wpS_forRange (I:=λx (c:Option Unit×Nat) st1=>c.1=none/\x<=c.2/\c.2<=a₀.size/\Bs kd a₀ st1/\yc r (arrOf st1).toList (pendingOf st1).toList 0 c.2)
  (Q:=λc st1=>c.1=none/\Bs kd a₀ st1/\yc r (arrOf st1).toList (pendingOf st1).toList 0 a₀.size) ?_ ?_ ⟨rfl,Qq1 _,Qx0 _,hB,by rw[hp0];rfl⟩) ?_)
 .rintro x ⟨c,lo⟩ st1 _ hx ⟨e,x1,x2,hB1,hS⟩;cases e;dsimp only at x1 x2 hS ⊢;by_cases hl:lo ≥ a₀.size
  .rw[if_pos hl];have:lo=a₀.size:=by omega
   subst this;exact wpS_pure ⟨rfl,hB1,hS⟩
  .rw[if_neg hl];refine wpS_bind (adN C (by omega) (by omega) hB1 λn st2 hB2 hp2 n1 n2 hu hL=>?_);dsimp only;have jp:∀(n:Nat) (st3:SortSt),Bs kd a₀ st3->pendingOf st3=pendingOf st1->1<=n->lo+n<=a₀.size->Up r (arrOf st3) lo n->Lo lo (arrOf st1) (arrOf st3)->
     yc r (arrOf st3).toList (pendingOf st3).toList 0 lo/\(part (arrOf st3).toList lo n).Pairwise (jH r):=λn st3 q1 q2 q3 q4 q5 q6=>by
    rw[q2];exact⟨uq hS λb' n' _ h2=>Xk q6 h2,VG q5 (by rw[q1.size];exact q4)⟩
   have fin:∀(n:Nat) (st3:SortSt),Bs kd a₀ st3->1<=n->lo+n<=a₀.size->yc r (arrOf st3).toList (pendingOf st3).toList 0 lo->(part (arrOf st3).toList lo n).Pairwise (jH r)->
     wpS (model prog w) A E s (do
      modify λs=>setPending s ((pendingOf s).push (lo,n,0))
      pure (ForInStep.yield ((none,lo+n):Option Unit×Nat)):SM (ForInStep (Option Unit×Nat))) (λt Aw=>match t with
       |.done c=>c.1=none/\Bs kd a₀ Aw/\yc r (arrOf Aw).toList (pendingOf Aw).toList 0 a₀.size|.yield c=>c.1=none/\x+1<=c.2/\c.2<=a₀.size/\Bs kd a₀ Aw/\yc r (arrOf Aw).toList (pendingOf Aw).toList 0 c.2) st3:=λn st3 q1 q2 q3 q4 q5=>by
    refine wpS_bind (wpS_modify (wpS_pure ⟨rfl,by dsimp only;omega,q3,⟨q1.perm,q1.fail,q1.kind⟩,?_⟩));show yc r (arrOf st3).toList ((pendingOf st3).push (lo,n,0)).toList 0 (lo+n);rw[Array.toList_push];exact ur.mpr ⟨lo,q4,rfl,q2,q5,rfl⟩
   by_cases hm:n<minRun' a₀.size a₀.size 0
   case' pos=>
    rw[if_pos hm];refine wpS_bind (wpS_lift (Qj8 ⟨rfl,?_⟩));refine wpS_bind (adO C (by omega) hB2 n1 (by omega) hu λst3 hB3 hp3 hu3 hL3=>?_);rw[if_neg (by decide)];have q1:=hB3;have q2:=hp3.trans hp2;have q3:1<=min (a₀.size - lo) (minRun' a₀.size a₀.size 0):=by omega
    have q4:lo+min (a₀.size - lo) (minRun' a₀.size a₀.size 0)<=a₀.size:=by omega
    have q5:=hu3;have q6:Lo lo (arrOf st1) (arrOf st3):=λm hm=>(hL3 m hm).trans (hL m hm);generalize min (a₀.size - lo) (minRun' a₀.size a₀.size 0)=n3 at q3 q4 q5 ⊢
   case' neg=>
    rw[if_neg hm];have q1:=hB2;have q2:=hp2;have q3:=n1;have q4:lo+n<=a₀.size:=by omega
    have q5:=hu;have q6:=hL;generalize n=n3 at q3 q4 q5 ⊢;generalize st2=st3 at q1 q2 q5 q6 ⊢
   all_goals
    obtain⟨k1,k2⟩:=jp n3 st3 q1 q2 q3 q4 q5 q6;refine wpS_bind (wpS_get ?_);rcases(pendingOf st3).back? with _|⟨s1,n1',_⟩
    .exact fin n3 st3 q1 q3 q4 k1 k2
    .dsimp only;refine wpS_bind (wpS_mono (wpS_forRange (I:=λy (c:Option Unit×Unit) Aw=>c=(none,())/\Bs kd a₀ Aw/\yc r (arrOf Aw).toList (pendingOf Aw).toList 0 lo/\(part (arrOf Aw).toList lo n3).Pairwise (jH r))
      (Q:=λc Aw=>c=(none,())/\Bs kd a₀ Aw/\yc r (arrOf Aw).toList (pendingOf Aw).toList 0 lo/\(part (arrOf Aw).toList lo n3).Pairwise (jH r)) ?_ (λc Aw z=>z) ⟨rfl,q1,k1,k2⟩) ?_)
     .rintro y c Aw _ hy ⟨rfl,p1,p2,p3⟩;refine wpS_bind (wpS_get ?_)
      try dsimp only
      by_cases z:(pendingOf Aw).size > 1
      .rw[if_pos z,Array.getElem?_eq_getElem (by omega)];dsimp only;split
       .exact wpS_pure ⟨rfl,p1,p2,p3⟩
       .refine wpS_bind (adD C p1 p2 (by omega) (by omega) λst5 r1 r2 _ r3=>?_);refine wpS_pure ⟨rfl,r1,r2,?_⟩;unfold part;rw[r3];exact p3
      .rw[if_neg z];exact wpS_pure ⟨rfl,p1,p2,p3⟩
     .rintro c Aw ⟨rfl,p1,p2,p3⟩;dsimp only;refine wpS_bind (wpS_modify (fin n3 _ ⟨p1.perm,p1.fail,p1.kind⟩ q3 q4 ?_ p3));show yc r (arrOf Aw).toList (Array.modify (pendingOf Aw) _ _).toList 0 lo;rw[Array.toList_modify];refine LC (λp=>?_) p2;exact⟨rfl,rfl⟩
 .rintro⟨c,lo⟩ st1 ⟨e,x1,x2,hB1,hS⟩;dsimp only at e x1 x2 hS ⊢;have:lo=a₀.size:=by omega
  subst this;exact⟨e,hB1,hS⟩
 .rintro⟨c,lo⟩ st1 ⟨e,hB1,hS⟩;cases e;dsimp only;refine wpS_bind (wpS_mono (wpS_forRange (I:=λy (c:Option Unit×Unit) st2=>c=(none,())/\Bs kd a₀ st2/\yc r (arrOf st2).toList (pendingOf st2).toList 0 a₀.size/\((pendingOf st2).size<=1\/(pendingOf st2).size+y<=a₀.size))
   (Q:=λc st2=>c=(none,())/\Bs kd a₀ st2/\yc r (arrOf st2).toList (pendingOf st2).toList 0 a₀.size/\(pendingOf st2).size<=1) ?_ ?_ ⟨rfl,hB1,hS,.inr (by have:=yf hS;rw[Qqz] at this;omega)⟩) ?_)
  .rintro y c st2 _ hy ⟨rfl,p1,p2,p3⟩;refine wpS_bind (wpS_get ?_)
   try dsimp only
   by_cases z:(pendingOf st2).size<=1
   .rw[if_pos z];exact wpS_pure ⟨rfl,p1,p2,z⟩
   .rw[if_neg z];have go:∀i,i+1<(pendingOf st2).size->wpS (model prog w) A E s (do
      let v <-mergeAt' i
      if (!v)=true then pure (ForInStep.done ((some (),()):Option Unit×Unit)) else pure (ForInStep.yield (none,())):SM (ForInStep (Option Unit×Unit))) (λt st3=>match t with
       |.done c=>c=(none,())/\Bs kd a₀ st3/\yc r (arrOf st3).toList (pendingOf st3).toList 0 a₀.size/\(pendingOf st3).size<=1|.yield c=>c=(none,())/\Bs kd a₀ st3/\yc r (arrOf st3).toList (pendingOf st3).toList 0 a₀.size/\((pendingOf st3).size<=1\/(pendingOf st3).size+(y+1)<=a₀.size)) st2:=λi hi=>by
     refine wpS_bind (adD C p1 p2 (Qq1 _) hi λst3 r1 r2 r3 _=>?_);exact wpS_pure ⟨rfl,r1,r2,by omega⟩
    refine wpS_mono (go _ ?_) λt st3 z=>by cases t<;>exact z
    exact aca (by omega) (by omega)
  .rintro c st2 ⟨rfl,p1,p2,p3⟩;refine⟨rfl,p1,p2,?_⟩;omega
  .rintro c st2 ⟨rfl,p1,p2,p3⟩;refine wpS_pure (h st2 p1 ?_);have hl:(arrOf st2).toList.length=a₀.size:=by rw[Qqz];exact p1.size
   have l1:(pendingOf st2).toList.length<=1:=by rw[Qqz];exact p3
   match (pendingOf st2).toList,l1,p2 with
   |[],_,z=>have z:0=a₀.size:=z;omega|[p],_,z=>obtain⟨z1,z2,z3,z4⟩:=z;have z4:0+p.2.1=a₀.size:=z4;unfold part at z3;rw[List.drop_zero,Qj7 (by omega)] at z3;exact z3
end
end ST
namespace Ev
open PySem PySem.Spec PyProof.Rows PySem.Calls PySem.W L2
mutual
theorem Sh.kept{h h':Heap}(k:∀b o,h.get? b=some o->h'.get? b=some o):∀(d:D) (u:Value),Sh h d u->Sh h' d u
 |.non,_,e=>e|.bl _,_,e=>e|.int _,_,e=>e|.str _,_,e=>e|.tup xs,u,e=>by obtain⟨a,its,rfl,⟨o,e1,e2,e3⟩,h2⟩:=e;exact⟨a,its,rfl,⟨o,k _ _ e1,e2,e3⟩,mF.kept k xs its h2⟩|.lst xs,u,e=>by obtain⟨a,its,rfl,⟨o,n,e1,e2⟩,h2⟩:=e;exact⟨a,its,rfl,⟨o,n,k _ _ e1,e2⟩,mF.kept k xs its h2⟩|.arr xs,u,e=>by obtain⟨a,its,rfl,⟨o,n,e1,e2⟩,h2⟩:=e;exact⟨a,its,rfl,⟨o,n,k _ _ e1,e2⟩,mF.kept k xs its h2⟩|.dct _,u,e=>by obtain⟨a,o,rfl,e1,e2⟩:=e;exact⟨a,o,rfl,k _ _ e1,e2⟩|.gR _,u,e=>by obtain⟨a,o,rfl,e1,e2⟩:=e;exact⟨a,o,rfl,k _ _ e1,e2⟩|.clo _ _,u,e=>e
theorem mF.kept{h h':Heap}(k:∀b o,h.get? b=some o->h'.get? b=some o):∀(ds:List D) (us:List Value),mF h ds us->mF h' ds us
 |[],_,e=>e|d::ds,us,e=>by obtain⟨u,r,rfl,e1,e2⟩:=e;exact⟨u,r,rfl,Sh.kept k d u e1,mF.kept k ds r e2⟩
end
section
variable{P:Program}{w:World}{A:Around}{E:Value->Shared->Prop}{s:Shared}{Q:Bool->Shared->Prop}
theorem Wc{Q:Value->Shared->Prop}(hx:Sh s.heap x u)(hy:Sh s.heap y v)(h:ltB x y=some b)(q:Q (.bool b) s):wpAny (model P w) A (richCompare .Lt u v) Q E s:=by
 cases x<;>cases y<;>simp[ltB,reduceCtorEq,Qxq] at h;cases hx;cases hy;subst h;exact(lt_bool q);obtain⟨t,rfl⟩:=hx;obtain⟨t',rfl⟩:=hy;subst h;exact(lt_int q);obtain⟨t,rfl⟩:=hx;obtain⟨t',rfl⟩:=hy;subst h;exact(show wpAny (model P w) A (compareOp .Lt (.str (strOf _) t)<|.str (strOf _) t') Q E s from lt_str q)
section
open PySem.SeqAt
open PySem.AutoSeq1 (wpAny_loadPart')
open PySem.MeetsSeq PySem.MeetsSeq2 PySem.MeetsSeq3
theorem JT(l b)(items items2)(n n2)(dd dd2)(sl sl2)(xs ys)(r)(hr:Xh xs ys=some r) :
  Meets (Builtin.«tuple.__lt__» ⟨[.ref l,.ref b],[]⟩)
   (λA R s=>s.heap.get? l=some { cls:=.type "tuple",dict:=dd,data:=.seq items n,slots:=sl }/\s.heap.get? b=some { cls:=.type "tuple",dict:=dd2,data:=.seq items2 n2,slots:=sl2 }/\
    mF s.heap xs items.toList/\mF s.heap ys items2.toList/\A.units+41<cLine/\R (.ok (.ret (.bool r))) s):=
 .of_wp λprog w A R s h=>by
  obtain⟨hp,g,d,tk,os⟩:=s;obtain⟨hl,hb,hi,hj,hu,h⟩:=h;have f2:=AutoSeq1.sub_tuple_tuple;have z1:items.size=xs.length:=by rw[<-hi.length];simp
  have z2:items2.size=ys.length:=by rw[<-hj.length];simp
  wp_walk using wpAny_loadPart' hl,wpAny_loadPart' hb,wpAny_forIn_list _ (λrest b s'=>b.1=none/\s'=⟨hp,g,d,tk,os⟩/\∃vs ws xs' ys',rest=vs.zip ws/\
   mF hp xs' vs/\mF hp ys' ws/\xs'.length+items2.size=ys'.length+items.size/\Xh xs' ys'=some r) _
  case turn=>
   rintro⟨y,x⟩ rest b s' ⟨hb',rfl,vs,ws,xs',ys',hz,hvi,hwi,hlen,hR⟩;cases xs' with
   |nil=>cases hvi;rw[List.zip_nil_left] at hz;cases hz
   |cons a xs'=>
    obtain⟨u,vs,rfl,ha,ae7⟩:=hvi;cases ys' with
    |nil=>cases hwi;rw[List.zip_nil_right] at hz;cases hz
    |cons c ys'=>
     obtain⟨v,ws,rfl,hc,ae6⟩:=hwi;rw[List.zip_cons_cons] at hz;injection hz with hyx hrest
     injection hyx with hy hx
     subst hy hx;simp only[Qqw] at hlen;unfold Xh at hR;split at hR;rename_i e;refine Qqx<|qO 40 a c _ _ true A.in1 ⟨hp,g,d,tk,os⟩ ha hc e (by show A.units+1+40<cLine;omega) prog w _ _ ?_;wp_walk;exact⟨rfl,rfl,_,_,_,_,hrest,ae7,ae6,by omega,hR⟩;rename_i e;refine Qqx (qO 40 a c _ _ false A.in1 ⟨hp,g,d,tk,os⟩ ha hc e (by show A.units+1+40<cLine;omega) prog w _ _ ?_);have hri:=λ(Q:Value->Shared->Prop) E (q:Q (.bool r) ⟨hp,g,d,tk,os⟩)=>Wc (P:=prog) (w:=w) (A:=A.in1) (E:=E) (s:=⟨hp,g,d,tk,os⟩) ha hc hR q;wp_walk using hri;exact⟨_,rfl,by simpa using h⟩;cases hR
  case fin=>
   rintro⟨b1,b2⟩ s' ⟨hb',rfl,vs,ws,xs',ys',hz,hvi,hwi,hlen,hR⟩;simp only at hb';subst hb';have hv:r=decide (items.size<items2.size):=by
    cases xs' with
    |nil=>
     cases ys' with
     |nil=>simp only[Qzk] at hlen;cases hR;exact(Qq9 (by omega)).symm|cons c ys'=>simp only[Qzk,Qqw] at hlen;cases hR;exact(Qwj (by omega)).symm
    |cons a xs'=>
     cases ys' with
     |nil=>simp only[Qzk,Qqw] at hlen;cases hR;exact(Qq9 (by omega)).symm|cons c ys'=>obtain⟨u,vs,rfl,ha,ae7⟩:=hvi;obtain⟨v,ws,rfl,hc,ae6⟩:=hwi;rw[List.zip_cons_cons] at hz;cases hz
   rw[hv] at h;wp_walk;exact⟨_,rfl,by simpa[Builtin.Tuple.tupleCompareSizes] using h⟩
  case h=>
   exact⟨rfl,rfl,items.toList,items2.toList,xs,ys,rfl,hi,hj,by omega,hr⟩
end
theorem Xg{Q:Value->Shared->Prop}(hx:Sh s.heap (.tup xs) u)(hy:Sh s.heap (.tup ys) v)(hu:A.units+41<cLine)(hr:Xh xs ys=some r)(q:Q (.bool r) s):wpAny (model P w) A (compareOp .Lt u v) Q E s:=by
 obtain⟨a,its,rfl,⟨⟨cls,dd,data,sl⟩,ho,hc,n,hd⟩,h2⟩:=hx;obtain⟨a',its',rfl,⟨⟨cls2,dd2,data2,sl2⟩,ho2,hc2,n2,hd2⟩,h2'⟩:=hy;simp only at hc hd hc2 hd2;subst hc hd hc2 hd2;exact richCompare_meets_room (op:=.Lt) ⟨_,ho,rfl⟩ ⟨_,ho2,rfl⟩ PySem.F.slot_tuple_lt PySem.F.entry_tuple_lt (PySem.F.args_tuple_lt_2 _ _) (JT a a' its.toArray its'.toArray n n2 dd dd2 sl sl2 xs ys r hr)
  ⟨ho,ho2,by simpa using h2,by simpa using h2',hu,show Value.bool r≠Value.notImplemented/\Q (.bool r) s from⟨(λx=>nomatch x),q⟩⟩ (by omega)
theorem abX(hu:A.units+57<cLine)(ht:t=true->c=false)(hx:Sh s.heap x u)(hy:Sh s.heap y v)(h:Zq t x y=some b)(q:Q b s):wpAny (model P w) A (oneLt' c u v) Q E s:=by
 cases x<;>cases y<;>simp only[Zq,reduceCtorEq,Qxq] at h;obtain⟨t,rfl⟩:=hx;obtain⟨t',rfl⟩:=hy;subst h;cases c with
 |true=>exact oneLt_int q|false=>exact kat_one _ _<|lt_int q
 obtain⟨t,rfl⟩:=hx;obtain⟨t',rfl⟩:=hy;subst h;cases c with
 |true=>exact oneLt_str q|false=>exact kat_one _ _<|lt_str q
 split at h;rename_i e;cases ht e;exact kat_one _ _<|Xg hx hy (by omega) h q;cases h
theorem TF(hu:A.units+57<cLine)(ht:t=true->c=false):∀xs ys us vs i b fin,mF s.heap xs us->mF s.heap ys vs->Zo t xs ys=some b->fin=decide (us.length<vs.length)->Q b s->KatLex P w A c fin Q (us.zip vs) i s
 |[],[],us,vs,i,b,fin,hx,hy,h,hf,q=>by
  cases hx;cases hy;cases h;cases hf;exact q
 |[],y::ys,us,vs,i,b,fin,hx,hy,h,hf,q=>by
  obtain⟨v,r,rfl,_,_⟩:=hy;cases hx;cases h;subst hf;show Q (decide (0<r.length+1)) s;rw[Qwj (by omega)];exact q
 |x::xs,[],us,vs,i,b,fin,hx,hy,h,hf,q=>by
  obtain⟨v,r,rfl,_,_⟩:=hx;cases hy;cases h;subst hf;show Q (decide (r.length+1<0)) s;rw[Qq9 (by omega)];exact q
 |x::xs,y::ys,us,vs,i,b,fin,hx,hy,h,hf,q=>by
  obtain⟨u,us,rfl,hx1,hx2⟩:=hx;obtain⟨v,vs,rfl,hy1,hy2⟩:=hy;rw[List.zip_cons_cons];unfold Zo at h;split at h;rename_i e;refine kat_cons<|qO 57 x y u v true A s hx1 hy1 e hu P w _ _<|kat_yes<|TF hu ht xs ys us vs (i+1) b fin hx2 hy2 h ?_ q;rw[hf,Qqw,Qqw];simp;rename_i e;exact kat_cons<|qO 57 x y u v false A s hx1 hy1 e hu P w _ _<|kat_no<|abX hu (λz=>by rw[ht z];rfl) hx1 hy1 h q;cases h
theorem abV(hu:A.units+57<cLine)(ht:t=true->c=false)(hx:Sh s.heap x u)(hy:Sh s.heap y v)(h:Vr t x y=some b)(q:Q b s):wpAny (model P w) A (keyLt' (tuples' c) u v) Q E s:=by cases x<;>cases y<;>simp[Vr,reduceCtorEq] at h;rename_i xs ys;obtain⟨a,its,rfl,⟨o,e1,_,n,e2⟩,h2⟩:=hx;obtain⟨a',its',rfl,⟨o',e1',_,n',e2'⟩,h2'⟩:=hy;exact kat_lt e1 e2 e1' e2'<|TF hu ht xs ys its its' 0 b _ h2 h2' h (by simp) q
theorem mF.getD:∀{ds} {us} {i},mF h ds us->i<ds.length->Sh h (ds.getD i .non) (us.getD i .none)
 |[],_,_,_,c=>absurd c<|Qj5 _
 |d::ds,us,i,e,c=>by
  obtain⟨u,r,rfl,e1,e2⟩:=e;cases i with
  |zero=>exact e1|succ i=>simpa using mF.getD e2 (by simpa using c)
theorem zT:∀{ds} {us},mF h ds us->(∀d∈ds,acf d=true)->∃fs,KatTups h us fs/\fs.length=us.length/\∀v∈fs,∃i t,v=.int i t
 |[],_,e,_=>by cases e;exact⟨[],trivial,rfl,λv hv=>by cases hv⟩
 |d::ds,us,e,hd=>by
  obtain⟨u,r,rfl,e1,e2⟩:=e;obtain⟨fs,k1,k2,k3⟩:=zT e2 λx hx=>hd x<|Qqq _ hx;have hd1:=hd d<|Qqj ..;cases d with
  |tup xs=>cases xs with
   |nil=>cases hd1
   |cons x xs=>cases x with
    |int i=>obtain⟨a,its,rfl,⟨o,g1,g2,n,g3⟩,g4⟩:=e1;obtain⟨v,its',rfl,⟨t,rfl⟩,_⟩:=g4;refine⟨.int i t::fs,KatTups.cons g1 g2 g3 (by simp) k1,by simp[k2],λv hv=>?_⟩;rcases Qq7.mp hv with rfl|hv;exact⟨i,t,rfl⟩;exact k3 v hv
    |_=>cases hd1
  |_=>cases hd1
theorem zR:∀{ds} {us},mF h ds us->(∀d∈ds,ace d=true)->∃fs,KatTups h us fs/\fs.length=us.length/\∀v∈fs,∃i t,v=.str i t
 |[],_,e,_=>by cases e;exact⟨[],trivial,rfl,λv hv=>by cases hv⟩
 |d::ds,us,e,hd=>by
  obtain⟨u,r,rfl,e1,e2⟩:=e;obtain⟨fs,k1,k2,k3⟩:=zR e2 λx hx=>hd x<|Qqq _ hx;have hd1:=hd d<|Qqj ..;cases d with
  |tup xs=>cases xs with
   |nil=>cases hd1
   |cons x xs=>cases x with
    |str i=>obtain⟨a,its,rfl,⟨o,g1,g2,n,g3⟩,g4⟩:=e1;obtain⟨v,its',rfl,⟨t,rfl⟩,_⟩:=g4;refine⟨.str (strOf i) t::fs,KatTups.cons g1 g2 g3 (by simp) k1,by simp[k2],λv hv=>?_⟩;rcases Qq7.mp hv with rfl|hv;exact⟨_,t,rfl⟩;exact k3 v hv
    |_=>cases hd1
  |_=>cases hd1
theorem zQ:∀{ds} {us},mF h ds us->(∀d∈ds,acd d=true)->∃fs,KatTups h us fs/\fs.length=us.length/\∀v∈fs,∃a o,v=.ref a/\h.get? a=some o/\o.cls=.type "tuple"
 |[],_,e,_=>by cases e;exact⟨[],trivial,rfl,λv hv=>by cases hv⟩
 |d::ds,us,e,hd=>by
  obtain⟨u,r,rfl,e1,e2⟩:=e;obtain⟨fs,k1,k2,k3⟩:=zQ e2 λx hx=>hd x<|Qqq _ hx;have hd1:=hd d<|Qqj ..;cases d with
  |tup xs=>cases xs with
   |nil=>cases hd1
   |cons x xs=>cases x with
    |tup zs=>obtain⟨a,its,rfl,⟨o,g1,g2,n,g3⟩,g4⟩:=e1;obtain⟨v,its',rfl,⟨a',its2,rfl,⟨o',q1,q2,_⟩,_⟩,_⟩:=g4;refine⟨.ref a'::fs,KatTups.cons g1 g2 g3 (by simp) k1,by simp[k2],λv hv=>?_⟩;rcases Qq7.mp hv with rfl|hv;exact⟨a',o',rfl,q1,q2⟩;exact k3 v hv
    |_=>cases hd1
  |_=>cases hd1
theorem Xu{Q:SortKind->Shared->Prop}(hs:mF s.heap ds us)(h2:2<=ds.length)(hk:(((∀d∈ds,acf d=true)\/∀d∈ds,ace d=true)/\∀x∈ds,∀y∈ds,Vr false x y≠none)\/(∀d∈ds,acd d=true)/\∀x∈ds,∀y∈ds,oO x y≠none)
  (h:∀c t,(t=true->c=false)->(∀x∈ds,∀y∈ds,Vr t x y≠none)->Q (tuples' c) s) :
  wpAny (model P w) A (keyKind' us.toArray) Q E s:=by
 rcases hk with ⟨hk|hk,hn⟩|⟨hk,hn⟩;obtain⟨fs,k1,k2,k3⟩:=zT hs hk;refine kat_kind (T:=.type "int") k1 (by rw[k2,hs.length];omega) (λv hv=>?_) (by decide)<|h _ false (λz=>by cases z) hn;obtain⟨i,t,rfl⟩:=k3 v hv;exact Looks.of_pure rfl;obtain⟨fs,k1,k2,k3⟩:=zR hs hk;refine kat_kind (T:=.type "str") k1 (by rw[k2,hs.length];omega) (λv hv=>?_) (by decide)<|h _ false (λz=>by cases z) hn;obtain⟨i,t,rfl⟩:=k3 v hv;exact Looks.of_pure rfl;obtain⟨fs,k1,k2,k3⟩:=zQ hs hk;refine kat_kind (T:=.type "tuple") k1 (by rw[k2,hs.length];omega) (λv hv=>?_) (by decide)<|h _ true (λ_=>by decide) hn;obtain⟨a,o,rfl,q1,q2⟩:=k3 v hv;exact λA Q E s' hk q=>wpAny_typeOf_ref (hk _ _ q1) (by rw[q2];exact q)
def Laid(ds:List D)(p:List Nat):Prop:=p.Perm (List.range ds.length)/\kO ds=p.map λi=>ds.getD i .non
theorem Xp(o:nA (·∈ ds))(B:KB ds.length p)(u:kUp (Rx ds) p ds.length):Laid ds p.toList:=by
 have hp:p.toList.Perm (List.range ds.length):=by simpa using Array.perm_iff_toList_perm.mp B.perm
 have hl:p.toList.length=ds.length:=by rw[hp.length_eq,List.length_range]
 refine⟨hp,(DK o (λy h=>h) ?_ ?_).symm⟩;have:=hp.map λi=>ds.getD i D.non;refine this.trans<|.of_eq ?_;refine List.ext_getElem (by simp) λi h1 h2=>?_;simp[Qwv,h2];refine List.pairwise_map.mpr<|List.pairwise_iff_getElem.mpr λi j hi hj hij=>?_;have hi':i<ds.length:=by omega
 have hj':j<ds.length:=by omega
 have e1:p.getD i 0=p.toList[i]:=by simp[Array.getD,show i<p.size by rw[B.size];exact hi']
 have e2:p.getD j 0=p.toList[j]:=by simp[Array.getD,show j<p.size by rw[B.size];exact hj']
 have:=u i j (Qx3 hij) hj';unfold kK at this;rw[e1,e2] at this;intro c;have c':=(Rw o (by have:=B.lt j;rw[e2] at this;exact this) (by have:=B.lt i;rw[e1] at this;exact this)).mp c;omega
theorem Rg(h:ds.length<2):kO ds=ds:=by
 match ds,h with
 |[],_=>rfl|[_],_=>rfl
theorem TV(h:ds.length<2):Laid ds (List.range ds.length):=by refine⟨.refl _,?_⟩;rw[Rg h];refine List.ext_getElem (by simp) λi h1 h2=>?_;simp[Qwv,h1]
theorem Pz{its its':List Value}(h1:IsTup h a its.toArray)(h2:IsTup h a its'.toArray):its=its':=by
 obtain⟨o,e1,_,n,d1⟩:=h1;obtain⟨o',e2,_,n',d2⟩:=h2;rw[e1] at e2;cases e2;rw[d1] at d2;cases d2
 rfl
mutual
theorem Sh.inj{h : Heap} : ∀ (n : Nat) (d e : D) (u : Value), okP n d = true → okP n e = true → Sh h d u → Sh h e u → d = e
  | 0, _, _, _, o, _, _, _ => by cases o
  | n + 1, d, e, u, o1, o2, h1, h2 => by
    cases d <;> cases e <;> first
      | (cases o1; done)
      | (cases o2; done)
      | rfl
      | (simp only [Sh] at h1 h2; subst h1; cases h2; done)
      | (simp only [Sh] at h1 h2; obtain ⟨_, rfl⟩ := h1; cases h2; done)
      | (simp only [Sh] at h1 h2; subst h1; obtain ⟨_, e⟩ := h2; cases e; done)
      | (simp only [Sh] at h1 h2; obtain ⟨_, rfl⟩ := h1; obtain ⟨_, e⟩ := h2; cases e; done)
      | (simp only [Sh] at h1 h2; obtain ⟨_, _, rfl, _⟩ := h1; cases h2; done)
      | (simp only [Sh] at h1 h2; subst h1; obtain ⟨_, _, e, _⟩ := h2; cases e; done)
      | (simp only [Sh] at h1 h2; obtain ⟨_, _, rfl, _⟩ := h1; obtain ⟨_, e⟩ := h2; cases e; done)
      | (simp only [Sh] at h1 h2; obtain ⟨_, rfl⟩ := h1; obtain ⟨_, _, e, _⟩ := h2; cases e; done)
      | (simp only [Sh] at h1 h2; subst h1; cases h2; rfl)
      | (simp only [Sh] at h1 h2; obtain ⟨_, rfl⟩ := h1; obtain ⟨_, e⟩ := h2; cases e; rfl)
      | (simp only [Sh] at h1 h2; obtain ⟨_, e1⟩ := h1; obtain ⟨_, e2⟩ := h2; rw [e1] at e2; injection e2 with e3; rw [n8 e3])
      | (rename_i xs ys
         obtain ⟨a, its, e1, t1, s1⟩ := h1;obtain ⟨a', its', e2, t2, s2⟩ := h2;rw [e1] at e2;cases e2;rw [Pz t1 t2] at s1;rw [mF.inj n xs ys its' (λd hd => Qx5.mp o1 d hd) (λd hd => Qx5.mp o2 d hd) s1 s2])
theorem mF.inj{h:Heap}:∀(n:Nat) (ds es:List D) (us:List Value),(∀d∈ds,okP n d=true)->(∀d∈es,okP n d=true)->mF h ds us->mF h es us->ds=es
 | _,[],[],_,_,_,_,_=>rfl
 | _,[],_::_,_,_,_,h1,h2=>by cases h1;obtain⟨_,_,e,_⟩:=h2;cases e
 | _,_::_,[],_,_,_,h1,h2=>by cases h2;obtain⟨_,_,e,_⟩:=h1;cases e
 | n,d::ds,e::es,us,o1,o2,h1,h2=>by
  obtain⟨u,r,rfl,a1,a2⟩:=h1;obtain⟨u',r',e',b1,b2⟩:=h2;cases e';rw[Sh.inj n d e u (o1 d (Qqj ..)) (o2 e (Qqj ..)) a1 b1,mF.inj n ds es r (λx hx=>o1 x (Qqq _ hx)) (λx hx=>o2 x (Qqq _ hx)) a2 b2]
end
theorem Hs{α:Type}(f):∀(l:List α) m,l.Perm (m.map f)->∃p:List Nat,p.Perm m/\l=p.map f
 |[],m,h=>by
  have:=List.map_eq_nil_iff.mp h.symm.eq_nil;exact⟨[],by rw[this],rfl⟩
 |x::l,m,h=>by
  obtain⟨a,ha,rfl⟩:=Qw3.mp<|h.mem_iff.mp<|Qqj ..;have hm:=List.perm_cons_erase ha;have h2:=h.trans<|hm.map f;obtain⟨p,h3,h4⟩:=Hs f l _ h2.cons_inv;exact⟨a::p,(h3.cons a).trans hm.symm,by rw[h4];rfl⟩
open Classical in
noncomputable def zG(vs:List Value)(x:Value):Nat:=if h:∃i,vs[i]?=some x then h.choose else 0
theorem T7{i:Nat}(h:vs[i]?=some x):vs[zG vs x]?=some x:=by have:∃i,vs[i]?=some x:=⟨i,h⟩;unfold zG;rw[dif_pos this];exact this.choose_spec
theorem Ig{R:PySem.Fin->Shared->Prop}(ho:s.heap.get? a=some (seqObj "list" vs.toArray n))(k₀:∀b o,h₀.get? b=some o->b<a/\s.heap.get? b=some o)
  (hs:mF h₀ ds vs) (ok:qX ds) (hu:A.units+57<cLine)
  (h:∀p,Laid ds p->R (.done (.ret .none)) { s with heap:=sortedHeap s.heap a vs (p.map λi=>vs.getD i Value.none).toArray }) :
  wpAny (model P w) A (Builtin.«list.sort» ⟨[.ref a],[]⟩) R E s:=by
 have hlen:=hs.length;have h64:vs.length<=1000:=by rcases ok with q|⟨⟨q,_⟩,_⟩<;>omega
 rw[list_sort_plain];have ha:a<s.heap.objs.size:=Qwx ho;refine Qqx<|listItems_at ho rfl ?_;refine Qqx<|listUpdate_at ho rfl ?_ (by rw[Qq5,Qkj];omega) (Qx0 _);obtain⟨e1,ho1⟩:∃e1,(s.heap.update a<|Obj.mapSeq λ_=>(#[]:Array Value)).get? a=some (seqObj "list" #[] e1):=⟨_,get?_update_seq ho λ_=>#[]⟩;refine Qqx<|seqEpoch_at ho1 rfl ?_;refine Qqx<|wpAny_newTuple ?_ (by show vs.length<=_;rw[Qkj];omega);refine Qqx<|wpAny_newList ?_<|Qx0 _;refine Qjx ?_;have ho6:(((s.heap.update a<|Obj.mapSeq λ_=>(#[]:Array Value)).push<|seqObj "tuple" vs.toArray 0).push<|seqObj "list" #[] 0).get? a=some (seqObj "list" #[] e1):=by rw[Heap.get?_push_ne _ _ _ (by rw[size_push',Heap.size_update];exact Qxv<|Nat.lt_succ_of_lt ha),Heap.get?_push_ne _ _ _ (by rw[Heap.size_update];exact Qxv ha)];exact ho1
 have kept:∀b o,h₀.get? b=some o->(((s.heap.update a<|Obj.mapSeq λ_=>(#[]:Array Value)).push<|seqObj "tuple" vs.toArray 0).push<|seqObj "list" #[] 0).get? b=some o:=λb o e=>by
  obtain⟨q1,q2⟩:=k₀ b o e;refine Qq0 _<|Qq0 _ ?_;rw[Heap.get?_update_ne _ _ _ _ (Qxv q1)];exact q2
 have hs':=hs.kept kept;show wpAny (model P w) A _ R E { s with heap:=((s.heap.update a<|Obj.mapSeq λ_=>(#[]:Array Value)).push<|seqObj "tuple" vs.toArray 0).push (seqObj "list" #[] 0) };dsimp only;have fin:∀st' p,(arrOf st').map (·.2)=(p.map λi=>vs.getD i Value.none).toArray->failedOf st'=none->Laid ds p->
   wpAny (model P w) A (do
    let touched:=(<-seqEpoch a) != e1
    Builtin.List.listUpdate (.ref a) λ_=>(arrOf st').map (·.2)
    if let some e:=failedOf st' then rule "list.sort.comparison-raised";throw e
    if touched then rule "list.sort.modified";raiseError "ValueError" "list modified during sort"
    ret .none) R E { s with heap:=((s.heap.update a<|Obj.mapSeq λ_=>(#[]:Array Value)).push<|seqObj "tuple" vs.toArray 0).push (seqObj "list" #[] 0) }:=by
  intro st' p he hf lp;have lp1:=lp.1.length_eq;rw[List.length_range] at lp1;refine Qqx<|seqEpoch_at ho6 rfl ?_;rw[he];refine Qqx<|listUpdate_at ho6 rfl ?_ (Qx0 _) (by rw[Qq5,Qq3,lp1,Qkj];omega);rw[hf];simp only[bne_self_eq_false,Bool.false_eq_true,if_false];exact Qq6<|h p lp
 by_cases h2:vs.toArray.size<2;rw[if_pos h2,if_pos h2];refine Qqx<|Qq6 ?_;rw[StateT.run_pure];refine Qqx<|Qq6 ?_;have h2':ds.length<2:=by rw[Qq5] at h2;omega
 refine fin (SortSt.mk' general' (vs.toArray.zip vs.toArray) #[] 7 none) _ ?_ rfl (TV h2');show(vs.toArray.zip vs.toArray).map (·.2)=_;rw[<-hlen];apply Array.toList_inj.mp;rw[Array.toList_map,Array.toList_zip];refine List.ext_getElem (by simp) λi q1 q2=>?_;have q3:i<vs.length:=by simpa using q2
 simp[Qwv,q3];rw[if_neg h2,if_neg h2];have h2':2<=vs.length:=by rw[Qq5] at h2;omega
 rcases ok with q|⟨⟨_,okd⟩,hk,o1,o3,o4⟩;omega;have o:=nA.of o1 o3 o4;refine Qqx<|Xu hs' (by omega) hk λc t ht o2=>?_;generalize hS:({ s with heap:=((s.heap.update a<|Obj.mapSeq λ_=>(#[]:Array Value)).push<|seqObj "tuple" vs.toArray 0).push (seqObj "list" #[] 0) }:Shared)=s1 at *;have hs1:s1.heap=((s.heap.update a<|Obj.mapSeq λ_=>(#[]:Array Value)).push<|seqObj "tuple" vs.toArray 0).push (seqObj "list" #[] 0):=by rw[<-hS]
 rw[<-hs1] at hs';have szz:(vs.toArray.zip vs.toArray).size=vs.length:=by simp
 have at0:∀x∈vs.toArray.zip vs.toArray,vs[zG vs x.1]?=some x.1:=λx hx=>by
  obtain⟨i,hi,rfl⟩:=Array.mem_iff_getElem.mp hx;refine T7 (i:=i) ?_;rw[szz] at hi;simp[hi]
 have atd:∀i,(h:i<vs.length)->vs[i]?=some (vs.getD i Value.none):=λi h=>by simp[Qwv,h]
 have C:ST.NB P w A E s1 (tuples' c) (λx=>Rx ds<|zG vs x.1) (vs.toArray.zip vs.toArray):=λx y hx hy st Q hk q=>by
  have e1:=at0 x hx;have e2:=at0 y hy;have i1:zG vs x.1<ds.length:=by rw[<-hlen];exact(Qqy.mp e1).1
  have i2:zG vs y.1<ds.length:=by rw[<-hlen];exact(Qqy.mp e2).1
  have YZ:=hs'.getD i1;have Qu:=hs'.getD i2;have g1:vs.getD (zG vs x.1) Value.none=x.1:=by rw[Qwv,e1];rfl
  have g2:vs.getD (zG vs y.1) Value.none=y.1:=by rw[Qwv,e2];rfl
  rw[g1] at YZ;rw[g2] at Qu;have mi:ds.getD (zG vs x.1) .non∈ds:=by rw[Qwv,Qqv i1];exact Qx9 ..
  have mj:ds.getD (zG vs y.1) .non∈ds:=by rw[Qwv,Qqv i2];exact Qx9 ..
  have e:Vr t (ds.getD (zG vs x.1) .non) (ds.getD (zG vs y.1) .non)=some (decide (Rx ds (zG vs x.1)<Rx ds (zG vs y.1))):=by
   cases c:Vr t (ds.getD (zG vs x.1) .non) (ds.getD (zG vs y.1) .non) with
   |none=>exact absurd c<|o2 _ mi _ mj
   |some b=>
    have r:=Rw o i1 i2;have c2:oO (ds.getD (zG vs x.1) .non) (ds.getD (zG vs y.1) .non)=some b:=by
     cases t with
     |true=>exact c|false=>exact abU c
    rw[c2] at r;cases b with
    |true=>rw[Qwj (r.mp rfl)]|false=>rw[Qq9 (λz=>by cases r.mpr z)]
  rw[lt'_eq];refine wpS_bind<|wpS_get ?_;rw[hk];exact wpS_bind<|wpS_lift<|wpAny_attempt<|abV hu ht YZ Qu e ⟨rfl,wpS_pure q⟩
 refine Qqx (Qz9 (ST.aaa C (st:=SortSt.mk' (tuples' c) (vs.toArray.zip vs.toArray) #[] 7 none) (Q:=λ_ st'=>ST.Bs (tuples' c) (vs.toArray.zip vs.toArray) st'/\(arrOf st').toList.Pairwise (ST.jH λx=>Rx ds<|zG vs x.1))
  ⟨Array.Perm.refl _,rfl,rfl⟩ (by rw[szz];exact h2') rfl λst' b1 b2=>⟨b1,b2⟩) ?_ λ_ _ e=>e)
 rintro⟨⟨⟩,st'⟩ s' ⟨rfl,hb,hp⟩;have zl:(vs.toArray.zip vs.toArray).toList=(List.range vs.length).map λi=>(vs.getD i Value.none,vs.getD i Value.none):=by
  refine List.ext_getElem (by simp) λi q1 q2=>?_;have q3:i<vs.length:=by simpa using q1
  simp[Qwv,q3]
 have pm:=Array.perm_iff_toList_perm.mp hb.perm;rw[zl] at pm;obtain⟨p,p1,p2⟩:=Hs _ _ _ pm;have self:∀i,i<vs.length->zG vs (vs.getD i Value.none)=i:=λi hi=>by
  have e1:=T7<|atd i hi;generalize zG vs (vs.getD i Value.none)=j at e1 ⊢;have hj:j<vs.length:=(Qqy.mp e1).1;have d1:=hs'.getD (i:=i) (by omega);have d2:=hs'.getD (i:=j) (by omega);have g1:vs.getD j Value.none=vs.getD i Value.none:=by rw[Qwv (l:=vs) (i:=j),e1];rfl
  rw[g1] at d2;have mi:ds.getD i .non∈ds:=by rw[Qwv,Qqv (by omega)];exact Qx9 ..
  have mj:ds.getD j .non∈ds:=by rw[Qwv,Qqv (by omega)];exact Qx9 ..
  have e:=Sh.inj 60 _ _ _ (okd _ mi) (okd _ mj) d1 d2;have pr:=List.pairwise_iff_getElem.mp o4;have gi:ds.getD i .non=ds[i]'(by omega):=by rw[Qwv,Qqv (by omega)];rfl
  have gj:ds.getD j .non=ds[j]'(by omega):=by rw[Qwv,Qqv (by omega)];rfl
  rw[gi,gj] at e;rcases Nat.lt_trichotomy i j with z|z|z;have q:=pr i j (by omega) (by omega) z;rw[e,o1 _ (Qx9 ..)] at q;rcases q with q|q<;>cases q;exact z.symm;have q:=pr j i (by omega) (by omega) z;rw[e,o1 _ (Qx9 ..)] at q;rcases q with q|q<;>cases q
 have pin:∀i∈p,i<vs.length:=λi hi=>by have:=p1.mem_iff.mp hi;simpa using this
 refine fin st' p ?_ hb.fail ?_;apply Array.toList_inj.mp;rw[Array.toList_map,p2,Qkw];rfl;have B:KB ds.length p.toArray:=⟨by omega,by rw[<-hlen];exact Array.perm_iff_toList_perm.mpr (by simpa using p1)⟩;refine Xp o B λi j hij hj=>?_;have hpl:p.length=ds.length:=by rw[p1.length_eq,List.length_range,hlen]
 rw[p2] at hp;have pr:=List.pairwise_iff_getElem.mp (List.pairwise_map.mp hp);unfold kK;have gi:p.toArray.getD i 0=p[i]'(by omega):=by simp[Array.getD,show i<p.length by omega]
 have gj:p.toArray.getD j 0=p[j]'(by omega):=by simp[Array.getD,show j<p.length by omega]
 rw[gi,gj];by_cases z:i=j;subst z;exact Qq1 _;have q:=pr i j (by omega) (by omega) (by omega);have q:Rx ds (zG vs (vs.getD (p[i]'(by omega)) Value.none))<=Rx ds (zG vs (vs.getD (p[j]'(by omega)) Value.none)):=q;rw[self _ (pin _ (Qx9 ..)),self _ (pin _ (Qx9 ..))] at q;exact q
end
theorem bK.getD{K:Fg}:∀{ds} {vs} {i},bK K F ds vs->i<ds.length->Rep K F (ds.getD i .non) (vs.getD i .non)
 |[],_,_,_,c=>absurd c<|Qj5 _
 |d::ds,us,i,e,c=>by
  obtain⟨u,r,rfl,e1,e2⟩:=e;cases i with
  |zero=>exact e1|succ i=>simpa using bK.getD e2 (by simpa using c)
theorem Ca:∀{vs} {us} {i},Vals vs us->i<vs.length->RelV (vs.getD i .non) (us.getD i .none)
 |_,_,_,.nil,c=>absurd c<|Qj5 _|_,_,0,.cons h _,_=>h|_,_,i+1,.cons _ h,c=>by simpa using Ca h (by simpa using c)
theorem Cr{K:Fg}(h:bK K F ds vs):∀(p:List Nat),(∀i∈p,i<ds.length)->bK K F (p.map λi=>ds.getD i .non) (p.map λi=>vs.getD i .non)
 |[],_=>rfl|i::p,hp=>⟨_,_,rfl,h.getD<|hp i<|Qqj ..,Cr h p λj hj=>hp j<|Qqq _ hj⟩
theorem BX(h:Vals vs us):∀(p:List Nat),(∀i∈p,i<vs.length)->Vals (p.map λi=>vs.getD i .non) (p.map λi=>us.getD i .none)
 |[],_=>.nil|i::p,hp=>.cons (Ca h<|hp i<|Qqj ..)<|BX h p λj hj=>hp j<|Qqq _ hj
section
variable{X:Cx}{C:Cfg}{p pos:Pos}{e:Expr}{ea:dZ}
def Kh(K:Fg):List V->Hp->VK->Prop:=λxs H Q=>∃F p vs ds,aM F H/\xs=[.ref p]/\(oR K H p vs\/lG K H p vs)/\bK K F ds vs/\qX ds/\∀l vs',H l=none->bK K F (kO ds) vs'->Q (.ref l) (upd H l (.lst vs'))
theorem K5(hu:X.A.units+60<cLine):jU X (.builtin "sorted") (Kh X.K):=by
 intro pins s σ H xs us Q I r h;obtain⟨F,p,vs,ds,hF,rfl,hq,hr,ok,q⟩:=h;obtain⟨u,rfl,rx⟩:=vals1 r;cases rx;obtain⟨its,rv,T,o,n,hT,ho,hc,hd⟩:∃its,Vals vs its/\∃T o n,(T="list"\/T="tuple")/\s.heap.get? p=some o/\o.cls=.type T/\o.data=.seq its.toArray n:=by
  rcases hq with hq|hq;obtain⟨its,rv,⟨o,n,e1,e2,_,e3⟩,_⟩:=I.list hq;exact⟨its,rv,"list",o,n,.inl rfl,e1,e2,e3⟩;obtain⟨its,rv,⟨o,e1,e2,n,e3⟩,_⟩:=I.tuple hq;exact⟨its,rv,"tuple",o,n,.inr rfl,e1,e2,e3⟩
 have hs:=bK.sh I ds vs its (bK.mono hF _ _ hr) rv;have hlen:=hs.length;have h64:its.length<=1000:=by rcases ok with z|⟨⟨z,_⟩,_⟩<;>omega
 have hvl:=rv.length;refine Calls.call_function_entry kind_sorted plain_sorted entry_sorted (args_sorted1 _) ?_;unfold Builtin.«sorted»;refine Qqx<|Qq6 ?_;refine Qqx<|wpAny_collect_seq p hT ho hc hd (λh' hk=>?_) (by rw[Qq5,Qkj];omega);refine Qqx<|wpAny_newList ?_ (by rw[Qkj];simp;omega);have hoL:(h'.push<|seqObj "list" its.toArray 0).get? h'.objs.size=some (seqObj "list" its.toArray 0):=Qw2 _ rfl;show wpAny _ _ _ _ _ { s with heap:=h'.push (seqObj "list" its.toArray 0) };refine Qqx<|Qjx<|Qz6 slot_list_sort ⟨_,hoL,rfl⟩ entry_list_sort (Ig hoL (λb o e=>⟨Qwx e,Qq0 _ e⟩) (hs.kept hk) ok (by show X.A.units+1+1+57<cLine;omega) λpp lp=>⟨_,rfl,?_⟩)<|args_list_sort _;obtain⟨e,he⟩:=sortedHeap_at hoL;refine Qq6 ⟨_,rfl,?_⟩;have I1:L2.Inv X pins σ H { s with heap:=h' }:=I.kept hk;have hin:∀i∈pp,i<ds.length:=λi hi=>by have:=lp.1.mem_iff.mp hi;simpa using this
 have hpl:pp.length=ds.length:=by rw[lp.1.length_eq,List.length_range]
 have rv2:=BX rv pp λi hi=>by rw[hvl,hlen];exact hin i hi
 have rr2:=Cr hr pp hin;rw[<-lp.2] at rr2;refine⟨.ref h'.objs.size,_,I1.laid (λb o e=>?_) (Qq1 _) (o:=.lst<|pp.map λi=>vs.getD i .non)<|show gf X.prog X.w _ _ h'.objs.size _ from⟨?_,_,e,rv2,by simpa[seqObj] using he⟩,rfl,q _ _ (I1.hok.fresh<|Qq1 _) rr2⟩;have lt':=Qwx e;rw[sortedHeap_old (Qxv lt') (by rw[size_push'];exact Nat.lt_succ_of_lt lt')];exact Qq0 _ e;rw[Qq3,hpl];exact Qq4 (by omega:ds.length<=1000) (by decide)
noncomputable def wR:List D->Option D
 |[.lst ds]=>if qX ds then some (.lst (kO ds)) else none|[.tup ds]=>if qX ds then some (.lst (kO ds)) else none|_=>none
theorem UT:CallD C (Kh C.K) wR:=by
 intro Pr F env σ H ds d vs Q r p e q;have fin:∀zs l vs',qX zs->bK C.K F (kO zs) vs'->d=.lst (kO zs)->H l=none->Q (.ref l) (upd H l<|.lst vs'):=λzs l vs' hz hv hd hl=>by
  subst hd;have hlen:(kO zs).length<=1000:=by rw[(lV zs).length_eq];rcases hz with z|⟨⟨z,_⟩,_⟩<;>omega
  obtain⟨F2,r2,s2,p2⟩:=(r.fresh hl).keep<|Qx.of r hl<|show jT C.K F (upd H l<|.lst vs') (.lst<|kO zs) l from⟨Qq4 hlen (by decide),vs',aU,hv⟩;exact q _ _ F2 r2 s2 p2
 unfold wR at e;split at e;obtain⟨v,w,rfl,p1,p2⟩:=p;cases p2;split at e;rename_i hz;cases e;obtain⟨z,a,ws,rfl,h1,h2⟩:=p1.lst r.fr;exact⟨F,a,ws,_,r.fr,rfl,.inl<|oR.of h1,h2,hz,λl vs' hl hv=>fin _ l vs' hz hv rfl hl⟩;cases e;obtain⟨v,w,rfl,p1,p2⟩:=p;cases p2;split at e;rename_i hz;cases e;obtain⟨z,a,ws,rfl,h1,_,h2⟩:=p1.tup r.fr;exact⟨F,a,ws,_,r.fr,rfl,.inr h1,h2,hz,λl vs' hl hv=>fin _ l vs' hz hv rfl hl⟩;cases e;cases e
end
variable{X:Cx}{C:Cfg}{p pos:Pos}{e:Expr}{ea:dZ}
theorem QG(G:Good X C)(hm:X.mg "sorted"=none)(ha:BL X C [e] ea)(hg:Gl X "sorted":=by rfl)(he:Qt e X.env:=by rfl):SX X C (.Call (.Name "sorted" p) [e] [] pos) (au wR ea):=⟨uG (by rw[<-G.K];exact K5 G.u60) UT hg hm PyProof.Rows.boot_sorted ha.u (by decide) (by decide) he rfl⟩
open PySem PySem.Spec PySem.W PySem.Calls PyProof.Rows L2
def FA(K:Fg)(x:Str)(st:Stmt):Prop:=∃(f:Addr) (oc kV doc pm cdv ct:Value) (od an:Option Addr) (osl:Array (Option Value)),PySem.W.nsIn K mainGlobals x=some (some (.ref f))/\
 K.lookup f=some ⟨oc,od,.func (PySem.W.fnOf x x (fW st) (cD st) (aH st) .none kV doc pm an cdv ct),osl⟩/\PySem.W.codeIn K cdv x=true/\PySem.W.keepIn K (.ref f)=true
theorem FA.mk{K:Fg}{st:Stmt}{oc kV doc pm cdv ct:Value}(a:PySem.W.nsIn K mainGlobals x=some (some (.ref f)))
  (l:K.lookup f=some ⟨oc,od,.func (PySem.W.fnOf x x (fW st) (cD st) (aH st) .none kV doc pm an cdv ct),osl⟩) (c:PySem.W.codeIn K cdv x=true) (k:PySem.W.keepIn K (.ref f)=true):FA K x st:=
 ⟨f,oc,kV,doc,pm,cdv,ct,od,an,osl,a,l,c,k⟩
theorem FA.at{K:Fg}{st:Stmt}(X:K.In h)(G:h.Ns mainGlobals mg)(F:FA K x st)
  (b:∀{kV doc pm} {an} {cdv ct} us,us.length=ps.length->bindArgs (PySem.W.fnOf x x (fW st) (cD st) (aH st) .none kV doc pm an cdv ct) ⟨us,[]⟩=pure (ps.zip us)):dY K mg x st ps:=by
 obtain⟨f,oc,kV,doc,pm,cdv,ct,od,an,osl,a,l,c,k⟩:=F;exact funAt X G a l c k<|λ_ _ _ _ _ _ us hl=>b us hl
open PySem PySem.Spec PyProof.Rows L2
mutual
theorem Sh.isN{h:Heap}:∀(d:D) (u:Value) (k:NK),Sh h d u->pU d=some k->Az h k u
 |.int i,u,k,e,g=>by rw[pU] at g;cases g;obtain⟨t,rfl⟩:=e;rw[Az];exact .inl ⟨t,rfl⟩|.bl b,u,k,e,g=>by rw[pU] at g;cases g;cases e;rw[Az];exact .inr ⟨b,rfl,rfl⟩|.str x,u,k,e,g=>by rw[pU] at g;cases g;rw[Az];exact e
 |.tup xs,u,k,e,g=>by
  rw[pU] at g;obtain⟨ks,g1,rfl⟩:=Qw8.mp g;obtain⟨a,its,rfl,⟨o,e1,e2,n,e3⟩,e4⟩:=e;rw[Az];exact⟨a,o,its.toArray,n,rfl,e1,e2,e3,by simpa using mF.isN xs its ks e4 g1⟩
 |.non,u,k,e,g=>by simp[pU] at g|.lst _,u,k,e,g=>by simp[pU] at g|.arr _,u,k,e,g=>by simp[pU] at g|.dct _,u,k,e,g=>by simp[pU] at g|.gR _,u,k,e,g=>by simp[pU] at g
theorem mF.isN{h:Heap}:∀(ds:List D) (us:List Value) (ks:List NK),mF h ds us->Bo ds=some ks->nY h ks us
 |[],us,ks,e,g=>by rw[Bo] at g;cases g;cases e;rw[nY]
 |d::ds,us,ks,e,g=>by
  obtain⟨u,r,rfl,e1,e2⟩:=e;rw[Bo] at g;split at g
  .rename_i k ks' g1 g2;cases g;rw[nY];exact⟨u,r,rfl,Sh.isN d u k e1 g1,mF.isN ds r ks' e2 g2⟩
  .cases g
end
structure mH(K:Fg)(H:Hp)(y:V)(kd:D)(q:NK):Prop where
 rep:Rep K H kd y
 nk:pU kd=some q
 dep:q.dep<=8
 tup:∃xs,kd=.tup xs
abbrev KN:List (NK×V×V)->List (NK×Addr×Value)->Prop:=Paired λp q=>p.1=q.1/\p.2.1=.ref q.2.1/\RelV p.2.2 q.2.2
noncomputable def valN(ks:List (NK×V×V))(q:NK):Option V:=(ks.find? λp=>decide (p.1=q)).map (·.2.2)
noncomputable def putN(ks:List (NK×V×V))(q:NK)(u v:V):List (NK×V×V):=if (valN ks q).isSome then ks.map (λp=>if p.1=q then (p.1,p.2.1,v) else p) else ks++[(q,u,v)]
theorem KN.val(r:KN ks xs)(q):vD (valN ks q) ((atKey xs q).map (·.2)):=by
 unfold valN atKey;induction r with
 |nil=>exact True.intro|@cons p x ps xs h t ih=>rw[Qz5,Qz5];by_cases c:p.1=q;have c2:=h.1 ▸ c;rw[Qwj c,Qwj c2];exact h.2.2;have c2:=h.1 ▸ c;rw[Qq9 c,Qq9 c2];exact ih
theorem KN.len(r:KN ks xs):ks.length=xs.length:=by
 induction r with
 |nil=>rfl|cons _ _ ih=>simp[ih]
theorem KN.put(r:KN ks xs)(q)(rv:RelV v u):KN (putN ks q (.ref b) v) (storedH xs q b u):=by
 have hs:=(r.val q).rE;rw[Qk3] at hs;unfold putN storedH;rw[<-hs];split;clear hs;induction r with
 |nil=>exact .nil
 |@cons p x ps xs h t ih=>
  rw[Qwq,Qwq];refine .cons ?_ ?_;unfold putAt;by_cases c:p.1=q;have c2:=h.1 ▸ c;rw[if_pos c,if_pos c2];exact⟨h.1,h.2.1,rv⟩;have c2:=h.1 ▸ c;rw[if_neg c,if_neg c2];exact h;rename_i hsome;clear hsome;clear ih;induction t with
  |nil=>exact .nil|@cons p x ps xs h t ih=>rw[Qwq,Qwq];refine .cons ?_ ih;unfold putAt;by_cases c:p.1=q;have c2:=h.1 ▸ c;rw[if_pos c,if_pos c2];exact⟨h.1,h.2.1,rv⟩;have c2:=h.1 ▸ c;rw[if_neg c,if_neg c2];exact h
 exact Paired.snoc r ⟨rfl,rfl,rv⟩
section
variable{X:Cx}{pins:List (Addr×Obj)}{σ:L2.St}{H:Hp}{s:Shared}{a:Addr}{ks:List (NK×V×V)}{kvs:List (D×D)}{y v:V}{kd:D}{q:NK}{u:Value}{A:Around}{E:Value->Shared->Prop}
theorem Mx(I:Inv X pins σ H s):∀{kvs} {ks} {xs},dq X.K H kvs ks->KN ks xs->∀x∈xs,(qy X.prog X.w).is s.heap x.1 x.2.1
 |[],_,_,hr,r,x,hx=>by
  cases hr;cases r;cases hx
 |(k,d)::kvs,_,_,hr,r,x,hx=>by
  obtain⟨q,u,v,rest,rfl,h1,h2,h3,h4,h5⟩:=hr;cases r with
  |@cons _ x0 _ xs' h t=>rcases Qq7.mp hx with rfl|hx;obtain⟨g1,g2,g3⟩:=h;simp at g1 g2 g3;subst g1;subst g2;exact⟨Sh.isN k _ _ (Rep.sh I k _ (.ref x.2.1) h3 rfl) h1,h2⟩;exact Mx I h5 t x hx
theorem CZ(I:Inv X pins σ H s)(e:Rd H a (.dN ks))(hr:dq X.K H kvs ks):ks.length<=sizeLine/\(a == sysModules)=false/\∃xs,KN ks xs/\s.heap.DictOfH (qy X.prog X.w) a xs:=by obtain⟨z,y,xs,r,o,es,ep,h1,h2,h3,h4,h5⟩:=(show gf X.prog X.w H s.heap a (.dN ks) from e.ok I.hok);exact⟨z,y,xs,r,o,es,ep,h1,h2,h3,h4,Mx I hr r,h5⟩
theorem mH.is(k:mH X.K H y kd q)(I:Inv X pins σ H s)(ry:RelV y u):∃b,y=.ref b/\u=.ref b/\(qy X.prog X.w).is s.heap q b:=by obtain⟨h1,h2,h3,xs,rfl⟩:=k;have h4:=Sh.isN _ _ _ (Rep.sh I _ y u h1 ry) h2;obtain⟨_,b,vs,rfl,_⟩:=h1;cases ry;exact⟨b,rfl,rfl,h4,h3⟩
theorem uB(hu:A.units+12<cLine):(qy X.prog X.w).room A.in1:=by show A.units+1+10<cLine;omega
theorem acL(hu:A.units+12<cLine)(I:Inv X pins σ H s)(e:Rd H a (.dN ks))(hr:dq X.K H kvs ks)(k:mH X.K H y kd q)(hv:valN ks q=some v)(ry:RelV y u)
  (h:∀w' s',Inv X pins σ H s'->RelV v w'->Q w' s'):wpAny (model X.prog X.w) A (getItem (.ref a) u) Q E s:=by
 obtain⟨b,rfl,rfl,hk⟩:=k.is I ry;obtain⟨z,hd,xs,rel,dd⟩:=CZ I e hr;obtain⟨w',hw,xm⟩:=vD.some_of (by rw[<-hv];exact rel.val q);obtain⟨p,hp,hp2⟩:=Qw8.mp hw;refine wpAny_getItem_heap (uB hu) hk dd hp ?_;rw[hp2];exact h w' _ (I.tok _) xm
theorem afz(hu:A.units+12<cLine)(I:Inv X pins σ H s)(e:Rd H a (.dN ks))(hr:dq X.K H kvs ks)(k:mH X.K H y kd q)(ry:RelV y u)
  (h:∀s',Inv X pins σ H s'->Q (.bool (valN ks q).isSome) s'):wpAny (model X.prog X.w) A (compareOp .In u (.ref a)) Q E s:=by
 obtain⟨b,rfl,rfl,hk⟩:=k.is I ry;obtain⟨z,hd,xs,rel,dd⟩:=CZ I e hr;refine wpAny_in_heap (uB hu) hk hd dd ?_;have q':=(rel.val q).rE;rw[Qk3] at q';rw[<-q'];exact h _<|I.tok _
theorem Uz(hu:A.units+12<cLine)(I:Inv X pins σ H s)(e:Rd H a (.dN ks))(hr:dq X.K H kvs ks)(k:mH X.K H y kd q)(ry:RelV y u)
  (h:∀s',Inv X pins σ H s'->Q (.bool (!(valN ks q).isSome)) s'):wpAny (model X.prog X.w) A (compareOp .NotIn u (.ref a)) Q E s:=by
 obtain⟨b,rfl,rfl,hk⟩:=k.is I ry;obtain⟨z,hd,xs,rel,dd⟩:=CZ I e hr;refine wpAny_notIn_heap (uB hu) hk hd dd ?_;have q':=(rel.val q).rE;rw[Qk3] at q';rw[<-q'];exact h _<|I.tok _
theorem R6(ks)(q)(u v):(putN ks q u v).length<=ks.length+1:=by
 unfold putN;split;rw[Qq3];omega;simp
theorem acK(hu:A.units+12<cLine)(I:Inv X pins σ H s)(e:H a=some (.dN ks))(hr:dq X.K H kvs ks)(k:mH X.K H y kd q)(hl:ks.length<sizeLine)(ry:RelV y u)(rv:RelV v r)
  (h:∀s',Inv X pins σ (upd H a (.dN (putN ks q y v))) s'->Q () s'):wpAny (model X.prog X.w) A (setItem (.ref a) u r) Q E s:=by
 obtain⟨b,rfl,rfl,hk⟩:=k.is I ry;obtain⟨z,hd,xs,rel,dd⟩:=CZ I (.inl e) hr;have hz:xs.length<=sizeLine:=by rw[<-rel.len];exact z
 have hl2:(putN ks q (.ref b) v).length<=sizeLine:=by have:=R6 ks q (.ref b) v;omega
 refine wpAny_setItem_heap (uB hu) hk dd λh' ZM hs=>h _ ?_;obtain⟨o,es,ep,hq,h2,h3,h4,_,h5⟩:=ZM;exact yx I (by rw[e];exact True.intro) hs ⟨o,hq⟩ ⟨hl2,hd,_,rel.put q rv,o,es,ep,hq,h2,h3,h4,h5⟩
end
noncomputable def jq(kvs:List (D×D))(q:NK):Option D:=(kvs.find? λp=>decide (pU p.1=some q)).map (·.2)
noncomputable def rT(kvs:List (D×D))(kd:D)(q:NK)(d:D):List (D×D):=if (jq kvs q).isSome then kvs.map (λp=>if pU p.1=some q then (p.1,d) else p) else kvs++[(kd,d)]
theorem dq.len{K:Fg}:∀{kvs} {ks},dq K F kvs ks->ks.length=kvs.length
 |[],_,h=>by cases h;rfl|(k,d)::kvs,_,h=>by obtain⟨q,u,v,r,rfl,_,_,_,_,h5⟩:=h;rw[Qqw,Qqw,h5.len]
theorem dq.val{K:Fg}(q):∀{kvs} {ks},dq K F kvs ks->(jq kvs q=none/\valN ks q=none)\/∃d v,jq kvs q=some d/\valN ks q=some v/\Rep K F d v
 |[],_,h=>by cases h;exact .inl ⟨rfl,rfl⟩
 |(k,d)::kvs,_,h=>by
  obtain⟨q0,u,v,r,rfl,h1,h2,h3,h4,h5⟩:=h;unfold jq valN;rw[Qz5,Qz5];by_cases c:q0=q;subst c;have c2:=Qwj h1;rw[c2,Qwj rfl];exact .inr ⟨d,v,rfl,rfl,h4⟩;have c2:decide (pU k=some q)=false:=Qq9 λz=>c (by rw[h1] at z;exact Qw4 z);rw[c2,Qq9 c];exact dq.val q h5
theorem dq.snoc{K:Fg}(h1:pU kd=some q)(h2:q.dep<=8)(h3:Rep K F kd u)(h4:Rep K F d v):∀{kvs} {ks},dq K F kvs ks->dq K F (kvs++[(kd,d)]) (ks++[(q,u,v)])
 |[],_,h=>by cases h;exact⟨q,u,v,[],rfl,h1,h2,h3,h4,rfl⟩
 |(k,e)::kvs,_,h=>by
  obtain⟨q0,u0,v0,r,rfl,g1,g2,g3,g4,g5⟩:=h;exact⟨q0,u0,v0,r++[(q,u,v)],rfl,g1,g2,g3,g4,dq.snoc h1 h2 h3 h4 g5⟩
theorem dq.over{K:Fg}(h4:Rep K F d v):∀{kvs} {ks},dq K F kvs ks->dq K F (kvs.map λp=>if pU p.1=some q then (p.1,d) else p) (ks.map λp=>if p.1=q then (p.1,p.2.1,v) else p)
 |[],_,h=>by cases h;rfl
 |(k,e)::kvs,_,h=>by
  obtain⟨q0,u0,v0,r,rfl,g1,g2,g3,g4,g5⟩:=h;rw[Qwq,Qwq];have ih:=dq.over (q:=q) h4 g5;by_cases c:q0=q;subst c;rw[if_pos g1,if_pos rfl];exact⟨q0,u0,v,_,rfl,g1,g2,g3,h4,ih⟩;rw[if_neg (λz=>c (by rw[g1] at z;exact Qw4 z)),if_neg c];exact⟨q0,u0,v0,_,rfl,g1,g2,g3,g4,ih⟩
theorem dq.put{K:Fg}(h:dq K F kvs ks)(h1:pU kd=some q)(h2:q.dep<=8)(h3:Rep K F kd u)(h4:Rep K F d v):dq K F (rT kvs kd q d) (putN ks q u v):=by
 have e:(jq kvs q).isSome=(valN ks q).isSome:=by rcases h.val q with ⟨g1,g2⟩|⟨_,_,g1,g2,_⟩<;>rw[g1,g2]<;>rfl
 unfold rT putN;rw[e];split;exact h.over h4;exact h.snoc h1 h2 h3 h4
theorem Ou(kvs)(kd)(q)(d):(rT kvs kd q d).length<=kvs.length+1:=by
 unfold rT;split;rw[Qq3];omega;simp
theorem ie.gR{K:Fg}(s:aM F H)(h:ie K F H (.gR kvs) v):kvs.length<=sizeLine/\∃a ks,v=.ref a/\Rd H a (.dN ks)/\dq K F kvs ks:=by
 rcases h with ⟨z,a,vs,rfl,h1,h2⟩|⟨a,rfl,z,vs,h1,h2⟩;exact⟨z,a,vs,rfl,aM.rd s h1,h2⟩;exact⟨z,a,vs,rfl,.inl h1,h2⟩
noncomputable def Ax(d:D):Option NK:=match d with
 |.tup xs=>(pU (.tup xs)).bind λq=>if q.dep<=8 then some q else none|_=>none
theorem tH(h:Ax d=some q):pU d=some q/\q.dep<=8/\∃xs,d=.tup xs:=by
 unfold Ax at h;split at h;obtain⟨p,h1,h2⟩:=Qzj.mp h;split at h2;rename_i hd;cases h2;exact⟨h1,hd,_,rfl⟩;cases h2;cases h
theorem mH.of(s:aM F H)(p:ie C.K F H d v)(h:Ax d=some q):mH C.K H v d q:=by obtain⟨h1,h2,h3⟩:=tH h;exact⟨p.rep s,h1,h2,h3⟩
section
variable{X:Cx}{C:Cfg}{pos apos cpos:Pos}
def RK(K:Fg):R2:=λx y H Q=>∃a ks kvs kd q v,x=.ref a/\Rd H a (.dN ks)/\dq K H kvs ks/\mH K H y kd q/\valN ks q=some v/\Q v H
noncomputable def zN:D->D->Option D
 |.gR kvs,k=>(Ax k).bind λq=>jq kvs q|_,_=>none
theorem W6:pH C (RK C.K) zN:=by
 intro Pr F env σ H x y d vx vy Q r px py e q;unfold zN at e;split at e;obtain⟨z,a,ks,rfl,h1,h2⟩:=px.gR r.fr;obtain⟨k,hk,hv⟩:=Qzj.mp e;rcases h2.val k with ⟨e1,_⟩|⟨d',v',e1,e2,p2⟩;rw[e1] at hv;cases hv;rw[e1] at hv;cases hv;exact⟨a,ks,_,_,k,v',rfl,h1,dq.mono r.fr _ _ h2,mH.of r.fr py hk,e2,q _ _ F r (aM.refl F) p2⟩;cases e
theorem WN(hu:X.A.units+12<cLine)(ho:PE X o td)(hi:PE X i ty)(hs:Qm i):PE X (.Subscript o i pos) (VP (RK X.K) td ty):=by intro pins s σ H Q I h;refine Lz PySem.F.slot_dict_getitem.lookup hs<|fG (ho pins s σ H _ I h) λu s1 ⟨x,H1,I1,rx,q1⟩=>fG (hi pins s1 σ H1 _ I1 q1) λiv s2 ⟨y,H2,I2,ry,a,ks,kvs,kd,q,v,ex,g1,g2,g3,g4,q2⟩=>?_;subst ex;obtain rfl:u=Value.ref a:=rx;obtain⟨_,_,xs,_,dd⟩:=CZ I2 g1 g2;exact⟨dd.typeIs,acL hu I2 g1 g2 g3 g4 ry λw' s3 I3 xm=>⟨v,H2,I3,xm,q2⟩⟩
def We(K:Fg)(neg:Bool):R2:=λx y H Q=>∃a ks kvs kd q,y=.ref a/\Rd H a (.dN ks)/\dq K H kvs ks/\mH K H x kd q/\Q (.bl (if neg then !(valN ks q).isSome else (valN ks q).isSome)) H
theorem abm(hu:X.A.units+12<cLine):mG X (compareOp .In) (We X.K false):=by intro pins s σ H x y v u Q I rx ry h;obtain⟨a,ks,kvs,kd,q,rfl,g1,g2,g3,q2⟩:=h;cases ry;exact afz hu I g1 g2 g3 rx λs3 I3=>⟨.bl _,H,I3,rfl,q2⟩
theorem O2(hu:X.A.units+12<cLine):mG X (compareOp .NotIn) (We X.K true):=by intro pins s σ H x y v u Q I rx ry h;obtain⟨a,ks,kvs,kd,q,rfl,g1,g2,g3,q2⟩:=h;cases ry;exact Uz hu I g1 g2 g3 rx λs3 I3=>⟨.bl _,H,I3,rfl,q2⟩
noncomputable def KR(k y:D):Option D:=match y with
 |.gR kvs=>(Ax k).map λq=>.bl (jq kvs q).isSome|_=>none
noncomputable def rF(k y:D):Option D:=match y with
 |.gR kvs=>(Ax k).map λq=>.bl (!(jq kvs q).isSome)|_=>none
theorem abI:pH C (We C.K false) KR:=by
 intro Pr F env σ H x y d vx vy Q r px py e q;cases y with
 |gR kvs=>
  obtain⟨k,hk,rfl⟩:=Qw8.mp<|show(Ax x).map (λq=>D.bl (jq kvs q).isSome)=some d from e;obtain⟨z,a,ks,rfl,h1,h2⟩:=py.gR r.fr;refine⟨a,ks,kvs,_,k,rfl,h1,dq.mono r.fr _ _ h2,mH.of r.fr px hk,?_⟩;have e2:(valN ks k).isSome=(jq kvs k).isSome:=by rcases h2.val k with ⟨g1,g2⟩|⟨d',v',g1,g2,_⟩<;>rw[g1,g2]<;>rfl
  rw[e2];exact q _ H F r (aM.refl F) rfl
 |_=>cases e
theorem O8:pH C (We C.K true) rF:=by
 intro Pr F env σ H x y d vx vy Q r px py e q;cases y with
 |gR kvs=>
  obtain⟨k,hk,rfl⟩:=Qw8.mp<|show(Ax x).map (λq=>D.bl<|!(jq kvs q).isSome)=some d from e;obtain⟨z,a,ks,rfl,h1,h2⟩:=py.gR r.fr;refine⟨a,ks,kvs,_,k,rfl,h1,dq.mono r.fr _ _ h2,mH.of r.fr px hk,?_⟩;have e2:(valN ks k).isSome=(jq kvs k).isSome:=by rcases h2.val k with ⟨g1,g2⟩|⟨d',v',g1,g2,_⟩<;>rw[g1,g2]<;>rfl
  rw[e2];exact q _ H F r (aM.refl F) rfl
 |_=>cases e
theorem afB(G:Good X C):Cm X C .In KR:=⟨_,abm (by have:=G.un;omega),by rw[G.K];exact abI⟩
theorem U5(G:Good X C):Cm X C .NotIn rF:=⟨_,O2 (by have:=G.un;omega),by rw[G.K];exact O8⟩
theorem Uv(h:Heap)(hb:sysModules<h.objs.size):gf P w H (h.push { cls:=.type "dict",data:=.dict #[] }) h.objs.size (.dN []):=
 ⟨Qx0 _,Qzw.mpr<|Ne.symm<|Qxv hb,[],.nil,_, #[],0,Qw2 _ rfl,⟨rfl,rfl,rfl⟩,rfl,rfl,List.nodup_nil⟩
noncomputable def oU(i:Nat)(k a:Ev):bO:=λenv=>gZ (a env) λd aJ=>match aJ[i]? with
 |some (some (_,_))=>gZ (k aJ) λkd dD=>(match dD[i]?,Ax kd with
  |some (some (true,.gR kvs)),some q=>if kvs.length<sizeLine then .nx (dD.set i (some (true,.gR (rT kvs kd q d)))) else .stuck|_,_=>.stuck)
 |_=>.stuck
def Rq(K:Fg)(td ty tv:TE):TS:=λD σ H=>tv σ H λv H1=>td σ H1 λx H2=>ty σ H2 λy H3=>∃a ks kvs kd q,x=.ref a/\H3 a=some (.dN ks)/\dq K H3 kvs ks/\mH K H3 y kd q/\ks.length<sizeLine/\D.nx σ (upd H3 a (.dN (putN ks q y v)))
theorem Su(hu:X.A.units+12<cLine)(ho:PE X o td)(hi:PE X i ty)(hv:PE X value tv)(hs:swapsWith value (some (.Subscript o i pos')) pos.line X.env=pure false) :
  PS X (.Assign [.Subscript o i pos'] value pos) (Rq X.K td ty tv):=by
 intro pins s σ H D I h;refine wpAny_Assign_Subscript (fG (hv pins s σ H _ I h) λr s1 ⟨v,H1,I1,rv,q1⟩=>fG (ho pins s1 σ H1 _ I1 q1) λu s2 ⟨x,H2,I2,rx,q2⟩=>fG (hi pins s2 σ H2 _ I2 q2) λiv s3 ⟨y,H3,I3,ry,a,ks,kvs,kd,q,ex,g1,g2,g3,g4,q3⟩=>?_) hs;subst ex;obtain rfl:u=Value.ref a:=rx;exact acK hu I3 g1 g2 g3 g4 ry rv λs4 I4=>⟨σ,_,I4,q3⟩
def Q9(K:Fg)(tk tv:TE):TE:=λσ H Q=>∀p,H p=none->tk σ (upd H p (.dN [])) λx H1=>tv σ H1 λy H2=>H2 p=some (.dN [])/\∃kd q,mH K H2 x kd q/\Q (.ref p) (upd H2 p (.dN [(q,x,y)]))
theorem SQ(hu:X.A.units+12<cLine)(hk:PE X k tk)(hv:PE X v tv):PE X (.Dict [some k] [v] pos) (Q9 X.K tk tv):=by intro pins s σ H Q I q;have hn:=I.hok.fresh<|Qq1 s.heap.objs.size;have I1:=I.laid (t':=s.toks) (λ_ _ q=>Qq0 _ q) (Qq1 _)<|Uv s.heap I.big;rw[arm_eval_Dict,zip_pairTrees [some k] [v] X.env pos rfl rfl,dictDisplay_pairs (pairTrees [some k] [v] X.env pos) (by intro z;cases z) (by rw[pairTrees_length [some k] [v] X.env pos rfl rfl];simp)];refine Qqx<|wpAny_standAt<|Qqx ?_;unfold subDict;refine Qqx<|wpAny_alloc ?_;refine Qqx<|Qjx ?_;rw[if_pos (by rw[pairTrees_length [some k] [v] X.env pos rfl rfl];simp)];refine Qqx<|pairTrees_cons_walk<|fG (hk pins _ σ _ _ I1<|q _ hn) λu s1 ⟨x,H1,J1,rx,q1⟩=>fG (hv pins s1 σ H1 _ J1 q1) λw2 s2 ⟨y,H2,J2,ry,e,kd,qq,ka,q2⟩=>pairTrees_nil_walk ?_;refine Qjx ?_;refine Qqx ?_;rw[Qk0];obtain⟨b,rfl,rfl,hkk⟩:=ka.is J2 rx;obtain⟨_,hd,xs,rel,dd⟩:=CZ (kvs:=[]) J2 (.inl e) rfl;cases rel;refine Qqx<|Qqx<|wpAny_dictSet_heap (show X.A.units+10<cLine by omega) hkk dd λh' ZM hs=>Qq6 ?_;show wpAny _ _ (forIn [] PUnit.unit _) _ _ _;rw[Qkz];refine Qq6<|Qq6<|Qq6<|Qq6 ?_;obtain⟨o,es,ep,hq,h2,h3,h4,_,h5⟩:=ZM;exact⟨.ref s.heap.objs.size,_,yx (ob:=.dN [(qq,.ref b,y)]) J2 (by rw[e];exact True.intro) hs ⟨o,hq⟩ ⟨by show 1<=sizeLine;decide,hd,[(qq,b,w2)],.cons ⟨rfl,rfl,ry⟩ .nil,o,es,ep,hq,h2,h3,h4,h5⟩,rfl,q2⟩
noncomputable def qN(k a:Ev):Ev:=λenv=>bindR (k env) λkd e1=>bindR (a e1) λd e2=>match Ax kd with
 |some _=>.ok (.gR [(kd,d)]) e2|none=>.stuck
noncomputable def yg:bO:=λ_=>.stuck
theorem QJ{px:Pos}(i)(G:Good X C)(hb:Ny X C y b)(hN:X.N[i]?=some n:=by rfl)(hv:vM X.env.scope n:=by first|exact Or.inl rfl|exact Or.inr (Or.inl rfl)|exact Or.inr (Or.inr rfl))(hs:Qm y:=by intro _ _;rfl)
  (hd:lK n:=by decide) (hcd:vJ n:=by decide):SX X C (.Subscript (.Name n px) y pos) (aB zN i b):=⟨by
 have h:PE X (.Subscript (.Name n px) y pos) (VP (RK X.K) _ _):=WN (by have:=G.un;omega) (jb hN hv hd hcd) hb.u hs;rw[G.K] at h;exact h.imp<|rM W6⟩
theorem Hi{px pos':Pos}(i)(G:Good X C)(hk:SX X C k ek)(he:SX X C e a)(hN:X.N[i]?=some n:=by rfl)(hv:vM X.env.scope n:=by first|exact Or.inl rfl|exact Or.inr (Or.inl rfl)|exact Or.inr (Or.inr rfl))
  (hs:swapsWith e (some (.Subscript (.Name n px) k pos')) pos.line X.env=pure false:=by rfl)
  (hd:lK n:=by decide) (hcd:vJ n:=by decide):Gm X C (.Assign [.Subscript (.Name n px) k pos'] e pos) (oU i ek a):=⟨by
 have h0:=Su (by have:=G.un;omega) (jb hN hv hd hcd) hk.u he.u hs;rw[G.K] at h0;refine h0.imp λD σ H h=>?_;obtain⟨Pr,F,env,r,f⟩:=h;obtain⟨d,aJ,e1,f1⟩:=cZ f;refine⟨Pr,F,env,aJ,d,r,e1,λv H1 F1 r1 s1 p1=>?_⟩;split at f1
 rename_i o0 d0 h0;obtain⟨v0,hv0,_⟩:=r1.rd h0;obtain⟨kd,dD,e2,f2⟩:=cZ f1;refine⟨v0,hv0,Pr,F1,aJ,dD,kd,r1,e2,λvk H2 F2 r2 s2 p2=>?_⟩;split at f2
 rename_i kvs q h2 hq;split at f2
 rename_i hz;obtain⟨b,g1,⟨z,ks,g2,g3⟩,g4,g5⟩:=r2.own i _ h2;rw[hv0] at g1;cases g1;have hz':ks.length<sizeLine:=by rw[g3.len];exact hz
 obtain⟨n1,n2,n3⟩:=tH hq;refine⟨b,ks,kvs,kd,q,rfl,g2,dq.mono r2.fr _ _ g3,⟨Rep.mono r2.fr _ _ p2,n1,n2,n3⟩,hz',?_⟩;refine f2 σ _ F2 (r2.write h2 hv0 ⟨Qq4 (Ou _ _ _ _) hz,_,aU,g3.put n1 n2 p2<|Rep.mono s2 _ _ p1⟩)<|s1.trans s2
 exact f2.elim
 exact f2.elim
 exact f1.elim⟩
theorem Cu(G:Good X C)(hk:SX X C k ek)(hv:SX X C v ev):Vs X C (.Dict [some k] [v] pos) (qN ek ev):=⟨by
 have h0:PE X (.Dict [some k] [v] pos) (Q9 X.K _ _):=SQ (by have:=G.un;omega) hk.u hv.u;rw[G.K] at h0;refine h0.imp λσ H Q hq=>?_;obtain⟨Pr,F,env,env',d,r,e,q⟩:=hq;obtain⟨kd,aJ,e1,e2⟩:=aQ e;obtain⟨dv,dD,e3,e4⟩:=aQ e2;split at e4
 rename_i qq hqq;cases e4;obtain⟨n1,n2,n3⟩:=tH hqq;intro p hp;have ra:=r.aside (o:=.dN []) hp;have nP:=r.pr.free hp;refine⟨upd Pr p<|.dN [],F,env,aJ,kd,ra,e1,λx H1 F1 r1 s1 p1=>⟨upd Pr p<|.dN [],F1,aJ,env',dv,r1,e3,λy H2 F2 r2 s2 p2=>⟨r2.pr p _ aU,kd,qq,⟨Rep.mono r2.fr _ _<|Rep.mono s2 _ _ p1,n1,n2,n3⟩,?_⟩⟩⟩;have r3:=r2.turn (u:=.dN [(qq,x,y)]) aU;have nF:F2 p=none:=by
  cases hF:F2 p with
  |none=>rfl|some o=>have:=r2.dj p o hF;rw[aU] at this;cases this
 have r4:Rel C Pr F2 env' σ (upd H2 p<|.dN [(qq,x,y)]):=r3.less λb o hb=>by
  have hne:b≠p:=λz=>by rw[z,nP] at hb;cases hb
  rw[bj hne,bj hne];exact hb
 refine q p _ F2 r4 (s1.trans s2) ⟨⟨by show 1<=sizeLine;decide,_,aU,⟨qq,x,y,[],rfl,n1,n2,Rep.mono s2 _ _ p1,p2,rfl⟩⟩,nF,nP,λj e he hs=>?_⟩;obtain⟨b,h1,_,_,h4⟩:=r2.own j e he;rw[hs] at h1;cases h1;rw[aU] at h4;cases h4
 cases e4⟩
theorem yV{st:Stmt}:Gm X C st yg:=⟨λpins s σ H D I h=>by
 obtain⟨_,_,_,_,f⟩:=h;exact f.elim⟩
end
end Ev
namespace SI
open PySem PySem.Spec PyProof.Rows L2 PySem.Builtin
def Ris(xs:Array Nat):Prop:=∀i j,i<j->j<xs.size->xs.getD i 0<xs.getD j 0
structure Pl(t:SetTable):Prop where
 dm:t.dummies=#[]
 ri:Ris t.place
open SX (led)
structure TOk(P:Program)(w:World)(es:Array (Int×Value))(t:SetTable)(ys:List Int):Prop where
 el:ElemsOf (intKind P w) es.toList
 tx:∃ss:List Int,IntsAre (es.toList.map (·.2)) ss/\ss.Perm ys
 fit:t.fits es.size=true
 ld:t.led=led w
 pl:Pl t
def Lg(P:Program)(w:World)(h:Heap)(a:Addr)(ys:List Int):Prop:=
 ∃o es ep t,h.get? a=some o/\o.ExactSet/\o.data=.set es ep t/\TOk P w es t ys
open PySem PySem.Spec PyProof.Rows L2 PySem.Builtin Ev
noncomputable def afI(P:Program)(w:World)(a:Addr)(ys:List Int):HO:=.ext λh=>Lg P w h a ys
end SI
namespace Ev
open PySem PySem.Spec PyProof.Rows L2 PySem.Builtin
instance (zs:List Int):Decidable (zs.Pairwise (·< ·)):=inferInstance
end Ev
namespace L2
open PySem PySem.Spec PyProof.Rows
structure jx(N P Q:List Str)(sc:Scope):Prop where
 kind:sc.kind=.function
 co:sc.isCoroutine=false
 gen:sc.isGenerator=false
 nd:N.Nodup
 pre:N.take (P.length+Q.length)=P++Q
 par:∀x∈P,sc.names.lookup x=some .local
 fre:∀x,sc.names.lookup x=some .free->x∈Q
 frk:∀x∈Q,sc.names.lookup x=some .free
 Tg:∀y∈sc.names,y.2 ≠ .cell
noncomputable def cxN(CX:Qz)(P:Program)(w:World)(K:PySem.W.Frag)(mg:Str->Option Value)(base:Heap)(N:List Str)(qual:Str)(scope:Scope)(f:Addr)(cd:Value)(cl:List (Str×Addr))(A:Around)(outer:List Env)(s:Shared)(H:Hp)(E:XK):Cx where
 prog:=P
 w:=w
 K:=K
 mg:=mg
 base:=base
 A:=A.deeper (PySem.W.envX qual scope s.heap.objs.size f cd cl)
 N:=N
 s₀:=s
 H₀:=H
 env:=PySem.W.envX qual scope s.heap.objs.size f cd cl
 outer:=outer
 stack:=PySem.W.envX qual scope s.heap.objs.size f cd cl::outer
 ex:=[]
 calm:=true
 fn:=λ_=>false
 pn:=[]
 xe:=λe s'=>wpAny (model P w) (A.deeper (PySem.W.envX qual scope s.heap.objs.size f cd cl)) (leaving (PySem.W.envX qual scope s.heap.objs.size f cd cl) e) (λ_ s''=>CX outer H s E e s'') (λe' s''=>CX outer H s E e' s'') s'
theorem zq{ps:List Str}{i:Nat}{u:Value}(nd:ps.Nodup)(h1:ps[i]?=some x)(h2:us[i]?=some u):(ps.zip us).reverse.lookup x=some u:=by
 have go:∀{l:List (Str×Value)},(l.map (·.1)).Nodup->(x,u)∈l->l.lookup x=some u:=by
  intro l;induction l with
  |nil=>intro _ h;cases h
  |cons p r ih=>
   intro hn hm;rw[Qwq,Qxk] at hn;rcases Qq7.mp hm with e|hm;subst e;simp[Qx2];rw[Qx2];cases hb:x == p.1 with
   |false=>exact ih hn.2 hm|true=>have:=eq_of_beq hb;exact absurd (List.mem_map_of_mem hm)<|this ▸ hn.1
 refine go ?_<|List.mem_reverse.mpr ?_;rw[List.map_reverse];have:∀(a:List Str) (b:List Value),a.Nodup->((a.zip b).map (·.1)).Nodup:=by
  intro a;induction a with
  |nil=>intro b _;exact .nil
  |cons y a ih=>
   intro b hn;cases b with
   |nil=>exact .nil|cons v b=>rw[List.zip_cons_cons,Qwq,Qxk];refine⟨λhm=>?_,ih b (Qxk.mp hn).2⟩;obtain⟨q,hq,e⟩:=Qw3.mp hm;have e':q.1=y:=e;exact(Qxk.mp hn).1<|e' ▸ (List.of_mem_zip hq).1
 exact List.pairwise_reverse.mpr<|(this ps us nd).imp λh=>Ne.symm h;obtain⟨l1,e1⟩:=Qqy.mp h1;obtain⟨l2,e2⟩:=Qqy.mp h2;refine List.mem_iff_getElem?.mpr ⟨i,?_⟩;rw[List.getElem?_zip_eq_some];exact⟨h1,h2⟩
theorem CP:∀{l:List (Str×Addr)} {i:Nat} {x} {c},(l.map (·.1)).Nodup->l[i]?=some (x,c)->l.lookup x=some c
 |[],_,_,_,_,h=>by simp at h
 |p::r,0,x,c,_,h=>by
  simp at h;subst h;simp[Qx2]
 |p::r,i+1,x,c,hn,h=>by
  rw[Qwq,Qxk] at hn;have hm:r[i]?=some (x,c):=by simpa using h
  rw[Qx2];cases hb:x == p.1 with
  |false=>exact CP hn.2 hm|true=>have:=eq_of_beq hb;exact absurd (List.mem_map_of_mem<|Qx7 hm)<|this ▸ hn.1
theorem mem_lookup:∀{l:List (Str×Addr)} {x} {c},l.lookup x=some c->∃i:Nat,l[i]?=some (x,c)
 |[],_,_,h=>by simp at h
 |p::r,x,c,h=>by
  rw[Qx2] at h;cases hb:x == p.1 with
  |false=>rw[hb] at h;obtain⟨i,e⟩:=mem_lookup h;exact⟨i+1,by simpa using e⟩
  |true=>
   rw[hb] at h;have e1:=eq_of_beq hb;have e2:p.2=c:=by simpa using h
   exact⟨0,by subst e1 e2;rfl⟩
theorem has_lookup:∀{l:List (Str×Addr)} {x},x∈l.map (·.1)->∃c,l.lookup x=some c
 |[],x,h=>by simp at h
 |p::r,x,h=>by
  rw[Qx2];cases hb:x == p.1 with
  |true=>exact⟨_,rfl⟩|false=>rw[Qwq,Qq7] at h;rcases h with e|h;subst e;simp at hb;exact has_lookup h
theorem T9{K:PySem.W.Frag}
  (S:jx N ps qs scope) (hd:A.handled=none) (e0:Jt P w K mg base A outer s H) (hl:vs.length=ps.length) (r:Vals vs us) (hc1:cl.map (·.1)=qs) (hc2:(cl.map (·.2)).Nodup) (hc3:Dd.length=cl.length)
  (hc:∀(i:Nat) x c v,cl[i]?=some (x,c)->Dd[i]?=some v->∃o u w,H c=some (.lg o u)/\o.data=.cell (some w)/\RelV v w)
  (hn:h₁.Ns s.heap.objs.size (λx=>(ps.zip us).reverse.lookup x)) (hk:∀b o,s.heap.get? b=some o->h₁.get? b=some o) :
  Inv (cxN CX P w K mg base N qual scope f cd cl A outer s H E) [] (start N (vs++Dd)) H { s with heap:=h₁,toks:=tk }:=by
 have hlen:(vs++Dd).length=ps.length+qs.length:=by rw[Qqk,hl,hc3,<-hc1,Qq3]
 have hpl:ps.length+qs.length<=N.length:=by have:=Qw9 List.length S.pre;rw[Qwy,Qqk] at this;omega
 have ndQ:(ps++qs).Nodup:=by rw[<-S.pre];exact S.nd.sublist<|List.take_sublist _ _
 have ndP:=(List.nodup_append.mp ndQ).1;have ndC:(cl.map (·.1)).Nodup:=by rw[hc1];exact(List.nodup_append.mp ndQ).2.1
 have cv:∀i x c,cl[i]?=some (x,c)->∃v o u w,Dd[i]?=some v/\H c=some (.lg o u)/\o.data=.cell (some w)/\RelV v w/\s.heap.get? c=some o:=λi x c e=>by
  have hi:i<Dd.length:=by rw[hc3];exact(Qqy.mp e).1
  obtain⟨o,u,w,q1,q2,q3⟩:=hc i x c Dd[i] e<|Qqv hi;exact⟨_,o,u,w,Qqv hi,q1,q2,q3,(e0.hok c _ q1).1⟩
 have Vq:∀b,b ∉ (cxN CX P w K mg base N qual scope f cd cl A outer s H E).ex:=λb z=>absurd (show b∈([]:List Addr) from z) (by simp);refine⟨⟨e0.mod,S.kind,rfl,rfl,Qq1 _,λy z c h1 h2=>?_,λy hy=>?_,λy c h _=>?_,λ_=>hd,Around.frames_deeper e0.frames,.inr ⟨rfl,rfl⟩,λb z=>absurd z<|Vq b,e0.bs,e0.U6,λb _ _=>Vq b,λb z=>absurd z<|Vq b,e0.uW,e0.ZF⟩,
  rfl,e0.bare,Un.kept hk,⟨_,hn,λi y v h1 h2 h3=>?_⟩,λy c h=>?_,e0.hok.fresh<|Qq1 _,λy c h=>?_,λp hp=>absurd (show p∈([]:List (Addr×Obj)) from hp) (by simp),e0.hok.kept hk,?_⟩
 obtain⟨i,e1⟩:=mem_lookup<|show cl.lookup y=some c from h1;obtain⟨j,e2⟩:=mem_lookup<|show cl.lookup z=some c from h2;have g1:(cl.map (·.2))[i]?=some c:=by rw[Qxz,e1];rfl
 have g2:(cl.map (·.2))[j]?=some c:=by rw[Qxz,e2];rfl
 have hij:i=j:=by obtain⟨l1,f1⟩:=Qqy.mp g1;obtain⟨l2,f2⟩:=Qqy.mp g2;exact(List.getElem_inj hc2).mp<|f1.trans f2.symm
 subst hij;rw[e1] at e2;cases e2;rfl;have hy:=hy;rcases hy with hy|hy;exact absurd rfl (S.Tg _<|Qjy hy);exact has_lookup<|show y∈cl.map (·.1) by rw[hc1];exact S.fre y hy
 cases h;have hi:i<(vs++Dd).length:=by
  unfold start at h2;by_cases hi:i<(vs++Dd).length;exact hi;rw[Qx4 (by simpa using hi)] at h2;rw[Qz1] at h2;split at h2<;>cases h2
 have ha:(vs++Dd)[i]?=some v:=by
  unfold start at h2;rw[Qw7 (by simpa using hi),Qxz] at h2;cases e:(vs++Dd)[i]? with
  |none=>rw[e] at h2;cases h2|some a=>rw[e] at h2;cases h2;rfl
 have hp:(ps++qs)[i]?=some y:=by rw[<-S.pre,Qz8 (by omega)];exact h1
 by_cases hi1:i<vs.length;rw[Qw7 hi1] at ha;rw[Qw7 (by omega)] at hp;obtain⟨u,hu,rv⟩:=r.get ha;exact⟨u,rv,.inl ⟨S.par y<|Qx7 hp,zq ndP hp hu⟩⟩;rw[Qx4 (by omega)] at ha hp;rw[hl] at ha;obtain⟨li,ei⟩:=Qqy.mp ha;have hci:i - ps.length<cl.length:=by omega
 have hcl:=Qqv hci;have hy:(cl[i - ps.length]).1=y:=by
  have:(cl.map (·.1))[i - ps.length]?=some y:=by rw[hc1];exact hp
  rw[Qxz,hcl] at this;exact Qw4 this
 obtain⟨x',c⟩:∃c,cl[i - ps.length]=(y,c):=⟨_,by rw[<-hy]⟩;rw[c] at hcl;obtain⟨o,u,w,q1,q2,q3⟩:=hc _ _ _ _ hcl ha;refine⟨w,q3,.inr ⟨.inr<|S.frk y<|Qx7 hp,x',CP ndC hcl,o,hk _ _ (e0.hok _ _ q1).1,q2⟩⟩;obtain⟨i,e1⟩:=mem_lookup<|show cl.lookup y=some c from h;obtain⟨v,o,u,w,q1,q2,q3,q4,q5⟩:=cv i y c e1;exact⟨_,o,hk _ _ q5,q3⟩;obtain⟨i,e1⟩:=mem_lookup<|show cl.lookup y=some c from h;obtain⟨v,o,u,w,q1,q2,q3,q4,q5⟩:=cv i y c e1;exact .inr ⟨rfl,o,u,q2⟩;unfold start;show _=N.length;rw[Qqk,Qq3,Qzx];omega
theorem Rr{K:PySem.W.Frag}
 
  (S:jx N ps qs scope) (hr:fX (k+1) A) (e0:Jt P w K mg base A outer s H) (hb:BindsTo s (PySem.W.fnX name qual params body scope cl .none .none doc pm none (.ref c) ctv) args (ps.zip us)) (hl:vs.length=ps.length) (r:Vals vs us)
  (hc1:cl.map (·.1)=qs) (hc2:(cl.map (·.2)).Nodup) (hc3:Dd.length=cl.length)
  (hc:∀(i:Nat) x c v,cl[i]?=some (x,c)->Dd[i]?=some v->∃o u w,H c=some (.lg o u)/\o.data=.cell (some w)/\RelV v w)
  (hf:H f=some (.lg (PySem.W.fnMade name qual params body scope cl doc pm c ctv) u0)) (hco:H c=some (.lg co u1)) (hcd:co.data=.fields acN) (hcq:acN[1]?=some (.str qual t1))
  (hbody:∃t,Gp (cxN CX P w K mg base N qual scope f (.ref c) cl A outer s H E) body t/\t { nx:=λ_ H'=>Q .non H',rt:=Q } (start N (vs++Dd)) H) :
  codeAny (model P w) A (.call (.ref f) args) (CR CX outer P w H s Q E) s:=by
 have KX:=e0.mod.Jz.keeps λb o e=>(e0.bs b o e).1;have lim:=e0.mod.nolimit.keeps λb o e=>(e0.bs b o e).1;have hloc:∀y∈ps.zip us,scope.names.lookup y.1=some .local:=λy hy=>S.par y.1 (List.of_mem_zip hy).1;refine codeAny_call_def hr.depth (e0.hok f _ hf).1 rfl lim ⟨c,co,acN,t1,rfl,(e0.hok c _ hco).1,hcd,hcq⟩ rfl hb S.Tg hloc (λh₁ hns hk₁=>?_) S.co S.gen S.kind;obtain⟨t,ht,hq⟩:=hbody;have I:Inv (cxN CX P w K mg base N qual scope f (.ref c) cl A outer s H E) [] (start N<|vs++Dd) H { s with heap:=h₁,toks:=s.toks+(ps.zip us).length }:=T9 S hr.hd e0 hl r hc1 hc2 hc3 hc hns hk₁;refine Qz9 (ht [] _ (start N<|vs++Dd) H _ I hq) (λfl s' hs=>?_) λe s' hs=>hs;have fin:∀{σ'} {H'} {v} {u},Inv (cxN CX P w K mg base N qual scope f (.ref c) cl A outer s H E) [] σ' H' s'->RelV v u->Q v H'->CE outer P w H s Q u s':=
  λ{σ' H' v u} J rv q=>⟨v,H',J.os,J.bare,J.base,J.hok,rv,q⟩
 cases fl with
 |ret u=>obtain⟨v,σ',H',J,rv,q⟩:=hs;exact fin J rv q|next=>obtain⟨σ',H',J,q⟩:=hs;exact fin (v:=V.non) J rfl q|brk=>obtain⟨_,_,_,q⟩:=hs;exact False.elim q|cont=>obtain⟨_,_,_,q⟩:=hs;exact False.elim q
end L2
namespace Ev
open PySem PySem.Spec PyProof.Rows L2
def qY(P:Program)(w:World)(K:Fg)(mg:Str->Option Value)(base:Heap)(k:Nat)(st:Stmt)(g:List D->List D->Option D):Prop:=
 ∀(A:Around) (outer:List PySem.Env) (s:Shared) (H:Hp) (us:List Value) (vs:List V) (Q:VK) (E:XK) (a:Addr) (F:Hp) (lD ds:List D) (d:D),
  fX k A->Jt P w K mg base A outer s H->Vals vs us->aM F H->Rep K F (.clo st lD) (.ref a)->bK K F ds vs->g lD ds=some d->
  (∀v H' F',aM H H'->aM F' H'->aM F F'->(∀b o,F' b=some o->F b=some o\/H b=none)->Rep K F' d v->Q v H')->
  codeAny (model P w) A (.call (.ref a) ⟨us,[]⟩) (CR xg outer P w H s Q E) s
theorem qY.mono{K:Fg}{st:Stmt}(h:qY P w K mg base j st g)(e:j<=k):qY P w K mg base k st g:=
 λA outer s H us vs Q E a F lD ds d hr=>h A outer s H us vs Q E a F lD ds d<|hr.mono e
noncomputable def runC(n m:Nat)(ev:bO)(lD ds:List D):Option D:=if ds.length=n then (match ev (envOf m (ds++lD)) with
 |.rt false d _=>some d|.nx _=>some .non|_=>none) else none
noncomputable abbrev bxN(P:Program)(w:World)(K:Fg)(mg:Str->Option Value)(base:Heap)(N:List Str)(qual:Str)(st:Stmt)(f:Addr)(cdv:Value)(cl:List (Str×Addr))(A:Around)(outer:List PySem.Env)(s:Shared)(H:Hp)(E:XK):Cx:=(cxN xg P w K mg base N qual (aH st) f cdv cl A outer s H E).W8
theorem Df:∀{cl} {vs},pJ F cl vs->vs.length=cl.length
 |[],_,h=>by cases h;rfl|(_,c)::r,_,⟨v,vs',h0,_,h3⟩=>by subst h0;rw[Qqw,Qqw,Df h3]
theorem Jl:∀{cl} {vs},pJ F cl vs->∀(i:Nat) x c v,cl[i]?=some (x,c)->vs[i]?=some v->Vp F c v
 |[],_,_,i,x,c,v,e,_=>by simp at e|(_,c0)::r,_,⟨v0,vs',h0,h1,h3⟩,0,x,c,v,e,e2=>by subst h0;simp at e e2;obtain⟨_,rfl⟩:=e;subst e2;exact h1|(_,c0)::r,_,⟨v0,vs',h0,h1,h3⟩,i+1,x,c,v,e,e2=>by subst h0;exact Jl h3 i x c v (by simpa using e) (by simpa using e2)
theorem FJ{K:Fg}{st:Stmt}(S:jx N ps (freeOf st) (aH st))(hgl:ae4 st=false)
  (hbind:∀{q} {cl} {doc pm cv ctv} us,us.length=ps.length->bindArgs (PySem.W.fnX (defName st) q (fW st) (cD st) (aH st) cl .none .none doc pm none cv ctv) ⟨us,[]⟩=pure (ps.zip us))
  (hb:∀q f cdv cl A outer s H E,fX k (A.deeper (PySem.W.envX q (aH st) s.heap.objs.size f cdv cl))->Good (bxN P w K mg base N q st f cdv cl A outer s H E) (C0 K)->rR (bxN P w K mg base N q st f cdv cl A outer s H E) (C0 K) (cD st) ev) :
  qY P w K mg base (k+1) st (runC ps.length N.length ev):=by
 intro A outer s H us vs Q E a F lD ds d hr e0 r sF hclo p e q;obtain⟨a',Dd,hv,⟨⟨u,qn,cl,doc,pm,ctv,c,h1,⟨co,u2,ws,t,h2,h3,h4⟩,h5,h6,h7⟩,_⟩|⟨n,p,_,_,_,_,rfl,_⟩,pc⟩:=hclo;rotate_left;cases hgl;cases hv;unfold runC at e;split at e;rename_i hl;have hlv:vs.length=ps.length:=by rw[p.length];exact hl
 have hlu:us.length=ps.length:=by rw[<-r.length];exact hlv
 refine Rr S hr e0 (.of_eq<|hbind us hlu) hlv r h5 h6 (Df h7) (λi x c v e1 e2=>?_) (sF _ _ h1) (sF _ _ h2) h3 h4 ?_;obtain⟨o,u,w,g1,g2⟩:=Jl h7 i x c v e1 e2;exact⟨o,u,w,sF _ _ g1,g2⟩;have hr':=hr.deeper<|PySem.W.envX qn (aH st) s.heap.objs.size a (.ref c) cl;refine⟨tS (C0 K) ev,(hb qn a (.ref c) cl A outer s H E hr' ⟨rfl,rfl,hr'.units⟩).W8,Bq H F,F,envOf N.length<|ds++lD,rC sF<|p.append pc,?_⟩;split at e;rename_i d' env' h1;cases e;rw[h1];exact λv σ' H' F' r' s' p'=>q v H' F' (aM.tu r'.pr s' r'.fr sF) r'.fr s' (tL s' r'.dj) p';rename_i env' h1;cases e;rw[h1];exact λσ' H' F' r' s'=>q .non H' F' (aM.tu r'.pr s' r'.fr sF) r'.fr s' (tL s' r'.dj) rfl;cases e;cases e
noncomputable def lF(Φ:Stmt->List D->List D->Option D)(i:Nat)(a:dZ):Ev:=λenv=>match env[i]? with
 |some (some (false,.clo st lD))=>bindR (a env) λds aJ=>iy (Φ st lD ds) aJ|_=>.stuck
section
variable{X:Cx}{C:Cfg}{pos p:Pos}{k:Nat}{x:Str}{e:Expr}{es:List Expr}
theorem aaO(i)(hN:X.N[i]?=some x)(hv:vM X.env.scope x)(G:Good X C)(hΦ:∀st lD ds d,Φ st lD ds=some d->qY X.prog X.w X.K X.mg X.base k st (Φ st))(hr:fX k X.A)
  (hx:∀e s,False->X.xe e s) (ha:Vk X C (e::es) a) (hd:lK x:=by decide) (hcd:vJ x:=by decide)
  (he:starEach (e::es) X.env=(false,eval e X.env)::starEach es X.env:=by rfl) (hpl:(backTo pos (starEach es X.env)).any (·.1)=false:=by rfl) :
  PX X C (.Call (.Name x p) (e::es) [] pos) (lF Φ i a):=by
 intro pins s σ H Q I h;obtain⟨Pr,F,env,env',d,r,ev,q⟩:=h;unfold lF at ev;split at ev;rename_i st lD h0;obtain⟨ds,aJ,e1,e2⟩:=aQ ev;obtain⟨e3,rfl⟩:=eZ e2;obtain⟨v,hσ,a0,vs0,rfl,hclo,Ud⟩:=r.val i _ h0;have fnAt:∀{F2} {s2:Shared} {H2},aM F F2->aM F2 H2->tY X.prog X.w H2 s2.heap->X.K.In s2.heap->PySem.W.FnAt a0 s2.heap:=λt1 t2 hok hin=>by
  obtain⟨⟨u,qn,cl,doc,pm,ctv,c,h1,_⟩,_⟩|⟨n,p,oc,od,fd,sl,_,_,hl⟩:=hclo;rotate_left;exact⟨_,_,_,_,hin _ _ (by rw[G.K];exact hl)⟩;exact⟨_,_,_,_,(hok a0 _<|t2 _ _<|t1 _ _ h1).1⟩
 refine wpAny_Call_Name_kw<|Qz9 (jb hN hv hd hcd pins s σ H (λv H'=>v=.ref a0/\H'=H) I ⟨_,hσ,rfl,rfl⟩) (λu s1 hu=>?_) λ_ _ z=>z;obtain⟨v',H',I1,rv,rfl,rfl⟩:=hu;obtain rfl:u=Value.ref a0:=rv;refine PySem.W.callWith_F (fnAt (aM.refl F) r.fr I1.hok I1.Px) (fG (ha pos pins s1 σ H' (λvs H2=>∃F2,Rel C Pr F2 env' σ H2/\aM F F2/\bK C.K F2 ds vs) I1 ⟨Pr,F,env,env',ds,r,e1,λvs H2 F2 r2 s2 p2=>⟨F2,r2,s2,p2⟩⟩) λus s2 hq=>?_) he hpl;obtain⟨vs,H2,I2,rvs,F2,r2,Qu,p2⟩:=hq;refine⟨fnAt Qu r2.fr I2.hok I2.Px,?_⟩;have rep2:Rep X.K F2 (.clo st lD) (.ref a0):=by rw[G.K];exact Rep.mono Qu _ _ ⟨a0,vs0,rfl,hclo,Ud⟩
 refine wpAny_call (codeAny_mono (hΦ st lD ds d e3 X.A X.stack s2 H2 us vs Q E0 a0 F2 lD ds d hr I2.env0 rvs r2.fr rep2 (by rw[G.K];exact p2) e3
  (λv H3 F3 t1 t2 t3 t4 p3=>q v H3 F3 (r2.after t1 t2 t3 t4) (Qu.trans t3) (by rw[<-G.K];exact p3))) λrr s' hq=>?_)
 cases rr with
 |error e=>exact hx e s' hq
 |ok fl=>
  cases fl with
  |ret u=>exact I2.after hq|next=>exact False.elim hq|brk=>exact False.elim hq|cont=>exact False.elim hq
 cases ev
end
end Ev
namespace L2
open PySem PySem.Spec PyProof.Rows
theorem Lb{q:Pos}{a b:Int}{c:Value}(l:List Value)(h:TriplesOk l) :
  codeAmong q (l++[rawInt a,rawInt b,c])=match codeAmong q l with
   |some x=>some x|none=>if a == q.line&&b == q.col then some c else none:=by
 fun_induction TriplesOk l with
 |case1=>simp[codeAmong,rawInt]|case2 a t b u x rest ih=>simp only[List.cons_append,codeAmong];split;rfl;exact ih h|case3 l h1 h2=>exact h.elim
structure BK(base:Heap)(mg:Str->Option Value)(c P:Addr):Prop where
 code:PySem.W.CodeHd base c P
 blt:base.BuiltinsAt mg P
 ne:mainGlobals≠P
def Z4(H:Hp)(c:Addr)(q:Str):Prop:=∃(o:Obj) (u:HO) (vs:Array Value) (t:Tok),H c=some (.lg o u)/\o.data=.fields vs/\vs[1]?=some (.str q t)
theorem CW{σ:St}
  (I:Inv X pins σ H s) (B:BK X.base X.mg c0 P) (hcode:X.env.code=.ref c0) (hP:H P=some (.tab qs)) (hq:(pos,qual)∈qs) (hqs:∀q∈qs,q.1.line=pos.line->q.1.col=pos.col->q.2=qual)
  (hd0:args.defaults=[]) (hk0:args.kw_defaults=[]) (ha:annTrees args none X.env=[]) (hqn:qualnameIn X.env name name=qual)
  (hfree:∀n,(n,NameKind.free)∈scope.names->∃c,X.env.cells.lookup n=some c)
  (hN:X.N.Nodup) (hi:X.N[i]?=some name) (hx:Loc X.env.scope name)
  (h:∀f c H1 doc pm ctv s',H f=none->c≠f->aM H H1->H1 f=none->Z4 H1 c qual->(∀b o,H1 b=some o->H b=some o\/(b=c/\H c=none))->
   Inv X pins (σ.set i (some (.ref f))) (upd H1 f (.lg (PySem.W.fnMade name qual args body scope (gA X.env scope.names []) doc pm c ctv) (.own f))) s'->Q .next s')
  (hf:X.fn name=true\/X.env.scope.names.lookup name=some .local:=by first|exact .inl rfl|exact .inr rfl|assumption) :
  wpAny (model X.prog X.w) X.A (exec (.FunctionDef name args body [] none [] scope none name pos) X.env) Q X.xe s:=by
 have hcl:closureFor scope X.env=pure (gA X.env scope.names []):=tX hfree;have hg:s.heap.Ns mainGlobals X.mg:=I.mod.glob.keeps I.bk;obtain⟨ps,hPo,htr,hall⟩:=I.hok P _ hP;have afh:s.heap.get? P=some (PySem.W.tabObj ps):=hPo;have C:=B.code.keeps I.bk;have hb:=B.blt.keeps I.bk;refine PySem.W.nestDef_K hd0 hk0 ha ?_;rw[hqn]
 -- the function's object is laid and the name stored
 have fin:∀c H1 h' tk doc pm ctv,Inv X pins σ H1 { s with heap:=h',toks:=tk }->aM H H1->Z4 H1 c qual->(∀b o,H1 b=some o->H b=some o\/(b=c/\H c=none))->s.heap.objs.size<=h'.objs.size->
   wpAny (model X.prog X.w) X.A (storeName X.env name<|.ref h'.objs.size) (λ_ s''=>Q .next s'') X.xe { s with heap:=h'.push<|PySem.W.fnMade name qual args body scope (gA X.env scope.names []) doc pm c ctv,toks:=tk }:=by
  intro c H1 h' tk doc pm ctv I1 sH hc afd hsz;have hn1:H1 h'.objs.size=none:=I1.hok.fresh<|Qq1 _;have I2:Inv X pins σ (upd H1 h'.objs.size<|.lg (PySem.W.fnMade name qual args body scope (gA X.env scope.names []) doc pm c ctv)<|.own h'.objs.size) { s with heap:=h'.push<|PySem.W.fnMade name qual args body scope (gA X.env scope.names []) doc pm c ctv,toks:=tk }:=
   I1.laid (t':=tk) (λb u e=>Qq0 _ e) (Qq1 _) ⟨Qw2 _ rfl,_,Qw2 _ rfl⟩
  refine oh I2 hN hi hx (v:=.ref h'.objs.size) rfl (λs' I'=>?_) hf;obtain⟨o,u,vs,t,z,_⟩:=id hc;exact h _ c H1 doc pm ctv s' (I.hok.fresh hsz) (cW z hn1) sH hn1 hc afd I'
 rcases hall _ hq with hnone|⟨c,o,u,vs,t,hsome,hc1,hc2,hc3⟩
 .refine PySem.W.makeFunction_K (mg:=X.mg) hcl I.ok.glob hg hcode C afh htr hnone B.ne hb λc' ctv doc h' tk hx' hge hlt hrec hP'=>?_;obtain⟨c2,co,vs,t,ec,ho,hd,hv⟩:=hrec;cases ec;have hnc:H c'=none:=I.hok.fresh hge;have hcP:c'≠P:=λz=>by rw[z,hP] at hnc;cases hnc
  have sH:aM H (upd H c'<|.lg co<|.own c'):=λb o e=>by rw[bj (cW e hnc)];exact e
  have I1:Inv X pins σ (upd H c'<|.lg co<|.own c') { s with heap:=h',toks:=tk }:=by
   refine I.un ⟨λb o e n _ _=>?_,λb o e n _ _=>?_,λb o e n _=>?_,λb o e _=>?_,λb xs e=>sH _ _ e,λb o u e=>sH _ _ e,λb ps e=>⟨#[],by rw[sH _ _ e];simp⟩,λb qs e=>sH _ _ e⟩ λb o e=>?_
   .exact hx' b o (λz=>by rw[z,hP] at n;cases n) e
   .exact⟨o.slots,hx' b o (λz=>by rw[z,hP] at n;cases n) e⟩
   .rw[bj (Qxv<|Qwz (Qwx e) hge)];exact n
   .by_cases hb:b=P
    .subst hb;exact⟨_,hP'⟩
    .exact⟨o,hx' b o hb e⟩
   .by_cases hbc:b=c'
    .subst hbc;rw[aU] at e;cases e;exact⟨ho,_,ho⟩
    .rw[bj hbc] at e;by_cases hbP:b=P
     .subst hbP;rw[hP] at e;cases e;refine⟨_,hP',by rw[Array.toList_append];exact TriplesOk_snoc _ _ _ _ htr,λq hq=>?_⟩;have hsn:=Lb (q:=q.1) (a:=pos.line) (b:=pos.col) (c:=.ref c') ps.toList htr;have e4:(ps ++ #[rawInt pos.line,rawInt pos.col,.ref c']).toList=ps.toList++[rawInt pos.line,rawInt pos.col,.ref c']:=by rw[Array.toList_append]
      rw[e4,hsn];rcases hall q hq with z|⟨c,o,u,vs',t',g1,g2,g3,g4⟩
      .rw[z];by_cases hm:(pos.line:Int) == q.1.line&&(pos.col:Int) == q.1.col
       .right
        refine⟨c',co,.own c',vs,t,by simp only[hm,if_true],aU,hd,?_⟩;rw[Qzq,beq_iff_eq,beq_iff_eq] at hm;rw[hqs q hq (by omega) (by omega)];exact hv
       .left
        simp only[hm]
        rfl
      .rw[g1];exact .inr ⟨c,o,u,vs',t',rfl,sH _ _ g2,g3,g4⟩
     .refine(I.hok b o e).stay (λx u hx2 g=>hx' x u (λz=>?_) g) (λx g=>sH _ _ g) (λx xs g=>sH _ _ g) λx _ _ _ _ g=>sH _ _ g;rcases hx2 with z2|z2
      .exact hbP<|z2 ▸ z
      .rw[z,hP] at z2;cases z2
  exact fin c' _ h' tk doc _ ctv I1 sH ⟨co,_,vs,t,aU,hd,hv⟩ (λb o e=>by
   by_cases hb:b=c'
   .exact .inr ⟨hb,hnc⟩
   .rw[bj hb] at e;exact .inl e)<|Qq4 hge<|Qx3 hlt
 .refine PySem.W.makeFunction_hit (mg:=X.mg) (cv:=.ref c) hcl I.ok.glob hg hcode C afh htr hsome hb λctv doc h' tk hk hsz=>?_;exact fin c H h' tk doc _ ctv (I.kept hk) (λ_ _ e=>e) ⟨o,u,vs,t,hc1,hc2,hc3⟩ (λb o e=>.inl e) hsz
open Classical in
noncomputable def jz(h:Heap)(Cs:List Addr)(H:Hp):Hp:=λb=>if b∈Cs then (match h.get? b with
 |some o=>some (.lg o (.own b))|none=>none) else H b
open Classical in
noncomputable def rZ(Cs:List Addr)(H:Hp):Hp:=λb=>if b∈Cs then none else H b
section
variable{h:Heap}{Cs:List Addr}{H:Hp}{b:Addr}{o:Obj}{u:HO}
theorem vV(hb:b∈Cs)(e:h.get? b=some o):jz h Cs H b=some (.lg o (.own b)):=by unfold jz;rw[if_pos hb,e]
theorem gF(hb:b ∉ Cs):jz h Cs H b=H b:=by unfold jz;rw[if_neg hb]
theorem Jg(hb:b∈Cs):rZ Cs H b=none:=by unfold rZ;rw[if_pos hb]
theorem gw(hb:b ∉ Cs):rZ Cs H b=H b:=by unfold rZ;rw[if_neg hb]
end
theorem V7{σ:St}
  (F:lE X.prog X.w X.K X.mg X.base xg k f fd ps sp) (hr:fX k X.A) (hb:Binds X.K fd ps []) (hx:∀e s,False->X.xe e s) (I:Inv X pins σ H s) (r:Vals vs us)
  (hC:∀c∈Cs,∃x,X.env.cells.lookup x=some c/\X.fn x=true) (h:sp vs (jz s.heap Cs H) Q' E0) (hQ:∀v H',Q' v H'->Q v (rZ Cs H')) :
  wpAny (model X.prog X.w) X.A (call (.ref f) us) (EP X pins σ Q) X.xe s:=by
 have hl:us.length=ps.length:=by rw[<-r.length];exact F.len _ _ _ _ h
 have cn:∀c∈Cs,H c=none/\(∃o,s.heap.get? c=some o)/\X.s₀.heap.objs.size<=c/\c≠X.env.locals:=λc hc=>by
  obtain⟨x,e1,e2⟩:=hC c hc;refine⟨(I.qL x c e1).resolve_right λz=>(by rw[e2] at z;cases z.1),?_,I.ok.cab x c e2 e1,I.ZP x c e1⟩;obtain⟨v,o,ho,_⟩:=I.cell x c e1;exact⟨o,ho⟩
 have nin:∀b u,H b=some u->b ∉ Cs:=λb u e hb=>by rw[(cn b hb).1] at e;cases e
 have up:∀b u,H b=some u->jz s.heap Cs H b=some u:=λb u e=>by rw[gF (nin b u e)];exact e
 have e0:Jt X.prog X.w X.K X.mg X.base X.A X.stack s (jz s.heap Cs H):=by
  have e1:=I.env0;refine⟨e1.frames,e1.mod,λb o e=>⟨(e1.bs b o e).1,?_⟩,e1.U6,e1.uW,λb hb=>?_,λb o e=>?_,e1.bare⟩;rw[gF λhb=>?_];exact(e1.bs b o e).2;exact absurd (Qwz (Qwx e)<|Qq4 I.ok.U6 (cn b hb).2.2.1)<|Qz0 _;rw[gF λhb2=>?_];exact e1.ZF b hb;rcases Qq7.mp (I.Dy b hb) with z|z;exact(cn b hb2).2.2.2 z;obtain⟨_,o,ho,_⟩:=I.ok.uW.mem z;exact absurd (Qwz (Qwx ho) (cn b hb2).2.2.1)<|Qz0 _;by_cases hb:b∈Cs;obtain⟨_,⟨ob,ho⟩,_⟩:=cn b hb;rw[vV hb ho] at e;cases e;exact⟨ho,ob,ho⟩;rw[gF hb] at e;exact(I.hok b o e).stay (λ_ _ _ q=>q) (λc q=>up _ _ q) (λc xs q=>up _ _ q) λc _ _ _ _ q=>up _ _ q
 have hb2:=hb s us I.Px (by rw[Qw6];exact hl);rw[Qw6] at hb2;refine wpAny_call<|codeAny_mono (F.run X.A X.stack s (jz s.heap Cs H) ⟨us,[]⟩ us vs Q' E0 hr e0 hb2 r h) λrr s' hq=>?_;cases rr with
 |error e=>exact hx e s' hq
 |ok fl=>
  cases fl with
  |next=>exact False.elim hq|brk=>exact False.elim hq|cont=>exact False.elim hq
  |ret u=>
   obtain⟨v,H',os,bare,un,hok,rv,q⟩:=hq;have cz:∀c∈Cs,∀o,s.heap.get? c=some o->H' c=some (.lg o<|.own c)/\s'.heap.get? c=some o:=λc hc o ho=>by
    have z:=un.wU c o _<|vV hc ho;exact⟨z,(hok c _ z).1⟩
   have un2:Un (frs X.stack) [] H (rZ Cs H') s.heap s'.heap:=by
    refine⟨λb o e n hb hx=>?_,λb o e n hb hx=>?_,λb o e n hx=>?_,un.there,λb xs e=>?_,λb o u e=>?_,λb ps e=>?_,λb qs e=>?_⟩;by_cases hb2:b∈Cs;exact(cz b hb2 o e).2;exact un.keep b o e (by rw[gF hb2];exact n) hb hx;by_cases hb2:b∈Cs;exact⟨o.slots,(cz b hb2 o e).2⟩;exact un.slot b o e (by rw[gF hb2];exact n) hb hx;by_cases hb2:b∈Cs;exact Jg hb2;rw[gw hb2];exact un.free b o e (by rw[gF hb2];exact n) hx;rw[gw (nin _ _ e)];exact un.tups b xs<|up _ _ e;rw[gw (nin _ _ e)];exact un.wU b o u<|up _ _ e;rw[gw (nin _ _ e)];exact un.Dr b ps<|up _ _ e;rw[gw (nin _ _ e)];exact un.tabs b qs<|up _ _ e
   have ahi:tY X.prog X.w (rZ Cs H') s'.heap:=λb o e=>by
    by_cases hb:b∈Cs;rw[Jg hb] at e;cases e;rw[gw hb] at e;have lg:∀c∈Cs,∃oc,H' c=some (.lg oc<|.own c)/\∃w,oc.data=.cell w:=λc hc=>by
     obtain⟨x,e1,e2⟩:=hC c hc;obtain⟨v,oc,ho,hd⟩:=I.cell x c e1;exact⟨oc,(cz c hc oc ho).1,v,hd⟩
    refine(hok b o e).stay (λ_ _ _ q=>q) (λc q=>?_) (λc xs q=>?_) λc oc u vs hv q=>?_;rw[gw λhc=>?_];exact q;obtain⟨oc,z,_⟩:=lg c hc;rw[q] at z;cases z;rw[gw λhc=>?_];exact q;obtain⟨oc,z,_⟩:=lg c hc;rw[q] at z;cases z;rw[gw λhc=>?_];exact q;obtain⟨oc,z,w,hw⟩:=lg c hc;rw[q] at z;cases z;rw[hv] at hw;cases hw
   exact I.after ⟨v,rZ Cs H',os,bare,un2,ahi,rv,hQ v H' q⟩
end L2
namespace Ev
open PySem PySem.Spec PyProof.Rows L2
theorem Rel.grow{Pr F:Hp}(r:Rel C Pr F env σ H)(s:aM H H'):Rel C Pr F env σ H':=by refine⟨r.pr.trans s,r.fr.trans s,r.len,r.val,λj e he=>?_,r.apart,r.dj,r.fix⟩;obtain⟨a,h1,h2,h3,h4⟩:=r.own j e he;obtain⟨o,ho⟩:=h2.some;exact⟨a,h1,h2.mono (aM.refl F) (by rw[ho,s _ _ ho]),h3,h4⟩
theorem Rel.unset{Pr F:Hp}(r:Rel C Pr F env σ H)(hfx:C.fx i=none):Rel C Pr F (env.set i none) (σ.set i (some v)) H:=by
 have un:∀j x,(env.set i none)[j]?=some (some x)->j≠i/\env[j]?=some (some x):=λj x he=>by
  have hj:j≠i:=λz=>by
   subst z;have hl:j<env.length:=by
    have:=(Qqy.mp he).1;rwa [Qx6] at this
   rw[Qw0 hl] at he;cases he
  rw[Qq8 (Ne.symm hj)] at he;exact⟨hj,he⟩
 refine⟨r.pr,r.fr,by rw[Qx6,Qx6];exact r.len,λj e he=>?_,λj e he=>?_,λj k e f b hj hk g1 g2=>?_,r.dj,λj a hj=>?_⟩;obtain⟨nj,he⟩:=un j _ he;rw[Qq8 (Ne.symm nj)];exact r.val j e he;obtain⟨nj,he⟩:=un j _ he;rw[Qq8 (Ne.symm nj)];exact r.own j e he;obtain⟨nj,hj⟩:=un j _ hj;obtain⟨nk,hk⟩:=un k _ hk;rw[Qq8 (Ne.symm nj)] at g1;rw[Qq8 (Ne.symm nk)] at g2;exact r.apart j k e f b hj hk g1 g2;have hji:j≠i:=λz=>by rw[z,hfx] at hj;cases hj
 rw[Qq8 (Ne.symm hji)];exact r.fix j a hj
theorem Rel.MK{Pr F:Hp}(r:Rel C Pr F env σ H)(e:H b=some (.lg x u)) :
  ∃Pr',Rel C Pr' F env σ H/\aM Pr Pr'/\(Pr' b=some (.lg x u)\/F b=some (.lg x u)):=by
 cases hF:F b with
 |some o=>have:=r.fr b o hF;rw[e] at this;cases this;exact⟨Pr,r,aM.refl Pr,.inr rfl⟩
 |none=>
  refine⟨upd Pr b<|.lg x u,⟨λc o h=>?_,r.fr,r.len,r.val,λj d he=>?_,r.apart,λc o h=>?_,r.fix⟩,λc o h=>?_,.inl aU⟩;by_cases hc:c=b;subst hc;rw[aU] at h;cases h;exact e;rw[bj hc] at h;exact r.pr c o h;obtain⟨a,h1,h2,h3,h4⟩:=r.own j d he;refine⟨a,h1,h2,h3,?_⟩;rw[bj λz=>?_];exact h4;subst z;cases d with
  |lst xs=>obtain⟨_,vs,g,_⟩:=h2;rw[e] at g;cases g|dct xs=>obtain⟨_,vs,g,_⟩:=h2;rw[e] at g;cases g|gR xs=>obtain⟨_,vs,g,_⟩:=h2;rw[e] at g;cases g|_=>exact h2.elim
  rw[bj λz=>by rw[z,hF] at h;cases h];exact r.dj c o h;by_cases hc:c=b;subst hc;have:=r.pr c o h;rw[e] at this;cases this;exact aU;rw[bj hc];exact h
noncomputable def U0(env:Env):List Nat->Option (List D)
 |[]=>some []
 |j::js=>match env[j]?,U0 env js with
  |some (some (false,d)),some ds=>some (d::ds)|_,_=>none
noncomputable def Ck:D->Bool
 |.non=>true|.bl _=>true|.int _=>true|.str _=>true|_=>false
theorem Rm{K:Fg}(h:Ck d=true)(r:Rep K F d v):Rep K F' d v:=by cases d<;>first|exact r|cases h
noncomputable def qb(st1 st2:Stmt)(js1 js2:List Nat)(i1 i2:Nat)(g:List D->Option D)(a1 a2 a3:Ev):bO:=λenv=>
 gZ (aa a1 (aa a2 (aa a3 aj)) ((env.set i1 none).set i2 none)) λds aJ=>(match U0 aJ js1,U0 aJ js2 with
  |some c1,some c2=>(match g (ds++[.clo st1 c1,.clo st2 c2]) with
   |some d=>if Ck d=true then .rt false d aJ else .stuck|none=>.stuck)
  |_,_=>.stuck)
noncomputable def Qw(env:PySem.Env)(xs:List Str):List (Str×Addr):=xs.map λx=>(x,(env.cells.lookup x).getD 0)
theorem FN(env):∀names acc,gA env names acc=Qw env (((names.filter (·.2 == .free)).map (·.1)).reverse)++acc
 |[],acc=>rfl
 |(n,k)::r,acc=>by
  unfold gA;cases hk:k == NameKind.free with
  |true=>rw[if_pos rfl,FN env r];simp[List.filter_cons,hk,Qw]|false=>rw[if_neg (by simp),FN env r];simp[List.filter_cons,hk]
theorem Np(env)(st):gA env (aH st).names []=Qw env (freeOf st):=by rw[FN,Qw6];rfl
def yj(N:List Str):List Nat->List Str->Prop
 |[],[]=>True|j::js,x::xs=>N[j]?=some x/\yj N js xs|_,_=>False
theorem FT{xs0:List Str}{Pr F Fp:Hp}{σ:L2.St}(I:Inv X pins σ H s)(r:Rel C Pr F env σ H)
  (hF:∀c o,s.heap.get? c=some o->(∃x,X.env.cells.lookup x=some c/\x∈xs0)->Fp c=some (.lg o (.own c))) (hs:aM F Fp) :
  ∀{js} {xs} {ds},yj X.N js xs->(∀x∈xs,X.env.scope.names.lookup x=some .cell/\x∈xs0)->U0 env js=some ds->∃vs,bK C.K Fp ds vs/\pJ Fp (Qw X.env xs) vs
 |[],[],ds,_,_,e=>by cases e;exact⟨[],rfl,rfl⟩|[],_::_,_,h,_,_=>h.elim|_::_,[],_,h,_,_=>h.elim
 |j::js,x::xs,ds,⟨h1,h2⟩,hx,e=>by
  unfold U0 at e;split at e;rename_i d ds' e1 e2;cases e;obtain⟨vs,q1,q2⟩:=FT I r hF hs h2 (λy hy=>hx y<|Qqq _ hy) e2;obtain⟨v,g1,g2⟩:=r.val j d e1;obtain⟨hk,hm⟩:=hx x Qqj;obtain⟨m,hn,hl⟩:=I.loc;obtain⟨u,rv,l⟩:=hl j x v h1 g1<|.inr<|.inl hk;have hk':X.env.kindOf x=some .cell:=hk;rcases l with ⟨z,_⟩|⟨_,c,hc,oc,ho,hd⟩;rw[hk'] at z;cases z;refine⟨v::vs,⟨v,vs,rfl,Rep.mono hs _ _ g2,q1⟩,v,vs,rfl,⟨oc,.own c,u,?_,hd,rv⟩,q2⟩;rw[hc];exact hF c oc ho ⟨x,hc,hm⟩;cases e
structure Ju(X:Cx)(qs:List (Pos×Str))(i:Nat)(js:List Nat)(st:Stmt)(n:Str)(args:Arguments)(body:List Stmt)(sc:Scope)(pos:Pos)(qual:Str):Prop where
 eq:st=.FunctionDef n args body [] none [] sc none n pos
 hq:(pos,qual)∈qs
 hqs:∀q∈qs,q.1.line=pos.line->q.1.col=pos.col->q.2=qual
 hd0:args.defaults=[]
 hk0:args.kw_defaults=[]
 ha:annTrees args none X.env=[]
 hqn:qualnameIn X.env n n=qual
 fr:∀x∈freeOf st,X.env.scope.names.lookup x=some .cell
 fnd:(freeOf st).Nodup
 hi:X.N[i]?=some n
 hx:X.env.scope.names.lookup n=some .local
 sl:yj X.N js (freeOf st)
theorem HY{st:Stmt}(h:(n,NameKind.free)∈(aH st).names):n∈freeOf st:=by unfold freeOf;exact List.mem_reverse.mpr<|Qw3.mpr ⟨(n,.free),List.mem_filter.mpr ⟨h,rfl⟩,rfl⟩
open Classical in
theorem Oj
  (G:Good X C) (B:BK X.base X.mg c0 P) (hcode:X.env.code=.ref c0) (hT:X.H₀ P=some (.tab qs)) (hfn:∀y,X.fn y=true) (hN:X.N.Nodup) (hfx:∀i,C.fx i=none) (h12:i1≠i2)
  (D1:Ju X qs i1 js1 st1 n1 ar1 bd1 Rn ps1 q1) (D2:Ju X qs i2 js2 st2 n2 ar2 Yi Hg ps2 q2)
  (O:Own X.prog X.w X.K X.mg X.base x k ps (mK X.K 5 g)) (hr:fX k' X.A) (hkk:k<=k') (hx:∀e s,False->X.xe e s) (hg:Gl X x) (hdb:(x == "__debug__" )=false)
  (h1:PX X C e1 a1) (h2:PX X C e2 a2) (h3:PX X C e3 a3) (hv1:(n1 == "__debug__" )=false) (hv2:(n2 == "__debug__" )=false) (hw1:(n1 == "__classdict__" )=false) (hw2:(n2 == "__classdict__" )=false)
  (s1:starEach [e1,e2,e3,.Name n1 Er,.Name n2 Ep] X.env=(false,eval e1 X.env)::starEach [e2,e3,.Name n1 Er,.Name n2 Ep] X.env) (s2:starEach [e2,e3,.Name n1 Er,.Name n2 Ep] X.env=(false,eval e2 X.env)::starEach [e3,.Name n1 Er,.Name n2 Ep] X.env)
  (s3:starEach [e3,.Name n1 Er,.Name n2 Ep] X.env=(false,eval e3 X.env)::starEach [.Name n1 Er,.Name n2 Ep] X.env) (hpl:(backTo pos (starEach [e2,e3,.Name n1 Er,.Name n2 Ep] X.env)).any (·.1)=false) :
  rR X C [st1,st2,.Return (some (.Call (.Name x p) [e1,e2,e3,.Name n1 Er,.Name n2 Ep] [] pos)) rpos] (qb st1 st2 js1 js2 i1 i2 g a1 a2 a3):=by
 obtain⟨f,fd,FO,hm,hk,hb⟩:=O;intro pins s σ H D I h;obtain⟨Pr,F,env,r,fin⟩:=h;unfold qb at fin;obtain⟨ds,aJ,ea,fin⟩:=cZ fin;obtain⟨d1,aft,ea1,ea⟩:=aQ ea;obtain⟨ds1,akc,ea,eb⟩:=aQ ea;cases eb;obtain⟨d2,afs,ea2,ea⟩:=aQ ea;obtain⟨ds2,akb,ea,eb⟩:=aQ ea;cases eb;obtain⟨d3,envE,ea3,ea⟩:=aQ ea;obtain⟨ds3,aka,ea,eb⟩:=aQ ea;cases eb;cases ea;split at fin;rename_i cp1 cp2 ec1 ec2;split at fin;rename_i d eg;split at fin;rename_i hsc;-- the first def
 have hP:∀{σ} {H} {s},Inv X pins σ H s->H P=some (.tab qs):=λI=>I.base.tabs P qs hT;have fr1:∀n,(n,NameKind.free)∈Rn.names->∃c,X.env.cells.lookup n=some c:=λn hn=>I.ok.has n<|.inl<|D1.fr n<|HY (st:=st1) (by rw[D1.eq];exact hn);have fr2:∀n,(n,NameKind.free)∈Hg.names->∃c,X.env.cells.lookup n=some c:=λn hn=>I.ok.has n<|.inl<|D2.fr n<|HY (st:=st2) (by rw[D2.eq];exact hn);have eS1:=D1.eq;have eS2:=D2.eq;rw[eS1,eS2];refine wpAny_execs_cons<|CW I B hcode (hP I) D1.hq D1.hqs D1.hd0 D1.hk0 D1.ha D1.hqn fr1 hN D1.hi (.inl D1.hx) (λf1 c1 H1 X4 pm1 X8 YZ hf1 aho sH1 hH1 hc1 hb1 I1=>?_)<|.inl<|hfn _;refine wpAny_execs_cons<|CW I1 B hcode (hP I1) D2.hq D2.hqs D2.hd0 D2.hk0 D2.ha D2.hqn fr2 hN D2.hi (.inl D2.hx) (λf2 c2 H2 K3 pm2 K4 Qu hf2 ahn sH2 hH2 hc2 hb2 I2=>?_)<|.inl<|hfn _;-- what is known then
 have sA:aM H (upd H1 f1<|.lg (PySem.W.fnMade n1 q1 ar1 bd1 Rn (gA X.env Rn.names []) X4 pm1 c1 X8)<|.own f1):=λb o e=>by rw[bj (cW (sH1 _ _ e) hH1)];exact sH1 _ _ e
 have sB:aM (upd H1 f1<|.lg (PySem.W.fnMade n1 q1 ar1 bd1 Rn (gA X.env Rn.names []) X4 pm1 c1 X8)<|.own f1) (upd H2 f2<|.lg (PySem.W.fnMade n2 q2 ar2 Yi Hg (gA X.env Hg.names []) K3 pm2 c2 K4)<|.own f2):=λb o e=>by rw[bj (cW (sH2 _ _ e) hH2)];exact sH2 _ _ e
 have r2:=(((r.grow sA).unset (i:=i1) (v:=.ref f1)<|hfx i1).grow sB).unset (i:=i2) (v:=.ref f2)<|hfx i2;obtain⟨co1,cu1,cv1,ct1,g1a,g1b⟩:=hc1;obtain⟨co2,cu2,cv2,ct2,g2a,g2b⟩:=hc2;have k1:(upd H2 f2<|.lg (PySem.W.fnMade n2 q2 ar2 Yi Hg (gA X.env Hg.names []) K3 pm2 c2 K4)<|.own f2) f1=some (.lg (PySem.W.fnMade n1 q1 ar1 bd1 Rn (gA X.env Rn.names []) X4 pm1 c1 X8)<|.own f1):=sB _ _ aU;have k2:(upd H2 f2<|.lg (PySem.W.fnMade n2 q2 ar2 Yi Hg (gA X.env Hg.names []) K3 pm2 c2 K4)<|.own f2) f2=some (.lg (PySem.W.fnMade n2 q2 ar2 Yi Hg (gA X.env Hg.names []) K3 pm2 c2 K4)<|.own f2):=aU;have k3:(upd H2 f2<|.lg (PySem.W.fnMade n2 q2 ar2 Yi Hg (gA X.env Hg.names []) K3 pm2 c2 K4)<|.own f2) c1=some (.lg co1 cu1):=sB _ _ (by rw[bj aho];exact g1a);have k4:(upd H2 f2<|.lg (PySem.W.fnMade n2 q2 ar2 Yi Hg (gA X.env Hg.names []) K3 pm2 c2 K4)<|.own f2) c2=some (.lg co2 cu2):=by rw[bj ahn];exact g2a
 obtain⟨Pr1,r3,sP1,w1⟩:=r2.MK k1;obtain⟨Pr2,r4,sP2,w2⟩:=r3.MK k2;obtain⟨Pr3,r5,sP3,w3⟩:=r4.MK k3;obtain⟨Z1,r6,sP4,w4⟩:=r5.MK k4;have sP:aM Pr Z1:=((sP1.trans sP2).trans sP3).trans sP4;have l1:i1<σ.length:=by rw[I.len];exact(Qqy.mp D1.hi).1
 have l2:i2<σ.length:=by rw[I.len];exact(Qqy.mp D2.hi).1
 have hσ1:((σ.set i1<|some<|V.ref f1).set i2<|some<|V.ref f2)[i1]?=some (some<|V.ref f1):=by rw[Qq8 (Ne.symm h12),Qw0 l1]
 have hσ2:((σ.set i1<|some<|V.ref f1).set i2<|some<|V.ref f2)[i2]?=some (some<|V.ref f2):=by rw[Qw0 (by rw[Qx6];exact l2)]
 -- the call
 have hE:PE X (.Call (.Name x p) [e1,e2,e3,.Name n1 Er,.Name n2 Ep] [] pos) (λσ' H' Q=>σ'=(σ.set i1<|some<|V.ref f1).set i2 (some<|V.ref f2)/\Rel C Z1 F ((env.set i1 none).set i2 none) σ' H'/\
   ∀v H3 F3,Rel C Z1 F3 aJ σ' H3->aM F F3->Rep C.K F3 d v->Q v H3):=by
  intro pins s σ' H' Q I ⟨eσ,r,q⟩;subst eσ;refine wpAny_Call_Name_kw<|yp I hg hm ?_ hdb;have hA:PA X [e1,e2,e3,.Name n1 Er,.Name n2 Ep] (Ce (tE C a1)<|Ce (tE C a2)<|Ce (tE C a3)<|Ce (VN i1)<|Ce (VN i2) adT):=
   iw h1 (iw h2 (iw h3 (iw (jb D1.hi (.inl D1.hx) hv1 hw1) (iw (jb D2.hi (.inl D2.hx) hv2 hw2) wH rfl) rfl) s3) s2) s1
  refine PySem.W.callWith_K (h₀:=X.base) I.ok.mod.Jz hk (fG (hA pos pins s _ H' (λvs H3=>∃v1 v2 v3 F3,vs=[v1,v2,v3,.ref f1,.ref f2]/\Rel C Z1 F3 aJ ((σ.set i1<|some<|V.ref f1).set i2<|some<|V.ref f2) H3/\aM F F3/\bK C.K F3 [d1,d2,d3] [v1,v2,v3]) I ?_) λus s4 hq=>?_) s1 hpl;refine⟨Z1,F,_,aft,d1,r,ea1,λv1 Ha Fa ra sa pa=>⟨Z1,Fa,aft,afs,d2,ra,ea2,λv2 Hb Fb rb sb pb=>⟨Z1,Fb,afs,aJ,d3,rb,ea3,λv3 Hc Fc rc sc pc=>?_⟩⟩⟩;exact⟨_,hσ1,_,hσ2,v1,v2,v3,Fc,rfl,rc,(sa.trans sb).trans sc,_,_,rfl,Rep.mono (sb.trans sc) _ _ pa,_,_,rfl,Rep.mono sc _ _ pb,_,_,rfl,pc,rfl⟩;obtain⟨vs,H3,I3,rv,v1,v2,v3,F3,rfl,r3,sF3,p3⟩:=hq;refine⟨I3.Px,?_⟩;have up:∀{b} {o},(Z1 b=some o\/F b=some o)->H3 b=some o:=λz=>z.elim (λz=>r3.pr _ _ z) λz=>r3.fr _ _<|sF3 _ _ z;have m1:=up<|w1.imp (λz=>sP4 _ _<|sP3 _ _<|sP2 _ _ z) id;have m2:=up<|w2.imp (λz=>sP4 _ _<|sP3 _ _ z) id;have m3:=up<|w3.imp (λz=>sP4 _ _ z) id;have m4:=up w4;let xs0:=freeOf st1++freeOf st2;let Cs:=(Qw X.env xs0).map (·.2);have hC:∀c∈Cs,∃y,X.env.cells.lookup y=some c/\X.fn y=true:=λc hc=>by
   obtain⟨q,hq,rfl⟩:=Qw3.mp hc;obtain⟨y,hy,rfl⟩:=Qw3.mp hq;have hy':X.env.scope.names.lookup y=some .cell:=(Qww.mp hy).elim (D1.fr y)<|D2.fr y;obtain⟨c,hc⟩:=I.ok.has y<|.inl hy';exact⟨y,by simp only[hc,Option.getD_some],hfn y⟩
  have cn:∀c∈Cs,H3 c=none:=λc hc=>by
   obtain⟨y,g1,g2⟩:=hC c hc;exact(I3.qL y c g1).resolve_right λz=>by rw[g2] at z;cases z.1
  have nC:∀b u,H3 b=some u->b ∉ Cs:=λb u e hb=>by rw[cn b hb] at e;cases e
  have upT:∀b u,H3 b=some u->jz s4.heap Cs H3 b=some u:=λb u e=>by rw[gF (nC b u e)];exact e
  let Sp:=f1::f2::c1::c2::Cs;let Fp:Hp:=λb=>if b∈Sp then jz s4.heap Cs H3 b else F3 b;have Av:∀b,b∈Sp->Fp b=jz s4.heap Cs H3 b:=λb hb=>if_pos hb;have Lj:∀b,b ∉ Sp->Fp b=F3 b:=λb hb=>if_neg hb;have sFp:aM F3 Fp:=λb o e=>by
   by_cases hb:b∈Sp;rw[Av b hb];exact upT _ _<|r3.fr _ _ e;rw[Lj b hb];exact e
  have agT:aM Fp (jz s4.heap Cs H3):=λb o e=>by
   by_cases hb:b∈Sp;rw[Av b hb] at e;exact e;rw[Lj b hb] at e;exact upT _ _<|r3.fr _ _ e
  have hFc:∀c o,s4.heap.get? c=some o->(∃y,X.env.cells.lookup y=some c/\y∈xs0)->Fp c=some (.lg o<|.own c):=λc o e ⟨y,hy,hm⟩=>by
   have hc:c∈Cs:=Qw3.mpr ⟨(y,c),Qw3.mpr ⟨y,hm,by simp only[hy,Option.getD_some]⟩,rfl⟩;rw[Av c (Qqq _<|Qqq _<|Qqq _<|Qqq _ hc)];exact vV hc e
  obtain⟨us1,rp1,ca1⟩:=FT (xs0:=xs0) I3 r3 hFc sFp D1.sl (λy hy=>⟨D1.fr y hy,Qzv _ hy⟩) ec1;obtain⟨us2,rp2,ca2⟩:=FT (xs0:=xs0) I3 r3 hFc sFp D2.sl (λy hy=>⟨D2.fr y hy,Qxx _ hy⟩) ec2;have nda:∀xs,xs.Nodup->(∀y∈xs,X.env.scope.names.lookup y=some .cell)->((Qw X.env xs).map (·.2)).Nodup:=by
   intro xs;induction xs with
   |nil=>intro _ _;exact .nil|cons y ys ih=>intro hn hy;show((X.env.cells.lookup y).getD 0::(Qw X.env ys).map (·.2)).Nodup;refine Qxk.mpr ⟨λhm=>?_,ih (Qxk.mp hn).2 λz hz=>hy z<|Qqq _ hz⟩;obtain⟨q,hq,eq⟩:=Qw3.mp hm;obtain⟨z,hz,rfl⟩:=Qw3.mp hq;obtain⟨cy,hcy⟩:=I.ok.has y<|.inl<|hy y Qqj;obtain⟨cz,hcz⟩:=I.ok.has z<|.inl<|hy z<|Qqq _ hz;simp only[hcy,hcz,Option.getD_some] at eq;subst eq;exact(Qxk.mp hn).1<|I.ok.inj y z _ hcy hcz ▸ hz
  have Tq:∀xs,(Qw X.env xs).map (·.1)=xs:=λxs=>by
   induction xs with
   |nil=>rfl|cons y ys ih=>exact Qw9 (y :: ·) ih
  have e5:gA X.env Rn.names []=Qw X.env (freeOf st1):=by have:=Np X.env st1;rw[eS1] at this ⊢;exact this
  have e6:gA X.env Hg.names []=Qw X.env (freeOf st2):=by have:=Np X.env st2;rw[eS2] at this ⊢;exact this
  have ahE:Rep C.K Fp (.clo st1 cp1) (.ref f1):=by
   refine⟨f1,us1,rfl,.inl ⟨⟨.own f1,q1,Qw X.env<|freeOf st1,X4,pm1,X8,c1,?_,⟨co1,cu1,cv1,ct1,?_,g1b⟩,Tq _,nda _ D1.fnd D1.fr,ca1⟩,by rw[eS1];rfl⟩,rp1⟩;rw[Av f1 Qqj,upT _ _ m1,<-e5,eS1];rfl;rw[Av c1 (Qqq _<|Qqq _ Qqj)];exact upT _ _ m3
  have ahD:Rep C.K Fp (.clo st2 cp2) (.ref f2):=by
   refine⟨f2,us2,rfl,.inl ⟨⟨.own f2,q2,Qw X.env<|freeOf st2,K3,pm2,K4,c2,?_,⟨co2,cu2,cv2,ct2,?_,g2b⟩,Tq _,nda _ D2.fnd D2.fr,ca2⟩,by rw[eS2];rfl⟩,rp2⟩;rw[Av f2 (Qqq _ Qqj),upT _ _ m2,<-e6,eS2];rfl;rw[Av c2 (Qqq _<|Qqq _<|Qqq _ Qqj)];exact upT _ _ m4
  refine V7 (Cs:=Cs) (Q':=λv H4=>∃F4,aM (jz s4.heap Cs H3) H4/\aM F4 H4/\aM Fp F4/\(∀b o,F4 b=some o->Fp b=some o\/jz s4.heap Cs H3 b=none)/\Rep X.K F4 d v) FO (hr.mono hkk) hb hx I3 rv hC ?_ ?_;refine⟨Fp,[d1,d2,d3]++[.clo st1 cp1,.clo st2 cp2],d,rfl,agT,?_,eg,λv H4 F4 t1 t2 t3 t4 p4=>⟨F4,t1,t2,t3,t4,p4⟩⟩;rw[G.K];exact bK.append (vs:=[v1,v2,v3]) (ws:=[.ref f1,.ref f2]) (bK.mono sFp _ _ p3) ⟨_,_,rfl,ahE,_,_,rfl,ahD,rfl⟩;rintro v H4 ⟨F4,t1,t2,t3,t4,p4⟩;let F5:Hp:=λb=>if b∈Sp then F3 b else F4 b;have Vm:∀b,b∈Sp->F5 b=F3 b:=λb hb=>if_pos hb;have Lk:∀b,b ∉ Sp->F5 b=F4 b:=λb hb=>if_neg hb;have nSp:∀b,b ∉ Sp->b ∉ Cs:=λb hb hc=>hb<|Qqq _ (Qqq _ (Qqq _ (Qqq _ hc)));have s35:aM F3 F5:=λb o e=>by
   by_cases hb:b∈Sp;rw[Vm b hb];exact e;rw[Lk b hb];exact t3 _ _ (sFp _ _ e)
  have hH:aM H3 (rZ Cs H4):=λb o e=>by rw[gw (nC _ _ e)];exact t1 _ _ (upT _ _ e)
  have s5H:aM F5 (rZ Cs H4):=λb o e=>by
   by_cases hb:b∈Sp;rw[Vm b hb] at e;exact hH _ _ (r3.fr _ _ e);rw[Lk b hb] at e;rw[gw (nSp b hb)];exact t2 _ _ e
  have nw:∀b o,F5 b=some o->F3 b=some o\/H3 b=none:=λb o e=>by
   by_cases hb:b∈Sp;rw[Vm b hb] at e;exact .inl e;rw[Lk b hb] at e;rcases t4 b o e with z|z;rw[Lj b hb] at z;exact .inl z;rw[gF (nSp b hb)] at z;exact .inr z
  exact q v _ F5 (r3.after hH s5H s35 nw) (sF3.trans s35) (by rw[<-G.K];exact Rm hsc p4)
 have afa:=Mm (Ko (pos:=rpos) hE) pins Qu _ _ D I2 ⟨rfl,r6,λv H3 F3 r3 s3 p3=>?_⟩;exact afa;exact fin v _ H3 F3 (r3.less sP) s3 p3;exact fin.elim;exact fin.elim;exact fin.elim
end Ev
namespace L2
open PySem PySem.Spec PyProof.Rows
def spT(T:Hp)(sp:Sp):Sp:=λvs H Q E=>aM T H/\sp vs H Q E
def Ar(T:Hp):Prop:=∀b o,T b=some o->∃qs,o=.tab qs
theorem S6{p pos:Pos}
  (F:lE X.prog X.w X.K X.mg X.base CX k f fd ps (spT T sp)) (hT:aM T X.H₀) (hO:Ar T) (hr:fX k X.A) (hg:Gl X x) (hm:X.mg x=some (.ref f)) (hk:PySem.W.keepIn X.K (.ref f)=true) (hb:Binds X.K fd ps ds) (hd:Vals Uu ds) (hx:Passes CX X E)
  (ha:PA X (e::es) t) (hdb:lK x:=by decide) (he:starEach (e::es) X.env=(false,eval e X.env)::starEach es X.env:=by rfl) (hpl:(backTo pos (starEach es X.env)).any (·.1)=false:=by rfl) :
  PE X (.Call (.Name x p) (e::es) [] pos) (YW sp Uu E t):=by
 intro pins s σ H Q I h;refine wpAny_Call_Name_kw<|yp I hg hm ?_ hdb;refine PySem.W.callWith_K I.ok.mod.Jz hk (fG (ha pos pins s σ H _ I h) λus s1 ⟨vs,H1,I1,r,q⟩=>⟨I1.Px,?_⟩) he hpl;exact Rt F hr hb hd hx I1 r ⟨λb o e=>by obtain⟨qs,rfl⟩:=hO b o e;exact I1.base.tabs b qs<|hT b _ e,q⟩
end L2
namespace Ev
open PySem PySem.Spec PySem.W PySem.Calls PyProof.Rows L2
section
variable{X:Cx}{C:Cfg}{T:Hp}{pos p:Pos}{n:Str}{e:Expr}{es:List Expr}{ea:dZ}{P:Program}{w:World}{K:Fg}{mg:Str->Option Value}{base:Heap}{x:Str}{st:Stmt}{N ps:List Str}{k:Nat}{ev:bO}{f:Addr}{fd:FuncData}
theorem Wu(hb:rR (bx P w K mg base N x st f cdv A outer s H E) (C0 K) (cD st) ev)(h:mK K ps.length (bY N.length ev) vs H Q E) :
  ∃t,Gp (Ji xg P w K mg base N x (aH st) f cdv A outer s H E).W8 (cD st) t/\t { nx:=λ_ H'=>Q .non H',rt:=Q } (start N vs) H:=by
 obtain⟨F0,ds,d,hl,sF,p,e,q⟩:=h;refine⟨_,hb,Bq H F0,F0,envOf N.length ds,rC sF p,?_⟩;unfold bY at e;split at e;rename_i d' env' h1;cases e;rw[h1];exact λv σ' H' F' r' s' p'=>q v H' F' (aM.tu r'.pr s' r'.fr sF) r'.fr s' (tL s' r'.dj) p';rename_i env' h1;cases e;rw[h1];exact λσ' H' F' r' s'=>q .non H' F' (aM.tu r'.pr s' r'.fr sF) r'.fr s' (tL s' r'.dj) rfl;cases e
theorem V0{n:Nat}(h:mK K n g vs H Q E):vs.length=n:=by obtain⟨F0,ds,d,hl,_,p,_⟩:=h;rw[p.length,hl]
theorem wX(F:Qn K x x st f fd)(S:bI N ps (aH st))
  (hb:∀cdv A outer s H E,fd.code=cdv->aM T H->fX k (A.deeper (envOfC x (aH st) s.heap.objs.size f cdv))->Good (bx P w K mg base N x st f cdv A outer s H E) (C0 K)->rR (bx P w K mg base N x st f cdv A outer s H E) (C0 K) (cD st) ev) :
  lE P w K mg base xg (k+1) f fd ps (spT T (mK K ps.length (bY N.length ev))):=by
 obtain⟨oc,od,kV,doc,pm,an,cdv,ct,osl,rfl,lk,hcd⟩:=F.ex;refine ZG lk hcd S (λvs H Q E h=>V0 h.2) λA outer s H vs Q E hr h=>?_;obtain⟨t,ht,q⟩:=Wu (hb cdv A outer s H E rfl h.1 hr (yt rfl hr)) h.2;exact⟨t,ht.W8,q⟩
theorem CG(F:dY K mg x st ps)(S:bI N ps (aH st))
  (hb:∀f cdv A outer s H E,aM T H->fX k (A.deeper (envOfC x (aH st) s.heap.objs.size f cdv))->Good (bx P w K mg base N x st f cdv A outer s H E) (C0 K)->rR (bx P w K mg base N x st f cdv A outer s H E) (C0 K) (cD st) ev) :
  Own P w K mg base x (k+1) ps (spT T (mK K ps.length (bY N.length ev))):=by
 obtain⟨f,fd,h1,h2,h3⟩:=F;exact⟨f,fd,wX h1 S λcdv A outer s H E _ hT hr G=>hb f cdv A outer s H E hT hr G,h2,h1.kp,h3⟩
def Vl(K:Fg)(mg:Str->Option Value)(x:Str)(st:Stmt)(ps:List Str)(c:Addr):Prop:=∃f fd,Qn K x x st f fd/\mg x=some (.ref f)/\Binds K fd ps []/\fd.code=.ref c
theorem CJ(F:Vl K mg x st ps c)(S:bI N ps (aH st))
  (hb:∀f A outer s H E,aM T H->fX k (A.deeper (envOfC x (aH st) s.heap.objs.size f (.ref c)))->Good (bx P w K mg base N x st f (.ref c) A outer s H E) (C0 K)->rR (bx P w K mg base N x st f (.ref c) A outer s H E) (C0 K) (cD st) ev) :
  Own P w K mg base x (k+1) ps (spT T (mK K ps.length (bY N.length ev))):=by
 obtain⟨f,fd,h1,h2,h3,h4⟩:=F;refine⟨f,fd,wX h1 S λcdv A outer s H E hc hT hr G=>?_,h2,h1.kp,h3⟩;rw[h4] at hc;subst hc;exact hb f A outer s H E hT hr G
end
abbrev Lf:=List (Str×List (Pos×Str))
noncomputable def gG(K:Fg)(x:Str):Addr×Addr:=(tabIn K x).getD (0,0)
noncomputable def lJ(K:Fg):Lf->Hp
 |[],_=>none|(x,qs)::r,b=>if b=(gG K x).2 then some (.tab qs) else lJ K r b
theorem ig(K):∀l,Ar (lJ K l)
 |[],_,_,h=>by cases h
 |(x,qs)::r,b,o,h=>by
  unfold lJ at h;split at h;cases h;exact⟨qs,rfl⟩;exact ig K r b o h
theorem GC(K):∀l b o,lJ K l b=some o->∃x qs,(x,qs)∈l/\b=(gG K x).2/\o=.tab qs
 |[],_,_,h=>by cases h
 |(x,qs)::r,b,o,h=>by
  unfold lJ at h;split at h;rename_i hb;cases h;exact⟨x,qs,Qqj,hb,rfl⟩;obtain⟨y,ps,h1,h2⟩:=GC K r b o h;exact⟨y,ps,Qqq _ h1,h2⟩
theorem Ph{K:Fg}
  (KX:K.In s₁.heap) (hns:s₁.heap.Ns mainGlobals mg) (hb:s₁.heap.Ns builtinsNs mb) (hbb:∀x:Str,x ≠ "__name__"->mb x=bootBuiltins x) (hlim:s₁.heap.NoLimit) (hg:s₁.gens=#[])
  (ha:s₁.heap.get? a=some { cls:=.type "list",data:=.seq vs.toArray }) (hi:IntsAre vs ns) (hl:ns.length<=sizeLine) (hr:fX k callerA)
  (hbm:∃bm ob,mg "__builtins__"=some (.ref bm)/\bm≠builtinsNs/\s₁.heap.get? bm=some ob/\ob.cls=.type "module"/\ob.dict=some builtinsNs/\ob.data=.plain)
  (hK:noTabs K=true) (hT:∀q∈l,CodeHd s₁.heap (gG K q.1).1 (gG K q.1).2/\s₁.heap.get? (gG K q.1).2=some (tabObj #[]))
  (F:∀base,K.In base->base.Ns mainGlobals mg->(∀q∈l,BK base mg (gG K q.1).1 (gG K q.1).2)->lE P w K mg base xg k fa fd [x] (spT (lJ K l) (mK K 1 f))) (hbind:∀s u,BindsTo s fd ⟨[u],[]⟩ [(x,u)])
  (hf:f [.arr (ns.map .int)]=some (.bl true)) :
  codeAny (model P w) callerA (.call (.ref fa) ⟨[.ref a],[]⟩) (λr s'=>r=.ok (.ret (.bool true))/\OldK s₁.heap s'.heap/\s'.os=s₁.os/\AllBare s'.gens) s₁:=by
 have rv:=BZ hi;have lenV:=hi.length;have N8:∀b o,lJ K l b=some o->∃qs c,o=.tab qs/\CodeHd s₁.heap c b/\s₁.heap.get? b=some (tabObj #[]):=λb o e=>by
  obtain⟨y,qs,h1,h2,h3⟩:=GC K l b o e;subst h2;exact⟨qs,_,h3,hT _ h1⟩
 have VM:∀b o,lJ K l b=some o->b≠a:=λb o e z=>by
  obtain⟨qs,c,_,_,h⟩:=N8 b o e;rw[z,ha] at h;cases h
 have core:∀H,aM (lJ K l) H->oR K H a (ns.map V.int)->tY P w H s₁.heap->(∀b,H b≠none->(b=a/\K.lookup a=none/\∃o xs,H b=some (.lg o<|.lst xs))\/lJ K l b=H b)->
   codeAny (model P w) callerA (.call (.ref fa) ⟨[.ref a],[]⟩) (λr s'=>r=.ok (.ret<|.bool true)/\OldK s₁.heap s'.heap/\s'.os=s₁.os/\AllBare s'.gens) s₁:=by
  intro H hTH hS hok hA;have yC:∀{b} {o},s₁.heap.get? b=some o->H b=none->(Bv s₁.heap H).get? b=some o:=λe n=>Ue e n;have Vq:∀{b} {o},s₁.heap.get? b=some o->o.cls ≠ .type "list"->o.cls ≠ .none->H b=none:=λ{b o} e d1 d2=>by
   cases q:H b with
   |none=>rfl|some u=>rcases hA b (by rw[q];simp) with ⟨e',_⟩|e';subst e';rw[ha] at e;cases e;exact absurd rfl d1;rw[q] at e';obtain⟨_,_,_,_,h⟩:=N8 b u e';rw[e] at h;cases h;exact absurd rfl d2
  have noD:∀{b} {o} {es} {ep},s₁.heap.get? b=some o->o.data=.dict es ep->H b=none:=λ{b o es ep} e d=>by
   cases q:H b with
   |none=>rfl|some u=>rcases hA b (by rw[q];simp) with ⟨e',_⟩|e';subst e';rw[ha] at e;cases e;have d':=d;cases d';rw[q] at e';obtain⟨_,_,_,_,h⟩:=N8 b u e';rw[e] at h;cases h;have d':Data.fields #[]=Data.dict es ep:=d;cases d'
  have nsK:∀{b} {m},s₁.heap.Ns b m->(Bv s₁.heap H).Ns b m:=λ{b m} ⟨o,es,ep,e,d,r⟩=>⟨o,es,ep,yC e<|noD e d,d,r⟩;have hKb:K.In (Bv s₁.heap H):=λb o e=>yC (KX b o e) (by
   cases q:H b with
   |none=>rfl
   |some u=>
    rcases hA b (by rw[q];simp) with ⟨e',hk,_⟩|e'
    subst e';rw[hk] at e;cases e
    rw[q] at e';obtain⟨_,_,_,_,h⟩:=N8 b u e';rw[KX b o e] at h;cases h;have h2:=Qx5.mp hK (b,tabObj #[])<|mem_of_lookupK e;exact absurd (show false=true from h2) Qx1)
  have hM:Mod K mg (Bv s₁.heap H):=⟨hKb,nsK hns,⟨mb,nsK hb,hbb⟩,let ⟨mc,h1,h2⟩:=hlim;⟨mc,nsK h1,h2⟩⟩;have hTB:∀q∈l,BK (Bv s₁.heap H) mg (gG K q.1).1 (gG K q.1).2:=λq hq=>by
   obtain⟨⟨o,us,file,tf,flags,tg,inF,text,tt,e1,r1,rr⟩,h2⟩:=hT q hq;obtain⟨bm,ob,b1,b2,b3,b4,b5,b6⟩:=hbm;refine⟨⟨o,us,file,tf,flags,tg,inF,text,tt,yC e1<|Vq e1 (by rw[r1];decide) (by rw[r1];intro z;cases z),r1,rr⟩,⟨bm,ob,b1,b2,?_,?_,yC b3<|Vq b3 (by rw[b4];decide) (by rw[b4];intro z;cases z),b4,b5,b6⟩,?_⟩;intro z;obtain⟨o',es,ep,e,hd,_⟩:=hns;rw[z,e] at b3;cases b3;rw[hd] at b6;cases b6;intro z;rw[z,h2] at b3;cases b3;cases b4;intro z;obtain⟨o',es,ep,e,hd,_⟩:=hns;rw[z,h2] at e;cases e;cases hd
  have e0:Jt P w K mg (Bv s₁.heap H) callerA [] s₁ H:=⟨rfl,hM,λb o e=>W5 e,Nat.le_of_eq<|PL _ _,trivial,λb hb=>absurd (show b∈([]:List Addr) from hb) (by simp),hok,.of_eq hg⟩;have Ud:Rep K H (.arr<|ns.map .int) (.ref a):=by
   refine⟨by rw[Qq3];exact hl,a,_,rfl,hS,?_⟩;clear hf hS hi lenV hl rv;induction ns with
   |nil=>exact rfl|cons m ns ih=>exact⟨_,_,rfl,rfl,ih⟩
  refine codeAny_mono ((F _ hKb (nsK hns) hTB).run callerA [] s₁ H ⟨[.ref a],[]⟩ [.ref a] [.ref a] (λv _=>v=.bl true) (λ_ _ _=>False) hr e0 (hbind s₁<|.ref a) (.cons rfl .nil) ⟨hTH,H,[.arr (ns.map .int)],.bl true,rfl,aM.refl H,⟨_,_,rfl,Ud,rfl⟩,hf,λv H' F' _ _ _ _ p=>p⟩) λr s' h=>?_;cases r with
  |error e=>exact h.elim
  |ok fl=>
   cases fl with
   |next=>exact False.elim h|brk=>exact False.elim h|cont=>exact False.elim h
   |ret u=>
    obtain⟨v,H',os,bare,un,hok',r',q⟩:=h;have q':v=.bl true:=q;subst q';obtain rfl:u=Value.bool true:=r';have all:∀b o,s₁.heap.get? b=some o->s'.heap.get? b=some o\/(isCodeTable s₁.heap b/\o=tabObj #[]/\∃ps,s'.heap.get? b=some (tabObj ps)):=λb o e=>by
     cases q:H b with
     |none=>exact .inl<|un.keep b o e q (by intro z;exact absurd (show b∈([]:List Addr) from z) (by simp)) (by simp)|some u=>rcases hA b (by rw[q];simp) with ⟨_,_,ob,xs,z⟩|e';have z2:=un.wU b ob _ z;obtain⟨e1,_⟩:=hok b _ z;obtain⟨e2,_⟩:=hok' b _ z2;rw[e] at e1;cases e1;exact .inl e2;rw[q] at e';obtain⟨qs,c,rfl,h1,h2⟩:=N8 b u e';obtain⟨ps,e3,_⟩:=hok' b _<|un.tabs b qs q;rw[e] at h2;cases h2;exact .inr ⟨(h1.tab e).isCodeTable,rfl,ps,e3⟩
    refine⟨rfl,⟨λb o e=>?_,λb o e=>?_⟩,os,bare⟩;rcases all b o e with z|⟨h1,rfl,ps,h2⟩;exact .inl z;exact .inr<|.inl ⟨h1,rfl, #[],ps,rfl,by rw[Array.empty_append];exact h2⟩;rcases all b o e with z|⟨h1,rfl,ps,h2⟩;exact⟨o,z⟩;exact⟨_,h2⟩
 have YS:∀H,∀b o,lJ K l b=some o->gf P w H s₁.heap b o:=λH b o e=>by
  obtain⟨qs,c,rfl,_,h⟩:=N8 b o e;exact⟨#[],h,True.intro,λq _=>.inl rfl⟩
 cases hk:K.lookup a with
 |some o=>have e:=KX a o hk;rw[ha] at e;cases e;exact core (lJ K l) (aM.refl _) (.inr ⟨_,vs.toArray,_,hk,rfl,rfl,rfl,by rw[Qq5,lenV];exact hl,by simpa using rv⟩) (λb u z=>YS _ b u z) λb z=>.inr rfl|none=>refine core (λb=>if b=a then some (.lg { cls:=.type "list",data:=.seq vs.toArray } (.lst<|ns.map V.int)) else lJ K l b) (λb o e=>?_) (.inl<|.inr ⟨{ cls:=.type "list",data:=.seq vs.toArray },if_pos rfl⟩) (λb u z=>?_) λb z=>?_;exact(if_neg<|VM b o e).trans e;by_cases hb:b=a;have z':=(if_pos hb).symm.trans z;cases z';subst hb;exact⟨ha,by rw[Qq3];exact hl,vs,_,rv,ha⟩;have z':=(if_neg hb).symm.trans z;exact YS _ b u z';by_cases hb:b=a;exact .inl ⟨hb,hk,_,_,if_pos hb⟩;exact .inr (if_neg hb).symm
theorem XR{K:Fg}{st:Stmt}{oc kV doc pm cdv ct:Value}(X:K.In h)(G:h.Ns mainGlobals mg)
  (a:PySem.W.nsIn K mainGlobals x=some (some (.ref f))) (l:K.lookup f=some ⟨oc,od,.func (PySem.W.fnOf x x (fW st) (cD st) (aH st) .none kV doc pm an cdv ct),osl⟩) (c0:PySem.W.codeIn K cdv x=true) (k:PySem.W.keepIn K (.ref f)=true) (ht:tabIn K x=some (c,P))
  (b:∀{kV doc pm} {an} {cdv ct} us,us.length=ps.length->bindArgs (PySem.W.fnOf x x (fW st) (cD st) (aH st) .none kV doc pm an cdv ct) ⟨us,[]⟩=pure (ps.zip us)):Vl K mg x st ps (gG K x).1:=by
 have e3:gG K x=(c,P):=by unfold gG;rw[ht];rfl
 refine⟨f,_,zP l c0 k,PySem.W.mg_of X G a,(zP l c0 k).binds λ_ _ _ _ _ _ us hl=>b us hl,?_⟩;rw[e3];exact law_code X G ht (PySem.W.mg_of X G a) (X _ _ l) rfl
open PySem PySem.Spec PyProof.Rows L2
noncomputable def nest(s:Stmt)(j:Nat):Stmt:=(cD s).getD j (.Pass ⟨0,0,0,0⟩)
noncomputable def lC(s:Stmt):Pos:=match s with
 |.FunctionDef _ _ _ _ _ _ _ _ _ p=>p|_=>⟨0,0,0,0⟩
noncomputable def LQ(i:Nat)(a:Ev):bO:=λenv=>match env[i]? with
 |some (some (false,.int k))=>gZ (a env) λd aJ=>(match d with
  |.int j=>.nx (aJ.set i (some (false,.int (k+j))))|_=>.stuck)
 |_=>.stuck
section
variable{X:Cx}{C:Cfg}{pos pos':Pos}{x:Str}{e:Expr}{a:Ev}
end
theorem Ex{N ps qs:List Str}{sc:Scope}(h1:sc.kind=.function:=by rfl)(h2:sc.isCoroutine=false:=by rfl)(h3:sc.isGenerator=false:=by rfl)(h4:jm N=true:=by rfl)(h5:N.take (ps.length+qs.length)=ps++qs:=by rfl)
  (h6:(ps.all λx=>decide (sc.names.lookup x=some .local))=true:=by rfl) (h7:(sc.names.all λy=>!decide (y.2=.cell)&&(!decide (y.2=.free)||qs.contains y.1))=true:=by rfl) (h8:(qs.all λx=>decide (sc.names.lookup x=some .free))=true:=by rfl):jx N ps qs sc:=by
 refine⟨h1,h2,h3,fO h4,h5,λx hx=>Qxj<|Qx5.mp h6 x hx,λx hx=>?_,λx hx=>Qxj<|Qx5.mp h8 x hx,λy hy z=>?_⟩;have h:=Qx5.mp h7 _<|Qjy hx;rw[Qzq,Bool.or_eq_true] at h;rcases h.2 with z|z;rw[Qwj rfl] at z;exact absurd z (by decide);exact List.contains_iff_mem.mp z;have h:=Qx5.mp h7 y hy;rw[Qwj z] at h;exact absurd h (by simp)
noncomputable def DN(N:List Str):List Nat->List Str->Bool
 |[],[]=>true|j::js,x::xs=>decide (N[j]?=some x)&&DN N js xs|_,_=>false
theorem Cj:∀{js} {xs},DN N js xs=true->yj N js xs
 |[],[],_=>True.intro|[],_::_,h=>by cases h|_::_,[],h=>by cases h
 |j::js,x::xs,h=>by
  have h':(decide (N[j]?=some x)&&DN N js xs)=true:=h;rw[Qzq] at h';exact⟨Qxj h'.1,Cj h'.2⟩
theorem Nj{X:Cx}{i:Nat}{js:List Nat}{st:Stmt}
  (eq:st=.FunctionDef n args body [] none [] sc none n pos:=by rfl) (hq:(pos,qual)∈qs) (hqs:∀q∈qs,q.1.line=pos.line->q.1.col=pos.col->q.2=qual)
  (hd0:args.defaults=[]:=by rfl) (hk0:args.kw_defaults=[]:=by rfl) (ha:annTrees args none X.env=[]:=by rfl) (hqn:qualnameIn X.env n n=qual:=by rfl)
  (fr:((freeOf st).all λx=>decide (X.env.scope.names.lookup x=some .cell))=true:=by rfl) (fnd:jm (freeOf st)=true:=by rfl) (hi:X.N[i]?=some n:=by rfl) (hx:X.env.scope.names.lookup n=some .local:=by rfl) (sl:DN X.N js (freeOf st)=true:=by rfl) :
  Ju X qs i js st n args body sc pos qual:=⟨eq,hq,hqs,hd0,hk0,ha,hqn,λx hx=>Qxj<|Qx5.mp fr x hx,fO fnd,hi,hx,Cj sl⟩
section
variable{X:Cx}{C:Cfg}{T:Hp}{pos p pos':Pos}{n:Str}{e:Expr}{es:List Expr}{ea:dZ}{a:Ev}
theorem aaB(i)(he:SX X C e a)(hnd:jm X.N=true:=by rfl)(hfx:C.fx i=none:=by rfl)(hi:X.N[i]?=some n:=by rfl)(hx:Loc X.env.scope n:=by first|exact Or.inl rfl|exact Or.inr rfl)
  (hf:X.fn n=true\/X.env.scope.names.lookup n=some .local:=by first|exact .inl rfl|exact .inr rfl):Gm X C (.AugAssign (.Name n pos') .Add e pos) (LQ i a):=⟨(aaU (fO hnd) hi hx he.u acj hf).imp λD σ H h=>by
  obtain⟨Pr,F,env,r,f⟩:=h;unfold LQ at f;split at f
  rename_i k h0;obtain⟨d,aJ,e1,f1⟩:=cZ f;split at f1
  rename_i j;obtain⟨v,h1,h2⟩:=r.val i _ h0;cases h2;exact⟨_,h1,Pr,F,env,aJ,.int j,r,e1,λv2 H1 F1 r1 s1 p1=>⟨k,j,rfl,p1,f1 _ H1 F1 (r1.put hfx rfl) s1⟩⟩
  exact f1.elim
  exact f.elim⟩
theorem lH(O:Own X.prog X.w X.K X.mg X.base n k ps (spT T (mK X.K m g)))(hT:aM T X.H₀)(hO:Ar T)(G:Good X C)(hr:fX k' X.A)(ha:JD X C (e::es) ea)(hn:∀env ds env',ea env=.ok ds env'->ds.length=m)(hk:Nat.ble k k'=true:=by rfl)
  (hg:Gl X n:=by rfl) (hdb:lK n:=by decide) (he:starEach (e::es) X.env=(false,eval e X.env)::starEach es X.env:=by rfl) (hpl:(backTo pos (starEach es X.env)).any (·.1)=false:=by rfl):SX X C (.Call (.Name n p) (e::es) [] pos) (au g ea):=
 ⟨by
 obtain⟨f,fd,h1,h2,h3,h4⟩:=O;have h1':lE X.prog X.w X.K X.mg X.base xg k f fd ps (spT T<|mK C.K m g):=by rw[<-G.K];exact h1
 refine(S6 h1' hT hO (hr.mono<|Qzz hk) hg h2 h3 h4 .nil Hv ha.u hdb he hpl).imp λσ H Q hq=>?_;obtain⟨Pr,F,env,env',d,r,e,q⟩:=hq;obtain⟨ds,e1,e2⟩:=tV e;refine⟨Pr,F,env,env',ds,r,e1,λvs H1 F1 r1 s1 p1=>?_⟩;show mK C.K m g (vs++[]) H1 Q E0;rw[Qw6];exact⟨F1,ds,d,hn _ _ _ e1,r1.fr,p1,e2,λv H2 F2 t1 t2 t3 t4 p2=>q v H2 F2 (r1.after t1 t2 t3 t4) (s1.trans t3) p2⟩⟩
theorem JM(i)(hΦ:∀st lD ds d,Φ st lD ds=some d->qY X.prog X.w X.K X.mg X.base k st (Φ st))(G:Good X C)(hr:fX k' X.A)(hk:Nat.ble k k'=true)(ha:JD X C (e::es) ea)
  (hN:X.N[i]?=some n:=by rfl) (hv:vM X.env.scope n:=by first|exact Or.inl rfl|exact Or.inr (Or.inl rfl)|exact Or.inr (Or.inr rfl)) (hx:∀e s,False->X.xe e s:=by exact λ_ _ h=>h.elim)
  (hd:lK n:=by decide) (hcd:vJ n:=by decide) (he:starEach (e::es) X.env=(false,eval e X.env)::starEach es X.env:=by rfl) (hpl:(backTo pos (starEach es X.env)).any (·.1)=false:=by rfl) :
  SX X C (.Call (.Name n p) (e::es) [] pos) (lF Φ i ea):=⟨Ev.aaO i hN hv G hΦ (hr.mono<|Qzz hk) hx ha.u hd hcd he hpl⟩
end
theorem Nk{p Er Ep pos rpos:Pos}
  (G:Good X C) (B:BK X.base X.mg c0 P) (hcode:X.env.code=.ref c0) (hT:X.H₀ P=some (.tab qs))
  (D1:Ju X qs i1 js1 st1 n1 ar1 bd1 Rn ps1 q1) (D2:Ju X qs i2 js2 st2 n2 ar2 Yi Hg ps2 q2)
  (O:Own X.prog X.w X.K X.mg X.base x k ps (mK X.K 5 g)) (hr:fX k' X.A) (hkk:Nat.ble k k'=true)
  (h1:SX X C e1 a1) (h2:SX X C e2 a2) (h3:SX X C e3 a3) (hg:Gl X x:=by rfl) (hdb:lK x:=by decide)
  (hfn:∀y,X.fn y=true:=by intro _;rfl) (hN:jm X.N=true:=by rfl) (hfx:∀i,C.fx i=none:=by intro _;rfl) (h12:i1≠i2:=by decide) (hx:∀e s,False->X.xe e s:=by exact λ_ _ h=>h.elim)
  (hv1:lK n1:=by decide) (hv2:lK n2:=by decide) (hw1:vJ n1:=by decide) (hw2:vJ n2:=by decide)
  (s1:starEach [e1,e2,e3,.Name n1 Er,.Name n2 Ep] X.env=(false,eval e1 X.env)::starEach [e2,e3,.Name n1 Er,.Name n2 Ep] X.env:=by rfl) (s2:starEach [e2,e3,.Name n1 Er,.Name n2 Ep] X.env=(false,eval e2 X.env)::starEach [e3,.Name n1 Er,.Name n2 Ep] X.env:=by rfl)
  (s3:starEach [e3,.Name n1 Er,.Name n2 Ep] X.env=(false,eval e3 X.env)::starEach [.Name n1 Er,.Name n2 Ep] X.env:=by rfl) (hpl:(backTo pos (starEach [e2,e3,.Name n1 Er,.Name n2 Ep] X.env)).any (·.1)=false:=by rfl) :
  fM X C [st1,st2,.Return (some (.Call (.Name x p) [e1,e2,e3,.Name n1 Er,.Name n2 Ep] [] pos)) rpos] (qb st1 st2 js1 js2 i1 i2 g a1 a2 a3):=
 ⟨Ev.Oj G B hcode hT hfn (fO hN) hfx h12 D1 D2 O hr (Qzz hkk) hx hg hdb h1.u h2.u h3.u hv1 hv2 hw1 hw2 s1 s2 s3 hpl⟩
def FC(K:Fg)(x:Str)(st:Stmt):Prop:=∃(f c P:Addr) (oc kV doc pm ct oc2:Value) (od an od2:Option Addr) (osl O1:Array (Option Value)) (vs:Array Value),PySem.W.nsIn K mainGlobals x=some (some (.ref f))/\
 K.lookup f=some ⟨oc,od,.func (PySem.W.fnOf x x (fW st) (cD st) (aH st) .none kV doc pm an (.ref c) ct),osl⟩/\PySem.W.codeIn K (.ref c) x=true/\PySem.W.keepIn K (.ref f)=true/\K.lookup c=some ⟨oc2,od2,.fields vs,O1⟩/\vs[11]?=some (.ref P)
theorem FC.mk{K:Fg}{st:Stmt}{oc kV doc pm ct oc2:Value}(a:PySem.W.nsIn K mainGlobals x=some (some (.ref f)))
  (l:K.lookup f=some ⟨oc,od,.func (PySem.W.fnOf x x (fW st) (cD st) (aH st) .none kV doc pm an (.ref c) ct),osl⟩) (c0:PySem.W.codeIn K (.ref c) x=true) (k:PySem.W.keepIn K (.ref f)=true) (lc:K.lookup c=some ⟨oc2,od2,.fields vs,O1⟩) (v:vs[11]?=some (.ref P)):FC K x st:=
 ⟨f,c,P,oc,kV,doc,pm,ct,oc2,od,an,od2,osl,O1,vs,a,l,c0,k,lc,v⟩
theorem FC.tab{K:Fg}{st:Stmt}(F:FC K x st):∃cp,tabIn K x=some cp:=by obtain⟨f,c,P,oc,kV,doc,pm,ct,oc2,od,an,od2,osl,O1,vs,a,l,c0,k,lc,v⟩:=F;refine⟨(c,P),?_⟩;unfold tabIn;rw[a];simp[l,lc,v]
theorem FC.at{K:Fg}{st:Stmt}(X:K.In h)(G:h.Ns mainGlobals mg)(F:FC K x st)
  (b:∀{kV doc pm} {an} {cdv ct} us,us.length=ps.length->bindArgs (PySem.W.fnOf x x (fW st) (cD st) (aH st) .none kV doc pm an cdv ct) ⟨us,[]⟩=pure (ps.zip us)):Vl K mg x st ps (gG K x).1:=by
 obtain⟨⟨c',P'⟩,ht⟩:=F.tab;obtain⟨f,c,P,oc,kV,doc,pm,ct,oc2,od,an,od2,osl,O1,vs,a,l,c0,k,lc,v⟩:=F;exact XR X G a l c0 k ht b
theorem FA.ag7{K:Fg}{st:Stmt}(X:K.In h)(G:h.Ns mainGlobals mg)(hfa:mg x=some (.ref fa))(F:FA K x st)
  (b:∀{kV doc pm} {an} {cdv ct} s v,BindsTo s (PySem.W.fnOf x x (fW st) (cD st) (aH st) .none kV doc pm an cdv ct) ⟨[v],[]⟩ [(y,v)])
  (q:∀{fd} base,(∀z∈tl,BK base mg (gG K z.1).1 (gG K z.1).2)->Qn K x x st fa fd->lE P w K mg base xg k fa fd [y] (spT (lJ K tl) (mK K 1 g))) :
  ∃fd,(∀s v,BindsTo s fd ⟨[v],[]⟩ [(y,v)])/\∀base,K.In base->base.Ns mainGlobals mg->(∀z∈tl,BK base mg (gG K z.1).1 (gG K z.1).2)->lE P w K mg base xg k fa fd [y] (spT (lJ K tl) (mK K 1 g)):=by
 obtain⟨f,oc,kV,doc,pm,cdv,ct,od,an,osl,a,l,c,k⟩:=F;have e:=hfa.symm.trans<|PySem.W.mg_of X G a;cases e;exact⟨_,b,λbase _ _ hB=>q base hB<|zP l c k⟩
theorem Z9{l:PySem.W.OpenLaw}{K:Params->PySem.W.Frag}(tl)
  (hn:l.most=some n) (hn2:n<=sizeLine) (hdf:d.params.defaults=[]) (hr:fX k callerA)
  (hY:∀w h,YP w h->(K w.params).In h)
  (hf:∀ns,ns.length<=n->Qq ns->f [.arr (ns.map .int)]=some (.bl true))
  (hK:∀w:World,noTabs (K w.params)=true) (hrec:∀y∈tl,∃e,(recsOf q).find? (λe=>e.name == y.1)=some e)
  (F:∀w mg fa h,(K w.params).In h->h.Ns mainGlobals mg->mg d.name=some (.ref fa)->(∀y∈tl,∃cp,tabIn (K w.params) y.1=some cp)/\
   ∃fd,(∀s u,BindsTo s fd ⟨[u],[]⟩ [(x,u)])/\
    ∀base,(K w.params).In base->base.Ns mainGlobals mg->(∀y∈tl,BK base mg (gG (K w.params) y.1).1 (gG (K w.params) y.1).2)->lE l.prog w (K w.params) mg base xg k fa fd [x] (spT (lJ (K w.params) tl) (mK (K w.params) 1 f))) :
  PySem.W.WalkO q loose XP YP l.row.toRowW d [] (λf vs=>PySem.call f vs):=by
 refine Ge hn hdf λw s₀ s₁ mg mb fa o pm cd doc a vs ns G Y ho hd hcd hmg hobj hints hlen Ui hg=>?_;have KX:=hY w _ Y;obtain⟨htab,fd,hb,hF⟩:=F w mg fa _ KX G.T.g hmg;refine Ph KX G.T.g G.T.b G.T.builtins G.T.nolimit hg hobj hints (Qq4 hlen hn2) hr G.T.bmain (hK w) (λy hy=>?_) hF hb<|hf ns hlen Ui;obtain⟨⟨c,P⟩,e1⟩:=htab y hy;obtain⟨e,e2⟩:=hrec y hy;have e3:gG (K w.params) y.1=(c,P):=by unfold gG;rw[e1];rfl
 rw[e3];exact tab_of G.T KX e2 e1
theorem Oo(he:SX X C e a)(hs:swapsWith e none pos.line X.env=pure false:=by rfl):Gm X C (.Expr e pos) (J7 a):=⟨(Mp he.u hs).imp λD σ H hq=>by
 obtain⟨Pr,F,env,r,f⟩:=hq;obtain⟨d,aJ,e1,f1⟩:=cZ f;exact⟨Pr,F,env,aJ,d,r,e1,λv H1 F1 r1 s1 p1=>f1 σ H1 F1 r1 s1⟩⟩
theorem Ro{pos px py pt:Pos}{kt:Nat}{k2:Nat}{pt2:Pos}{x y:Str}(i j)(G:Good X C)(hpa:JD X C [a,b] r)(hnd:jm X.N=true:=by rfl)(hfi:C.fx i=none:=by rfl)(hfj:C.fx j=none:=by rfl)(hi:X.N[i]?=some x:=by rfl)(hj:X.N[j]?=some y:=by rfl)(hij:(i == j)=false:=by rfl)
  (hx:X.env.scope.names.lookup x=some .local:=by rfl) (hy:X.env.scope.names.lookup y=some .local:=by rfl)
  (hw:swappedStores [.Tuple [.Name x px,.Name y py] kt pt] (.Tuple [a,b] k2 pt2) X.env=pure (some [x,y]):=by rfl)
  (hs:swapsWithSole [.Tuple [.Name x px,.Name y py] kt pt] (.Tuple [a,b] k2 pt2) pos.line X.env=pure false:=by rfl) :
  Gm X C (.Assign [.Tuple [.Name x px,.Name y py] kt pt] (.Tuple [a,b] k2 pt2) pos) (aW (bF r) (cF 2 (aG (ak i) (aG (ak j) (cG))))):=⟨by
 refine(aaS G.calm (fO hnd) hi hj (by simpa using hij) hx hy hpa.u hw hs).imp λD σ H h=>?_;obtain⟨Pr,F,env,rl,f⟩:=h;obtain⟨d,aJ,e1,f1⟩:=cZ f;obtain⟨ds,dD,e2,e3⟩:=aQ e1;have hd:d=.tup ds/\dD=aJ:=by
  revert e3;show(if ds.length<=sizeLine then R.ok (Ev.D.tup ds) dD else .stuck)=.ok d aJ->_;split
  intro z;cases z;exact⟨rfl,rfl⟩
  intro z;cases z
 obtain⟨rfl,rfl⟩:=hd
 match ds,e2,f1 with
 |[d1,d2],e2,f1=>refine⟨Pr,F,env,dD,[d1,d2],rl,e2,λvs H' F' r' s' p'=>?_⟩;obtain⟨v,vs1,rfl,p1,p2⟩:=p';obtain⟨w,vs2,rfl,p3,p4⟩:=p2;cases p4;exact⟨v,w,rfl,f1 _ H' F' ((r'.put hfi p1).put hfj p3) s'⟩|[],_,f1=>exact f1.elim|[_],_,f1=>exact f1.elim
 |u::v::t::rest,_,f1=>
  have hne:¬(u::v::t::rest).length=2:=by rw[Qqw,Qqw,Qqw];omega
  have z:cF 2 (aG (ak i)<|aG (ak j) cG) (Ev.D.tup (u::v::t::rest)) dD=none:=by show(if (u::v::t::rest).length=2 then aG (ak i) (aG (ak j) cG) (u::v::t::rest) dD else none)=none;exact if_neg hne
  rw[z] at f1;exact f1.elim⟩
theorem Fy(h1:env[i]?=some (some (false,x)))(h2:b env=.ok y e2)(h4:e2[i]?=some (some (false,x)))(h3:g x y=some d):aB g i b env=.ok d e2:=cB h1 h2 h4 h3
theorem aj8(h1:env[i]?=some (some (true,x)))(h2:b env=.ok y e2)(h4:e2[i]?=some (some (true,x)))(h3:g x y=some d):aB g i b env=.ok d e2:=cB h1 h2 h4 h3
theorem LR(h0:env[i]?=some (some (true,.lst xs)))(h1:a env=.ok d e)(h2:e[i]?=some (some (true,.lst xs)))(hz:xs.length<sizeLine):fU i a env=.nx (e.set i (some (true,.lst (xs++[d])))):=by unfold fU;rw[h0];simp[h1,gZ,h2,if_pos hz]
theorem aiE(h0:env[i]?=some (some (true,x)))(h1:a env=.ok ds e1)(h2:e1[i]?=some (some (true,x)))(h3:f (x::ds)=some (d,x')):dI f i a env=.ok d (e1.set i (some (true,x'))):=iT h0 h1 h2 h3
theorem zz1:1<=sizeLine:=by decide
theorem BV:2<=sizeLine:=by decide
theorem zz3:3<=sizeLine:=by decide
theorem zz4:4<=sizeLine:=by decide
theorem zz5:5<=sizeLine:=by decide
theorem zz6:6<=sizeLine:=by decide
theorem zz7:7<=sizeLine:=by decide
end Ev
abbrev OD:=Option (Bool×Ev.D)
noncomputable abbrev Zf(d:Ev.D):OD:=some (false,d)
noncomputable abbrev Zt(d:Ev.D):OD:=some (true,d)
noncomputable abbrev Zs(w:List Nat):OD:=some (false,.str w)
noncomputable abbrev Zb(b:Bool):OD:=some (false,.bl b)
noncomputable abbrev Zl(l:List Ev.D):OD:=some (true,.lst l)
noncomputable abbrev Zv(i:Nat)(a:Ev.dZ):Ev.dZ:=Ev.aa (Ev.aR i) a
noncomputable abbrev Zi(i:Int):Ev.Ev:=Ev.jR (.int i)
noncomputable abbrev Zw(w:List Nat):Ev.Ev:=Ev.jR (.str w)
abbrev LD:=List Ev.D->Option Ev.D
noncomputable abbrev Zn:OD:=none
noncomputable abbrev Yq:List PySem.Str:=["_law_pack_here","_law_sounds_here"]
noncomputable abbrev ZZ:List PySem.Str:=["stock","side","rule","other"]
noncomputable abbrev Zq2:List PySem.Str:=["stock","order"]
noncomputable abbrev Zq3:List PySem.Str:=["rule","standing","sign"]
noncomputable abbrev Zq4:List PySem.Str:=["order","standing","sound"]
noncomputable abbrev Zq5:List PySem.Str:=["_law_stock_here"]
noncomputable abbrev Zq6:List PySem.Str:=["rule","standing","signs"]
noncomputable abbrev Zq7:List PySem.Str:=["stock","side","first","lead","shows"]
noncomputable abbrev Zq8:List PySem.Str:=["stock","order","number"]
noncomputable abbrev Zq9:List PySem.Str:=["stock","side","rule","other","behind","alone"]
noncomputable abbrev ac2:List PySem.Str:=["_law_pack_here","_law_size"]
noncomputable abbrev ac1:List PySem.Str:=["_law_pack_here","_law_sounds_here","_law_most"]
noncomputable abbrev afG:List PySem.Str:=["rule","standing","sign","way","changes","left","right","near","held","put"]
namespace fD
open PySem L2 Ev
section
noncomputable def top(i:Nat):Stmt:=PySem.Challenge.pw_soundrules_k44_whole_rules_that_act.main.body.getD i (.Pass ⟨0,0,0,0⟩)
noncomputable def dg:Stmt:=nest (top 29) 2
noncomputable def cQ:Stmt:=nest (top 29) 3
noncomputable def bG:Stmt:=nest (top 31) 2
noncomputable def bC:Stmt:=nest (top 31) 3
noncomputable def gn:Ev:=gY 1 3 (jn (aR 0)) (cF 2 (aG (ak 1) (aG (ak 2) cG))) fK (aR 1)
noncomputable def dX:bO:=bA (au cV (aa (gn) aj))
noncomputable def cA:LD:=bY 1 dX
noncomputable def K8:bO:=bA (z8 (PQ (Uk "int") (aR 0)) (ZL (PQ (Uk "bool") (aR 0))))
noncomputable def zU:LD:=bY 1 K8
noncomputable def jd:bO:=bA (pP (aB JC 0 (jR .non)) (aB gIn 1 (aZ 0)))
noncomputable def gO:LD:=bY 2 jd
noncomputable def gC:bO:=aD (aW (aR 0) (cF 4 (aG (ak 1) (aG (ak 2) (aG (ak 3) (aG (ak 4) cG)))))) (bA (bF (Zv 1 (Zv 2 (Zv 4 (Zv 3 aj))))))
noncomputable def jJ:LD:=bY 5 gC
noncomputable def il:bO:=bA (aO tR (aO fj (aO fj (aB fj 0 (Zi 1)) (Zi 0)) (Zi 0)) (Zw []))
noncomputable def jw:LD:=bY 1 il
noncomputable def fc:Ev:=gY 3 4 (jn (aR 2)) (ak 3) fK (au jJ (Zv 3 aj))
noncomputable def bU:bO:=aD (aW (aR 0) (cF 2 (aG (ak 1) (aG (ak 2) cG)))) (aD (gK (fL (aB tR 1 (Zw [114,105,103,104,116]))) (bA (au cV (aa (fc) aj))) cT) (bA (aR 2)))
noncomputable def cj:LD:=bY 3 bU
noncomputable def eF:Ev:=gY 1 5 (jn (au cj (Zv 0 aj))) (cF 4 (aG (ak 1) (aG (ak 2) (aG (ak 3) (aG (ak 4) cG))))) fK (bF (aa (au gO (Zv 3 (aa (Zw [35]) aj))) (aa (Zw []) aj)))
noncomputable def cu:bO:=bA (au cV (aa (eF) aj))
noncomputable def aY:LD:=bY 1 cu
noncomputable def bW:bO:=aD (aW (aR 0) (cF 4 (aG (ak 3) (aG (ak 4) (aG (ak 5) (aG (ak 6) cG)))))) (aD (aW (aR 1) (cF 2 (aG (ak 7) (aG (ak 8) cG)))) (aD (aW (aR 8) (ak 9)) (aD (gK (mD (fL (aR 7)) (fL (au gO (Zv 6 (Zv 2 aj))))) (aW (aB dB 8 (aO fj (aB fj 4 (Zi 0)) (Zi 1))) (ak 9)) cT) (bA (bF (aa (bF (aa (au gO (Zv 5 (Zv 2 aj))) (Zv 2 aj))) (Zv 9 aj)))))))
noncomputable def cY:LD:=bY 10 bW
noncomputable def cH:bO:=aD (aW (aR 0) (cF 4 (aG (ak 3) (aG (ak 4) (aG (ak 5) (aG (ak 6) cG)))))) (aD (aW (aR 1) (cF 2 (aG (ak 7) (aG (ak 8) cG)))) (aD (gK (fL (aB tR 8 (Zw []))) (bA (bF (aa (bF (Zv 7 (Zv 2 aj))) (aa (Zw []) aj)))) cT) (aD (aW (aR 8) (ak 9)) (aD (gK (mD (fL (aR 7)) (fL (au gO (Zv 6 (Zv 2 aj))))) (aW (Fw (au zO (aa (aZ 4) aj)) (aR 8) (aR 8)) (ak 9)) cT) (aD (gK (fL (aB tR 3 (Zw [111,110,99,101]))) (bA (bF (aa (bF (aa (au gO (Zv 5 (Zv 8 aj))) (Zv 2 aj))) (Zv 9 aj)))) cT) (aD (gK (fL (aB tR 9 (Zw []))) (bA (bF (aa (bF (Zv 7 (Zv 2 aj))) (Zv 9 aj)))) cT) (bA (bF (aa (bF (aa (au gO (Zv 5 (Zv 9 aj))) (Zv 2 aj))) (Zv 9 aj))))))))))
noncomputable def dh:LD:=bY 10 cH
noncomputable def fP:bO:=aD (aW (aB fj 1 (Zi 1)) (ak 6)) (aD (gK (fL (au jw (Zv 0 aj))) (aW (au cY (Zv 0 (Zv 1 (Zv 5 aj)))) (cF 2 (aG (ak 1) (aG (ak 7) cG)))) (aW (au dh (Zv 0 (Zv 1 (Zv 5 aj)))) (cF 2 (aG (ak 1) (aG (ak 7) cG))))) (aD (aW (pP (aR 4) (aB MT 7 (aZ 6))) (ak 4)) (fU 3 (aR 7))))
noncomputable def dJ:bO:=aD (dF 3 (cM aj)) (aD (aW (jR (.bl false)) (ak 4)) (aD (iW (jn (aR 2)) (ak 5) (fP)) (bA (bF (Zv 1 (aa (aO qK (Zw []) (aZ 3)) (Zv 4 aj)))))))
noncomputable def dR:LD:=bY 8 dJ
noncomputable def ik:bO:=aD (aW (au dR (Zv 6 (Zv 7 (Zv 3 aj)))) (cF 3 (aG (ak 8) (aG (ak 3) (aG (ak 9) cG))))) (aD (fU 4 (aR 8)) (fU 5 (aR 9)))
noncomputable def fB:bO:=aD (aW (aR 2) (ak 3)) (aD (dF 4 (cM aj)) (aD (dF 5 (cM aj)) (aD (iW (zW (aa (au cj (Zv 0 aj)) (Zv 1 aj))) (cF 2 (aG (ak 6) (aG (ak 7) cG))) (ik)) (bA (bF (aa (au cV (aa (aZ 4) aj)) (Zv 3 (aa (au cV (aa (aZ 5) aj)) aj))))))))
noncomputable def dH:LD:=bY 10 fB
noncomputable def qG:bO:=aD (aW (au dR (Zv 4 (Zv 5 (aa (aB dB 2 (Zw [35])) aj)))) (cF 3 (aG (ak 6) (aG (ak 2) (aG (ak 7) cG))))) (fU 3 (aR 7))
noncomputable def m6:bO:=aD (aW (Zw []) (ak 2)) (aD (dF 3 (cM aj)) (aD (iW (zW (aa (au cj (Zv 0 aj)) (Zv 1 aj))) (cF 2 (aG (ak 4) (aG (ak 5) cG))) (qG)) (bA (bF (Zv 2 (aa (au cV (aa (aZ 3) aj)) aj))))))
noncomputable def eQ:LD:=bY 8 m6
noncomputable def gD:bO:=aD (aW (au dH (Zv 0 (Zv 1 (Zv 2 aj)))) (cF 3 (aG (ak 3) (aG (ak 4) (aG (ak 5) cG))))) (bA (bF (Zv 3 (Zv 4 aj))))
noncomputable def ju:LD:=bY 6 gD
def eN:bO:=aD (aW (au ju (Zv 1 (aa (aB fj 2 (au d7 (aa (aZ 4) aj))) (Zv 6 aj)))) (cF 2 (aG (ak 7) (aG (ak 8) cG)))) (aD (gK (fL (aB rF 7 (aZ 3))) (aD (oU 3 (aR 7) (au d7 (aa (aZ 2) aj))) (fU 2 (aR 7))) cT) (fU 5 (bF (Zv 8 (aa (aB zN 3 (aZ 7)) aj)))))
def eG:bO:=aD (dF 5 (cM aj)) (aD (iW (jn (au cA (Zv 0 aj))) (ak 6) (eN)) (aD (gK (fL (aO gGt (au d7 (aa (aZ 2) aj)) (Zi 600))) (yg) cT) (fU 4 (au cV (aa (aZ 5) aj)))))
def jo:bO:=aD (dF 2 (cM (aa (au aY (Zv 1 aj)) aj))) (aD (dF 3 (qN (aB fj 2 (Zi 0)) (Zi 0))) (aD (dF 4 (cM aj)) (aD (fH (fL (aO M4 (au d7 (aa (aZ 4) aj)) (au d7 (aa (aZ 2) aj)))) (eG) 7000) (bA (bF (Zv 2 (Zv 4 aj)))))))
def j6:LD:=bY 9 jo
def m7:bO:=bA (au cV (aa (au wR (aa (aO fj (au j6 (Zv 0 (Zv 1 aj))) (Zi 0)) aj)) aj))
def iH:LD:=bY 2 m7
noncomputable def jM:bO:=bA (afq (fL (aB tR 0 (Zw [114,105,103,104,116]))) (ZK (aR 1)) (aR 1))
noncomputable def gr:LD:=bY 2 jM
noncomputable def jN:bO:=aD (aW (au dH (Zv 2 (aa (aB fj 0 (Zi 0)) (Zv 1 aj)))) (cF 3 (aG (ak 4) (aG (ak 5) (aG (ak 6) cG))))) (bA (bF (Zv 4 (aa (aB fj 6 (aZ 3)) aj))))
noncomputable def pC:List D->LD:=runC 2 7 jN
noncomputable def jk:bO:=aD (aW (aR 0) (cF 2 (aG (ak 3) (aG (ak 4) cG)))) (bA (pP (aR 4) (aO fj (aO fj (au eQ (Zv 1 (Zv 3 aj))) (Zi 1)) (aZ 2))))
noncomputable def nQ:List D->LD:=runC 1 5 jk
noncomputable def pD:bO:=aD (aW (aR 0) (cF 4 (aG (ak 4) (aG (ak 5) (aG (ak 6) (aG (ak 7) cG)))))) (aD (aW (au dH (Zv 3 (Zv 4 (Zv 1 aj)))) (cF 3 (aG (ak 4) (aG (ak 8) (aG (ak 9) cG))))) (aD (aW (au dH (Zv 2 (Zv 5 (Zv 1 aj)))) (cF 3 (aG (ak 5) (aG (ak 8) (aG (ak 10) cG))))) (bA (bF (Zv 4 (Zv 5 (aa (pP (aR 6) (aB fj 9 (Zi 1))) (aa (pP (aR 7) (aB fj 10 (Zi 0))) aj))))))))
noncomputable def gP:List D->LD:=runC 2 11 pD
noncomputable def oM:bO:=aD (aW (aR 0) (cF 4 (aG (ak 5) (aG (ak 6) (aG (ak 7) (aG (ak 8) cG)))))) (aD (aW (pP (aR 7) (aO fj (aO fj (au eQ (Zv 2 (Zv 5 aj))) (Zi 1)) (Zi 1))) (ak 9)) (aD (aW (pP (aR 8) (aO fj (aO fj (au eQ (Zv 1 (Zv 6 aj))) (Zi 1)) (Zi 0))) (ak 10)) (bA (z8 (aB tR 9 (aZ 3)) (aB tR 10 (aZ 4))))))
noncomputable def gB:List D->LD:=runC 1 11 oM
open Classical in
def BP(st:Stmt):List D->LD:=if st=dg then pC else if st=cQ then nQ else if st=bG then gP else if st=bC then gB else λ_ _=>none
def tM:bO:=aD (aW (lF BP 3 (aa (aB fj 5 (aZ 8)) (Zv 9 aj))) (ak 10)) (aD (gK (rY (fL (aB JC 10 (jR .non))) (fL (aB KR 10 (aZ 7)))) ((λenv=>.ct env)) cT) (aD (gK (fL (lF BP 4 (Zv 10 aj))) (bA (au gr (Zv 1 (aa (aO dB (aB fj 6 (aZ 8)) (aZ 9)) aj)))) cT) (aD (oU 7 (aR 10) (jR (.bl true))) (aD (fU 5 (aR 10)) (fU 6 (aO dB (aB fj 6 (aZ 8)) (aZ 9)))))))
def sE:bO:=aD (iW (jn (au cA (Zv 0 aj))) (ak 9) (tM)) (LQ 8 (Zi 1))
def di:bO:=aD (gK (fL (lF BP 4 (Zv 2 aj))) (bA (Zw [])) cT) (aD (dF 5 (cM (Zv 2 aj))) (aD (dF 6 (cM (aa (Zw []) aj))) (aD (dF 7 (qN (aR 2) (jR (.bl true)))) (aD (aW (Zi 0) (ak 8)) (aD (fH (fL (aB M4 8 (au d7 (aa (aZ 5) aj)))) (sE) 7000) (bA (jR .non)))))))
def gW:LD:=bY 11 di
def U9:bO:=aD (gK (rY (zY (fL (au zU (Zv 2 aj)))) (zY (fL (Fx gLe M4 (Zi 0) (aR 2) (au d7 (aa (aB fj 1 (Zi 1)) aj)))))) (yg) cT) (aD (J7 (au iH (Zv 0 (Zv 1 aj)))) (qb dg cQ [1,2] [1,2] 3 4 gW (aR 0) (aB fj 1 (Zi 0)) (bF (aa (au aY (Zv 1 aj)) (aa (jR (.bl false)) aj)))))
def mz:LD:=bY 5 U9
def xf:bO:=aD (aW (bF (Zv 1 (aa (bF (Zv 2 (Zv 3 aj))) aj))) (ak 6)) (aD (aW (bF (Zv 1 (aa (bF (Zv 3 aj)) aj))) (ak 7)) (qb bG bC [7,6] [7,6,4,5] 8 9 gW (aR 0) (aR 1) (bF (aa (au aY (Zv 6 aj)) (aa (au aY (Zv 7 aj)) (aa (jR (.bl false)) (aa (jR (.bl false)) aj)))))))
def gq:LD:=bY 10 xf
def Jp:bO:=bA (au gq (Zv 0 (Zv 1 (Zv 2 (Zv 3 (aa (jR (.bl true)) (aa (jR (.bl false)) aj)))))))
def qM:LD:=bY 4 Jp
def Gb:bO:=bA (au gq (Zv 0 (Zv 1 (Zv 2 (Zv 3 (aa (jR (.bl false)) (aa (jR (.bl true)) aj)))))))
def ph:LD:=bY 4 Gb
noncomputable def ni:bO:=bA (aO acv (aB tQ 0 (Zi 262406895267124108351839057402211873468251940277165213587343)) (aO KQ (Zi 10) (Zi 60)))
noncomputable def iI:LD:=bY 1 ni
noncomputable def Bt:bO:=aW (aO dB (aB tQ 2 (aO KQ (Zi 10) (Zi 60))) (au iI (aa (aO fj (aO dB (zX (aR 0) (Gv (aR 3)) (Gv (aB dB 3 (Zi 1)))) (cM (aa (aO dB (aO tQ (Zi 7919) (aZ 3)) (Zi 61)) aj))) (Zi 0)) aj))) (ak 2)
noncomputable def j7:bO:=aD (aW (Zi 0) (ak 2)) (aD (iW (jn (cM (aa (aB dB 1 (Zi 1)) (Zv 1 aj)))) (ak 3) (Bt)) (yH (cM (Zv 2 aj))))
noncomputable def my:LD:=runN 4 j7
noncomputable def fC:bO:=aD (aW (au uV (aa (aB fj 0 (Zi 0)) (aa (aZ 1) aj))) (cF 2 (aG (XD 0 (Zi 0)) (aG (ak 2) cG)))) (bA (aR 2))
noncomputable def aV:List D->Option (D×D):=iu 3 fC
noncomputable def zy:Ev:=gY 7 8 (jj (aa (Zi 5) aj)) (ak 7) (fL (aO tR (aO Bw (aB zL 5 (aZ 7)) (Zi 1)) (Zi 1))) (aB fj 2 (aZ 7))
noncomputable def zB:bO:=aD (aW (dI aV 0 (aa (Zi 32) aj)) (ak 5)) (aD (aW (au iB (aa (zy) aj)) (ak 6)) (fU 3 (bF (Zv 4 (aa (au cV (aa (zX (aR 6) zZ (Gv (Zi 4))) aj)) aj)))))
noncomputable def m8:bO:=aD (aW (aO fj (cM (aa (Zw [97]) (aa (Zw [97,98]) (aa (Zw [97,98]) (aa (Zw [97,98,99]) (aa (Zw [97,101,112,116]) (aa (Zw [109,110,122]) aj))))))) (dI aV 0 (aa (Zi 6) aj))) (ak 1)) (aD (aW (cM (aa (Zw [115,116,111,112]) (aa (Zw [115,116,111,112,115]) (aa (Zw [115]) (aa (Zw [111,112,101,110]) (aa (Zw [97,98,99,100,101,102,103,104]) aj)))))) (ak 2)) (aD (dF 3 (cM aj)) (aD (iW (jn (aR 1)) (ak 4) (zB)) (bA (au cV (aa (aZ 3) aj))))))
noncomputable def mZ:List D->Option (D×D):=iu 7 m8
noncomputable def xW:Ev:=fD.gn
noncomputable def jL:bO:=bA (aO qK (Zw []) (xW))
noncomputable def lM:LD:=bY 1 jL
noncomputable def zz:Ev:=gY 4 5 (jj (aa (au d7 (aa (aZ 3) aj)) aj)) (ak 4) (fL (aO tR (aO Bw (aB zL 2 (aZ 4)) (Zi 1)) (Zi 1))) (aB fj 3 (aZ 4))
noncomputable def eV:bO:=aD (gK (fL (aO tR (dI aV 0 (aa (Zi 2) aj)) (Zi 0))) (bA (jR .non)) cT) (aD (aW (aO dB (Zi 1) (dI aV 0 (aa (aO Ir (aO KJ (Zi 2) (au d7 (aa (aZ 1) aj))) (Zi 1)) aj))) (ak 2)) (aD (aW (aO dB (Zw [35]) (aZ 1)) (ak 3)) (bA (au cV (aa (zz) aj)))))
noncomputable def dW:List D->Option (D×D):=iu 4 eV
noncomputable def wM:Ev:=gY 6 7 (jn (aO dB (au zM (aa (aZ 1) aj)) (cM (aa (Zw []) aj)))) (ak 6) (fL (aB MT 6 (aZ 4))) (aR 6)
noncomputable def wN:bO:=aD (aW (aB fj 1 (dI aV 0 (aa (au d7 (aa (aZ 1) aj)) aj))) (ak 4)) (aD (dF 5 (wM)) (p8 2 (aR 4) (aB fj 5 (dI aV 0 (aa (au d7 (aa (aZ 5) aj)) aj)))))
noncomputable def wL:Ev:=gY 6 7 (jn (au iB (aa (aZ 2) aj))) (ak 6) fK (bF (Zv 6 (aa (aB kY 2 (aZ 6)) aj)))
noncomputable def dG:bO:=aD (gK (fL (aO tR (dI aV 0 (aa (Zi 5) aj)) (Zi 0))) (bA (bF (aa (bF (aa (Zw []) (aa (aB fj 1 (dI aV 0 (aa (au d7 (aa (aZ 1) aj)) aj))) aj))) aj))) cT) (aD (dF 2 (z6)) (aD (iW (jj (aa (aO dB (Zi 1) (dI aV 0 (aa (Zi 3) aj))) aj)) (ak 3) (wN)) (bA (au cV (aa (wL) aj)))))
noncomputable def eU:List D->Option (D×D):=iu 6 dG
noncomputable def iJ:bO:=aD (aW (aO fj (cM (aa (Zw [111,110,99,101]) (aa (Zw [97,108,111,110,103]) aj))) (dI aV 0 (aa (Zi 2) aj))) (ak 2)) (aD (aW (dI eU 0 (Zv 1 aj)) (ak 3)) (bA (bF (Zv 2 (Zv 3 (aa (dI dW 0 (Zv 1 aj)) (aa (dI dW 0 (Zv 1 aj)) aj)))))))
noncomputable def gM:List D->Option (D×D):=iu 4 iJ
noncomputable def zA:Ev:=gY 4 5 (jj (aa (dI aV 0 (aa (aB dB 2 (Zi 1)) aj)) aj)) (ak 4) fK (dI gM 0 (Zv 1 aj))
noncomputable def m9:bO:=aD (aW (aO fj (cM (aa (Zw [108,101,102,116]) (aa (Zw [114,105,103,104,116]) aj))) (dI aV 0 (aa (Zi 2) aj))) (ak 3)) (bA (bF (Zv 3 (aa (au cV (aa (zA) aj)) aj))))
noncomputable def m5:List D->Option (D×D):=iu 4 m9
noncomputable def Gd:bO:=aD (gK (fL (aB JC 0 (jR .non))) (bA (jR .non)) cT) (bA (au d7 (aa (aZ 0) aj)))
noncomputable def iR:LD:=bY 1 Gd
def uO:bO:=aD (aW (au iR (aa (au mz (Zv 2 (aa (bF (Zv 4 (aa (Ja (aR 5) zZ (Gv (aB dB 7 (Zi 1)))) aj))) (Zv 7 aj)))) aj)) (ak 8)) (aD (aW (bF (Zv 4 (aa (Ja (aB dB 5 (bF (Zv 6 aj))) zZ (Gv (Zi 3))) aj))) (ak 9)) (gK (fL (aO MT (au iR (aa (au mz (Zv 2 (Zv 9 (Zv 7 aj)))) aj)) (aZ 8))) (bA (jR (.bl false))) cT))
def U8:bO:=aD (dF 1 (au my (Zv 0 (aa (Zi 0) aj)))) (aD (aW (dI mZ 1 aj) (ak 2)) (aD (aW (au lM (Zv 2 aj)) (ak 3)) (aD (aW (dI m5 1 (Zv 3 (aa (Zi 2) aj))) (cF 2 (aG (ak 4) (aG (ak 5) cG)))) (aD (aW (aB dB 5 (bF (aa (dI gM 1 (Zv 3 aj)) aj))) (ak 5)) (aD (aW (Nb gM (au my (Zv 0 (aa (Zi 2) aj))) (Zv 3 aj)) (ak 6)) (aD (iW (jj (aa (au d7 (aa (aZ 5) aj)) aj)) (ak 7) (uO)) (aD (aW (bF (aa (aB fj 5 (PQ acu (Zi 1))) (Zv 6 aj))) (cF 2 (aG (ak 10) (aG (ak 11) cG)))) (aD (aW (aO JC (au mz (Zv 2 (aa (bF (Zv 4 (aa (bF (Zv 10 aj)) aj))) (aa (Zi 0) aj)))) (jR .non)) (ak 12)) (aD (aW (bF (aa (au qM (Zv 2 (Zv 4 (Zv 10 (Zv 11 aj))))) (aa (au ph (Zv 2 (Zv 4 (Zv 10 (Zv 11 aj))))) aj))) (cF 2 (aG (ak 13) (aG (ak 14) cG)))) (aD (gK (mD (fL (aR 12)) (rY (fL (aB nO 13 (jR .non))) (fL (aB nO 14 (jR .non))))) (bA (jR (.bl false))) cT) (aD (gK (mD (fL (aO JC (au mz (Zv 2 (aa (bF (Zv 4 (aa (bF (Zv 11 aj)) aj))) (aa (Zi 0) aj)))) (jR .non))) (fL (aB nO 14 (jR .non)))) (bA (jR (.bl false))) cT) (aD (gK (fL (aB JC 13 (jR .non))) (bA (jR (.bl true))) cT) (aD (aW (au mz (Zv 2 (aa (bF (Zv 4 (aa (bF (Zv 10 (Zv 11 aj))) aj))) (aa (Zi 1) aj)))) (ak 15)) (bA (z8 (aB nO 15 (jR .non)) (aO gLe (au d7 (aa (aZ 15) aj)) (au d7 (aa (aZ 13) aj))))))))))))))))))
def M8:LD:=bY 16 U8
end
open PySem PySem.Spec PyProof.Rows L2 Ev
noncomputable abbrev qg:Stmt:=top 6
noncomputable abbrev sX:Stmt:=top 8
noncomputable abbrev Kd:Stmt:=top 10
noncomputable abbrev yN:Stmt:=top 11
noncomputable abbrev wB:Stmt:=top 12
noncomputable abbrev lr:Stmt:=top 15
noncomputable abbrev jX:Stmt:=top 16
noncomputable abbrev jB:Stmt:=top 17
noncomputable abbrev lz:Stmt:=top 18
noncomputable abbrev oW:Stmt:=top 19
noncomputable abbrev sO:Stmt:=top 20
noncomputable abbrev qd:Stmt:=top 21
noncomputable abbrev wA:Stmt:=top 22
noncomputable abbrev sS:Stmt:=top 23
noncomputable abbrev qe:Stmt:=top 24
noncomputable abbrev lX:Stmt:=top 26
noncomputable abbrev lq:Stmt:=top 27
noncomputable abbrev Ke:Stmt:=top 29
noncomputable abbrev jW:Stmt:=top 31
noncomputable abbrev qi:Stmt:=top 32
noncomputable abbrev oV:Stmt:=top 33
noncomputable abbrev qp:Stmt:=top 35
noncomputable abbrev sW:Stmt:=top 36
noncomputable abbrev sU:Stmt:=top 37
noncomputable abbrev qj:Stmt:=top 38
noncomputable abbrev oX:Stmt:=top 39
noncomputable abbrev ql:Stmt:=top 40
noncomputable abbrev nG:Stmt:=top 41
noncomputable abbrev sV:Stmt:=top 42
noncomputable abbrev qm:Stmt:=top 43
noncomputable abbrev oY:Stmt:=top 44
noncomputable abbrev Rp:Stmt:=top 45
noncomputable abbrev mR:List (Pos×Str):=[(lC dg,"acts.<locals>.lead"),(lC cQ,"acts.<locals>.shows")]
theorem Bu:∀q∈mR,q.1.line=(lC dg).line->q.1.col=(lC dg).col->q.2="acts.<locals>.lead":=by decide +kernel
theorem zK:∀q∈mR,q.1.line=(lC cQ).line->q.1.col=(lC cQ).col->q.2="acts.<locals>.shows":=by decide +kernel
noncomputable abbrev cX:List (Pos×Str):=[(lC bG,"shortest_where.<locals>.lead"),(lC bC,"shortest_where.<locals>.shows")]
theorem oJ:∀q∈cX,q.1.line=(lC bG).line->q.1.col=(lC bG).col->q.2="shortest_where.<locals>.lead":=by decide +kernel
theorem nM:∀q∈cX,q.1.line=(lC bC).line->q.1.col=(lC bC).col->q.2="shortest_where.<locals>.shows":=by decide +kernel
noncomputable def tabs:Lf:=[("acts",mR),("shortest_where",cX)]
theorem Yh:(("acts" : Str),mR)∈tabs:=by unfold tabs;simp
theorem VL{K:Fg}:lJ K tabs (gG K "acts").2=some (.tab mR):=if_pos rfl
theorem vh:(("shortest_where" : Str),cX)∈tabs:=by unfold tabs;simp
theorem um{K:Fg}(h:((gG K "shortest_where").2 == (gG K "acts").2)=false):lJ K tabs (gG K "shortest_where").2=some (.tab cX):=(if_neg<|Qzw.mp h).trans<|if_pos rfl
structure Top(K:Fg)(mg:Str->Option Value):Prop where
 Xc:mg "bool"=none
 Xb:mg "dict"=none
 Pg:mg "divmod"=none
 abO:mg "int"=none
 rW:mg "isinstance"=none
 jc:mg "len"=none
 Xa:mg "list"=none
 qz:mg "range"=none
 wK:mg "sorted"=none
 gm:mg "tuple"=none
 Ti:mg "zip"=none
 qJ:∀d:D,PySem.W.kitOne K (.type (VH d)) (.type "bool")=some (uR d "bool")
 uQ:∀d:D,PySem.W.kitOne K (.type (VH d)) (.type "int")=some (uR d "int")
 kJ:Glb K mg "EDGE" (.str [35])
 fV:Glb K mg "MOST_STANDINGS" (.int 600)
 tne:((gG K "shortest_where").2 == (gG K "acts").2)=false
 GK:dY K mg "sounds_of" qg ["stock"]
 J3:dY K mg "is_whole" sX ["thing"]
 aan:dY K mg "fits" Kd ["signs","sign"]
 Q7:dY K mg "turned" yN ["rule"]
 Ob:dY K mg "puts_in" wB ["rule"]
 xO:dY K mg "reading_rules" lr ["order"]
 vX:dY K mg "first_standing" jX ["order"]
 uo:dY K mg "read_putting_in" jB Zq3
 xP:dY K mg "read_changing" lz Zq3
 Dt:dY K mg "read_signs" oW Zq6
 JV:dY K mg "watch_on" sO Zq4
 GF:dY K mg "watch_end" qd ["order","standing"]
 Oa:dY K mg "read_on" wA Zq4
 JW:dY K mg "readings" sS Zq2
 GJ:dY K mg "standings" qe Zq2
 yG:dY K mg "as_it_stands" lX ["side","read"]
 xN:dY K mg "shortest_word" lq Zq7
 aao:Vl K mg "acts" Ke Zq8 (gG K "acts").1
 vW:Vl K mg "shortest_where" jW Zq9 (gG K "shortest_where").1
 GP:dY K mg "makes_way" qi ZZ
 Ds:dY K mg "takes_from" oV ZZ
 GZ:dY K mg "_law_mixed" qp ["_law_cell"]
 J0:dY K mg "_law_pack" sW ["_law_script","_law_k"]
 JX:dY K mg "_law_take" sU ac2
 GQ:dY K mg "_law_stock" qj ["_law_pack_here"]
 Du:dY K mg "_law_sounds" oX Zq5
 GR:dY K mg "_law_signs" ql Yq
 Bc:dY K mg "_law_changes" nG Yq
 JZ:dY K mg "_law_rule" sV Yq
 GX:dY K mg "_law_order" qm ac1
 Dv:dY K mg "_law_length" oY ["_law_word"]
section
variable{P:Program}{w:World}{K:Fg}{mg:Str->Option Value}{base:Heap}(Z:Top K mg)(BB:∀y∈tabs,BK base mg (gG K y.1).1 (gG K y.1).2)
theorem DW:bI ["stock"] ["stock"] (aH qg):=jf
include Z in
theorem xr:Own P w K mg base "sounds_of" 1 ["stock"] (mK K 1 cA):=by exact dw Z.GK DW<|λf cdv A outer s H E hr G=>(fM.u<|aL<|bf<|gk G Z.gm<|bD<|bz<|gQ<|xx ["stock","sound","marks"] 1 pA G (mq G<|bJ 0) (λX1 h1=>by have G:=G.at h1;obtain⟨_,_,_,_,_,rfl⟩:=h1;exact(eE G<|aF (aP 1)<|aF (aP 2) bT)) (λX1 h1=>by have G:=G.at h1;obtain⟨_,_,_,_,_,rfl⟩:=h1;exact lQ) (λX1 h1=>by have G:=G.at h1;obtain⟨_,_,_,_,_,rfl⟩:=h1;exact(bJ 1)))
theorem Hf:bI ["thing"] ["thing"] (aH sX):=jf
include Z in
theorem Ku:Own P w K mg base "is_whole" 1 ["thing"] (mK K 1 zU):=by exact dw Z.J3 Hf<|λf cdv A outer s H E hr G=>(fM.u<|aL<|bf<|El (Mi rfl Z.rW rfl Z.abO (by decide +kernel) Z.uQ G.K (bJ 0))<|kj<|Wr<|Mi rfl Z.rW rfl Z.Xc (by decide +kernel) Z.qJ G.K (bJ 0))
theorem V4:bI ["signs","sign"] ["signs","sign"] (aH Kd):=jf
include Z in
theorem wJ:Own P w K mg base "fits" 1 ["signs","sign"] (mK K 2 gO):=by exact dw Z.aan V4<|λf cdv A outer s H E hr G=>(fM.u<|aL<|bf<|sZ (qZ 0 Qj<|bz iK)<|kj<|qZ 1 (ahF G)<|cL 0)
theorem Oi:bI ["rule","way","changes","left","right"] ["rule"] (aH yN):=jf
include Z in
theorem Te:Own P w K mg base "turned" 1 ["rule"] (mK K 1 jJ):=by
 exact dw Z.Q7 Oi (λf cdv A outer s H E hr G=>(fM.u (aq (du (bJ 0)<|eE G<|aF (aP 1)<|aF (aP 2)<|aF (aP 3)<|aF (aP 4) bT)
   (aL<|bf<|bM<|cJ 1<|cJ 2<|cJ 4<|cJ 3 ao))))
theorem Kc:bI ["rule"] ["rule"] (aH wB):=jf
include Z in
theorem Pb:Own P w K mg base "puts_in" 1 ["rule"] (mK K 1 jw):=by exact dw Z.Ob Kc<|λf cdv A outer s H E hr G=>(fM.u<|aL<|bf<|JL (xZ G) (mL G (mL G (fY 0 G<|bz aX)<|bz aX)<|bz aX)<|bz<|cC [])
theorem wk:bI ["order","side","rules"] ["order"] (aH lr):=jf
include Z in
theorem lB:Own P w K mg base "reading_rules" 2 ["order"] (mK K 1 cj):=by
 exact dw (k:=1) Z.xO wk (λf cdv A outer s H E hr G=>(fM.u (aq (du (bJ 0) (eE G (aF (aP 1) (aF (aP 2) bT))))
   (aq (d8 (gH 1 (xZ G) (bz (cC [114,105,103,104,116]))) (aL (bf (gk G Z.gm (bD (bz (gQ (xx ["order","side","rules","rule"] 3 pA G (mq G (bJ 2)) (λX1 h1=>by have G:=G.at h1;obtain⟨_,_,_,_,_,rfl⟩:=h1;exact(aP 3)) (λX1 h1=>by have G:=G.at h1;obtain⟨_,_,_,_,_,rfl⟩:=h1;exact lQ) (λX1 h1=>by have G:=G.at h1;obtain⟨_,_,_,_,_,rfl⟩:=h1;exact(cI (Te Z) G hr (cJ 3 ao) (bw len0)))))))))) cU)
   (aL (bf (bJ 2)))))))
theorem uA:bI ["order"] ["order"] (aH jX):=jf
include Z in
theorem iM:Own P w K mg base "first_standing" 3 ["order"] (mK K 1 aY):=by obtain⟨aad,aag,kJ⟩:=Z.kJ;exact dw Z.vX uA<|λf cdv A outer s H E hr G=>(fM.u<|aL<|bf<|gk G Z.gm<|bD<|bz<|gQ<|xx ["order","way","changes","left","right"] 1 pA G (mq G<|cI (lB Z) G hr (cJ 0 ao)<|bw len0) (λX1 h1=>by have G:=G.at h1;obtain⟨_,_,_,_,_,rfl⟩:=h1;exact(eE G<|aF (aP 1)<|aF (aP 2)<|aF (aP 3)<|aF (aP 4) bT)) (λX1 h1=>by have G:=G.at h1;obtain⟨_,_,_,_,_,rfl⟩:=h1;exact lQ) (λX1 h1=>by have G:=G.at h1;obtain⟨_,_,_,_,_,rfl⟩:=h1;exact(bM<|az (cI (wJ Z) G hr (cJ 3<|az (yW (.str [35]) rfl kJ.1 kJ.2.1 (λF=>kJ.2.2 F)) ao)<|bw<|bw len0)<|az (cC []) ao)))
theorem sJ:bI afG Zq3 (aH jB):=jf
include Z in
theorem uM:Own P w K mg base "read_putting_in" 2 Zq3 (mK K 3 cY):=by
 exact dw (k:=1) Z.uo sJ (λf cdv A outer s H E hr G=>(fM.u (aq (du (bJ 0)<|eE G<|aF (aP 3)<|aF (aP 4) (aF (aP 5) (aF (aP 6) bT)))
   (aq (du (bJ 1) (eE G (aF (aP 7) (aF (aP 8) bT))))
   (aq (cP 9 (bJ 8))
   (aq (d8 (pG (uF (jD (bJ 7)) (rD (jD (cI (wJ Z) G hr (cJ 6 (cJ 2 ao)) (bw (bw len0))))))) (aL (cP 9 (jl 8 (kZ G) (bz (mL G (fY 4 G (bz aX)) (bz aX)))))) cU)
   (aL (bf (bM (az (bM (az (cI (wJ Z) G hr (cJ 5 (cJ 2 ao)) (bw (bw len0))) (cJ 2 ao))) (cJ 9 ao)))))))))))
theorem wu:bI afG Zq3 (aH lz):=jf
include Z in
theorem xV:Own P w K mg base "read_changing" 2 Zq3 (mK K 3 dh):=by
 exact dw (k:=1) Z.xP wu (λf cdv A outer s H E hr G=>(fM.u (aq (du (bJ 0)<|eE G (aF (aP 3) (aF (aP 4) (aF (aP 5) (aF (aP 6) bT)))))
   (aq (du (bJ 1) (eE G (aF (aP 7) (aF (aP 8) bT))))
   (aq (d8 (gH 8 (xZ G) (bz (cC []))) (aL (bf (bM (az (bM (cJ 7 (cJ 2 ao))) (az (cC []) ao))))) cU)
   (aq (cP 9 (bJ 8))
   (aq (d8 (pG (uF (jD (bJ 7)) (rD (jD (cI (wJ Z) G hr (cJ 6 (cJ 2 ao)) (bw (bw len0))))))) (aL (cP 9 (Vy G (Vz G Z.Xb (bD (cL 4))) (bJ 8) (bJ 8)))) cU)
   (aq (d8 (gH 3 (xZ G) (bz (cC [111,110,99,101]))) (aL (bf (bM (az (bM (az (cI (wJ Z) G hr (cJ 5 (cJ 8 ao)) (bw (bw len0))) (cJ 2 ao))) (cJ 9 ao))))) cU)
   (aq (d8 (gH 9 (xZ G) (bz (cC []))) (aL (bf (bM (az (bM (cJ 7 (cJ 2 ao))) (cJ 9 ao))))) cU)
   (aL (bf (bM (az (bM (az (cI (wJ Z) G hr (cJ 5 (cJ 9 ao)) (bw (bw len0))) (cJ 2 ao))) (cJ 9 ao))))))))))))))
theorem Bg:bI ["rule","standing","signs","puts","acting","sign","held","put"] Zq6 (aH oW):=jf
include Z in
theorem uL:Own P w K mg base "read_signs" 3 Zq6 (mK K 3 dR):=by
 exact dw (k:=2) Z.Dt Bg (λf cdv A outer s H E hr G=>(fM.u (aq (jC 3 (dU ao))
   (aq (cP 4 jE)
   (aq (oZ G (mq G (bJ 2)) (aP 5) (aq (cP 6 (fY 1 G (bz aX)))
   (aq (d8 (jD (cI (Pb Z) G hr (cJ 0 ao) (bw len0))) (aL (du (cI (uM Z) G hr (cJ 0 (cJ 1 (cJ 5 ao))) (bw (bw (bw len0)))) (eE G (aF (aP 1) (aF (aP 7) bT))))) (aL (du (cI (xV Z) G hr (cJ 0 (cJ 1 (cJ 5 ao))) (bw (bw (bw len0)))) (eE G (aF (aP 1) (aF (aP 7) bT))))))
   (aq (cP 4 (sZ (bJ 4) (kj (qZ 7 (acR G) (cL 6)))))
   (aL (nH 3 G (bJ 7)))))))
   (aL (bf (bM (cJ 1 (az (Lq G (cC []) (cL 3)) (cJ 4 ao)))))))))))
theorem G6:bI ["order","standing","sound","put","behind","acting","rule","own","new","acts_here"] Zq4 (aH sO):=jf
include Z in
theorem o6:Own P w K mg base "watch_on" 4 Zq4 (mK K 3 dH):=by
 exact dw (k:=3) Z.JV G6 (λf cdv A outer s H E hr G=>(fM.u (aq (cP 3 (bJ 2))
   (aq (jC 4 (dU ao))
   (aq (jC 5 (dU ao))
   (aq (oZ G (Uc G Z.Ti (az (cI (lB Z) G hr (cJ 0 ao) (bw len0)) (cJ 1 ao))) (eE G (aF (aP 6) (aF (aP 7) bT))) (aq (du (cI (uL Z) G hr (cJ 6 (cJ 7 (cJ 3 ao))) (bw (bw (bw len0)))) (eE G (aF (aP 8) (aF (aP 3) (aF (aP 9) bT)))))
   (aq (nH 4 G (bJ 8))
   (aL (nH 5 G (bJ 9))))))
   (aL (bf (bM (az (gk G Z.gm (bD (cL 4))) (cJ 3 (az (gk G Z.gm (bD (cL 5))) ao))))))))))))
theorem DQ:bI ["order","standing","put","acting","rule","own","new","acts_here"] ["order","standing"] (aH qd):=jf
include Z in
theorem qw:Own P w K mg base "watch_end" 4 ["order","standing"] (mK K 2 eQ):=by
 obtain⟨aad,aag,kJ⟩:=Z.kJ;exact dw (k:=3) Z.GF DQ (λf cdv A outer s H E hr G=>(fM.u (aq (cP 2 (cC []))
   (aq (jC 3 (dU ao))
   (aq (oZ G (Uc G Z.Ti (az (cI (lB Z) G hr (cJ 0 ao) (bw len0)) (cJ 1 ao))) (eE G (aF (aP 4) (aF (aP 5) bT))) (aq (du (cI (uL Z) G hr (cJ 4 (cJ 5 (az (jl 2 (kZ G) (bz (yW (.str [35]) rfl kJ.1 kJ.2.1 (λF=>kJ.2.2 F)))) ao))) (bw (bw (bw len0)))) (eE G (aF (aP 6) (aF (aP 2) (aF (aP 7) bT)))))
   (aL (nH 3 G (bJ 7)))))
   (aL (bf (bM (cJ 2 (az (gk G Z.gm (bD (cL 3))) ao))))))))))
theorem Ka:bI ["order","standing","sound","behind","put","acting"] Zq4 (aH wA):=jf
include Z in
theorem O9:Own P w K mg base "read_on" 5 Zq4 (mK K 3 ju):=by
 exact dw (k:=4) Z.Oa Ka (λf cdv A outer s H E hr G=>(fM.u (aq (du (cI (o6 Z) G hr (cJ 0 (cJ 1 (cJ 2 ao))) (bw (bw (bw len0)))) (eE G (aF (aP 3) (aF (aP 4) (aF (aP 5) bT)))))
   (aL (bf (bM (cJ 3 (cJ 4 ao))))))))
theorem G7:bI ["stock","order","found","places","rows","steps","sound","behind","put"] Zq2 (aH sS):=jf
include Z in
theorem Ks:Own P w K mg base "readings" 6 Zq2 (mK K 2 j6):=by
 obtain⟨NT,NZ,fV⟩:=Z.fV;exact dw (k:=5) Z.JW G7 (λf cdv A outer s H E hr G=>(fM.u (aq (jC 2 (dU (az (cI (iM Z) G hr (cJ 1 ao) (bw len0)) ao)))
   (aq (jC 3 (Cu G (fY 2 G (bz aX)) aX))
   (aq (jC 4 (dU ao))
   (aq (Hh 7000 G (p6 acS (iY G Z.jc (bD (cL 4))) (bz (iY G Z.jc (bD (cL 2))))) (aq (jC 5 (dU ao))
   (aq (oZ G (mq G (cI (xr Z) G hr (cJ 0 ao) (bw len0))) (aP 6) (aq (du (cI (O9 Z) G hr (cJ 1 (az (fY 2 G (bz (iY G Z.jc (bD (cL 4))))) (cJ 6 ao))) (bw (bw (bw len0)))) (eE G (aF (aP 7) (aF (aP 8) bT))))
   (aq (d8 (gH 7 (U5 G) (cL 3)) (aq (Hi 3 G (bJ 7) (iY G Z.jc (bD (cL 2))))
   (aL (nH 2 G (bJ 7)))) cU)
   (aL (nH 5 G (bM (cJ 8 (az (QJ 3 G (cL 7)) ao))))))))
   (aq (d8 (p6 ahG (iY G Z.jc (bD (cL 2))) (bz (yW (.int 600) rfl fV.1 fV.2.1 (λF=>fV.2.2 F)))) (aL yV) cU)
   (aL (nH 4 G (gk G Z.gm (bD (cL 5)))))))))
   (aL (bf (bM (cJ 2 (cJ 4 ao)))))))))))
theorem DR:bI Zq2 Zq2 (aH qe):=jf
include Z in
theorem Hy:Own P w K mg base "standings" 7 Zq2 (mK K 2 iH):=by exact dw Z.GJ DR<|λf cdv A outer s H E hr G=>(fM.u<|aL<|bf<|gk G Z.gm<|bD<|bz<|QG G Z.wK<|bD<|bz<|mL G (cI (Ks Z) G hr (cJ 0<|cJ 1 ao)<|bw<|bw len0)<|bz aX)
theorem xR:bI ["side","read"] ["side","read"] (aH lX):=jf
include Z in
theorem zg:Own P w K mg base "as_it_stands" 1 ["side","read"] (mK K 2 gr):=by exact dw Z.yG xR<|λf cdv A outer s H E hr G=>(fM.u<|aL<|bf<|aaM (gH 0 (xZ G)<|bz<|cC [114,105,103,104,116]) (Z5<|bJ 1)<|bJ 1)
theorem Bd:jx ["place","sound","order","number","standing","put","acting"] ["place","sound"] (freeOf dg) (aH dg):=Ex
include Z in
theorem Ey:qY P w K mg base 5 dg pC:=by
 exact FJ (k:=4) Bd rfl (λus hl=>match us,hl with|[_,_],_=>rfl) (λq f cdv cl A outer s H E hr G=>(fM.u (aq (du (cI (o6 Z) G hr (cJ 2 (az (fY 0 G (bz aX)) (cJ 1 ao))) (bw (bw (bw len0)))) (eE G (aF (aP 4) (aF (aP 5) (aF (aP 6) bT)))))
   (aL (bf (bM (cJ 4 (az (fY 6 G (cL 3)) ao))))))))
theorem yI:jx ["place","order","number","standing","acting_so_far"] ["place"] (freeOf cQ) (aH cQ):=Ex
include Z in
theorem Bp:qY P w K mg base 5 cQ nQ:=by
 exact FJ (k:=4) yI rfl (λus hl=>match us,hl with|[_],_=>rfl) (λq f cdv cl A outer s H E hr G=>(fM.u (aq (du (bJ 0) (eE G (aF (aP 3) (aF (aP 4) bT))))
   (aL (bf (sZ (bJ 4) (kj (mL G (mL G (cI (qw Z) G hr (cJ 1 (cJ 3 ao)) (bw (bw len0))) (bz aX)) (cL 2)))))))))
theorem ou:jx ["row","sound","itself","both","standing","own","so_far","own_so_far","put","acting","own_acting"] ["row","sound"] (freeOf bG) (aH bG):=Ex
include Z in
theorem o7:qY P w K mg base 5 bG gP:=by
 exact FJ (k:=4) ou rfl (λus hl=>match us,hl with|[_,_],_=>rfl) (λq f cdv cl A outer s H E hr G=>(fM.u (aq (du (bJ 0) (eE G (aF (aP 4) (aF (aP 5) (aF (aP 6) (aF (aP 7) bT))))))
   (aq (du (cI (o6 Z) G hr (cJ 3 (cJ 4 (cJ 1 ao))) (bw (bw (bw len0)))) (eE G (aF (aP 4) (aF (aP 8) (aF (aP 9) bT)))))
   (aq (du (cI (o6 Z) G hr (cJ 2 (cJ 5 (cJ 1 ao))) (bw (bw (bw len0)))) (eE G (aF (aP 5) (aF (aP 8) (aF (aP 10) bT)))))
   (aL (bf (bM (cJ 4 (cJ 5 (az (sZ (bJ 6) (kj (fY 9 G (bz aX)))) (az (sZ (bJ 7) (kj (fY 10 G (bz aX)))) ao))))))))))))
theorem nD:jx ["row","itself","both","behind","alone","standing","own","so_far","own_so_far","at_end","own_at_end"] ["row"] (freeOf bC) (aH bC):=Ex
include Z in
theorem oH:qY P w K mg base 5 bC gB:=by
 exact FJ (k:=4) nD rfl (λus hl=>match us,hl with|[_],_=>rfl) (λq f cdv cl A outer s H E hr G=>(fM.u (aq (du (bJ 0) (eE G (aF (aP 5) (aF (aP 6) (aF (aP 7) (aF (aP 8) bT))))))
   (aq (cP 9 (sZ (bJ 7) (kj (mL G (mL G (cI (qw Z) G hr (cJ 2 (cJ 5 ao)) (bw (bw len0))) (bz aX)) (bz aX)))))
   (aq (cP 10 (sZ (bJ 8) (kj (mL G (mL G (cI (qw Z) G hr (cJ 1 (cJ 6 ao)) (bw (bw len0))) (bz aX)) (bz aX)))))
   (aL (bf (El (qZ 9 (xZ G) (cL 3)) (kj (qZ 10 (xZ G) (cL 4)))))))))))
include Z in
theorem Kq:∀st lD ds d,BP st lD ds=some d->qY P w K mg base 5 st (BP st):=by
 intro st lD ds d e;by_cases h0:st=dg;have z:BP st=pC:=by unfold BP;rw[if_pos h0]
 rw[z,h0];exact(Ey Z).mono (by decide)
 ;by_cases h1:st=cQ;have z:BP st=nQ:=by unfold BP;rw[if_neg h0,if_pos h1]
 rw[z,h1];exact(Bp Z).mono (by decide)
 ;by_cases h2:st=bG;have z:BP st=gP:=by unfold BP;rw[if_neg h0,if_neg h1,if_pos h2]
 rw[z,h2];exact(o7 Z).mono (by decide)
 ;by_cases h3:st=bC;have z:BP st=gB:=by unfold BP;rw[if_neg h0,if_neg h1,if_neg h2,if_pos h3]
 rw[z,h3];exact(oH Z).mono (by decide);unfold BP at e;rw[if_neg h0,if_neg h1,if_neg h2,if_neg h3] at e;cases e
theorem wj:bI ["stock","side","first","lead","shows","places","words","known","at","sound","place"] Zq7 (aH lq):=jf
include Z in
theorem pK:Own P w K mg base "shortest_word" 6 Zq7 (mK K 5 gW):=by
 exact dw (k:=5) Z.xN wj (λf cdv A outer s H E hr G=>(fM.u (aq (d8 (jD (JM 4 (Kq Z) G hr (by rfl) (cJ 2 ao))) (aL (bf (cC []))) cU)
   (aq (jC 5 (dU (cJ 2 ao)))
   (aq (jC 6 (dU (az (cC []) ao)))
   (aq (jC 7 (Cu G (bJ 2) jE))
   (aq (cP 8 aX)
   (aq (Hh 7000 G (gH 8 acS (bz (iY G Z.jc (bD (cL 5))))) (aq (oZ G (mq G (cI (xr Z) G hr (cJ 0 ao) (bw len0))) (aP 9) (aq (cP 10 (JM 3 (Kq Z) G hr (by rfl) (az (fY 5 G (cL 8)) (cJ 9 ao))))
   (aq (d8 (pG (Ej (gH 10 Qj (bz iK)) (yU (gH 10 (afB G) (cL 7))))) (aL Bl) cU)
   (aq (d8 (jD (JM 4 (Kq Z) G hr (by rfl) (cJ 10 ao))) (aL (bf (cI (zg Z) G hr (cJ 1 (az (iD (kZ G) (fY 6 G (cL 8)) (cL 9)) ao)) (bw (bw len0))))) cU)
   (aq (Hi 7 G (bJ 10) jE)
   (aq (nH 5 G (bJ 10))
   (aL (nH 6 G (iD (kZ G) (fY 6 G (cL 8)) (cL 9))))))))))
   (aL (aaB 8 aX))))
   (aL (bf iK))))))))))
theorem V5:bI ["stock","order","number","lead","shows"] Zq8 (aH Ke):=jf
include Z BB in
theorem zj:Own P w K mg base "acts" 8 Zq8 (spT (lJ K tabs) (mK K 3 mz)):=by
 exact CJ (k:=7) Z.aao V5 (λf A outer s H E hT hr G=>(fM.u (aq (d8 (pG (Ej (Hm (jD (cI (Ku Z) G hr (cJ 2 ao) (bw len0)))) (yU (Hm (Q8 afA acS aX (bJ 2) (iY G Z.jc (bD (bz (fY 1 G (bz aX)))))))))) (aL yV) cU)
   (aq (Oo (cI (Hy Z) G hr (cJ 0 (cJ 1 ao)) (bw (bw len0))))
   (Nk (qs:=mR) (c0:=(gG K "acts").1) (P:=(gG K "acts").2) G (BB _ Yh) rfl (hT _ _ VL) (Nj rfl Qqj Bu) (Nj rfl (Qqq _ Qqj) zK) (pK Z) hr (by rfl) (bJ 0) (fY 1 G (bz aX)) (bM (az (cI (iM Z) G hr (cJ 1 ao) (bw len0)) (az jE ao))))))))
theorem uz:bI ["stock","side","rule","other","behind","alone","both","itself","lead","shows"] Zq9 (aH jW):=jf
include Z BB in
theorem oG:Own P w K mg base "shortest_where" 7 Zq9 (spT (lJ K tabs) (mK K 6 gq)):=by
 exact CJ (k:=6) Z.vW uz (λf A outer s H E hT hr G=>(fM.u (aq (cP 6 (bM (cJ 1 (az (bM (cJ 2 (cJ 3 ao))) ao))))
   (aq (cP 7 (bM (cJ 1 (az (bM (cJ 3 ao)) ao))))
   (Nk (qs:=cX) (c0:=(gG K "shortest_where").1) (P:=(gG K "shortest_where").2) G (BB _ vh) rfl (hT _ _ (um Z.tne)) (Nj rfl Qqj oJ) (Nj rfl (Qqq _ Qqj) nM) (pK Z) hr (by rfl) (bJ 0) (bJ 1) (bM (az (cI (iM Z) G hr (cJ 6 ao) (bw len0)) (az (cI (iM Z) G hr (cJ 7 ao) (bw len0)) (az jE (az jE ao))))))))))
theorem DX:bI ZZ ZZ (aH qi):=jf
include Z BB in
theorem HB:Own P w K mg base "makes_way" 8 ZZ (spT (lJ K tabs) (mK K 4 qM)):=by exact CG Z.GP DX<|λf cdv A outer s H E hT hr G=>(fM.u<|aL<|bf<|lH (oG Z BB) hT (ig K tabs) G hr (cJ 0<|cJ 1<|cJ 2<|cJ 3<|az jE<|az jE ao)<|bw<|bw<|bw<|bw<|bw<|bw len0)
theorem Bf:bI ZZ ZZ (aH oV):=jf
include Z BB in
theorem Es:Own P w K mg base "takes_from" 8 ZZ (spT (lJ K tabs) (mK K 4 ph)):=by exact CG Z.Ds Bf<|λf cdv A outer s H E hT hr G=>(fM.u<|aL<|bf<|lH (oG Z BB) hT (ig K tabs) G hr (cJ 0<|cJ 1<|cJ 2<|cJ 3<|az jE<|az jE ao)<|bw<|bw<|bw<|bw<|bw<|bw len0)
theorem Ec:bI ["_law_cell"] ["_law_cell"] (aH qp):=jf
include Z in
theorem HH:Own P w K mg base "_law_mixed" 1 ["_law_cell"] (mK K 1 iI):=by exact dw Z.GZ Ec<|λf cdv A outer s H E hr G=>(fM.u<|aL<|bf<|iD afF (jl 0 U7<|bz aX)<|bz<|iD ZS aX<|bz aX)
theorem Hd:bI ["_law_script","_law_k","_law_found","_law_at"] ["_law_script","_law_k"] (aH sW):=jf
include Z in
theorem zf:Own P w K mg base "_law_pack" 2 ["_law_script","_law_k"] (spN K 2 my):=by
 exact WW (k:=1) Z.J0 Hd (λf cdv A outer s H E hr G=>(fM.u (aq (cP 2 aX)
   (aq (oZ G (mq G (gQ (dU (az (jl 1 (kZ G) (bz aX)) (cJ 1 ao))))) (aP 3) (aL (cP 2 (iD (kZ G) (jl 2 U7 (bz (iD ZS aX (bz aX)))) (bz (cI (HH Z) G hr (az (mL G (iD (kZ G) (YF G (bJ 0) (oF (bJ 3)) (oF (jl 3 (kZ G) (bz aX)))) (bz (gQ (dU (az (iD (kZ G) (iD U7 aX (cL 3)) (bz aX)) ao))))) (bz aX)) ao) (bw len0)))))))
   (aL (Hn (dU (cJ 2 ao))))))))
theorem G8:bI ["_law_pack_here","_law_size","_law_digit"] ac2 (aH sU):=jf
include Z in
theorem d9:Own P w K mg base "_law_take" 1 ac2 (sI K 2 aV):=by
 exact wI (k:=0) Z.JX G8 (λf cdv A outer s H E a hr G=>(fM.u (aq (du (NP G Z.Pg (Km (fY 0 G (bz aX)) (bD (cL 1)))) (eE G (aF (afk 0 aX) (aF (aP 2) bT))))
   (aL (bf (bJ 2))))))
theorem DY:bI ["_law_pack_here","_law_sounds_here","_law_known","_law_found","_law_sound","_law_number","_law_marks"] ["_law_pack_here"] (aH qj):=jf
include Z in
theorem HD:Own P w K mg base "_law_stock" 2 ["_law_pack_here"] (sI K 1 mZ):=by
 exact wI (k:=1) Z.GQ DY (λf cdv A outer s H E a hr G=>(fM.u (aq (cP 1 (mL G (gQ (Xd (lO (cC [97]) (lO (cC [97,98]) (lO (cC [97,98]) (lO (cC [97,98,99]) (lO (cC [97,101,112,116]) (lO (cC [109,110,122]) RW)))))))) (bz (jy 0 (d9 Z) G hr (az aX ao) (jt (bw len0))))))
   (aq (cP 2 (gQ (dU (az (cC [115,116,111,112]) (az (cC [115,116,111,112,115]) (az (cC [115]) (az (cC [111,112,101,110]) (az (cC [97,98,99,100,101,102,103,104]) ao))))))))
   (aq (jC 3 (dU ao))
   (aq (oZ G (mq G (bJ 1)) (aP 4) (aq (cP 5 (jy 0 (d9 Z) G hr (az aX ao) (jt (bw len0))))
   (aq (cP 6 (BW G Z.wK (bD (bz (gQ (xx ["_law_pack_here","_law_sounds_here","_law_known","_law_found","_law_sound","_law_number","_law_marks","_law_k"] 7 pA G (uT Z.qz (az aX ao) (bw len0)) (λX1 h1=>by have G:=G.at h1;obtain⟨_,_,_,_,_,rfl⟩:=h1;exact(aP 7)) (λX1 h1=>by have G:=G.at h1;obtain⟨_,_,_,_,_,rfl⟩:=h1;exact(wF (p6 (xZ G) (iD ZV (jl 5 ZR (cL 7)) (bz aX)) (bz aX)))) (λX1 h1=>by have G:=G.at h1;obtain⟨_,_,_,_,_,rfl⟩:=h1;exact(fY 2 G (cL 7)))))))))
   (aL (nH 3 G (bM (cJ 4 (az (gk G Z.gm (bD (bz (YF G (bJ 6) wD (oF aX))))) ao))))))))
   (aL (bf (gk G Z.gm (bD (cL 3)))))))))))
theorem Bh:bI Zq5 Zq5 (aH oX):=jf
include Z in
theorem Et:Own P w K mg base "_law_sounds" 1 Zq5 (mK K 1 lM):=by exact dw Z.Du Bh<|λf cdv A outer s H E hr G=>(fM.u<|aL<|bf<|Lq G (cC [])<|bz<|gQ<|xx ["_law_stock_here","_law_sound","_law_marks"] 1 pA G (mq G<|bJ 0) (λX1 h1=>by have G:=G.at h1;obtain⟨_,_,_,_,_,rfl⟩:=h1;exact(eE G<|aF (aP 1)<|aF (aP 2) bT)) (λX1 h1=>by have G:=G.at h1;obtain⟨_,_,_,_,_,rfl⟩:=h1;exact lQ) (λX1 h1=>by have G:=G.at h1;obtain⟨_,_,_,_,_,rfl⟩:=h1;exact(bJ 1)))
theorem Ea:bI ["_law_pack_here","_law_sounds_here","_law_number","_law_signs_here"] Yq (aH ql):=jf
include Z in
theorem xu:Own P w K mg base "_law_signs" 2 Yq (sI K 2 dW):=by
 exact wI (k:=1) Z.GR Ea (λf cdv A outer s H E a hr G=>(fM.u (aq (d8 (p6 (xZ G) (jy 0 (d9 Z) G hr (az aX ao) (jt (bw len0))) (bz aX)) (aL (bf iK)) cU)
   (aq (cP 2 (iD (kZ G) aX (bz (jy 0 (d9 Z) G hr (az (iD afD (iD afE aX (bz (iY G Z.jc (bD (cL 1))))) (bz aX)) ao) (jt (bw len0))))))
   (aq (cP 3 (iD (kZ G) (cC [35]) (cL 1)))
   (aL (bf (gk G Z.gm (bD (bz (gQ (xx ["_law_pack_here","_law_sounds_here","_law_number","_law_signs_here","_law_k"] 4 pA G (uT Z.qz (az (iY G Z.jc (bD (cL 3))) ao) (bw len0)) (λX1 h1=>by have G:=G.at h1;obtain⟨_,_,_,_,_,rfl⟩:=h1;exact(aP 4)) (λX1 h1=>by have G:=G.at h1;obtain⟨_,_,_,_,_,rfl⟩:=h1;exact(wF (p6 (xZ G) (iD ZV (jl 2 ZR (cL 4)) (bz aX)) (bz aX)))) (λX1 h1=>by have G:=G.at h1;obtain⟨_,_,_,_,_,rfl⟩:=h1;exact(fY 3 G (cL 4)))))))))))))))
theorem yM:bI ["_law_pack_here","_law_sounds_here","_law_found","_law_turn","_law_one","_law_others"] Yq (aH nG):=jf
include Z in
theorem Bm:Own P w K mg base "_law_changes" 2 Yq (sI K 2 eU):=by
 exact wI (k:=1) Z.Bc yM (λf cdv A outer s H E a hr G=>(fM.u (aq (d8 (p6 (xZ G) (jy 0 (d9 Z) G hr (az aX ao) (jt (bw len0))) (bz aX)) (aL (bf (bM (az (bM (az (cC []) (az (fY 1 G (bz (jy 0 (d9 Z) G hr (az (iY G Z.jc (bD (cL 1))) ao) (jt (bw len0))))) ao))) ao)))) cU)
   (aq (jC 2 Oq)
   (aq (oZ G (uT Z.qz (az (iD (kZ G) aX (bz (jy 0 (d9 Z) G hr (az aX ao) (jt (bw len0))))) ao) (bw len0)) (aP 3) (aq (cP 4 (fY 1 G (bz (jy 0 (d9 Z) G hr (az (iY G Z.jc (bD (cL 1))) ao) (jt (bw len0))))))
   (aq (ad1 ["_law_pack_here","_law_sounds_here","_law_found","_law_turn","_law_one","_law_others","_law_sound"] 6 5 pA G (mq G (iD (kZ G) (Vx G Z.Xa (bD (cL 1))) (bz (gQ (dU (az (cC []) ao)))))) (λX1 h1=>by have G:=G.at h1;obtain⟨_,_,_,_,_,rfl⟩:=h1;exact(aP 6)) (λX1 h1=>by have G:=G.at h1;obtain⟨_,_,_,_,_,rfl⟩:=h1;exact(wF (gH 6 (acR G) (cL 4)))) (λX1 h1=>by have G:=G.at h1;obtain⟨_,_,_,_,_,rfl⟩:=h1;exact(bJ 6)))
   (aL (V6 2 G (bJ 4) (fY 5 G (bz (jy 0 (d9 Z) G hr (az (iY G Z.jc (bD (cL 5))) ao) (jt (bw len0))))))))))
   (aL (bf (gk G Z.gm (bD (bz (gQ (xx ["_law_pack_here","_law_sounds_here","_law_found","_law_turn","%4","_law_others","_law_one"] 6 pA G (mq G (BW G Z.wK (bD (cL 2)))) (λX1 h1=>by have G:=G.at h1;obtain⟨_,_,_,_,_,rfl⟩:=h1;exact(aP 6)) (λX1 h1=>by have G:=G.at h1;obtain⟨_,_,_,_,_,rfl⟩:=h1;exact lQ) (λX1 h1=>by have G:=G.at h1;obtain⟨_,_,_,_,_,rfl⟩:=h1;exact(bM (cJ 6 (az (QK 2 G (cL 6)) ao))))))))))))))))
theorem G9:bI ["_law_pack_here","_law_sounds_here","_law_how","_law_changes_here"] Yq (aH sV):=jf
include Z in
theorem tD:Own P w K mg base "_law_rule" 3 Yq (sI K 2 gM):=by
 exact wI (k:=2) Z.JZ G9 (λf cdv A outer s H E a hr G=>(fM.u (aq (cP 2 (mL G (gQ (dU (az (cC [111,110,99,101]) (az (cC [97,108,111,110,103]) ao)))) (bz (jy 0 (d9 Z) G hr (az aX ao) (jt (bw len0))))))
   (aq (cP 3 (jy 0 (Bm Z) G hr (cJ 1 ao) (jt (bw len0))))
   (aL (bf (bM (cJ 2 (cJ 3 (az (jy 0 (xu Z) G hr (cJ 1 ao) (jt (bw len0))) (az (jy 0 (xu Z) G hr (cJ 1 ao) (jt (bw len0))) ao)))))))))))
theorem Eb:bI ["_law_pack_here","_law_sounds_here","_law_most","_law_side"] ac1 (aH qm):=jf
include Z in
theorem HF:Own P w K mg base "_law_order" 4 ac1 (sI K 3 m5):=by
 exact wI (k:=3) Z.GX Eb (λf cdv A outer s H E a hr G=>(fM.u (aq (cP 3 (mL G (gQ (dU (az (cC [108,101,102,116]) (az (cC [114,105,103,104,116]) ao)))) (bz (jy 0 (d9 Z) G hr (az aX ao) (jt (bw len0))))))
   (aL (bf (bM (cJ 3 (az (gk G Z.gm (bD (bz (gQ (xx ["_law_pack_here","_law_sounds_here","_law_most","_law_side","_law_turn"] 4 pA G (uT Z.qz (az (jy 0 (d9 Z) G hr (az (jl 2 (kZ G) (bz aX)) ao) (jt (bw len0))) ao) (bw len0)) (λX1 h1=>by have G:=G.at h1;obtain⟨_,_,_,_,_,rfl⟩:=h1;exact(aP 4)) (λX1 h1=>by have G:=G.at h1;obtain⟨_,_,_,_,_,rfl⟩:=h1;exact lQ) (λX1 h1=>by have G:=G.at h1;obtain⟨_,_,_,_,_,rfl⟩:=h1;exact(jy 0 (tD Z) G hr (cJ 1 ao) (jt (bw len0))))))))) ao))))))))
theorem Bj:bI ["_law_word"] ["_law_word"] (aH oY):=jf
include Z in
theorem uN:Own P w K mg base "_law_length" 1 ["_law_word"] (mK K 1 iR):=by
 exact dw (k:=0) Z.Dv Bj (λf cdv A outer s H E hr G=>(fM.u (aq (d8 (gH 0 Qj (bz iK)) (aL (bf iK)) cU)
   (aL (bf (iY G Z.jc (bD (cL 0))))))))
theorem aaA:bI ["_law_script","_law_pack_here","_law_stock_here","_law_sounds_here","_law_side","_law_rules","_law_more","_law_number","_law_alone","_law_greater","_law_one","_law_other","_law_never","_law_way","_law_taking","_law_word"] ["_law_script"] (aH Rp):=jf
include Z BB in
theorem acC(F:Qn K "law" "law" Rp f fd):lE P w K mg base xg 9 f fd ["_law_script"] (spT (lJ K tabs) (mK K 1 M8)):=by
 exact wX (k:=8) F aaA (λcdv A outer s H E _ hT hr G=>(fM.u (aq (jC 1 (Tj (zf Z) G hr (cJ 0 (az aX ao)) (bw (bw len0))))
   (aq (cP 2 (jy 1 (HD Z) G hr ao (jt len0)))
   (aq (cP 3 (cI (Et Z) G hr (cJ 2 ao) (bw len0)))
   (aq (du (jy 1 (HF Z) G hr (cJ 3 (az aX ao)) (jt (bw (bw len0)))) (eE G (aF (aP 4) (aF (aP 5) bT))))
   (aq (cP 5 (jl 5 (kZ G) (bz (bM (az (jy 1 (tD Z) G hr (cJ 3 ao) (jt (bw len0))) ao)))))
   (aq (cP 6 (Z7 (tD Z) G hr (Tj (zf Z) G hr (cJ 0 (az aX ao)) (bw (bw len0))) (cJ 3 ao) (jt (bw len0))))
   (aq (oZ G (uT Z.qz (az (iY G Z.jc (bD (cL 5))) ao) (bw len0)) (aP 7) (aq (cP 8 (cI (uN Z) G hr (az (lH (zj Z BB) hT (ig K tabs) G hr (cJ 2 (az (bM (cJ 4 (az (QH G (bJ 5) wD (oF (jl 7 (kZ G) (bz aX)))) ao))) (cJ 7 ao))) (bw (bw (bw len0)))) ao) (bw len0)))
   (aq (cP 9 (bM (cJ 4 (az (QH G (jl 5 (kZ G) (bz (bM (cJ 6 ao)))) wD (oF aX)) ao))))
   (aL (d8 (p6 (acR G) (cI (uN Z) G hr (az (lH (zj Z BB) hT (ig K tabs) G hr (cJ 2 (cJ 9 (cJ 7 ao))) (bw (bw (bw len0)))) ao) (bw len0)) (cL 8)) (aL (bf jE)) cU)))))
   (aq (Ro 10 11 G (az (fY 5 G (bz (Z6 aX))) (cJ 6 ao)))
   (aq (cP 12 (JL Qj (lH (zj Z BB) hT (ig K tabs) G hr (cJ 2 (az (bM (cJ 4 (az (bM (cJ 10 ao)) ao))) (az aX ao))) (bw (bw (bw len0)))) (bz iK)))
   (aq (Ro 13 14 G (az (lH (HB Z BB) hT (ig K tabs) G hr (cJ 2 (cJ 4 (cJ 10 (cJ 11 ao)))) (bw (bw (bw (bw len0))))) (az (lH (Es Z BB) hT (ig K tabs) G hr (cJ 2 (cJ 4 (cJ 10 (cJ 11 ao)))) (bw (bw (bw (bw len0))))) ao)))
   (aq (d8 (pG (uF (jD (bJ 12)) (rD (pG (Ej (gH 13 yz (bz iK)) (yU (gH 14 yz (bz iK)))))))) (aL (bf jE)) cU)
   (aq (d8 (pG (uF (p6 Qj (lH (zj Z BB) hT (ig K tabs) G hr (cJ 2 (az (bM (cJ 4 (az (bM (cJ 11 ao)) ao))) (az aX ao))) (bw (bw (bw len0)))) (bz iK)) (rD (gH 14 yz (bz iK))))) (aL (bf jE)) cU)
   (aq (d8 (gH 13 Qj (bz iK)) (aL (bf jE)) cU)
   (aq (cP 15 (lH (zj Z BB) hT (ig K tabs) G hr (cJ 2 (az (bM (cJ 4 (az (bM (cJ 10 (cJ 11 ao))) ao))) (az aX ao))) (bw (bw (bw len0)))))
   (aL (bf (El (qZ 15 yz (bz iK)) (kj (JL afA (iY G Z.jc (bD (cL 15))) (bz (iY G Z.jc (bD (cL 13)))))))))))))))))))))))))
end
end fD
namespace KB
section
variable{P:Type}(L:P->Nat->P)(S:P->Bool)(x:List Nat)(p0:P)
noncomputable def pl(w:List Nat):P:=w.foldl L p0
theorem mV(w)(a):pl L p0 (w++[a])=L (pl L p0 w) a:=by unfold pl;rw[List.foldl_append];rfl
structure Gr(n:Nat)(ps:List P)(ws:List (List Nat)):Prop where
 len:ws.length=ps.length
 nd:ps.Nodup
 z0:ps[0]?=some p0
 w0:ws[0]?=some []
 plo:∀(i:Nat) p w,ps[i]?=some p->ws[i]?=some w->pl L p0 w=p/\(∀a∈w,a∈x)/\w.length<=i
 sf:∀p∈ps,S p=false
 mono:∀(i j:Nat) v w,i<=j->ws[i]?=some v->ws[j]?=some w->v.length<=w.length
 clo:∀(i:Nat) p w a,i<n->ps[i]?=some p->ws[i]?=some w->a∈x->∃(j:Nat) (v:List Nat),ps[j]?=some (L p a)/\ws[j]?=some v/\v.length<=w.length+1
 last:∀w,ws[n]?=some w->∀(j:Nat) v,ws[j]?=some v->v.length<=w.length+1
variable{L S x p0}
theorem jh{α:Type}{l:List α}{a b:α}(h:(l++[a])[i]?=some b):l[i]?=some b\/(i=l.length/\b=a):=by
 by_cases hi:i<l.length;rw[Qw7 hi] at h;exact .inl h;rw[Qx4 (by omega)] at h;have:i - l.length=0:=by
  have:=(Qqy.mp h).1;rw[Qw1] at this;omega
 rw[this] at h;cases h;exact .inr ⟨by omega,rfl⟩
theorem lL{α:Type}{l:List α}{a b:α}{i:Nat}(h:l[i]?=some b):(l++[a])[i]?=some b:=by rw[Qw7 (Qqy.mp h).1];exact h
theorem MP{α:Type}{l:List α}{a:α}:(l++[a])[l.length]?=some a:=by rw[Qx4 (Qq1 _),Nat.sub_self];rfl
theorem Gr.start(h:S p0=false):Gr L S x p0 0 [p0] [[]]:=by
 have one:∀{α:Type} {a b:α} {i:Nat},[a][i]?=some b->i=0/\b=a:=λ{α a b i} h=>by
  cases i with
  |zero=>cases h;exact⟨rfl,rfl⟩|succ i=>simp at h
 refine⟨rfl,Qxk.mpr ⟨by simp,.nil⟩,rfl,rfl,λi p w h1 h2=>?_,λp hp=>?_,λi j v w _ h1 h2=>?_,λi p w a hi=>absurd hi (Qj5 _),λw h1 j v h2=>?_⟩;obtain⟨rfl,rfl⟩:=one h1;obtain⟨_,rfl⟩:=one h2;exact⟨rfl,λa ha=>by simp at ha,Qq1 _⟩;rw[Qq2.mp hp];exact h;obtain⟨_,rfl⟩:=one h1;exact Qx0 _;obtain⟨_,rfl⟩:=one h2;exact Qx0 _
theorem Gr.add(B:Gr L S x p0 n ps ws)(hp:ps[n]?=some p)(hw:ws[n]?=some w)(ha:a∈x)(hn:L p a ∉ ps)(hs:S (L p a)=false) :
  Gr L S x p0 n (ps++[L p a]) (ws++[w++[a]]):=by
 have hn1:=(Qqy.mp hp).1;obtain⟨q1,q2,q3⟩:=B.plo n p w hp hw;refine⟨by rw[Qqk,Qqk,B.len];rfl,?_,lL B.z0,lL B.w0,λi q v h1 h2=>?_,λq hq=>?_,λi j v u hij h1 h2=>?_,λi q v b hi h1 h2 hb=>?_,λv h1 j u h2=>?_⟩;rw[List.nodup_append];refine⟨B.nd,Qxk.mpr ⟨by simp,.nil⟩,λy hy z hz e=>?_⟩;rw[Qq2.mp hz] at e;exact hn<|e ▸ hy;rcases jh h1 with h1|⟨e1,e2⟩;rcases jh h2 with h2|⟨e1,e2⟩;exact B.plo i q v h1 h2;have:=(Qqy.mp h1).1;rw[B.len] at e1;omega;rcases jh h2 with h2|⟨_,e3⟩;have:=(Qqy.mp h2).1;rw[B.len] at this;omega;subst e2 e3;refine⟨by rw[mV,q1],λb hb=>?_,by rw[Qqk,Qw1];omega⟩;rcases Qww.mp hb with hb|hb;exact q2 b hb;rw[Qq2.mp hb];exact ha;rcases Qww.mp hq with hq|hq;exact B.sf q hq;rw[Qq2.mp hq];exact hs;rcases jh h1 with h1|⟨e1,e2⟩;rcases jh h2 with h2|⟨e3,e4⟩;exact B.mono i j v u hij h1 h2;subst e4;rw[Qqk,Qw1];exact B.last w hw i v h1;rcases jh h2 with h2|⟨e3,e4⟩;have:=(Qqy.mp h2).1;omega;subst e2 e4;exact Qq1 _;have hi1:i<ps.length:=by omega
 rcases jh h1 with h1|⟨e1,_⟩;rcases jh h2 with h2|⟨e1,_⟩;obtain⟨j,u,g1,g2,g3⟩:=B.clo i q v b hi h1 h2 hb;exact⟨j,u,lL g1,lL g2,g3⟩;rw[B.len] at e1;omega;omega;have h1':ws[n]?=some v:=by
  rcases jh h1 with h1|⟨e1,_⟩;exact h1;rw[B.len] at e1;omega
 rw[hw] at h1';cases h1';rcases jh h2 with h2|⟨_,e4⟩;exact B.last w hw j u h2;subst e4;rw[Qqk];exact Qq1 _
theorem Gr.next(B:Gr L S x p0 n ps ws)(hp:ps[n]?=some p)(hw:ws[n]?=some w)
  (hc:∀a∈x,∃(j:Nat) (v:List Nat),ps[j]?=some (L p a)/\ws[j]?=some v/\v.length<=w.length+1):Gr L S x p0 (n+1) ps ws:=by
 refine⟨B.len,B.nd,B.z0,B.w0,B.plo,B.sf,B.mono,λi q v a hi h1 h2 ha=>?_,λu hu j v hv=>?_⟩;by_cases hin:i=n;subst hin;rw[hp] at h1;cases h1;rw[hw] at h2;cases h2;exact hc a ha;exact B.clo i q v a (by omega) h1 h2 ha;have h1:=B.last w hw j v hv;have h2:=B.mono n (n+1) w u (by omega) hw hu;omega
theorem Gr.found(B:Gr L S x p0 n ps ws)(hw:ws[n]?=some w) :
  ∀m v,v.length=m->(∀a∈v,a∈x)->v.length<=w.length->∃(j:Nat) (u:List Nat),ps[j]?=some (pl L p0 v)/\ws[j]?=some u/\u.length<=v.length:=by
 intro m;induction m with
 |zero=>intro v hv _ _;have:v=[]:=List.length_eq_zero_iff.mp hv;subst this;exact⟨0,[],B.z0,B.w0,Qq1 _⟩
 |succ m ih=>
  intro v hv hx hl;rcases List.eq_nil_or_concat v with rfl|⟨v',a,rfl⟩;simp at hv;rw[List.concat_eq_append] at *;rw[Qqk,Qw1] at hv hl;obtain⟨i,u,g1,g2,g3⟩:=ih v' (by omega) (λb hb=>hx b (Qzv _ hb)) (by omega);have hin:i<n:=by
   by_cases h:i<n;exact h;have:=B.mono n i w u (by omega) hw g2;omega
  obtain⟨j,t,k1,k2,k3⟩:=B.clo i _ u a hin g1 g2 (hx a (Qxx _ (Qq2.mpr rfl)));exact⟨j,t,by rw[mV];exact k1,k2,by rw[Qqk,Qw1];omega⟩
theorem Gr.least(B:Gr L S x p0 n ps ws)(hw:ws[n]?=some w)(v)(hx:∀a∈v,a∈x)(hl:v.length<w.length+1):S (pl L p0 v)=false:=by obtain⟨j,u,g1,_⟩:=B.found hw v.length v rfl hx (by omega);exact B.sf _<|Qx7 g1
theorem Gr.none(B:Gr L S x p0 n ps ws)(hn:ps.length<=n):∀m v,v.length=m->(∀a∈v,a∈x)->pl L p0 v∈ps:=by
 intro m;induction m with
 |zero=>intro v hv _;have:=List.length_eq_zero_iff.mp hv;subst this;exact Qx7 B.z0
 |succ m ih=>
  intro v hv hx;rcases List.eq_nil_or_concat v with rfl|⟨v',a,rfl⟩;simp at hv;rw[List.concat_eq_append] at *;rw[Qqk,Qw1] at hv;obtain⟨i,hi⟩:=List.mem_iff_getElem?.mp<|ih v' (by omega) λb hb=>hx b<|Qzv _ hb;have hil:=(Qqy.mp hi).1;have ahk:i<ws.length:=by rw[B.len];exact hil
  have hw:=Qqv ahk;obtain⟨j,t,k1,_⟩:=B.clo i _ _ a (by omega) hi hw<|hx a<|Qxx _<|Qq2.mpr rfl;rw[mV];exact Qx7 k1
theorem qx{α:Type}[DecidableEq α]:∀(U ps:List α),ps.Nodup->(∀p∈ps,p∈U)->ps.length<=U.length
 |U,[],_,_=>Qx0 _
 |U,p::ps,hn,hs=>by
  have hp:=hs p<|Qqj ..;have h:=qx (U.erase p) ps (Qxk.mp hn).2 λq hq=>by
   have hne:q≠p:=λe=>(Qxk.mp hn).1<|e ▸ hq;exact(List.mem_erase_of_ne hne).mpr<|hs q<|Qqq _ hq
  have h2:=List.length_erase_of_mem hp;have h3:0<U.length:=List.length_pos_of_mem hp;rw[Qqw];omega
end
end KB
namespace vH
open Ev
noncomputable def jd:bO:=fD.jd
noncomputable def gO:LD:=bY 2 jd
noncomputable def gC:bO:=fD.gC
noncomputable def jJ:LD:=bY 5 gC
noncomputable def bU:bO:=aD (aW (aR 0) (cF 2 (aG (ak 1) (aG (ak 2) cG)))) (aD (gK (fL (aB tR 1 (Zw [114,105,103,104,116]))) (bA (au cV (aa (gY 3 4 (jn (aR 2)) (ak 3) fK (au jJ (Zv 3 aj))) aj))) cT) (bA (aR 2)))
noncomputable def cj:LD:=bY 3 bU
noncomputable def cu:bO:=bA (au cV (aa (gY 1 5 (jn (au cj (Zv 0 aj))) (cF 4 (aG (ak 1) (aG (ak 2) (aG (ak 3) (aG (ak 4) cG))))) fK (bF (aa (au gO (Zv 3 (aa (Zw [35]) aj))) (aa (Zw []) aj)))) aj))
noncomputable def fC:bO:=fD.fC
noncomputable def aV:List D->Option (D×D):=iu 3 fC
noncomputable def jL:bO:=bA (aO qK (Zw []) (gY 1 3 (jn (aR 0)) (cF 2 (aG (ak 1) (aG (ak 2) cG))) fK (aR 1)))
noncomputable def eV:bO:=aD (gK (fL (aO tR (dI aV 0 (aa (Zi 2) aj)) (Zi 0))) (bA (jR .non)) cT) (aD (aW (aO dB (Zi 1) (dI aV 0 (aa (aO Ir (aO KJ (Zi 2) (au d7 (aa (aZ 1) aj))) (Zi 1)) aj))) (ak 2)) (aD (aW (aO dB (Zw [35]) (aZ 1)) (ak 3)) (bA (au cV (aa (gY 4 5 (jj (aa (au d7 (aa (aZ 3) aj)) aj)) (ak 4) (fL (aO tR (aO Bw (aB zL 2 (aZ 4)) (Zi 1)) (Zi 1))) (aB fj 3 (aZ 4))) aj)))))
noncomputable def dW:List D->Option (D×D):=iu 4 eV
noncomputable def dG:bO:=aD (gK (fL (aO tR (dI aV 0 (aa (Zi 5) aj)) (Zi 0))) (bA (bF (aa (bF (aa (Zw []) (aa (aB fj 1 (dI aV 0 (aa (au d7 (aa (aZ 1) aj)) aj))) aj))) aj))) cT) (aD (dF 2 (z6)) (aD (iW (jj (aa (aO dB (Zi 1) (dI aV 0 (aa (Zi 3) aj))) aj)) (ak 3) (aD (aW (aB fj 1 (dI aV 0 (aa (au d7 (aa (aZ 1) aj)) aj))) (ak 4)) (aD (dF 5 (gY 6 7 (jn (aO dB (au zM (aa (aZ 1) aj)) (cM (aa (Zw []) aj)))) (ak 6) (fL (aB MT 6 (aZ 4))) (aR 6))) (p8 2 (aR 4) (aB fj 5 (dI aV 0 (aa (au d7 (aa (aZ 5) aj)) aj))))))) (bA (au cV (aa (gY 6 7 (jn (au iB (aa (aZ 2) aj))) (ak 6) fK (bF (Zv 6 (aa (aB kY 2 (aZ 6)) aj)))) aj)))))
noncomputable def eU:List D->Option (D×D):=iu 6 dG
noncomputable def iJ:bO:=aD (aW (aO fj (cM (aa (Zw [111,110,99,101]) (aa (Zw [97,108,111,110,103]) aj))) (dI aV 0 (aa (Zi 2) aj))) (ak 2)) (aD (aW (dI eU 0 (Zv 1 aj)) (ak 3)) (bA (bF (Zv 2 (Zv 3 (aa (dI dW 0 (Zv 1 aj)) (aa (dI dW 0 (Zv 1 aj)) aj)))))))
noncomputable def pF:bO:=bA (bF (aa (aB fj 0 (Zi 0)) (aa (aB fj 0 (Zi 1)) (aa (aB fj 0 (Zi 3)) (aa (aB fj 0 (Zi 2)) aj)))))
end vH
namespace cR
open Ev
noncomputable def jd:bO:=fD.jd
noncomputable def gO:LD:=bY 2 jd
noncomputable def gC:bO:=fD.gC
noncomputable def jJ:LD:=bY 5 gC
noncomputable def il:bO:=fD.il
noncomputable def jw:LD:=bY 1 il
noncomputable def bU:bO:=vH.bU
noncomputable def cj:LD:=bY 3 bU
noncomputable def cu:bO:=vH.cu
noncomputable def aY:LD:=bY 1 cu
noncomputable def bW:bO:=fD.bW
noncomputable def cY:LD:=bY 10 bW
noncomputable def cH:bO:=fD.cH
noncomputable def dh:LD:=bY 10 cH
noncomputable def dJ:bO:=aD (dF 3 (cM aj)) (aD (aW (jR (.bl false)) (ak 4)) (aD (iW (jn (aR 2)) (ak 5) (aD (aW (aB fj 1 (Zi 1)) (ak 6)) (aD (gK (fL (au jw (Zv 0 aj))) (aW (au cY (Zv 0 (Zv 1 (Zv 5 aj)))) (cF 2 (aG (ak 1) (aG (ak 7) cG)))) (aW (au dh (Zv 0 (Zv 1 (Zv 5 aj)))) (cF 2 (aG (ak 1) (aG (ak 7) cG))))) (aD (aW (pP (aR 4) (aB MT 7 (aZ 6))) (ak 4)) (fU 3 (aR 7)))))) (bA (bF (Zv 1 (aa (aO qK (Zw []) (aZ 3)) (Zv 4 aj)))))))
noncomputable def dR:LD:=bY 8 dJ
noncomputable def fB:bO:=aD (aW (aR 2) (ak 3)) (aD (dF 4 (cM aj)) (aD (dF 5 (cM aj)) (aD (iW (zW (aa (au cj (Zv 0 aj)) (Zv 1 aj))) (cF 2 (aG (ak 6) (aG (ak 7) cG))) (aD (aW (au dR (Zv 6 (Zv 7 (Zv 3 aj)))) (cF 3 (aG (ak 8) (aG (ak 3) (aG (ak 9) cG))))) (aD (fU 4 (aR 8)) (fU 5 (aR 9))))) (bA (bF (aa (au cV (aa (aZ 4) aj)) (Zv 3 (aa (au cV (aa (aZ 5) aj)) aj))))))))
noncomputable def dH:LD:=bY 10 fB
noncomputable def m6:bO:=aD (aW (Zw []) (ak 2)) (aD (dF 3 (cM aj)) (aD (iW (zW (aa (au cj (Zv 0 aj)) (Zv 1 aj))) (cF 2 (aG (ak 4) (aG (ak 5) cG))) (aD (aW (au dR (Zv 4 (Zv 5 (aa (aB dB 2 (Zw [35])) aj)))) (cF 3 (aG (ak 6) (aG (ak 2) (aG (ak 7) cG))))) (fU 3 (aR 7)))) (bA (bF (Zv 2 (aa (au cV (aa (aZ 3) aj)) aj))))))
noncomputable def eQ:LD:=bY 8 m6
noncomputable def gD:bO:=fD.gD
noncomputable def ju:LD:=bY 6 gD
noncomputable def fC:bO:=fD.fC
noncomputable def aV:List D->Option (D×D):=iu 3 fC
noncomputable def eV:bO:=vH.eV
noncomputable def dW:List D->Option (D×D):=iu 4 eV
noncomputable def dG:bO:=vH.dG
noncomputable def eU:List D->Option (D×D):=iu 6 dG
noncomputable def iJ:bO:=vH.iJ
noncomputable def gM:List D->Option (D×D):=iu 4 iJ
noncomputable def m9:bO:=aD (aW (aO fj (cM (aa (Zw [108,101,102,116]) (aa (Zw [114,105,103,104,116]) aj))) (dI aV 0 (aa (Zi 2) aj))) (ak 3)) (bA (bF (Zv 3 (aa (au cV (aa (gY 4 5 (jj (aa (dI aV 0 (aa (aB dB 2 (Zi 1)) aj)) aj)) (ak 4) fK (dI gM 0 (Zv 1 aj))) aj)) aj))))
noncomputable def m5:List D->Option (D×D):=iu 4 m9
noncomputable def pF:bO:=vH.pF
noncomputable def Ft:LD:=bY 1 pF
end cR
namespace pI
open Ev
noncomputable def jd:bO:=fD.jd
noncomputable def gO:LD:=bY 2 jd
end pI
namespace Qy
open Ev
noncomputable def dX:bO:=bA (au cV (aa (gY 1 3 (jn (aR 0)) (cF 2 (aG (ak 1) (aG (ak 2) cG))) fK (aR 1)) aj))
end Qy
namespace jP
open Ev
noncomputable def dX:bO:=Qy.dX
noncomputable def cA:LD:=bY 1 dX
noncomputable def ni:bO:=fD.ni
noncomputable def iI:LD:=bY 1 ni
noncomputable def j7:bO:=aD (aW (Zi 0) (ak 2)) (aD (iW (jn (cM (aa (aB dB 1 (Zi 1)) (Zv 1 aj)))) (ak 3) (aW (aO dB (aB tQ 2 (aO KQ (Zi 10) (Zi 60))) (au iI (aa (aO fj (aO dB (zX (aR 0) (Gv (aR 3)) (Gv (aB dB 3 (Zi 1)))) (cM (aa (aO dB (aO tQ (Zi 7919) (aZ 3)) (Zi 61)) aj))) (Zi 0)) aj))) (ak 2))) (yH (cM (Zv 2 aj))))
noncomputable def my:LD:=runN 4 j7
noncomputable def fC:bO:=fD.fC
noncomputable def aV:List D->Option (D×D):=iu 3 fC
noncomputable def m8:bO:=aD (aW (aO fj (cM (aa (Zw [97]) (aa (Zw [97,98]) (aa (Zw [97,98]) (aa (Zw [97,98,99]) (aa (Zw [97,101,112,116]) (aa (Zw [109,110,122]) aj))))))) (dI aV 0 (aa (Zi 6) aj))) (ak 1)) (aD (aW (cM (aa (Zw [115,116,111,112]) (aa (Zw [115,116,111,112,115]) (aa (Zw [115]) (aa (Zw [111,112,101,110]) (aa (Zw [97,98,99,100,101,102,103,104]) aj)))))) (ak 2)) (aD (dF 3 (cM aj)) (aD (iW (jn (aR 1)) (ak 4) (aD (aW (dI aV 0 (aa (Zi 32) aj)) (ak 5)) (aD (aW (au iB (aa (gY 7 8 (jj (aa (Zi 5) aj)) (ak 7) (fL (aO tR (aO Bw (aB zL 5 (aZ 7)) (Zi 1)) (Zi 1))) (aB fj 2 (aZ 7))) aj)) (ak 6)) (fU 3 (bF (Zv 4 (aa (au cV (aa (zX (aR 6) zZ (Gv (Zi 4))) aj)) aj))))))) (bA (au cV (aa (aZ 3) aj))))))
noncomputable def mZ:List D->Option (D×D):=iu 7 m8
noncomputable def jL:bO:=vH.jL
noncomputable def lM:LD:=bY 1 jL
noncomputable def eV:bO:=aD (gK (fL (aO tR (dI aV 0 (aa (Zi 2) aj)) (Zi 0))) (bA (jR .non)) cT) (aD (aW (aO dB (Zi 1) (dI aV 0 (aa (aO Ir (aO KJ (Zi 2) (au d7 (aa (aZ 1) aj))) (Zi 1)) aj))) (ak 2)) (aD (aW (aO dB (Zw [35]) (aZ 1)) (ak 3)) (bA (au cV (aa (gY 4 5 (jj (aa (au d7 (aa (aZ 3) aj)) aj)) (ak 4) (fL (aO tR (aO Bw (aB zL 2 (aZ 4)) (Zi 1)) (Zi 1))) (aB fj 3 (aZ 4))) aj)))))
noncomputable def dW:List D->Option (D×D):=iu 4 eV
noncomputable def dG:bO:=aD (gK (fL (aO tR (dI aV 0 (aa (Zi 5) aj)) (Zi 0))) (bA (bF (aa (bF (aa (Zw []) (aa (aB fj 1 (dI aV 0 (aa (au d7 (aa (aZ 1) aj)) aj))) aj))) aj))) cT) (aD (dF 2 (z6)) (aD (iW (jj (aa (aO dB (Zi 1) (dI aV 0 (aa (Zi 3) aj))) aj)) (ak 3) (aD (aW (aB fj 1 (dI aV 0 (aa (au d7 (aa (aZ 1) aj)) aj))) (ak 4)) (aD (dF 5 (gY 6 7 (jn (aO dB (au zM (aa (aZ 1) aj)) (cM (aa (Zw []) aj)))) (ak 6) (fL (aB MT 6 (aZ 4))) (aR 6))) (p8 2 (aR 4) (aB fj 5 (dI aV 0 (aa (au d7 (aa (aZ 5) aj)) aj))))))) (bA (au cV (aa (gY 6 7 (jn (au iB (aa (aZ 2) aj))) (ak 6) fK (bF (Zv 6 (aa (aB kY 2 (aZ 6)) aj)))) aj)))))
noncomputable def eU:List D->Option (D×D):=iu 6 dG
noncomputable def iJ:bO:=aD (aW (aO fj (cM (aa (Zw [111,110,99,101]) (aa (Zw [97,108,111,110,103]) aj))) (dI aV 0 (aa (Zi 2) aj))) (ak 2)) (aD (aW (dI eU 0 (Zv 1 aj)) (ak 3)) (bA (bF (Zv 2 (Zv 3 (aa (dI dW 0 (Zv 1 aj)) (aa (dI dW 0 (Zv 1 aj)) aj)))))))
noncomputable def gM:List D->Option (D×D):=iu 4 iJ
open Ev PySem L2
theorem rK(h:i.natAbs<2^b):Builtin.Int.intBits i<=b:=by
 unfold Builtin.Int.intBits;split;exact Qx0 _;rename_i h0;have hz:i.natAbs≠0:=λz=>h0 (by rw[Int.natAbs_eq_zero.mp z];rfl);exact(Nat.log2_lt hz).mpr h
theorem tK(h1:Builtin.Int.intBits i<=a)(h2:Builtin.Int.intBits j<=b)(h:a+b<=134217728):kE i j=true:=
 Qwj (by omega)
noncomputable def Tp(i:Int):Int:=i*262406895267124108351839057402211873468251940277165213587343 % 10^60
theorem Xf(i):(Tp i).natAbs<2^200:=by
 unfold Tp;have h1:0<=i*262406895267124108351839057402211873468251940277165213587343 % 10^60:=Int.emod_nonneg _ (by decide);have h2:i*262406895267124108351839057402211873468251940277165213587343 % 10^60<10^60:=Int.emod_lt_of_pos _ (by decide);have h3:10^60<=2^200:=by decide
 omega
theorem mixed(h:Builtin.Int.intBits i<=2^20):iI [.int i]=some (.int (Tp i)):=by
 have hm:kE i 262406895267124108351839057402211873468251940277165213587343=true:=tK h (rK (b:=198) (by decide)) (by decide);have e1:aB tQ 0 (Zi 262406895267124108351839057402211873468251940277165213587343) [Zf (.int i)]=.ok (.int<|i*262406895267124108351839057402211873468251940277165213587343) [Zf (.int i)]:=by
  show iy (gI kE (λi j=>D.int<|i*j) (.int i)<|.int _) _=_;unfold gI;simp;rw[if_pos hm]
  rfl
 show(match bA _ [Zf (.int i)] with|.rt false d _=>some d|.nx _=>some .non|_=>none)=_;rw[bV];unfold aO;rw[e1]
 rfl
theorem X7{α:Type}{xs:List α}{x:α}(h:x∈cutD xs lo hi):x∈xs:=List.mem_of_mem_drop<|List.mem_of_mem_take h
theorem Va{α:Type}(x)(r:List α):vL (x::r) 0=some x:=lN rfl
noncomputable def lY:bO:=aW (aO dB (aB tQ 2 (aO KQ (Zi 10) (Zi 60))) (au iI (aa (aO fj (aO dB (zX (aR 0) (Gv (aR 3)) (Gv (aB dB 3 (Zi 1)))) (cM (aa (aO dB (aO tQ (Zi 7919) (aZ 3)) (Zi 61)) aj))) (Zi 0)) aj))) (ak 2)
theorem Cz(ns)(hl:ns.length<=63)(hb:Qq ns)(k a f)(ha:a.natAbs<2^10)(hf:Builtin.Int.intBits f<=2^20) :
  ∃f',lY [Zf (.arr (ns.map .int)),Zf (.int k),Zf (.int f),Zf (.int a)]=.nx [Zf (.arr (ns.map .int)),Zf (.int k),Zf (.int f'),Zf (.int a)]/\(f=0->f'.natAbs<2^200):=by
 generalize hE:([Zf (.arr<|ns.map .int),Zf<|.int k,Zf<|.int f,Zf<|.int a]:Ev.Env)=env;have m1:kE 7919 a=true:=tK (a:=20) (rK (by decide)) (rK ha) (by decide);have m2:kE f (10^(60:Int).toNat)=true:=tK (b:=200) hf (rK (by decide)) (by decide);have e1:zX (aR 0) (Gv<|aR 3) (Gv<|aB dB 3<|Zi 1) env=.ok (.lst<|cutD (ns.map .int) (some a)<|some<|a+1) env:=by rw[<-hE];rfl
 have e2:cM (aa (aO dB (aO tQ (Zi 7919)<|aZ 3)<|Zi 61) aj) env=.ok (.lst [.int (7919*a+61)]) env:=by refine Jc (aC (bL (bL rfl (by rw[<-hE];rfl) (M3 m1)) rfl rfl) bu) Ev.zz1
 generalize hL:cutD (ns.map D.int) (some a) (some<|a+1)=L at e1;have hLl:L.length<=63:=by rw[<-hL];exact Qq4 (qT _ _ _) (by rw[Qq3];exact hl)
 have e3:aO dB (zX (aR 0) (Gv<|aR 3)<|Gv<|aB dB 3<|Zi 1) (cM<|aa (aO dB (aO tQ (Zi 7919)<|aZ 3)<|Zi 61) aj) env=.ok (.lst<|L++[.int (7919*a+61)]) env:=by exact bL e1 e2<|Iw (by show L.length+1<=sizeLine;exact Qq4 (Nat.succ_le_succ hLl) (by decide))
 obtain⟨c,hc,hcb⟩:∃c,vL (L++[.int (7919*a+61)]) 0=some (.int c)/\Builtin.Int.intBits c<=2^20:=by
  cases hLc:L with
  |nil=>refine⟨7919*a+61,rfl,Qq4 (rK (b:=30) ?_) (by decide)⟩;omega|cons y r=>have hy:y∈ns.map D.int:=X7 (by rw[hL,hLc];exact Qqj ..);obtain⟨i,hi,rfl⟩:=Qw3.mp hy;exact⟨i,Va _ _,hb i hi⟩
 have e4:au iI (aa (aO fj (aO dB (zX (aR 0) (Gv (aR 3)) (Gv (aB dB 3 (Zi 1)))) (cM (aa (aO dB (aO tQ (Zi 7919) (aZ 3)) (Zi 61)) aj))) (Zi 0)) aj) env=.ok (.int (Tp c)) env:=by exact aK (aC (bL e3 rfl hc) bu) (mixed hcb)
 refine⟨f*10^(60:Int).toNat+Tp c,?_,λh0=>?_⟩;unfold lY;refine bH (e:=env) ?_ (by rw[<-hE];rfl);have e5:aB tQ 2 (aO KQ (Zi 10) (Zi 60)) env=.ok (.int (f*10^(60:Int).toNat)) env:=by
  rw[<-hE];exact cB rfl rfl rfl (M3 m2)
 exact bL e5 e4 rfl;rw[h0,Int.zero_mul,Int.zero_add];exact Xf c
theorem pack(ns)(hl:ns.length<=63)(hb:Qq ns)(k)(h0:0<=k)(h1:k<=500):∃p,my [.arr (ns.map .int),.int k]=some (.lst [.int p]):=by
 obtain⟨f1,e1,b1⟩:=Cz ns hl hb k (k+1) 0 (by omega) (by decide);obtain⟨f2,e2,_⟩:=Cz ns hl hb k k f1 (by omega)<|Qq4 (rK<|b1 rfl) (by decide);refine⟨f2,?_⟩;have h:j7 [Zf (.arr<|ns.map .int),Zf<|.int k,Zn,Zn]=.rt true (.lst [.int f2]) [Zf (.arr<|ns.map .int),Zf<|.int k,Zf<|.int f2,Zf<|.int k]:=by
  unfold j7;refine(aA rfl).trans ?_;refine(aA (e:=[Zf (.arr<|ns.map .int),Zf<|.int k,Zf<|.int f2,Zf<|.int k]) ?_).trans rfl;refine(gU rfl).trans ?_;show ir (ak 3) lY [.int (k+1),.int k] _=_;unfold ir;show(match lY [Zf (.arr<|ns.map .int),Zf<|.int k,Zf<|.int 0,Zf<|.int<|k+1] with|.nx e2=>ir (ak 3) lY [.int k] e2|.ct e2=>_|.bk e2=>_|.rt o d e2=>_|.stuck=>_)=_;rw[e1];simp;unfold ir;show(match lY [Zf (.arr<|ns.map .int),Zf<|.int k,Zf<|.int f1,Zf<|.int k] with|.nx e2=>ir (ak 3) lY [] e2|.ct e2=>_|.bk e2=>_|.rt o d e2=>_|.stuck=>_)=_;rw[e2]
  rfl
 show(match j7 _ with|.rt true d _=>some d|_=>none)=_;have e:envOf 4 [D.arr (ns.map .int),.int k]=[Zf (.arr<|ns.map .int),Zf<|.int k,Zn,Zn]:=rfl;rw[e,h]
noncomputable def known:D:=.lst [.str [115,116,111,112],.str [115,116,111,112,115],.str [115],.str [111,112,101,110],.str [97,98,99,100,101,102,103,104]]
noncomputable def yh:bO:=aW (au iB (aa (gY 7 8 (jj (aa (Zi 5) aj)) (ak 7) (fL (aO tR (aO Bw (aB zL 5 (aZ 7)) (Zi 1)) (Zi 1))) (aB fj 2 (aZ 7))) aj)) (ak 6)
noncomputable def mk(d:Nat):D:=match yh [Zn,Zn,Zf known,Zn,Zn,Zf (.int d),Zn] with
 |.nx e=>(match e[6]? with|some (some (_,z))=>z|_=>.non)|_=>.non
def AllB(P:Nat->Prop):Nat->Prop
 |0=>True|n+1=>AllB P n/\P n
theorem Vc:∀{n},AllB P n->∀d,d<n->P d
 |0,_,d,h=>absurd h<|Qj5 d
 |n+1,⟨a,b⟩,d,h=>by
  by_cases e:d=n;subst e;exact b;exact Vc a d (by omega)
theorem marks(d:Nat)(hd:d<32)(a b c e f:OD):yh [a,b,Zf known,c,e,Zf (.int d),f]=.nx [a,b,Zf known,c,e,Zf (.int d),Zf (mk d)]:=by refine Vc (P:=λd=>yh [a,b,Zf known,c,e,Zf<|.int d,f]=.nx [a,b,Zf known,c,e,Zf<|.int d,Zf<|mk d]) ?_ d hd;refine⟨⟨⟨⟨⟨⟨⟨⟨⟨⟨⟨⟨⟨⟨⟨⟨⟨⟨⟨⟨⟨⟨⟨⟨⟨⟨⟨⟨⟨⟨⟨⟨trivial,?_⟩,?_⟩,?_⟩,?_⟩,?_⟩,?_⟩,?_⟩,?_⟩,?_⟩,?_⟩,?_⟩,?_⟩,?_⟩,?_⟩,?_⟩,?_⟩,?_⟩,?_⟩,?_⟩,?_⟩,?_⟩,?_⟩,?_⟩,?_⟩,?_⟩,?_⟩,?_⟩,?_⟩,?_⟩,?_⟩,?_⟩,?_⟩<;>kernel_rfl
noncomputable def ae3:D->Bool
 |.lst _=>true|_=>false
theorem abQ(d)(hd:d<32):∃zs,mk d=.lst zs:=by
 have h:((List.range 32).all λd=>ae3<|mk d)=true:=by decide +kernel
 have h1:=Qx5.mp h d<|Qk5.mpr hd;cases e:mk d with
 |lst zs=>exact⟨zs,rfl⟩|_=>rw[e] at h1;cases h1
inductive Rows:List D->List D->Prop where
 |nil:Rows [] []|cons {s m:D} {ss rs:List D}:Rows ss rs->Rows (s::ss) (.tup [s,m]::rs)
theorem Rows.snoc(h:Rows ss rs)(s m):Rows (ss++[s]) (rs++[.tup [s,m]]):=by
 induction h with
 |nil=>exact .cons .nil|cons _ ih=>exact .cons ih
theorem Rows.len(h:Rows ss rs):rs.length=ss.length:=by
 induction h with
 |nil=>rfl|cons _ ih=>rw[Qqw,Qqw,ih]
theorem cO{i:Nat}{env e:Ev.Env}(h0:env[i]?=some (Zl x0))(h1:a env=.ok d e)(h2:e[i]?=some (Zl xs))(hz:xs.length<sizeLine):fU i a env=.nx (e.set i (Zl (xs++[d]))):=by unfold fU;rw[h0];show gZ (a env) _=_;rw[h1];show(match e[i]? with|some (some (true,.lst xs))=>if xs.length<sizeLine then Out.nx (e.set i<|Zl<|xs++[d]) else .stuck|_=>.stuck)=_;rw[h2];show(if xs.length<sizeLine then _ else _)=_;rw[if_pos hz]
noncomputable def Ci:bO:=aD (aW (dI aV 0 (aa (Zi 32) aj)) (ak 5)) (aD yh (fU 3 (bF (Zv 4 (aa (au cV (aa (zX (aR 6) zZ (Gv (Zi 4))) aj)) aj)))))
theorem J5(n)(b v5 v6:OD)(acc)(s)(ha:acc.length<=10):∃m v5' v6',Ci [Zl [.int n],b,Zf known,Zl acc,Zf s,v5,v6]=.nx [Zl [.int (n / 32)],b,Zf known,Zl (acc++[.tup [s,m]]),Zf s,v5',v6']:=by obtain⟨d,hd,e⟩:=dig n 32 (by decide);obtain⟨zs,hz⟩:=abQ d hd;refine⟨.tup<|cutD zs none<|some 4,Zf<|.int d,Zf<|.lst zs,?_⟩;unfold Ci;refine(aA (e:=[Zl [.int (n / 32)],b,Zf known,Zl acc,Zf s,Zf<|.int<|n % (32:Nat),v6]) rfl).trans ?_;rw[e];refine(aA<|marks d hd _ _ _ _ _).trans ?_;rw[hz];exact cO (e:=[Zl [.int (n / 32)],b,Zf known,Zl acc,Zf s,Zf<|.int d,Zf<|.lst zs]) rfl rfl rfl (Qw5 ha (by decide))
structure XOk(x:List Nat):Prop where
 len:x.length<=4
 pos:0<x.length
 nd:x.Nodup
 ne:35 ∉ x
inductive XSt
 |mk
noncomputable def XS:XSt:=.mk
instance:Membership (List Nat) XSt:=⟨λ_ x=>XOk x⟩
theorem Dm(h:x∈XS):XOk x:=h
theorem Dp(h:XOk x):x∈XS:=h
theorem jO:∀x∈XS,x.length<=4:=λ_ h=>(Dm h).len
theorem Vg(h:x∈XS):(∃a,x=[a])\/(∃a b,x=[a,b])\/(∃a b c,x=[a,b,c])\/∃a b c d,x=[a,b,c,d]:=by
 have h1:=(Dm h).len;have h2:=(Dm h).pos
 match x,h1,h2 with
 |[a],_,_=>exact .inl ⟨a,rfl⟩|[a,b],_,_=>exact .inr<|.inl ⟨a,b,rfl⟩|[a,b,c],_,_=>exact .inr<|.inr<|.inl ⟨a,b,c,rfl⟩|[a,b,c,d],_,_=>exact .inr<|.inr<|.inr ⟨a,b,c,d,rfl⟩
theorem stock(n):∃x rows n',x∈XS/\mZ [.lst [.int n]]=some (.tup rows,.lst [.int n'])/\Rows (rB x) rows:=by
 obtain⟨d,hd,e⟩:=dig n 6 (by decide);obtain⟨x,hx,h1⟩:∃x,x∈XS/\∀m,(λk m=>gZ (iy (fj (.lst [.str [97],.str [97,98],.str [97,98],.str [97,98,99],.str [97,101,112,116],.str [109,110,122]])<|.int k) [Zl [.int m],Zn,Zn,Zn,Zn,Zn,Zn]) λd aJ=>Tz<|ak 1 d aJ) d m=.nx [Zl [.int m],Zs x,Zn,Zn,Zn,Zn,Zn]:=by
  have hc:d=0\/d=1\/d=2\/d=3\/d=4\/d=5:=by omega
  rcases hc with rfl|rfl|rfl|rfl|rfl|rfl;exact⟨[97],Dp ⟨by decide,by decide,by decide,by decide⟩,λm=>rfl⟩;exact⟨[97,98],Dp ⟨by decide,by decide,by decide,by decide⟩,λm=>rfl⟩;exact⟨[97,98],Dp ⟨by decide,by decide,by decide,by decide⟩,λm=>rfl⟩;exact⟨[97,98,99],Dp ⟨by decide,by decide,by decide,by decide⟩,λm=>rfl⟩;exact⟨[97,101,112,116],Dp ⟨by decide,by decide,by decide,by decide⟩,λm=>rfl⟩;exact⟨[109,110,122],Dp ⟨by decide,by decide,by decide,by decide⟩,λm=>rfl⟩
 have hxl:=jO x hx;obtain⟨e',f1,n',acc,v4,v5,v6,rfl,hr⟩:=rG (g:=ak 4) (rB x) (λdone env=>∃n acc v4 v5 v6,env=[Zl [.int n],Zs x,Zf known,Zl acc,v4,v5,v6]/\Rows done acc)
  (λdone s rest hall env ⟨n,acc,v4,v5,v6,he,hr⟩=>by
   subst he;have hd:done.length<=4:=by have:=Qw9 List.length hall;unfold rB at this;rw[Qq3,Qqk,Qqw] at this;omega
   obtain⟨m,w5,w6,hb⟩:=J5 n (Zs x) v5 v6 acc s (by rw[hr.len];omega);exact⟨_,_,rfl,hb,n / 32,_,_,_,_,rfl,hr.snoc s m⟩)
  [Zl [.int (n / 6)],Zs x,Zf known,Zl [],Zn,Zn,Zn] ⟨_,[],_,_,_,rfl,.nil⟩
 refine⟨x,acc,n',hx,kW (env:=[Zl [.int n'],Zs x,Zf known,Zl acc,v4,v5,v6]) ?_ rfl,hr⟩;unfold m8;refine(aA (e:=[Zl [.int (n / 6)],Zs x,Zn,Zn,Zn,Zn,Zn]) ?_).trans ?_;have h2:=h1<|n / 6;rw[<-e] at h2;exact h2;refine(aA rfl).trans ?_;refine(aA rfl).trans ?_;refine(aA (e:=[Zl [.int n'],Zs x,Zf known,Zl acc,v4,v5,v6]) ?_).trans ?_;exact(gU rfl).trans f1;rfl
theorem V9(h:Rows ss rs):∀(a v1 v2:OD),∃w1 w2,Gu (cF 2 (aG (ak 1) (aG (ak 2) cG))) fK (aR 1) rs [a,v1,v2]=.ok ss [a,w1,w2]:=by
 induction h with
 |nil=>exact λa v1 v2=>⟨v1,v2,rfl⟩
 |cons _ ih=>
  rename_i s m ss rs _;intro a v1 v2;obtain⟨w1,w2,e⟩:=ih a (Zf s)<|Zf m;refine⟨w1,w2,?_⟩;unfold Gu;show bindR (Gu _ fK (aR 1) rs [a,Zf s,Zf m]) _=_;rw[e]
  rfl
theorem Cp(hx:x∈XS)(h:Rows (rB x) rs):gY 1 3 (jn (aR 0)) (cF 2 (aG (ak 1) (aG (ak 2) cG))) fK (aR 1) [Zf (.tup rs)]=.ok (.lst (rB x)) [Zf (.tup rs)]:=by obtain⟨w1,w2,e⟩:=V9 h (Zf<|.tup rs) none none;exact rH (n:=3) (aJ:=[Zf (.tup rs)]) rfl rfl (by exact e) (by unfold rB;rw[Qq3];exact Qq4 (jO x hx) (by decide))
theorem sounds_of(hx:x∈XS)(h:Rows (rB x) rs):cA [.tup rs]=some (.tup (rB x)):=
 dC (bV<|aK (aC (Cp hx h) bu) rfl)
theorem join_eq:∀x∈XS,qK (.str []) (.lst (rB x))=some (.str x):=by intro x hx;rcases Vg hx with ⟨a,rfl⟩|⟨a,b,rfl⟩|⟨a,b,c,rfl⟩|⟨a,b,c,d,rfl⟩<;>rfl
theorem Kz(hx:x∈XS)(h:Rows (rB x) rs):lM [.tup rs]=some (.str x):=
 dC (bV<|bL rfl (Cp hx h) (join_eq x hx))
theorem XX(h:a env=.ok ds e)(h':yP ds=some ys):jj a env=.ok ys e:=by
 unfold jj;rw[h];show iy (yP ds) e=_;rw[h']
 rfl
theorem mO(n)(m:Nat)(h0:0<m)(h1:m<1073741824):aV [.lst [.int n],.int m]=some (.int (n % m),.lst [.int (n / m)]):=by
 refine kW (env:=[Zl [.int (n / m)],Zf<|.int m,Zf<|.int<|n % m]) ?_ rfl;unfold fC;have g:uV [.int n,.int m]=some (.tup [.int (n / m),.int<|n % m]):=by show(if 0<(m:Int)/\(m:Int)<1073741824 then _ else _)=_;rw[if_pos (by omega)]
 refine(aA (e:=[Zl [.int (n / m)],Zf<|.int m,Zf<|.int<|n % m]) ?_).trans rfl;exact bH (aK (by rfl) g) (by rfl)
noncomputable def isT:Option D->Bool
 |some (.bl true)=>true|_=>false
noncomputable def M(x:List Nat):Nat:=2*2^x.length - 1
noncomputable def Rj:bO:=aD (aW (aO dB (Zw [35]) (aZ 1)) (ak 3)) (bA (au cV (aa (gY 4 5 (jj (aa (au d7 (aa (aZ 3) aj)) aj)) (ak 4) (fL (aO tR (aO Bw (aB zL 2 (aZ 4)) (Zi 1)) (Zi 1))) (aB fj 3 (aZ 4))) aj)))
noncomputable def bit(d k:Nat):Bool:=Builtin.bitAnd ((1+(d:Int)) / 2^k) 1 == 1
noncomputable def sgR(x:List Nat)(d:Nat):D:=.tup ((((List.range (x.length+1)).filter (bit d)).map λk=>(35::x).getD k 0).map λc=>.str [c])
noncomputable def SG(x:List Nat):List D:=.non::(List.range (M x)).map (sgR x)
theorem V2(a:OD):∀x∈XS,∀d,d<M x->∃e3,Rj [a,Zs x,Zf (.int (1+d)),Zn]=.rt false (sgR x d) [a,Zs x,Zf (.int (1+d)),e3]:=by
 intro x hx d hd;have hl:=jO x hx;refine⟨Zs (35::x),?_⟩;unfold Rj;refine(aA<|bH (d:=.str (35::x)) (bL rfl rfl ?_) rfl).trans ?_;unfold dB;exact if_pos<|Qq4 (show 1+x.length<=5 by omega) (by decide);have h:gY 4 5 (jj<|aa (au d7<|aa (aZ 3) aj) aj) (ak 4) (fL<|aO tR (aO Bw (aB zL 2<|aZ 4)<|Zi 1)<|Zi 1) (aB fj 3<|aZ 4) [a,Zs x,Zf<|.int<|1+(d:Int),Zs (35::x)]=.ok (.lst<|((List.range<|x.length+1).filter<|bit d).map λk=>.str [(35::x).getD k 0]) [a,Zs x,Zf<|.int<|1+(d:Int),Zs (35::x)]:=by
  refine M9 (List.range<|x.length+1) (λk=>.int (k:Int)) (bit d) (λk=>.str [(35::x).getD k 0]) ?_ rfl rfl (λk hk=>?_) (λk hk _=>?_) (by rw[List.length_range];exact Qq4 (show x.length+1<=5 by omega) (by decide));exact XX rfl (Wa<|Qw5 (show(35::x).length<=5 by rw[Qqw];omega) (by decide));refine f9<|bL (bL (x:=.int<|(1+(d:Int)) / 2^k) ?_ rfl rfl) rfl rfl;refine cB (i:=2) rfl rfl rfl ?_;unfold zL gI;simp only;rw[if_pos (Qwj<|Int.natCast_nonneg k),Qj3];refine cB (i:=3) rfl rfl rfl ?_;show(vL (35::x) (k:Int)).map _=_;have hk':k<(35::x).length:=Qk5.mp hk;rw[lN (v:=(35::x).getD k 0) (by rw[Qwv,Qqv hk'];rfl)];rfl
 refine bV<|aK (aC h bu) ?_;unfold sgR;rw[Qkw];rfl
theorem signs(n)(x)(hx:x∈XS):∃r n',dW [.lst [.int n],.str x]=some (r,.lst [.int n'])/\r∈SG x:=by
 obtain⟨d,hd,e⟩:=dig n 2 (by decide);have t:fL (aO tR (dI aV 0<|aa (Zi 2) aj)<|Zi 0) [Zl [.int n],Zs x,Zn,Zn]=.ok ((d:Int) == 0) [Zl [.int (n / 2)],Zs x,Zn,Zn]:=by
  rw[<-e];rfl
 have hc:d=0\/d=1:=by omega
 rcases hc with rfl|rfl;refine⟨.non,n / 2,kW (env:=[Zl [.int (n / 2)],Zs x,Zn,Zn]) ?_ rfl,Qqj ..⟩;unfold eV;refine(jA ?_).trans rfl;exact(jV t).trans rfl;obtain⟨k,hk,ek⟩:=dig (n / 2) (M x) (by unfold M;have:0<2^x.length:=Nat.two_pow_pos _;omega);obtain⟨e3,h3⟩:=V2 (Zl [.int (n / 2 / (M x:Int))]) x hx k hk;refine⟨sgR x k,n / 2 / (M x:Int),kW (env:=[Zl [.int (n / 2 / (M x:Int))],Zs x,Zf<|.int<|1+(k:Int),e3]) ?_ rfl,Qqq _<|Qw3.mpr ⟨k,Qk5.mpr hk,rfl⟩⟩;unfold eV;refine(aA (e:=[Zl [.int (n / 2)],Zs x,Zn,Zn]) ?_).trans ?_;exact(gJ t).trans rfl;refine(aA (e:=[Zl [.int (n / 2 / (M x:Int))],Zs x,Zf<|.int<|1+n / 2 % (M x:Int),Zn]) ?_).trans ?_;have hM:aO Ir (aO KJ (Zi 2)<|au d7<|aa (aZ 1) aj) (Zi 1) [Zl [.int (n / 2)],Zs x,Zn,Zn]=.ok (.int (M x:Int)) [Zl [.int (n / 2)],Zs x,Zn,Zn]:=by
  have hl:=jO x hx;refine bL (x:=.int<|2*2^x.length) (bL rfl rfl ?_) rfl ?_;unfold KJ gI;simp only;rw[if_pos (Qwj ⟨Int.natCast_nonneg _,by omega,by decide⟩),Qj3];show some (D.int<|2*2^x.length - 1)=_;have hp:0<2^x.length:=Nat.two_pow_pos _;have e:((M x:Nat):Int)=2*2^x.length - 1:=by
   unfold M;rw[Int.natCast_sub (by omega),Int.natCast_mul,Int.natCast_pow];rfl
  rw[e]
 have ht:aV [.lst [.int (n / 2)],.int (M x:Int)]=some (.int<|n / 2 % (M x:Int),.lst [.int (n / 2 / (M x:Int))]):=by have hl:=jO x hx;have hp:0<2^x.length:=Nat.two_pow_pos _;have hq:2^x.length<=2^4:=Nat.pow_le_pow_right (by decide) hl;exact mO (n / 2) (M x) (by unfold M;omega) (by unfold M;omega)
 refine bH (bL rfl (iT rfl (aC hM bu) rfl ht) rfl) rfl;rw[ek];exact h3
end jP
namespace Qy
open Ev PySem L2
open jP (mO)
theorem TJ(P:Ev.Env->Prop)(R:D->Prop):∀ds env,P env->(∀d∈ds,∀env,P env->∃y e1 e2,g d env=some e1/\e e1=.ok y e2/\P e2/\R y)->∃ys env',Gu g fK e ds env=.ok ys env'/\P env'/\(∀y∈ys,R y)/\ys.length=ds.length
 |[],env,hp,_=>⟨[],env,rfl,hp,λy hy=>by simp at hy,rfl⟩
 |d::ds,env,hp,h=>by
  obtain⟨y,e1,e2,h1,h2,h3,h4⟩:=h d (Qqj ..) env hp;obtain⟨ys,e3,h5,h6,h7,h8⟩:=TJ P R ds e2 h3 λd' hd=>h d'<|Qqq _ hd;refine⟨y::ys,e3,?_,h6,λz hz=>?_,by rw[Qqw,Qqw,h8]⟩;unfold Gu;rw[h1];show bindR (e e1) _=_;rw[h2];show bindR (Gu g fK e ds e2) _=_;rw[h5];rfl;rcases Qq7.mp hz with rfl|hz;exact h4;exact h7 z hz
theorem Py:∀zs,zF [] zs=zs.flatten
 |[]=>rfl
 |x::r=>by
  show r.foldl (λacc y=>acc++[]++y) x=(x::r).flatten;have go:∀(r:List (List Nat)) x,r.foldl (λacc y=>acc++[]++y) x=x++r.flatten:=by
   intro r
   induction r with
   |nil=>intro x;simp|cons y r ih=>intro x;rw[List.foldl_cons,ih];simp
  rw[go];rfl
theorem rA(zs):jr (zs.map D.str)=some zs:=by
 induction zs with
 |nil=>rfl
 |cons z r ih=>
  rw[Qwq];unfold jr;rw[ih]
  rfl
theorem aat{zs:List (List Nat)}(h:∀z∈zs,z.length<=k):(zs.map List.length).sum<=zs.length*k:=by
 induction zs with
 |nil=>simp|cons z r ih=>rw[Qwq,List.sum_cons,Qqw,Nat.add_mul];have h1:=h z<|Qqj ..;have h2:=ih λy hy=>h y<|Qqq _ hy;omega
theorem Wa{j:Nat}(h:j<1000):yP [.int j]=some (iZ 0 1 j):=by
 have hf:kh j=true:=by unfold kh;rw[Qzq];exact⟨Qwj (by omega),Qwj (by omega)⟩
 unfold yP;simp only;rw[if_pos hf,Qj3]
theorem Jb(h:a env=.ok ds e)(h':yP ds=some ys):jj a env=.ok ys e:=by
 unfold jj;rw[h];show iy (yP ds) e=_;rw[h']
 rfl
noncomputable def texts(x:List Nat):List (List Nat):=[[],[x.headD 0],[x.getLastD 0],[x.headD 0,x.headD 0],[x.headD 0,x.getLastD 0]]
end Qy
namespace jP
open Ev PySem L2
noncomputable def oth(x:List Nat)(c:Nat):List D:=((x.map (λa=>[a])++[[]]).filter λz=>z != [c]).map .str
noncomputable def PV(x:List Nat):List (Nat×D):=x.flatMap λc=>(oth x c).map λv=>(c,v)
noncomputable def one:bO:=aW (aB fj 1 (dI aV 0 (aa (au d7 (aa (aZ 1) aj)) aj))) (ak 4)
noncomputable def others:bO:=dF 5 (gY 6 7 (jn (aO dB (au zM (aa (aZ 1) aj)) (cM (aa (Zw []) aj)))) (ak 6) (fL (aB MT 6 (aZ 4))) (aR 6))
noncomputable def Mj:bO:=p8 2 (aR 4) (aB fj 5 (dI aV 0 (aa (au d7 (aa (aZ 5) aj)) aj)))
theorem OJ(a b v3 v5:OD):∀x∈XS,∀c∈x,others [a,Zs x,b,v3,Zs [c],v5]=.nx [a,Zs x,b,v3,Zs [c],Zl (oth x c)]:=by
 intro x hx c hc;have hl:=jO x hx;unfold others;refine(p7 (e:=[a,Zs x,b,v3,Zs [c],v5]) ?_).trans rfl;have h5:(x.map (λa=>[a])++[[]]).length<=5:=by rw[Qqk,Qq3];exact Nat.succ_le_succ hl
 refine M9 (x.map (λa=>[a])++[[]]) D.str (λz=>z != [c]) D.str ?_ rfl rfl (λz hz=>rfl) (λz hz _=>rfl) (Qq4 h5 (by decide));refine uY (d:=.lst<|((x.map λa=>[a])++[[]]).map D.str) (bL rfl rfl ?_) rfl;rw[Qz4,Qkw];refine Iw (a:=rB x) ?_;unfold rB;rw[Qq3];exact Qq4 (Nat.succ_le_succ hl) (by decide)
theorem WY:∀x∈XS,∀c∈x,(oth x c).length=x.length:=by
 intro x hx c hc;have h1:=List.length_erase_of_mem hc;rw[(Dm hx).nd.erase_eq_filter] at h1;have e:(λz:List Nat=>z != [c]) ∘ (λa=>[a])=λa=>a != c:=by
  funext a;by_cases h:a=c;subst h;show([a] != [a])=(a != a);rw[bne_self_eq_false,bne_self_eq_false];show([a] != [c])=(a != c);rw[bne_iff_ne.mpr h,bne_iff_ne.mpr λq=>h (Qz2 q).1]
 unfold oth;rw[Qq3,List.filter_append,List.filter_map,e,Qqk,Qq3,h1];have:=(Dm hx).pos;show x.length - 1+1=_;omega
theorem Gj:∀x∈XS,0<x.length:=λ_ h=>(Dm h).pos
theorem Od{i:Nat}{env e1 e2:Ev.Env}(h1:a env=.ok d e1)(h2:e1[i]?=some (some (o,x0)))(h3:k e1=.ok kd e2)(h4:e2[i]?=some (Zt (.dct kvs)))(h5:rO kd=some q)(hz:kvs.length<sizeLine) :
  p8 i k a env=.nx (e2.set i (Zt (.dct (putD kvs kd q d)))):=by
 unfold p8;rw[h1];simp[gZ];rw[h2];simp;rw[h3];simp;rw[h4,h5];simp only;rw[if_pos hz]
noncomputable def R7(kvs:List (D×D))(p:Nat×D):List (D×D):=putD kvs (.str [p.1]) (.inr (strOf [p.1])) p.2
theorem round(n)(x)(hx:x∈XS)(kvs)(hk:kvs.length<=10)(v3 v4 v5:OD):∃p n' v4' v5',p∈PV x/\aD one (aD others Mj) [Zl [.int n],Zs x,Zt (.dct kvs),v3,v4,v5]=.nx [Zl [.int n'],Zs x,Zt (.dct (R7 kvs p)),v3,v4',v5']:=by
 have hp:=Gj x hx;have hl4:=jO x hx;obtain⟨d,hd,e⟩:=dig n x.length hp;have hc:x[d]∈x:=Qx9 hd;have hol:=WY x hx x[d] hc;obtain⟨d',hd',e'⟩:=dig (n / (x.length:Int)) x.length hp;have hv:d'<(oth x x[d]).length:=by rw[hol];exact hd'
 refine⟨(x[d],(oth x x[d])[d']),n / (x.length:Int) / (x.length:Int),Zs [x[d]],Zl<|oth x x[d],?_,?_⟩;unfold PV;exact Qj0.mpr ⟨x[d],hc,Qw3.mpr ⟨_,Qx9 hv,rfl⟩⟩;refine(aA (e:=[Zl [.int (n / (x.length:Int))],Zs x,Zt<|.dct kvs,v3,Zs [x[d]],v5]) ?_).trans ?_;unfold one;refine bH (e:=[Zl [.int (n / (x.length:Int))],Zs x,Zt<|.dct kvs,v3,v4,v5]) ?_ (by rfl);refine cB (y:=.int<|n % (x.length:Int)) (by rfl) ?_ (by rfl) ?_;exact iT (e1:=[Zl [.int n],Zs x,Zt<|.dct kvs,v3,v4,v5]) (by rfl) (by rfl) (by rfl)<|mO n x.length hp (by omega);show(vL x<|n % (x.length:Int)).map _=_;rw[e,K9 hd];rfl
 refine(aA<|OJ _ _ _ _ x hx x[d] hc).trans ?_;unfold Mj;refine(Od (e1:=[Zl [.int (n / (x.length:Int) / (x.length:Int))],Zs x,Zt<|.dct kvs,v3,Zs [x[d]],Zl<|oth x x[d]])
  ?_ (by rfl) (by rfl) (by rfl) (by rfl) (Qw5 hk (by decide))).trans rfl
 refine cB (y:=.int<|n / (x.length:Int) % (x.length:Int)) (by rfl) ?_ (by rfl) ?_;refine iT (e1:=[Zl [.int (n / (x.length:Int))],Zs x,Zt<|.dct kvs,v3,Zs [x[d]],Zl<|oth x x[d]]) (by rfl) ?_ (by rfl)<|mO _ x.length hp (by omega);refine aC ?_ bu;refine aK (by rfl) ?_;show some (D.int ((oth x x[d]).length:Int))=_;rw[hol];show vL (oth x x[d]) (n / (x.length:Int) % (x.length:Int))=_;rw[e',K9 hv]
noncomputable def Qf(kvs:List (D×D)):Option D:=match iB [.dct kvs] with
 |some (.lst ks)=>if (ks.all λk=>(kY (.dct kvs) k).isSome) then some (.tup (ks.map λk=>.tup [k,(kY (.dct kvs) k).getD .non])) else none|_=>none
noncomputable def acP:bO:=bA (au cV (aa (gY 6 7 (jn (au iB (aa (aZ 2) aj))) (ak 6) fK (bF (Zv 6 (aa (aB kY 2 (aZ 6)) aj)))) aj))
theorem Iu(h:iB [.dct kvs]=some (.lst ks)):ks.length<=64:=by
 obtain⟨zs,h1,h2⟩:=Qzj.mp h;split at h2;rename_i hz;cases h2;rw[Qq3,(iG zs).length_eq];omega;cases h2
theorem FP(h:Qf kvs=some ch)(a b v3 v4 v5:OD):acP [a,b,Zt (.dct kvs),v3,v4,v5]=.rt false ch [a,b,Zt (.dct kvs),v3,v4,v5]:=by
 unfold Qf at h;split at h;rename_i ks hs;split at h;rename_i hall;cases h;obtain⟨env',h1,v6,rfl⟩:=yq (g:=ak 6) (e:=bF<|Zv 6<|aa (aB kY 2<|aZ 6) aj) (λenv=>∃v6,env=[a,b,Zt<|.dct kvs,v3,v4,v5,v6]) (λk=>.tup [k,(kY (.dct kvs) k).getD .non]) ks [a,b,Zt<|.dct kvs,v3,v4,v5,Zn] ⟨none,rfl⟩
  (λk hk env ⟨v6,he⟩=>by
   subst he;obtain⟨v,hv⟩:=Qz7.mp<|Qx5.mp hall k hk;refine⟨_,[a,b,Zt<|.dct kvs,v3,v4,v5,Zf k],rfl,?_,Zf k,rfl⟩;rw[hv];exact bZ (aC (by rfl)<|aC (cB (by rfl) (by rfl) (by rfl) hv) bu) Ev.BV)
 refine bV<|aK (ds:=[.lst (ks.map λk=>.tup [k,(kY (.dct kvs) k).getD .non])]) (aC ?_ bu) rfl;refine rH (n:=7) (aJ:=[a,b,Zt<|.dct kvs,v3,v4,v5]) ?_ (by rfl) h1 ?_;exact uY (aK (by rfl) hs) rfl;rw[Qq3];exact Qq4 (Iu hs) (by decide);cases h;cases h
structure Gq(x:List Nat)(kvs:List (D×D))(zs:List Nat):Prop where
 keys:kvs.map (·.1)=zs.map λc=>D.str [c]
 nd:zs.Nodup
 mem:∀c∈zs,c∈x
 vals:∀k v,(k,v)∈kvs->∃c,k=.str [c]/\(c,v)∈PV x
theorem n8(h:strOf a=strOf b):a=b:=by
 have:=Qw9 (λs:Str=>s.cps.toList) h
 simpa[strOf] using this
theorem wg(q)(d):∀kvs,(xQ kvs q d).map (·.1)=kvs.map (·.1)
 |[]=>rfl
 |(k,e)::r=>by
  unfold xQ;rw[Qwq,Qwq,wg q d r];split<;>rfl
theorem yL:∀{kvs} {k v},(k,v)∈xQ kvs q d->(k,v)∈kvs\/(rO k=some q/\v=d)
 |[],_,_,h=>by simp[xQ] at h
 |(k',e)::r,k,v,h=>by
  unfold xQ at h;rcases Qq7.mp h with h|h;split at h;rename_i hk;cases h;exact .inr ⟨hk,rfl⟩;cases h;exact .inl<|Qqj ..;rcases yL h with h|h;exact .inl<|Qqq _ h;exact .inr h
theorem vR:∀{kvs},pO kvs q=none->∀k v,(k,v)∈kvs->rO k≠some q
 |[],_,k,v,hm=>by simp at hm
 |(k',e)::r,h,k,v,hm=>by
  unfold pO at h;split at h;cases h;rename_i hk;rcases Qq7.mp hm with hm|hm;cases hm;exact hk;exact vR h k v hm
theorem n6:∀{kvs},pO kvs q=some d->∃k,(k,d)∈kvs/\rO k=some q
 |[],h=>by simp[pO] at h
 |(k',e)::r,h=>by
  unfold pO at h;split at h;rename_i hk;cases h;exact⟨k',Qqj ..,hk⟩;obtain⟨k,h1,h2⟩:=n6 h;exact⟨k,Qqq _ h1,h2⟩
theorem Gq.put(h:Gq x kvs zs)(hp:p∈PV x)(hx:p.1∈x):∃zs',Gq x (R7 kvs p) zs'/\0<zs'.length/\zs'.length<=zs.length+1:=by
 unfold R7 putD;cases e:pO kvs (.inr<|strOf [p.1]) with
 |none=>
  simp[Option.isSome_none,Bool.false_eq_true,if_false];refine⟨zs++[p.1],⟨?_,?_,λc hc=>?_,λk v hm=>?_⟩,by simp,by simp⟩;rw[Qz4,Qz4,h.keys];rfl;refine List.nodup_append.mpr ⟨h.nd,Qxk.mpr ⟨Qxw,.nil⟩,λa ha b hb=>?_⟩;rcases Qq2.mp hb with rfl;rintro rfl;have hm:D.str [p.1]∈kvs.map (·.1):=by rw[h.keys];exact Qw3.mpr ⟨p.1,ha,rfl⟩
  obtain⟨⟨k,v⟩,h1,h2⟩:=Qw3.mp hm;have h2':=h2;subst h2';exact vR e _ _ h1 rfl;rcases Qww.mp hc with hc|hc;exact h.mem c hc;rw[Qq2.mp hc];exact hx;rcases Qww.mp hm with hm|hm;exact h.vals k v hm;have:=Qq2.mp hm;cases this;exact⟨p.1,rfl,hp⟩
 |some w=>
  simp[Option.isSome_some,if_true];obtain⟨k0,hk0,_⟩:=n6 e;have hne:0<zs.length:=by have:=Qw9 List.length h.keys;rw[Qq3,Qq3] at this;rw[<-this];exact List.length_pos_of_mem hk0
  refine⟨zs,⟨by rw[wg];exact h.keys,h.nd,h.mem,λk v hm=>?_⟩,hne,Nat.le_succ _⟩;rcases yL hm with hm|⟨hk,rfl⟩;exact h.vals k v hm;have hin:k∈(xQ kvs (.inr<|strOf [p.1]) p.2).map (·.1):=Qw3.mpr ⟨_,hm,rfl⟩;rw[wg,h.keys] at hin;obtain⟨c,hc,rfl⟩:=Qw3.mp hin;have:strOf [c]=strOf [p.1]:=by
   have:=Qw4 hk;exact Sum.inr.inj this
  have e2:=n8 this;cases e2;exact⟨p.1,rfl,hp⟩
theorem Gn(h:p∈PV x):p.1∈x:=by unfold PV at h;obtain⟨c,hc,h⟩:=Qj0.mp h;obtain⟨v,_,rfl⟩:=Qw3.mp h;exact hc
theorem rA(zs):jr (zs.map D.str)=some zs:=by
 induction zs with
 |nil=>rfl
 |cons z r ih=>
  rw[Qwq];unfold jr;rw[ih]
  rfl
theorem Og(h:Gq x kvs zs)(h4:zs.length<=4):iB [.dct kvs]=some (.lst ((je (zs.map λc=>[c])).map .str)):=by
 have e:kvs.map (·.1)=(zs.map λc=>[c]).map D.str:=by rw[h.keys,Qkw];rfl
 show(jr<|kvs.map (·.1)).bind _=_;rw[e,rA];show(if _ then _ else _)=_;rw[if_pos];refine⟨by rw[Qq3];omega,λz hz=>?_⟩;obtain⟨c,_,rfl⟩:=Qw3.mp hz;show 1<=sizeLine;decide
noncomputable def prs(kvs:List (D×D))(ks:List D):List D:=ks.map λk=>.tup [k,(kY (.dct kvs) k).getD .non]
theorem Fj(h:Gq x kvs zs)(k)(hk:k∈(je (zs.map λc=>[c])).map D.str):∃c v,k=.str [c]/\kY (.dct kvs) k=some v/\(c,v)∈PV x:=by
 obtain⟨z,hz,rfl⟩:=Qw3.mp hk;obtain⟨c,hc,rfl⟩:=Qw3.mp<|(iG _).mem_iff.mp hz;have hm:D.str [c]∈kvs.map (·.1):=by rw[h.keys];exact Qw3.mpr ⟨c,hc,rfl⟩
 obtain⟨⟨k,v⟩,h1,h2⟩:=Qw3.mp hm;have h2':=h2;subst h2';cases e:pO kvs (.inr<|strOf [c]) with
 |none=>exact absurd rfl (vR e _ _ h1)|some w=>obtain⟨k',h3,h4⟩:=n6 e;obtain⟨c',rfl,h5⟩:=h.vals k' w h3;have e2:=Sum.inr.inj<|Qw4 h4;cases n8 e2;exact⟨c,w,rfl,e,h5⟩
theorem FQ(h:Gq x kvs zs)(h4:zs.length<=4):Qf kvs=some (.tup (prs kvs ((je (zs.map λc=>[c])).map D.str))):=by
 unfold Qf;rw[Og h h4];simp only;rw[if_pos];rfl;refine Qx5.mpr λk hk=>?_;obtain⟨c,v,_,e,_⟩:=Fj h k hk;rw[e];rfl
end jP
namespace pI
open Ev PySem L2
noncomputable abbrev XS:=jP.XS
open jP (Gj jO Gq PV SG Qf prs one others Mj FP Fj R7 mO Gn FQ)
theorem ac6:∀x∈XS,∀p∈PV x,∃t,p.2=.str t/\t.length<=1/\∀c∈t,c∈x:=by
 intro x hx p hp;obtain⟨c,hc,h⟩:=Qj0.mp hp;obtain⟨v,hv,rfl⟩:=Qw3.mp h;obtain⟨t,ht,rfl⟩:=Qw3.mp hv;refine⟨t,rfl,?_⟩;rcases Qww.mp (List.mem_filter.mp ht).1 with h|h;obtain⟨a,ha,rfl⟩:=Qw3.mp h;exact⟨Qq1 1,λc hc=>by rw[Qq2.mp hc];exact ha⟩;rw[Qq2.mp h];exact⟨Qx0 1,λc hc=>absurd hc Qxw⟩
abbrev Pr:=Nat×List Nat
noncomputable def encC(p:Pr):D:=.tup [.str [p.1],.str p.2]
inductive BR (x:List Nat):D->Prop
 |put {c:Nat}:c∈x->BR x (.tup [.tup [.str [],.str [c]]])|chg {ps:List Pr}:0<ps.length->ps.length<=4->(∀p∈ps,p.1∈x/\p.2.length<=1/\∀c∈p.2,c∈x)->BR x (.tup (ps.map encC))
theorem Eo(hx:x∈XS):∀ks,(∀k∈ks,∃c v,k=.str [c]/\kY (.dct kvs) k=some v/\(c,v)∈PV x)->∃ps:List Pr,prs kvs ks=ps.map encC/\ps.length=ks.length/\∀p∈ps,p.1∈x/\p.2.length<=1/\∀c∈p.2,c∈x
 |[],_=>⟨[],rfl,rfl,λp hp=>by simp at hp⟩
 |k::ks,h=>by
  obtain⟨c,v,rfl,e,hv⟩:=h k<|Qqj ..;obtain⟨t,et,ht⟩:=ac6 x hx _ hv;obtain⟨ps,e1,e2,e3⟩:=Eo hx ks λk hk=>h k<|Qqq _ hk;refine⟨(c,t)::ps,?_,by rw[Qqw,Qqw,e2],λp hp=>?_⟩;unfold prs at e1 ⊢;rw[Qwq,e1,e];have et':v=.str t:=et;rw[et'];rfl;rcases Qq7.mp hp with rfl|hp;exact⟨Gn hv,ht⟩;exact e3 p hp
structure j9(x:List Nat)(w ch l r:D):Prop where
 way:w=.str [111,110,99,101]\/w=.str [97,108,111,110,103]
 chg:BR x ch
 left:l∈SG x
 right:r∈SG x
noncomputable def fit(l:D)(a:Nat):Bool:=jP.isT (gO [l,.str [a]])
theorem Im(a):∀z:List Nat,Qv (.str [a]) (z.map λc=>.str [c])=some (z.contains a)
 |[]=>rfl
 |c::z=>by
  rw[Qwq];unfold Qv;rw[Im a z];show some (([c] == [a])||z.contains a)=_;rw[List.contains_cons];congr 2;by_cases h:a=c;subst h;simp;rw[beq_false_of_ne h,beq_false_of_ne λq=>h (Qz2 q).1.symm]
theorem iC:∀x∈XS,∀l∈SG x,∀a∈35::x,gO [l,.str [a]]=some (.bl (fit l a)):=by
 intro x hx l hl a ha;have h:∃b,gO [l,.str [a]]=some (.bl b):=by
  rcases Qq7.mp hl with rfl|hl;exact⟨true,rfl⟩;obtain⟨d,_,rfl⟩:=Qw3.mp hl;unfold jP.sgR;generalize(((List.range<|x.length+1).filter<|jP.bit d).map λk=>(35::x).getD k 0)=z;refine⟨z.contains a,dC (env:=[Zf (.tup<|z.map λc=>.str [c]),Zs [a]])<|bV ?_⟩;have e:aB gIn 1 (aZ 0) [Zf (.tup<|z.map λc=>.str [c]),Zs [a]]=.ok (.bl<|z.contains a) [Zf (.tup<|z.map λc=>.str [c]),Zs [a]]:=by
   refine cB rfl rfl rfl ?_;show(Option.map D.bl<|Qv (.str [a])<|z.map λc=>.str [c]).or _=_;rw[Im];rfl
  exact(Uq rfl).trans e
 obtain⟨b,e⟩:=h;unfold fit;rw[e];cases b<;>rfl
open jP (SG cO)
theorem mW(h:a.length+b.length<=100000):dB (.str a) (.str b)=some (.str (a++b)):=by show(if a.length+b.length<=sizeLine then _ else _)=_;rw[if_pos (Qq4 h (by decide))]
theorem oK(h1:a env=.ok p env)(h2:b env=.ok q env):mD a b env=.ok (p&&q) env:=by
 unfold mD;rw[h1];cases p with
 |true=>exact h2|false=>rfl
theorem Zx{zs:List (List Nat)}(h1:zs.length<=80000)(h2:∀z∈zs,z.length<=2):qK (.str []) (.lst (zs.map .str))=some (.str zs.flatten):=by
 have hf:joinFits [] zs=true:=by refine Qwj ?_;have:=Qy.aat h2;show _+zs.length*0<=_;omega
 show(match jr (zs.map D.str) with|some xs=>if joinFits [] xs=true then some (D.str<|zF [] xs) else none|none=>none)=_;rw[Qy.rA];show(if joinFits [] zs=true then _ else _)=_;rw[if_pos hf,Qy.Py]
noncomputable abbrev ed(w:List Nat):List Nat:=35::(w++[35])
noncomputable abbrev sg(w:List Nat)(n:Nat):Nat:=(ed w).getD n 0
section
variable{x w:List Nat}{l r:D}
noncomputable def pc(l r:D)(c:Nat)(w:List Nat)(n:Nat):List (List Nat):=if (fit l (sg w n)&&fit r (sg w (n+1)))=true then [[c]] else []
noncomputable def pin(l r:D)(c:Nat)(w:List Nat):Nat->List (List Nat)
 |0=>[]|n+1=>pin l r c w n++(pc l r c w n++[[sg w (n+1)]])
variable(hx:x∈XS)(hl:l∈SG x)(hr:r∈SG x)(hw:∀c∈w,c∈x)(hn:w.length<=30000)
include hx hl hr
include hw hn
end
def Bb(x:List Nat)(kvs:List (D×D)):Prop:=∀k v,(k,v)∈kvs->∃t:List Nat,v=.str t/\t.length<=1/\∀c∈t,c∈x
theorem Bb.put(h:Bb x kvs)(k)(q)(t)(h1:t.length<=1)(h2:∀c∈t,c∈x):Bb x (putD kvs k q (.str t)):=by
 intro k' v hm;unfold putD at hm;split at hm;rcases jP.yL hm with hm|⟨_,rfl⟩;exact h k' v hm;exact⟨t,rfl,h1,h2⟩;rcases Qww.mp hm with hm|hm;exact h k' v hm;cases Qq2.mp hm;exact⟨t,rfl,h1,h2⟩
theorem Bb.all:∀(ps:List Pr) kvs,Bb x kvs->(∀p∈ps,p.1∈x/\p.2.length<=1/\∀c∈p.2,c∈x)->Bb x (km kvs (ps.map λp=>(.str [p.1],.str p.2)))
 |[],kvs,h,_=>h
 |p::ps,kvs,h,hp=>by
  have h1:=hp p<|Qqj ..;exact Bb.all ps _ (h.put (.str [p.1]) (.inr<|strOf [p.1]) p.2 h1.2.1 h1.2.2) λp hm=>hp p<|Qqq _ hm
theorem Cy:∀(ps:List Pr),o5 (ps.map encC)=some (ps.map λp=>(.str [p.1],.str p.2))
 |[]=>rfl
 |p::ps=>by
  rw[Qwq];unfold o5;rw[Cy ps]
  rfl
theorem yw{ps:List Pr}(hp:∀p∈ps,p.1∈x/\p.2.length<=1/\∀c∈p.2,c∈x):∃kvs,zO [.tup (ps.map encC)]=some (.dct kvs)/\Bb x kvs:=by
 refine⟨km []<|ps.map λp=>(.str [p.1],.str p.2),?_,Bb.all ps [] (λk v h=>by simp at h) hp⟩;show(o5<|ps.map encC).map _=_;rw[Cy]
 rfl
noncomputable def look(kvs:List (D×D))(s:Nat):Option (List Nat):=match pO kvs (.inr (strOf [s])) with
 |some (.str t)=>some t|_=>none
theorem jG(h:Bb x kvs)(hs:look kvs s=some t):kY (.dct kvs) (.str [s])=some (.str t)/\t.length<=1/\∀c∈t,c∈x:=by
 unfold look at hs;split at hs;rename_i u e;cases hs;obtain⟨k,hk,_⟩:=jP.n6 e;obtain⟨t',h1,h2⟩:=h k _ hk;cases h1;exact⟨e,h2⟩;cases hs
section
variable{x w:List Nat}{l r:D}{kvs:List (D×D)}
noncomputable def nw(kvs:List (D×D))(l r:D)(w:List Nat)(near n:Nat):List Nat:=if ((look kvs (sg w (n+1))).isSome&&(fit l near&&fit r (sg w (n+2))))=true then (look kvs (sg w (n+1))).getD [] else [sg w (n+1)]
noncomputable def Kv(al:Bool)(w:List Nat)(made:List (List Nat))(n:Nat):Nat:=if al=true then (35::made.flatten).getLastD 0 else sg w n
noncomputable def cg(al:Bool)(kvs:List (D×D))(l r:D)(w:List Nat):Nat->List (List Nat)
 |0=>[]|n+1=>cg al kvs l r w n++[nw kvs l r w (Kv al w (cg al kvs l r w n) n) n]
noncomputable def su(al:Bool):D:=if al=true then .str [97,108,111,110,103] else .str [111,110,99,101]
variable(hx:x∈XS)(hl:l∈SG x)(hr:r∈SG x)(hw:∀c∈w,c∈x)(hn:w.length<=30000)(hk:Bb x kvs)
include hx hl hr hw hn hk
noncomputable def out(al:Bool)(kvs:List (D×D))(l r:D)(w:List Nat):List Nat:=(cg al kvs l r w w.length).flatten
end
noncomputable def sides:List D:=[.str [108,101,102,116],.str [114,105,103,104,116]]
end pI
namespace Ay
open Ev PySem L2
open jP (cO)
open pI (XS sides j9 mW)
def bN(x:List Nat)(R:D):Prop:=∃wy ch l r,R=.tup [wy,ch,l,r]/\j9 x wy ch l r
section
variable{x:List Nat}{s:D}
theorem Vb{d:D}:vL (ds++[d]) (-1)=some d:=by
 unfold vL Xw;rw[if_neg (by decide),if_pos (by rw[Qqk,Qw1];omega)];show(ds++[d])[((-1)+((ds++[d]).length:Int)).toNat]?=_;have e1:((-1)+((ds++[d]).length:Int)).toNat=ds.length:=by rw[Qqk,Qw1];omega
 rw[e1];simp
variable(hx:x∈XS)(hs:s∈sides){Rs:List D}(hR:∀R∈Rs,bN x R)(h4:Rs.length<=10){w:List Nat}(hw:∀c∈w,c∈x)(hn:(w.length+1)*2^Rs.length<=301)
include hx hs hR h4 hw hn
end
theorem ji(h:okN 60 d=true):MT d d=some (.bl false):=by
 show(bh 60 d d).map _=_;rw[z9 60 d h]
 rfl
end Ay
namespace cR
open Ev PySem L2
open jP (SG cO)
open pI (XS sides j9 mW fit iC Bb look jG su encC yw BR oK)
open Ay (bN ji)
abbrev St:=Bool×List Nat
noncomputable def aN(s:St):D:=.tup [.bl s.1,.str s.2]
inductive Rl
 |put (c:Nat) (l r:D)|chg (al:Bool) (kvs:List (D×D)) (l r:D)
noncomputable def Gs(kvs:List (D×D))(s:Nat)(b:Bool):List Nat:=if b=true then (look kvs s).getD [s] else [s]
noncomputable def nrC(al:Bool)(l:D)(s:Nat)(b:Bool)(p:List Nat):Bool:=if al=true then (if p=[] then b else fit l (p.headD 0)) else fit l s
noncomputable def stp:Rl->St->Nat->St×List Nat
 |.put c l r,s,a=>((fit l a,[a]),s.2++(if (s.1&&fit r a)=true then [c] else []))
 |.chg al kvs l r,s,a=>match s.2 with
  |[]=>((s.1,[a]),[])|h::_=>((nrC al l h s.1 (Gs kvs h (s.1&&fit r a)),[a]),Gs kvs h (s.1&&fit r a))
noncomputable def rd(ρ:Rl):St->List Nat->St×List Nat
 |s,[]=>(s,[])|s,a::z=>((rd ρ (stp ρ s a).1 z).1,(stp ρ s a).2++(rd ρ (stp ρ s a).1 z).2)
theorem lA(ρ):∀z s y,rd ρ s (z++y)=((rd ρ (rd ρ s z).1 y).1,(rd ρ s z).2++(rd ρ (rd ρ s z).1 y).2)
 |[],s,y=>rfl
 |a::z,s,y=>by
  show((rd ρ (stp ρ s a).1<|z++y).1,(stp ρ s a).2++(rd ρ (stp ρ s a).1<|z++y).2)=_;rw[lA ρ z];show _=((rd ρ (rd ρ (stp ρ s a).1 z).1 y).1,((stp ρ s a).2++(rd ρ (stp ρ s a).1 z).2)++_);rw[Qwk]
  rfl
theorem Eh(ρ)(s)(a):rd ρ s [a]=stp ρ s a:=by show((stp ρ s a).1,(stp ρ s a).2++[])=_;rw[Qw6]
theorem uD(ρ)(s)(z)(a):rd ρ s (z++[a])=((stp ρ (rd ρ s z).1 a).1,(rd ρ s z).2++(stp ρ (rd ρ s z).1 a).2):=by rw[lA,Eh]
inductive Is (x:List Nat):D->Rl->Prop
 |put {wy l r:D} {c:Nat}:c∈x->l∈SG x->r∈SG x->Is x (.tup [wy,.tup [.tup [.str [],.str [c]]],l,r]) (.put c l r)|chg {al:Bool} {ps:List pI.Pr} {kvs:List (D×D)} {l r:D}:0<ps.length->zO [.tup (ps.map encC)]=some (.dct kvs)->Bb x kvs->l∈SG x->r∈SG x->Is x (.tup [su al,.tup (ps.map encC),l,r]) (.chg al kvs l r)
theorem Z8{w:D}(h:w=.str [111,110,99,101]\/w=.str [97,108,111,110,103]):∃al,w=su al:=by
 rcases h with rfl|rfl;exact⟨false,rfl⟩;exact⟨true,rfl⟩
theorem T8{R:D}(h:bN x R):∃ρ,Is x R ρ:=by
 obtain⟨wy,ch,l,r,rfl,h⟩:=h;obtain⟨h1,h2,h3,h4⟩:=h;cases h2 with
 |put hc=>exact⟨_,.put hc h3 h4⟩|chg hp hp4 hps=>obtain⟨al,rfl⟩:=Z8 h1;obtain⟨kvs,hd,hk⟩:=yw hps;exact⟨_,.chg hp hd hk h3 h4⟩
def iV(x:List Nat)(s:St):Prop:=s.2.length<=1/\∀c∈s.2,c∈35::x
theorem R8(hk:Bb x kvs)(s)(hs:s∈35::x)(b):(Gs kvs s b).length<=1/\∀c∈Gs kvs s b,c∈35::x:=by
 unfold Gs;split;cases e:look kvs s with
 |none=>exact⟨Qq1 _,λc hc=>by rw[Qq2.mp hc];exact hs⟩|some t=>exact⟨(jG hk e).2.1,λc hc=>Qqq _<|(jG hk e).2.2 c hc⟩
 exact⟨Qq1 _,λc hc=>by rw[Qq2.mp hc];exact hs⟩
theorem J4{x:List Nat}{R:D}(hR:Is x R ρ)(hs:iV x s)(ha:a∈35::x):iV x (stp ρ s a).1/\(stp ρ s a).2.length<=2/\∀c∈(stp ρ s a).2,c∈35::x:=by
 have h1:∀b,iV x (b,[a]):=λb=>⟨Qq1 _,λc hc=>by rw[Qq2.mp hc];exact ha⟩;cases hR with
 |put hc hl hr=>refine⟨h1 _,?_,?_⟩;show(s.2++_).length<=2;have:=hs.1;rw[Qqk];split;rw[Qw1];omega;rw[Qzk];omega;intro c hm;rcases Qww.mp hm with hm|hm;exact hs.2 c hm;split at hm;rw[Qq2.mp hm];exact Qqq _ hc;simp at hm
 |chg hp hd hk hl hr=>
  obtain⟨b,h⟩:=s;match h,hs with
  |[],hs=>exact⟨h1 _,Qx0 _,λc hc=>by simp[stp] at hc⟩|s::h,hs=>exact⟨h1 _,Qq4 (R8 hk s (hs.2 s<|Qqj ..) _).1 (by decide),(R8 hk s (hs.2 s<|Qqj ..) _).2⟩
theorem uE{x:List Nat}{R:D}(hR:Is x R ρ):∀z {s},iV x s->(∀a∈z,a∈35::x)->iV x (rd ρ s z).1/\(rd ρ s z).2.length<=2*z.length/\∀c∈(rd ρ s z).2,c∈35::x
 |[],s,hs,_=>⟨hs,Qq1 _,λc hc=>by simp[rd] at hc⟩
 |a::z,s,hs,hz=>by
  obtain⟨h1,h2,h3⟩:=J4 hR hs<|hz a<|Qqj ..;obtain⟨h4,h5,h6⟩:=uE hR z h1 λb hb=>hz b<|Qqq _ hb;refine⟨h4,?_,?_⟩;show((stp ρ s a).2++(rd ρ (stp ρ s a).1 z).2).length<=_;rw[Qqk,Qqw];omega;intro c hc;rcases Qww.mp (show c∈(stp ρ s a).2++(rd ρ (stp ρ s a).1 z).2 from hc) with hc|hc;exact h3 c hc;exact h6 c hc
theorem ahs(hk:Bb x kvs)(s):Ul (.dct kvs) (.str [s]) (.str [s])=some (.str ((look kvs s).getD [s])):=by
 show some ((pO kvs<|.inr<|strOf [s]).getD<|.str [s])=_;unfold look;cases e:pO kvs (.inr<|strOf [s]) with
 |none=>rfl
 |some v=>
  obtain⟨k,hm,_⟩:=jP.n6 e;obtain⟨t,rfl,_⟩:=hk k v hm
  rfl
theorem Qc(h1:a env=.ok (.dct kvs) e1)(h2:b e1=.ok k e2)(h3:c e2=.ok t e3)(h:Ul (.dct kvs) k t=some d):Fw a b c env=.ok d e3:=by
 unfold Fw;rw[h1];simp[bindR];rw[h2];simp;rw[h3];simp;rw[h]
 rfl
theorem Yb(wy ch l r)(b)(a):dh [.tup [wy,ch,l,r],aN (b,[]),.str [a]]=some (.tup [aN (b,[a]),.str []]):=rfl
section
variable{x:List Nat}{l r:D}(hx:x∈XS)(hl:l∈SG x)(hr:r∈SG x)
include hx hl hr
theorem Ry(wy)(c)(b)(h)(hh:h.length<=1)(a)(ha:a∈35::x) :
  cY [.tup [wy,.tup [.tup [.str [],.str [c]]],l,r],aN (b,h),.str [a]]=some (.tup [aN (stp (.put c l r) (b,h) a).1,.str (stp (.put c l r) (b,h) a).2]):=by
 generalize hR:D.tup [wy,.tup [.tup [.str [],.str [c]]],l,r]=R;generalize hS:aN (b,h)=S;have fl:=iC x hx l hl a ha;have fr:=iC x hx r hr a ha;show _=some (D.tup [.tup [.bl (fit l a),.str [a]],.str<|h++(if (b&&fit r a)=true then [c] else [])]);generalize hP:(h++(if (b&&fit r a)=true then [c] else []))=p;refine dC (env:=[Zf R,Zf S,Zs [a],Zf wy,Zf<|.tup [.tup [.str [],.str [c]]],Zf l,Zf r,Zb b,Zs h,Zs p]) ?_;unfold bW;refine(aA (e:=[Zf R,Zf S,Zs [a],Zf wy,Zf<|.tup [.tup [.str [],.str [c]]],Zf l,Zf r,Zn,Zn,Zn]) (by rw[<-hR];rfl)).trans ?_;refine(aA (e:=[Zf R,Zf S,Zs [a],Zf wy,Zf<|.tup [.tup [.str [],.str [c]]],Zf l,Zf r,Zb b,Zs h,Zn]) (by rw[<-hS];rfl)).trans ?_;refine(aA rfl).trans ?_;refine(aA (e:=[Zf R,Zf S,Zs [a],Zf wy,Zf<|.tup [.tup [.str [],.str [c]]],Zf l,Zf r,Zb b,Zs h,Zs p]) ?_).trans ?_;have t:mD (fL<|aR 7) (fL<|au gO<|Zv 6<|Zv 2 aj) [Zf R,Zf S,Zs [a],Zf wy,Zf<|.tup [.tup [.str [],.str [c]]],Zf l,Zf r,Zb b,Zs h,Zs h]=.ok (b&&fit r a) [Zf R,Zf S,Zs [a],Zf wy,Zf<|.tup [.tup [.str [],.str [c]]],Zf l,Zf r,Zb b,Zs h,Zs h]:=
  oK rfl (f9<|aK rfl fr)
 cases hc:b&&fit r a with
 |true=>rw[hc] at t hP;rw[if_pos rfl] at hP;rw[<-hP];exact(jV t).trans<|bH (cB rfl rfl rfl (mW (by show h.length+1<=100000;omega))) rfl|false=>rw[hc] at t hP;rw[if_neg Qx1,Qw6] at hP;rw[<-hP];exact(gJ t).trans rfl
 refine bV<|bZ (aC (bZ (aC (aK (by rfl) fl)<|aC (by rfl) bu) Ev.BV)<|aC (by rfl) bu) Ev.BV
theorem Rz(al)(hk:Bb x kvs)(ch)(hd:zO [ch]=some (.dct kvs))(b)(s)(hs:s∈35::x)(a)(ha:a∈35::x) :
  dh [.tup [su al,ch,l,r],aN (b,[s]),.str [a]]=some (.tup [aN (stp (.chg al kvs l r) (b,[s]) a).1,.str (stp (.chg al kvs l r) (b,[s]) a).2]):=by
 generalize hR:D.tup [su al,ch,l,r]=R;generalize hS:aN (b,[s])=S;have fs:=iC x hx l hl s hs;have fr:=iC x hx r hr a ha;have hp:=R8 hk s hs<|b&&fit r a;show _=some (D.tup [.tup [.bl (nrC al l s b<|Gs kvs s<|b&&fit r a),.str [a]],.str<|Gs kvs s<|b&&fit r a]);have hP:Gs kvs s (b&&fit r a)=if (b&&fit r a)=true then (look kvs s).getD [s] else [s]:=rfl;generalize Gs kvs s (b&&fit r a)=p at *;refine dC (env:=[Zf R,Zf S,Zs [a],Zf<|su al,Zf ch,Zf l,Zf r,Zb b,Zs [s],Zs p]) ?_;unfold cH;refine(aA (e:=[Zf R,Zf S,Zs [a],Zf<|su al,Zf ch,Zf l,Zf r,Zn,Zn,Zn]) (by rw[<-hR];rfl)).trans ?_;refine(aA (e:=[Zf R,Zf S,Zs [a],Zf<|su al,Zf ch,Zf l,Zf r,Zb b,Zs [s],Zn]) (by rw[<-hS];rfl)).trans ?_;refine(aA<|(gJ (by rfl)).trans rfl).trans ?_;refine(aA rfl).trans ?_;refine(aA (e:=[Zf R,Zf S,Zs [a],Zf<|su al,Zf ch,Zf l,Zf r,Zb b,Zs [s],Zs p]) ?_).trans ?_;have t:mD (fL<|aR 7) (fL<|au gO<|Zv 6<|Zv 2 aj) [Zf R,Zf S,Zs [a],Zf<|su al,Zf ch,Zf l,Zf r,Zb b,Zs [s],Zs [s]]=.ok (b&&fit r a) [Zf R,Zf S,Zs [a],Zf<|su al,Zf ch,Zf l,Zf r,Zb b,Zs [s],Zs [s]]:=
  oK rfl (f9<|aK rfl fr)
 cases hc:b&&fit r a with
 |true=>rw[hc] at t hP;rw[if_pos rfl] at hP;rw[hP];exact(jV t).trans<|bH (Qc (aK rfl hd) rfl rfl (ahs hk s)) rfl|false=>rw[hc] at t hP;rw[if_neg Qx1] at hP;rw[hP];exact(gJ t).trans rfl
 cases al with
 |false=>refine(jA ?_).trans rfl;refine(jV rfl).trans ?_;refine bV<|bZ (aC (bZ (aC (aK rfl fs)<|aC rfl bu) Ev.BV)<|aC rfl bu) Ev.BV
 |true=>
  refine(aA<|(gJ (by rfl)).trans rfl).trans ?_;match p,hp with
  |[],_=>rfl|[q],hp=>have fq:=iC x hx l hl q<|hp.2 q<|Qqj ..;refine(aA<|(gJ (by rfl)).trans rfl).trans ?_;exact bV (bZ (aC (bZ (aC (aK rfl fq) (aC rfl bu)) Ev.BV) (aC rfl bu)) Ev.BV)|_::_::_,hp=>exact absurd hp.1 (by simp)
end
theorem uX(h1:a env=.ok (.bl p) env)(h2:b env=.ok (.bl q) env):pP a b env=.ok (.bl (p||q)) env:=by
 cases p with
 |true=>rw[acD h1];rfl|false=>rw[Uq h1,h2];rfl
theorem uy:∀{y z},rB y=rB z->y=z
 |[],[],_=>rfl|[],_::_,h=>by cases h|_::_,[],h=>by cases h
 |a::y,b::z,h=>by
  have h1:=h;injection h1 with h2 h3
  injection h2 with h4
  injection h4 with h5
  rw[h5,uy h3]
theorem ux(y)(a):rB (y++[a])=rB y++[.str [a]]:=by unfold rB;rw[Qz4];rfl
theorem yl{done rest:List D}(h:rB z=done++d::rest):∃a,d=.str [a]/\a∈z/\done.length<z.length:=by
 have hm:d∈rB z:=by rw[h];exact Qxx _<|Qqj ..
 obtain⟨a,ha,rfl⟩:=Qw3.mp hm;have:=Qw9 List.length h;unfold rB at this;rw[Qq3,Qqk,Qqw] at this;exact⟨a,rfl,ha,by omega⟩
theorem Uh(ρ)(s)(a):(stp ρ s a).1.2=[a]:=by
 cases ρ with
 |put c l r=>rfl|chg al kvs l r=>obtain⟨b,h⟩:=s;cases h<;>rfl
theorem acz{ps:List pI.Pr}(hp:0<ps.length)(h:env[0]?=some (Zf (.tup [wy,.tup (ps.map encC),l,r]))):aO tR (aO fj (aO fj (aB fj 0 (Zi 1)) (Zi 0)) (Zi 0)) (Zw []) env=.ok (.bl false) env:=by
 match ps,hp with
 |p::ps,_=>refine bL (x:=.str [p.1]) ?_ rfl rfl;refine bL (x:=encC p) ?_ rfl rfl;refine bL (x:=.tup<|(p::ps).map encC) ?_ rfl (lN rfl);exact cB h rfl h rfl
section
variable{x:List Nat}{R:D}{ρ:Rl}(hx:x∈XS)(hR:Is x R ρ)
include hx hR
theorem one_sign(hs:iV x s)(ha:a∈35::x) :
  (jw [R]=some (.bl true)/\cY [R,aN s,.str [a]]=some (.tup [aN (stp ρ s a).1,.str (stp ρ s a).2]))\/(jw [R]=some (.bl false)/\dh [R,aN s,.str [a]]=some (.tup [aN (stp ρ s a).1,.str (stp ρ s a).2])):=by
 cases hR with
 |put hc hl hr=>exact .inl ⟨rfl,Ry hx hl hr _ _ s.1 s.2 hs.1 a ha⟩
 |chg hp hd hk hl hr=>
  rename_i al ps kvs l r;refine .inr ⟨?_,?_⟩;exact dC<|bV<|acz hp rfl;obtain⟨b,h⟩:=s;match h,hs with
  |[],hs=>exact Yb _ _ _ _ _ _|[s],hs=>exact Rz hx hl hr al hk _ hd b s (hs.2 s<|Qqj ..) a ha|_::_::_,hs=>exact absurd hs.1 (by simp)
noncomputable def yO:bO:=fD.fP
theorem V8(hs:iV x s)(ha:a∈35::x)(A2 a6 a7:OD)(ps)(hp:ps.length<=400)(t) :
  ∃u,yO [Zf R,Zf (aN s),A2,Zl ps,Zb t,Zs [a],a6,a7]=.nx [Zf R,(Zf (aN (stp ρ s a).1)),A2,(Zl (ps++[.str (stp ρ s a).2])),Zb (t||u),Zs [a],Zs s.2,(Zs ((stp ρ s a).2))]:=by
 obtain⟨u,hu⟩:∃u,MT (.str (stp ρ s a).2) (.str s.2)=some (.bl u):=⟨_,rfl⟩;refine⟨u,?_⟩;have h1:=one_sign hx hR hs ha;generalize hq:(stp ρ s a).2=q at *;generalize hs':(stp ρ s a).1=s' at *;unfold yO;refine(aA rfl).trans ?_;refine(aA (e:=[Zf R,Zf<|aN s',A2,Zl ps,Zb t,Zs [a],Zs s.2,Zs q]) ?_).trans ?_;rcases h1 with ⟨g1,g2⟩|⟨g1,g2⟩;refine(jV<|f9<|aK rfl g1).trans ?_;exact bH (aK rfl g2) rfl;refine(gJ<|f9<|aK rfl g1).trans ?_;exact bH (aK rfl g2) rfl;refine(aA (e:=[Zf R,Zf<|aN s',A2,Zl ps,Zb<|t||u,Zs [a],Zs s.2,Zs q]) ?_).trans ?_;refine bH (uX rfl ?_) rfl;exact cB rfl rfl rfl hu;exact(cO (i:=3) (e:=[Zf R,Zf<|aN s',A2,Zl ps,Zb<|t||u,Zs [a],Zs s.2,Zs q]) rfl rfl rfl (Qw5 hp (by decide))).trans rfl
theorem read_signs(hs:iV x s)(hz:∀a∈z,a∈35::x)(hn:z.length<=150):∃t,dR [R,aN s,.str z]=some (.tup [aN (rd ρ s z).1,.str (rd ρ s z).2,.bl t]):=by
 obtain⟨e',f1,hd,dz,pl,t,a5,a6,a7,e1,hdz,e2,e3,e4,rfl⟩:=rG (g:=ak 5) (rB z)
  (λdone env=>done.length<=z.length/\∃dz pl t a5 a6 a7,done=rB dz/\(∀a∈dz,a∈35::x)/\pl.flatten=(rd ρ s dz).2/\pl.length=done.length/\(∀q∈pl,q.length<=2)/\env=[Zf R,(Zf<|aN (rd ρ s dz).1),Zs z,Zl<|pl.map .str,Zb t,a5,a6,a7])
  (λdone d rest hall env ⟨hd,dz,pl,t,a5,a6,a7,e1,hdz,e2,e3,e4,he⟩=>by
   subst he;obtain⟨a,rfl,ha,hl⟩:=yl hall;have hok:=uE hR dz hs hdz;have hst:=J4 hR hok.1<|hz a ha;obtain⟨u,hb⟩:=V8 hx hR hok.1 (hz a ha) (Zs z) a6 a7 (pl.map .str) (by rw[Qq3];omega) t;refine⟨_,_,rfl,hb,by rw[Qqk,Qw1];omega,dz++[a],pl++[(stp ρ (rd ρ s dz).1 a).2],(t||u),Zs [a],(Zs<|(rd ρ s dz).1.2),(Zs<|(stp ρ (rd ρ s dz).1 a).2),by rw[ux,e1],?_,?_,?_,?_,?_⟩
   intro b hb;rcases Qww.mp hb with hb|hb
   exact hdz b hb
   rw[Qq2.mp hb];exact hz a ha
   rw[uD,List.flatten_append,e2];simp
   rw[Qqk,Qqk,e3]
   rfl
   intro q hq;rcases Qww.mp hq with hq|hq
   exact e4 q hq
   rw[Qq2.mp hq];exact hst.2.1
   rw[uD,Qz4]
   rfl)
  [Zf R,Zf<|aN s,Zs z,Zl [],Zb false,Zn,Zn,Zn] ⟨Qx0 _,[],[],false,Zn,Zn,Zn,rfl,λa ha=>by simp at ha,rfl,rfl,λq hq=>by simp at hq,rfl⟩
 have hzz:=uy e1;subst hzz;refine⟨t,dC (env:=[Zf R,(Zf<|aN (rd ρ s z).1),Zs z,Zl<|pl.map .str,Zb t,a5,a6,a7]) ?_⟩;unfold dJ;refine(aA rfl).trans ?_;refine(aA rfl).trans ?_;refine(aA<|(gU rfl).trans f1).trans ?_;have hj:qK (.str []) (.lst<|pl.map .str)=some (.str (rd ρ s z).2):=by rw[pI.Zx (by rw[e3];omega) e4,e2]
 exact bV<|bZ (aC rfl (aC (bL rfl rfl hj)<|aC rfl bu)) Ev.zz3
end
theorem wV(h1:g d env=some e1)(h2:b e1=.nx e2):ir g b (d::ds) env=ir g b ds e2:=by
 conv=>lhs;unfold ir
 rw[h1];simp;rw[h2]
noncomputable def tn:D->D
 |.tup [wy,ch,l,r]=>.tup [wy,ch,r,l]|d=>d
noncomputable def lf:D->D
 |.tup [_,_,l,_]=>l|d=>d
noncomputable def rt:D->Bool
 |.str (114::_)=>true|_=>false
noncomputable def lay(s:D)(Rs:List D):List D:=if rt s=true then Rs.map tn else Rs
theorem Q5{R:D}(h:bN x R):bN x (tn R)/\jJ [R]=some (tn R)/\Ft [R]=some (tn R):=by obtain⟨wy,ch,l,r,rfl,h1,h2,h3,h4⟩:=h;exact⟨⟨wy,ch,r,l,rfl,h1,h2,h4,h3⟩,rfl,rfl⟩
theorem iz(s)(Rs):(lay s Rs).length=Rs.length:=by
 unfold lay;split;rw[Qq3];rfl
theorem qH(h:∀R∈Rs,bN x R):∀R∈lay s Rs,bN x R:=by
 unfold lay;split;intro R hR;obtain⟨Q,hQ,rfl⟩:=Qw3.mp hR;exact(Q5<|h Q hQ).1;exact h
noncomputable def cN(x:List Nat)(R:D):Rl:=open Classical in if h:∃ρ,Is x R ρ then h.choose else .put 0 .non .non
theorem qt{R:D}(h:bN x R):Is x R (cN x R):=by unfold cN;rw[dif_pos (T8 h)];exact(T8 h).choose_spec
noncomputable def gV(x:List Nat):List D->List St->List Nat->List St×List Nat
 |R::Rs,s::ss,z=>((rd (cN x R) s z).1::(gV x Rs ss (rd (cN x R) s z).2).1,(gV x Rs ss (rd (cN x R) s z).2).2)|_,_,z=>([],z)
noncomputable def Je(x:List Nat):List D->List St->List Nat->List Nat
 |R::Rs,s::ss,z=>Je x Rs ss (rd (cN x R) s (z++[35])).2|_,_,z=>z
noncomputable def jZ(Rs:List D):List St:=Rs.map λR=>(fit (lf R) 35,[])
section
variable{x:List Nat}{s:D}(hx:x∈XS)(hs:s∈sides){Rs:List D}(hR:∀R∈Rs,bN x R)(h4:Rs.length<=10)
include hx hs hR h4
theorem reading_rules:cj [.tup [s,.tup Rs]]=some (.tup (lay s Rs)):=by
 rcases Qq7.mp hs with rfl|hs;rfl;cases Qq2.mp hs;obtain⟨env',g1,v5,rfl⟩:=yq (g:=ak 3) (e:=au jJ<|Zv 3 aj) (λenv=>∃v5,env=[Zf (.tup [.str [114,105,103,104,116],.tup Rs]),Zs [114,105,103,104,116],Zf<|.tup Rs,v5]) tn Rs
  [Zf (.tup [.str [114,105,103,104,116],.tup Rs]),Zs [114,105,103,104,116],Zf<|.tup Rs,Zn] ⟨none,rfl⟩
  (λd hd env ⟨v5,he⟩=>by
   subst he;exact⟨[Zf (.tup [.str [114,105,103,104,116],.tup Rs]),Zs [114,105,103,104,116],Zf<|.tup Rs,Zf d],_,rfl,aK rfl (Q5<|hR d hd).2.1,_,rfl⟩)
 refine dC (env:=[Zf (.tup [.str [114,105,103,104,116],.tup Rs]),Zs [114,105,103,104,116],Zf<|.tup Rs]) ?_;unfold bU;refine(aA rfl).trans ?_;refine(jA ?_).trans rfl;refine(jV rfl).trans ?_;refine bV<|aK (ds:=[.lst (Rs.map tn)]) (aC ?_ bu) rfl;exact rH (n:=4) (aJ:=[Zf (.tup [.str [114,105,103,104,116],.tup Rs]),Zs [114,105,103,104,116],Zf<|.tup Rs]) rfl rfl g1 (by rw[Qq3];exact Qq4 h4 (by decide))
theorem first_standing:aY [.tup [s,.tup Rs]]=some (.tup ((jZ (lay s Rs)).map aN)):=by
 have h1:=reading_rules hx hs hR h4;have h2:=qH (s:=s) hR;have h3:=iz s Rs;generalize lay s Rs=Ls at *;generalize D.tup [s,.tup Rs]=O at *;obtain⟨env',g1,v1,v2,v3,v4,rfl⟩:=yq (g:=cF 4<|aG (ak 1)<|aG (ak 2)<|aG (ak 3)<|aG (ak 4) cG) (e:=bF<|aa (au gO<|Zv 3<|aa (Zw [35]) aj)<|aa (Zw []) aj) (λenv=>∃v1 v2 v3 v4,env=[Zf O,v1,v2,v3,v4]) (λR=>aN (fit (lf R) 35,[])) Ls
  [Zf O,Zn,Zn,Zn,Zn] ⟨none,Zn,Zn,Zn,rfl⟩
  (λd hd env ⟨v1,v2,v3,v4,he⟩=>by
   subst he;obtain⟨wy,ch,l,r,rfl,hro⟩:=h2 d hd;exact⟨[Zf O,Zf wy,Zf ch,Zf l,Zf r],[Zf O,Zf wy,Zf ch,Zf l,Zf r],rfl,bZ (aC (aK rfl (iC x hx l hro.left 35<|Qqj ..)) rfl) Ev.BV,_,_,_,_,rfl⟩)
 refine dC (env:=[Zf O])<|bV<|aK (ds:=[.lst (Ls.map λR=>aN (fit (lf R) 35,[]))]) (aC ?_ bu) ?_;exact rH (n:=5) (aJ:=[Zf O]) (uY (aK rfl h1) rfl) rfl g1 (by rw[Qq3,h3];exact Qq4 h4 (by decide));unfold jZ;rw[Qkw];rfl
end
theorem Um(x)(Rs):∀s∈jZ Rs,iV x s:=by intro s hs;obtain⟨R,_,rfl⟩:=Qw3.mp hs;exact⟨Qx0 _,λc hc=>by simp at hc⟩
noncomputable def vO:bO:=fD.ik
noncomputable def JN:bO:=fD.qG
section
variable{x:List Nat}(hx:x∈XS)
theorem Fo(h:(n+2)*2^(k+1)<=150)(hm:m<=2*(n+1)):(m+2)*2^k<=150/\n<=73:=by
 have h1:(n+2)*2^(k+1)=(2*(n+1)+2)*2^k:=by
  rw[Nat.pow_succ,<-Nat.mul_assoc,Nat.mul_right_comm]
  congr 1
  omega
 have h2:(m+2)*2^k<=(2*(n+1)+2)*2^k:=Nat.mul_le_mul_right _ (by omega);have h3:1<=2^k:=Nat.one_le_two_pow;have h4:2*(n+1)+2<=(2*(n+1)+2)*2^k:=Nat.le_mul_of_pos_right _ h3;omega
include hx
theorem YG(A0 A1 A2:OD):∀Rs ss z acc ts (v6 v7 v8 v9:OD),Rs.length=ss.length->(∀R∈Rs,bN x R)->(∀s∈ss,iV x s)->(∀a∈z,a∈35::x)->(z.length+2)*2^Rs.length<=150->acc.length+Rs.length<=100->ts.length+Rs.length<=100->
  ∃us w6 w7 w8 w9,ir (cF 2 (aG (ak 6) (aG (ak 7) cG))) vO (vN Rs (ss.map aN)) [A0,A1,A2,Zs z,Zl acc,Zl ts,v6,v7,v8,v9]=.nx [A0,A1,A2,(Zs ((gV x Rs ss z).2)),(Zl (acc++(gV x Rs ss z).1.map aN)),Zl us,w6,w7,w8,w9]/\(∀s∈(gV x Rs ss z).1,iV x s)/\(gV x Rs ss z).1.length=Rs.length/\us.length<=100
 |[],[],z,acc,ts,v6,v7,v8,v9,_,_,_,_,_,_,ht=>by
  refine⟨ts,v6,v7,v8,v9,?_,λs hs=>by simp[gV] at hs,rfl,ht⟩;show Ev.Out.nx _=Ev.Out.nx [A0,A1,A2,Zs z,Zl<|acc++[],Zl ts,v6,v7,v8,v9];rw[Qw6]
 |[],_::_,_,_,_,_,_,_,_,h,_,_,_,_,_,_=>by simp at h|_::_,[],_,_,_,_,_,_,_,h,_,_,_,_,_,_=>by simp at h
 |R::Rs,s::ss,z,acc,ts,v6,v7,v8,v9,h,hR,hS,hz,hn,ha,ht=>by
  have ZC:=qt<|hR R<|Qqj ..;have hso:=hS s<|Qqj ..;obtain⟨o1,o2,o3⟩:=uE ZC z hso hz;obtain⟨n1,n2⟩:=Fo hn (m:=(rd (cN x R) s z).2.length) (by omega);obtain⟨t,hrs⟩:=read_signs hx ZC hso hz (by omega);rw[Qqw] at ha ht;obtain⟨us,w6,w7,w8,w9,g1,g2,g3,g4⟩:=YG A0 A1 A2 Rs ss (rd (cN x R) s z).2 (acc++[aN (rd (cN x R) s z).1]) (ts++[.bl t]) (Zf R) (Zf<|aN s) (Zf<|aN (rd (cN x R) s z).1) (Zb t) (by simpa using h) (λQ hQ=>hR Q<|Qqq _ hQ) (λq hq=>hS q<|Qqq _ hq) o3 n1 (by rw[Qqk,Qw1];omega) (by rw[Qqk,Qw1];omega);refine⟨us,w6,w7,w8,w9,?_,?_,?_,g4⟩;show ir _ vO (.tup [R,aN s]::vN Rs (ss.map aN)) _=Ev.Out.nx [A0,A1,A2,(Zs<|(gV x Rs ss (rd (cN x R) s z).2).2),(Zl<|acc++(aN (rd (cN x R) s z).1::(gV x Rs ss (rd (cN x R) s z).2).1.map aN)),Zl us,w6,w7,w8,w9];rw[wV rfl ?_,g1,Qwk];rfl;generalize(rd (cN x R) s z).2=q at *;generalize(rd (cN x R) s z).1=s' at *;unfold vO;refine(aA<|bH (aK rfl hrs) rfl).trans ?_;refine(aA (e:=[A0,A1,A2,Zs q,Zl<|acc++[aN s'],Zl ts,Zf R,Zf<|aN s,Zf<|aN s',Zb t]) ?_).trans ?_;exact(cO (i:=4) (e:=[A0,A1,A2,Zs q,Zl acc,Zl ts,Zf R,Zf<|aN s,Zf<|aN s',Zb t]) rfl rfl rfl (Qw5 (show acc.length<=100 by omega) (by decide))).trans rfl;exact(cO (i:=5) (e:=[A0,A1,A2,Zs q,Zl<|acc++[aN s'],Zl ts,Zf R,Zf (aN s),Zf (aN s'),Zb t]) rfl rfl rfl (Qw5 (show ts.length<=100 by omega) (by decide))).trans rfl;intro q hq;rcases Qq7.mp (show q∈(rd (cN x R) s z).1::(gV x Rs ss (rd (cN x R) s z).2).1 from hq) with rfl|hq;exact o1;exact g2 q hq;show(_::(gV x Rs ss (rd (cN x R) s z).2).1).length=_;rw[Qqw,g3,Qqw]
end
open pI (XS sides j9 mW BR)
open jP (Gj jO Gq PV SG Qf prs one others Mj FP Fj R7 mO Gn rA FQ)
open pI (Eo)
theorem changes(n)(x)(hx:x∈XS):∃ch n',jP.eU [.lst [.int n],.str x]=some (ch,.lst [.int n'])/\BR x ch:=by
 obtain⟨d,hd,e⟩:=dig n 5 (by decide);have hp:=Gj x hx;have hl4:=jO x hx;have t:fL (aO tR (dI jP.aV 0<|aa (Zi 5) aj)<|Zi 0) [Zl [.int n],Zs x,Zn,Zn,Zn,Zn]=.ok ((d:Int) == 0) [Zl [.int (n / 5)],Zs x,Zn,Zn,Zn,Zn]:=by
  rw[<-e];rfl
 by_cases h0:d=0;subst h0;obtain⟨j,hj,ej⟩:=dig (n / 5) x.length hp;refine⟨.tup [.tup [.str [],.str [x[j]]]],n / 5 / (x.length:Int),kW (env:=[Zl [.int (n / 5 / (x.length:Int))],Zs x,Zn,Zn,Zn,Zn]) ?_ rfl,.put<|Qx9 hj⟩;unfold jP.dG;refine(jA ?_).trans rfl;refine(jV t).trans ?_;refine bV<|bZ (aC (bZ (aC rfl (aC ?_ bu)) Ev.BV) bu) Ev.zz1;refine cB (y:=.int<|n / 5 % (x.length:Int)) rfl ?_ rfl ?_;exact iT (e1:=[Zl [.int (n / 5)],Zs x,Zn,Zn,Zn,Zn]) rfl rfl rfl (mO _ x.length hp (by omega));show(vL x<|n / 5 % (x.length:Int)).map _=_;rw[ej,K9 hj];rfl;have t0:((d:Int) == 0)=false:=by rw[Qzw];omega
 rw[t0] at t;obtain⟨j,hj,ej⟩:=dig (n / 5) 3 (by decide);obtain⟨ds,hds,hl1,hl2⟩:∃ds,yP [.int (1+(j:Int))]=some ds/\0<ds.length/\ds.length<=4:=by
  have hc:j=0\/j=1\/j=2:=by omega
  rcases hc with rfl|rfl|rfl;exact⟨_,rfl,by decide,by decide⟩;exact⟨_,rfl,by decide,by decide⟩;exact⟨_,rfl,by decide,by decide⟩
 obtain⟨e',f1,n',kvs,zs,v3,v4,v5,rfl,hk,hz1,hz2⟩:=rG (g:=ak 3) ds
  (λdone env=>∃n kvs zs v3 v4 v5,env=[Zl [.int n],Zs x,Zt<|.dct kvs,v3,v4,v5]/\Gq x kvs zs/\zs.length<=done.length/\(0<done.length->0<zs.length))
  (λdone s rest hall env ⟨n,kvs,zs,v3,v4,v5,he,hk,hz1,hz2⟩=>by
   subst he;have hdl:done.length<=4:=by have:=Qw9 List.length hall;rw[Qqk,Qqw] at this;omega
   have hkl:kvs.length=zs.length:=by
    have:=Qw9 List.length hk.keys
    rwa [Qq3,Qq3] at this
   obtain⟨p,n',w4,w5,hpv,hb⟩:=jP.round n x hx kvs (by omega) (Zf s) v4 v5;obtain⟨zs',hk',z1,z2⟩:=hk.put hpv<|Gn hpv;exact⟨_,_,rfl,hb,n',_,zs',_,_,_,rfl,hk',by rw[Qqk,Qw1];omega,λ_=>z1⟩)
  [Zl [.int (n / 5 / 3)],Zs x,Zt<|.dct [],Zn,Zn,Zn] ⟨_,[],[],_,_,_,rfl,⟨rfl,.nil,λc hc=>by simp at hc,λk v h=>by simp at h⟩,Qq1 _,λh=>h⟩
 have hz3:zs.length<=4:=Qq4 hz1 hl2;have hok:BR x (.tup<|prs kvs<|(je<|zs.map λc=>[c]).map D.str):=by
  obtain⟨ps,e1,e2,e3⟩:=Eo hx _<|Fj hk;have hl:ps.length=zs.length:=by rw[e2,Qq3,(iG _).length_eq,Qq3]
  rw[e1];have:=hz2 hl1;exact .chg (by omega) (by omega) e3
 refine⟨_,n',kW (env:=[Zl [.int n'],Zs x,Zt<|.dct kvs,v3,v4,v5]) ?_ rfl,hok⟩;unfold jP.dG;refine(aA<|(gJ t).trans rfl).trans ?_;refine(aA (e:=[Zl [.int (n / 5)],Zs x,Zt<|.dct [],Zn,Zn,Zn]) rfl).trans ?_;refine(aA (e:=[Zl [.int n'],Zs x,Zt<|.dct kvs,v3,v4,v5]) ?_).trans ?_;refine(gU ?_).trans f1;have a1:aa (aO dB (Zi 1)<|dI jP.aV 0<|aa (Zi 3) aj) aj [Zl [.int (n / 5)],Zs x,Zt<|.dct [],Zn,Zn,Zn]=.ok [.int (1+n / 5 % 3)] [Zl [.int (n / 5 / 3)],Zs x,Zt<|.dct [],Zn,Zn,Zn]:=by rfl
 unfold jj;rw[a1];show iy (yP [.int (1+n / 5 % ((3:Nat):Int))]) _=_;rw[ej,hds];rfl;exact FP (FQ hk hz3) _ _ _ _ _
theorem rule(n)(x)(hx:x∈XS):∃w ch l r n',jP.gM [.lst [.int n],.str x]=some (.tup [w,ch,l,r],.lst [.int n'])/\j9 x w ch l r:=by
 obtain⟨d,hd,e⟩:=dig n 2 (by decide);obtain⟨w,hw,h1⟩:∃w,(w=.str [111,110,99,101]\/w=.str [97,108,111,110,103])/\fj (.lst [.str [111,110,99,101],.str [97,108,111,110,103]]) (.int (d:Int))=some w:=by
  have hc:d=0\/d=1:=by omega
  rcases hc with rfl|rfl;exact⟨_,.inl rfl,rfl⟩;exact⟨_,.inr rfl,rfl⟩
 obtain⟨ch,n1,h2,h3⟩:=changes (n / 2) x hx;obtain⟨l,n2,h5,h6⟩:=jP.signs n1 x hx;obtain⟨r,n3,h7,h8⟩:=jP.signs n2 x hx;refine⟨w,ch,l,r,n3,kW (env:=[Zl [.int n3],Zs x,Zf w,Zf ch]) ?_ rfl,⟨hw,h3,h6,h8⟩⟩;unfold jP.iJ;refine(aA (e:=[Zl [.int (n / 2)],Zs x,Zf w,Zn]) ?_).trans ?_;refine bH (e:=[Zl [.int (n / 2)],Zs x,Zn,Zn]) ?_ rfl;refine bL rfl rfl ?_;have e2:n % 2=(d:Int):=e;rw[e2];exact h1;refine(aA (e:=[Zl [.int n1],Zs x,Zf w,Zf ch]) ?_).trans ?_;exact bH (iT rfl rfl rfl h2) rfl;refine bV<|bZ (aC rfl (aC rfl (aC (e1:=[Zl [.int n2],Zs x,Zf w,Zf ch]) ?_<|aC ?_ bu))) Ev.zz4;exact iT (e1:=[Zl [.int n1],Zs x,Zf w,Zf ch]) rfl rfl rfl h5;exact iT (e1:=[Zl [.int n2],Zs x,Zf w,Zf ch]) rfl rfl rfl h7
theorem order(n)(x)(hx:x∈XS)(m:Nat)(hm:m<=10):∃s Rs n',m5 [.lst [.int n],.str x,.int m]=some (.tup [s,.tup Rs],.lst [.int n'])/\s∈sides/\(∀R∈Rs,bN x R)/\Rs.length<=m:=by
 obtain⟨d,hd,e⟩:=dig n 2 (by decide);obtain⟨s,hs,h1⟩:∃s,s∈sides/\fj (.lst [.str [108,101,102,116],.str [114,105,103,104,116]]) (.int (d:Int))=some s:=by
  have hc:d=0\/d=1:=by omega
  rcases hc with rfl|rfl;exact⟨_,Qqj ..,rfl⟩;exact⟨_,Qqq _<|Qqj ..,rfl⟩
 obtain⟨j,hj,ej⟩:=dig (n / 2) (m+1) (by omega);obtain⟨Rs,env',g1,⟨n',v4,rfl⟩,g3,g4⟩:=Qy.TJ (g:=ak 4) (e:=dI gM 0<|Zv 1 aj) (λenv=>∃n v4,env=[Zl [.int n],Zs x,Zf<|.int (m:Int),Zf s,v4]) (bN x) (iZ 0 1 j)
  [Zl [.int (n / 2 / ((m+1:Nat):Int))],Zs x,Zf<|.int (m:Int),Zf s,Zn] ⟨_,_,rfl⟩
  (λt _ env ⟨n,v4,he⟩=>by
   subst he;obtain⟨wy,ch,l,r,n',h2,h3⟩:=rule n x hx;refine⟨.tup [wy,ch,l,r],_,[Zl [.int n'],Zs x,Zf<|.int (m:Int),Zf s,Zf t],rfl,?_,⟨_,_,rfl⟩,_,_,_,_,rfl,h3⟩;exact iT (e1:=[Zl [.int n],Zs x,Zf<|.int (m:Int),Zf s,Zf t]) rfl rfl rfl h2)
 have hl:Rs.length=j:=by rw[sG] at g4;exact g4
 refine⟨s,Rs,n',kW (env:=[Zl [.int n'],Zs x,Zf<|.int (m:Int),Zf s]) ?_ rfl,hs,g3,by omega⟩;unfold m9;refine(aA (e:=[Zl [.int (n / 2)],Zs x,Zf<|.int (m:Int),Zf s]) ?_).trans ?_;refine bH (d:=s) (e:=[Zl [.int (n / 2)],Zs x,Zf<|.int (m:Int),Zn]) ?_ rfl;refine bL rfl rfl ?_;have e2:n % 2=(d:Int):=e;rw[e2];exact h1;refine bV<|bZ (aC (d:=s) rfl (aC ?_ bu)) Ev.BV;refine aK (ds:=[.lst Rs]) (aC ?_ bu) rfl;refine rH (n:=5) (aJ:=[Zl [.int (n / 2 / ((m+1:Nat):Int))],Zs x,Zf<|.int (m:Int),Zf s]) ?_ rfl g1 (by rw[hl];exact Qq4 (show j<=10 by omega) (by decide));refine Qy.Jb (ds:=[.int (n / 2 % ((m+1:Nat):Int))]) ?_ ?_;refine aC ?_ bu;exact iT (e1:=[Zl [.int (n / 2)],Zs x,Zf<|.int (m:Int),Zf s]) rfl rfl rfl (jP.mO (n / 2) (m+1) (by omega) (by omega));have e2:n / 2 % ((m+1:Nat):Int)=(j:Int):=ej;rw[e2];exact Qy.Wa (by omega)
open pI (XS sides j9 mW fit iC)
theorem zV(h:a env=.ok [.tup x,.tup y] e):zW a env=.ok (vN x y) e:=by unfold zW;rw[h];rfl
structure nW(x:List Nat)(s:D)(Rs:List D)(ss:List St):Prop where
 hx:x∈XS
 hs:s∈sides
 hR:∀R∈Rs,bN x R
 h4:Rs.length<=4
 hl:ss.length=Rs.length
 hS:∀t∈ss,iV x t
theorem aaj(h:n<=4)(hm:m<=7):(m+2)*2^n<=150:=by have h1:2^n<=2^4:=Nat.pow_le_pow_right (by decide) h;have h2:(m+2)*2^n<=9*2^4:=Nat.mul_le_mul (by omega) h1;omega
section
variable{x:List Nat}{s:D}{Rs:List D}{ss:List St}(o:nW x s Rs ss){z:List Nat}(hz:∀a∈z,a∈35::x)(hn:z.length<=7)
include o hz hn
theorem watch_on:∃us,dH [.tup [s,.tup Rs],.tup (ss.map aN),.str z]=some (.tup [.tup ((gV x (lay s Rs) ss z).1.map aN),.str (gV x (lay s Rs) ss z).2,.tup us])/\nW x s Rs (gV x (lay s Rs) ss z).1:=by
 have h1:=reading_rules o.hx o.hs o.hR<|Qq4 o.h4 (by decide);have h2:=qH (s:=s) o.hR;have h3:=iz s Rs;have h4:=o.h4;have hl:=o.hl;have hx:=o.hx;have hS:=o.hS;have hs:=o.hs;have hR:=o.hR;generalize lay s Rs=Ls at *;generalize D.tup [s,.tup Rs]=O at *;obtain⟨us,w6,w7,w8,w9,g1,g2,g3,g4⟩:=YG hx (Zf O) (Zf<|.tup<|ss.map aN) (Zs z) Ls ss z [] [] none none none none (by omega) h2 hS hz (aaj (by omega) hn) (by rw[Qzk];omega) (by rw[Qzk];omega);refine⟨us,dC (env:=[Zf O,(Zf<|.tup<|ss.map aN),Zs z,(Zs<|(gV x Ls ss z).2),(Zl<|[]++(gV x Ls ss z).1.map aN),Zl us,w6,w7,w8,w9]) ?_,hx,hs,hR,h4,by omega,g2⟩;unfold fB;refine(aA (by rfl)).trans ?_;refine(aA (by rfl)).trans ?_;refine(aA (by rfl)).trans ?_;refine(aA<|(gU ?_).trans g1).trans ?_;exact zV<|aC (aK (by rfl) h1) (by rfl);rw[Qj6];exact bV<|bZ (by rfl) Ev.zz3
theorem read_on:ju [.tup [s,.tup Rs],.tup (ss.map aN),.str z]=some (.tup [.tup ((gV x (lay s Rs) ss z).1.map aN),.str (gV x (lay s Rs) ss z).2])/\nW x s Rs (gV x (lay s Rs) ss z).1:=by
 obtain⟨us,h1,h2⟩:=watch_on o hz hn;refine⟨?_,h2⟩;generalize(gV x (lay s Rs) ss z).1.map aN=T at *;generalize(gV x (lay s Rs) ss z).2=q at *;generalize D.tup [s,.tup Rs]=O at *;refine dC (env:=[Zf O,(Zf<|.tup<|ss.map aN),Zs z,Zf<|.tup T,Zs q,Zf<|.tup us]) ?_;unfold gD;refine(aA (e:=[Zf O,(Zf<|.tup<|ss.map aN),Zs z,Zf<|.tup T,Zs q,Zf<|.tup us]) ?_).trans ?_;exact bH (aK (by rfl) h1) (by rfl);exact bV<|bZ (by rfl) Ev.BV
omit hz hn
end
theorem Ur(h1:c env=.ok x0 e1)(h2:a e1=.ok ds e2)(h3:f (x0::ds)=some (d,x')):Nb f c a env=.ok d e2:=by unfold Nb;rw[h1];simp[bindR];rw[h2];simp;rw[h3]
section
variable{x:List Nat}{s:D}{Rs:List D}(hx:x∈XS)(hs:s∈sides)(hR:∀R∈Rs,bN x R)(h4:Rs.length<=4)
include hx hs hR h4
theorem Ag:nW x s Rs (jZ (lay s Rs)):=⟨hx,hs,hR,h4,by unfold jZ;rw[Qq3,iz],Um x _⟩
end
end cR
namespace K10
open Ev PySem L2
open pI (XS sides j9 BR mW fit iC sg ed pc pin nw Kv cg out look Bb encC su Pr)
section
variable{x w:List Nat}{l r:D}{c:Nat}{kvs:List (D×D)}
noncomputable def hC(kvs:List (D×D))(l r:D)(a b d:Nat):List Nat:=if ((look kvs b).isSome&&(fit l a&&fit r d))=true then (look kvs b).getD [] else [b]
end
end K10
namespace vH
open Ev PySem L2
open jP (SG cO)
open pI (XS sides j9 mW fit iC Bb look jG su encC sg ed nw Kv cg out pc pin)
open Ay (bN ji)
open cR (Rl stp rd lA uD Eh Is T8 cN qt gV Je jZ lay tn lf Gs nrC aN iV nW rt)
section
variable{x:List Nat}{R:D}(hx:x∈XS)(hR:bN x R){w:List Nat}(hw:∀c∈w,c∈x)(hn:w.length<=30000)
noncomputable def trd(x:List Nat)(R:D)(w:List Nat):List Nat:=(rd (cN x R) (fit (lf R) 35,[]) (w++[35])).2
include hx hR hw hn
end
noncomputable def aal(x:List Nat)(Ls:List D)(w:List Nat):List Nat:=Ls.foldl (λv L=>trd x L v) w
theorem Eg:∀Ls ss z y,Ls.length=ss.length->gV x Ls ss (z++y)=((gV x Ls (gV x Ls ss z).1 y).1,(gV x Ls ss z).2++(gV x Ls (gV x Ls ss z).1 y).2)
 |[],[],z,y,_=>rfl|[],_::_,_,_,h=>by simp at h|_::_,[],_,_,h=>by simp at h
 |L::Ls,s::ss,z,y,h=>by
  show((rd (cN x L) s<|z++y).1::(gV x Ls ss (rd (cN x L) s<|z++y).2).1,(gV x Ls ss (rd (cN x L) s<|z++y).2).2)=_;rw[lA];simp only;rw[Eg Ls ss _ _ (by simpa using h)]
  rfl
theorem ym:∀Ls ss,Ls.length=ss.length->gV x Ls ss []=(ss,[])
 |[],[],_=>rfl|[],_::_,h=>by simp at h|_::_,[],h=>by simp at h
 |L::Ls,s::ss,h=>by
  show(s::(gV x Ls ss []).1,(gV x Ls ss []).2)=_;rw[ym Ls ss (by simpa using h)]
noncomputable def rQ(s:D)(w:List Nat):List Nat:=if rt s=true then w.reverse else w
open pI (XS sides j9 mW fit iC)
open cR (gV Je jZ lay aN iV nW rt rd cN qt uE uy ux yl Ag)
theorem vd(s)(w):(rQ s w).length=w.length:=by
 unfold rQ;split;rw[Qzy];rfl
end vH
namespace Li
open Ev PySem L2
open jP (SG)
open pI (XS sides mW fit)
open Ay (bN ji)
open cR (aN nW iV gV Je jZ lay tn lf rt uy ux yl Ag)
open vH (aal rQ vd Eg ym)
noncomputable def qS(ss:List cR.St):NK:=.tup (ss.map λs=>.tup [.num (if s.1 then 1 else 0),.txt (strOf s.2)])
theorem aeQ:∀ss:List cR.St,Bo (ss.map aN)=some (ss.map λs=>.tup [.num (if s.1 then 1 else 0),.txt (strOf s.2)])
 |[]=>rfl
 |(b,z)::ss=>by
  have ih:=aeQ ss;have h1:pU (aN (b,z))=some (.tup [.num (if b then 1 else 0),.txt<|strOf z]):=by simp[aN,pU,Bo]
  rw[Qwq,Qwq];unfold Bo;rw[h1,ih]
theorem Ux:∀ss:List cR.St,NK.qR (ss.map λs=>.tup [.num (if s.1 then 1 else 0),.txt (strOf s.2)])<=1
 |[]=>by unfold NK.qR;simp
 |s::ss=>by
  have ih:=Ux ss;rw[Qwq];unfold NK.qR;have:NK.dep (.tup [.num (if s.1 then 1 else 0),.txt<|strOf s.2])=1:=by simp[NK.dep,NK.qR]
  rw[this];omega
theorem Zh(ss):pU (.tup (ss.map aN))=some (qS ss):=by
 unfold pU;rw[aeQ]
 rfl
theorem Zj(ss):Ax (.tup (ss.map aN))=some (qS ss):=by
 show(pU<|.tup<|ss.map aN).bind _=_;rw[Zh];have h:(qS ss).dep<=8:=by unfold qS NK.dep;have:=Ux ss;omega
 exact if_pos h
theorem RN:∀(ss tt:List cR.St),(ss.map λs=>NK.tup [.num (if s.1 then 1 else 0),.txt (strOf s.2)])=(tt.map λs=>NK.tup [.num (if s.1 then 1 else 0),.txt (strOf s.2)])->ss=tt
 |[],[],_=>rfl|[],_::_,h=>by cases h|_::_,[],h=>by cases h
 |(b,z)::ss,(c,y)::tt,h=>by
  rw[Qwq,Qwq] at h;obtain⟨h1,h2⟩:=Qz2 h;have h3:=NK.tup.inj h1;obtain⟨h4,h5⟩:=Qz2 h3;obtain⟨h6,_⟩:=Qz2 h5;have h7:z=y:=SX.n8<|NK.txt.inj h6;have h8:=NK.num.inj h4;simp at h8;have h9:b=c:=by cases b<;>cases c<;>first|rfl|(simp at h8)
  rw[h9,h7,RN ss tt h2]
theorem yR(h:qS ss=qS tt):ss=tt:=RN ss tt<|NK.tup.inj h
theorem uZ{i:Nat}{env e1 e2:Ev.Env}(h1:a env=.ok d e1)(h0:e1[i]?=some (some (o,z)))(h2:k e1=.ok kd e2)(h3:e2[i]?=some (Zt (.gR kvs)))(h4:Ax kd=some q)(h5:kvs.length<sizeLine):oU i k a env=.nx (e2.set i (Zt (.gR (rT kvs kd q d)))):=by unfold oU;simp[h1,gZ,h0,h2,h3,h4,if_pos h5]
end Li
namespace KB
open Ev PySem L2
open jP (cO)
open pI (sides)
open cR (rt)
open vH (rQ)
open Li (uZ)
section
noncomputable def jM:bO:=fD.jM
noncomputable def gr:LD:=bY 2 jM
def lb(Φ:Stmt->List D->LD):bO:=aD (aW (lF Φ 3 (aa (aB fj 5 (aZ 8)) (Zv 9 aj))) (ak 10)) (aD (gK (rY (fL (aB JC 10 (jR .non))) (fL (aB KR 10 (aZ 7)))) ((λenv=>.ct env)) cT) (aD (gK (fL (lF Φ 4 (Zv 10 aj))) (bA (au gr (Zv 1 (aa (aO dB (aB fj 6 (aZ 8)) (aZ 9)) aj)))) cT) (aD (oU 7 (aR 10) (jR (.bl true))) (aD (fU 5 (aR 10)) (fU 6 (aO dB (aB fj 6 (aZ 8)) (aZ 9)))))))
def wb(so:LD)(Φ:Stmt->List D->LD):bO:=aD (iW (jn (au so (Zv 0 aj))) (ak 9) (lb Φ)) (LQ 8 (Zi 1))
def di(so:LD)(Φ:Stmt->List D->LD):bO:=aD (gK (fL (lF Φ 4 (Zv 2 aj))) (bA (Zw [])) cT) (aD (dF 5 (cM (Zv 2 aj))) (aD (dF 6 (cM (aa (Zw []) aj))) (aD (dF 7 (qN (aR 2) (jR (.bl true)))) (aD (aW (Zi 0) (ak 8)) (aD (fH (fL (aB M4 8 (au d7 (aa (aZ 5) aj)))) (wb so Φ) 7000) (bA (jR .non)))))))
end
theorem z7{Φ:Stmt->List D->LD}{i:Nat}{env e1:Ev.Env}(h0:env[i]?=some (Zf (.clo st lD)))(h1:a env=.ok ds e1)(h2:Φ st lD ds=some d):lF Φ i a env=.ok d e1:=by
 unfold lF;rw[h0];show bindR (a env) _=_;rw[h1];show iy (Φ st lD ds) e1=_;rw[h2]
 rfl
theorem Rf(h:a env=.ct e):aD a b env=.ct e:=by unfold aD;rw[h]
theorem ZD(h:a.length+b.length<=sizeLine):dB (.str a) (.str b)=some (.str (a++b)):=by unfold dB;exact if_pos h
theorem stands(hs:side∈sides)(w):gr [side,.str w]=some (.str (rQ side w)):=by simp[sides,Qq7,Qxw,Qj9] at hs;rcases hs with rfl|rfl<;>rfl
section
variable{P:Type}[DecidableEq P]{Φ:Stmt->List D->LD}{sl ss:Stmt}{cl cs:List D}{x:List Nat}{bQ side:D}{so:LD}{en:P->D}{key:P->NK}{L:P->Nat->P}{S:P->Bool}{Ok:P->Prop}{U:List P}{p0:P}
structure Gives(Φ:Stmt->List D->LD)(sl ss:Stmt)(cl cs:List D)(x:List Nat)(en:P->D)(key:P->NK)(L:P->Nat->P)(S:P->Bool)(Ok:P->Prop)(U:List P):Prop where
 lead:∀p a,Ok p->a∈x->Φ sl cl [en p,.str [a]]=some (en (L p a))/\Ok (L p a)
 shows:∀p,Ok p->Φ ss cs [en p]=some (.bl (S p))
 nk:∀p,Ax (en p)=some (key p)
 inj:∀p q,key p=key q->p=q
 all:∀p,Ok p->p∈U
 few:U.length<=6998
noncomputable def kn(en:P->D)(ps:List P):List (D×D):=ps.map λp=>(en p,.bl true)
variable(G:Gives Φ sl ss cl cs x en key L S Ok U)
include G
theorem TX(ps)(q):(jq (kn en ps) (key q)).isSome=decide (q∈ps):=by
 unfold jq kn;rw[Qk3];by_cases h:q∈ps;rw[Qwj h,List.find?_isSome];exact⟨(en q,.bl true),Qw3.mpr ⟨q,h,rfl⟩,by simp[(tH<|G.nk q).1,decide_true]⟩;rw[Qq9 h];cases e:List.find? (λp=>decide (pU p.1=some (key q))) (ps.map λp=>(en p,D.bl true)) with
 |none=>rfl|some r=>have h1:=List.find?_some e;have h2:=List.mem_of_find?_eq_some e;obtain⟨p,hp,rfl⟩:=Qw3.mp h2;have h3:=Qxj h1;rw[(tH<|G.nk p).1] at h3;cases G.inj p q (Qw4 h3);exact absurd hp h
theorem ab1(ps)(q)(h:q ∉ ps):rT (kn en ps) (en q) (key q) (.bl true)=kn en (ps++[q]):=by unfold rT;rw[TX G,Qq9 h];simp[kn]
omit G [DecidableEq P] in
noncomputable abbrev En(sl ss:Stmt)(cl cs:List D)(en:P->D)(bQ side:D)(f:P)(ps:List P)(ws:List (List Nat))(n:Nat)(a9 a10:OD):Ev.Env:=
 [Zf bQ,Zf side,Zf (en f),Zf (.clo sl cl),Zf (.clo ss cs),Zl (ps.map en),Zl (ws.map .str),(Zt (.gR (kn en ps))),(Zf (.int (n:Int))),a9,a10]
theorem O6(zJ:side∈sides)(B:Gr L S x p0 n ps ws)(hok:∀p∈ps,Ok p)(hp:ps[n]?=some p)(hw:ws[n]?=some w)(ha:a∈x)(f)(a10) :
  (L p a∈ps/\lb Φ (En sl ss cl cs en bQ side f ps ws n (Zs [a]) a10)=.ct (En sl ss cl cs en bQ side f ps ws n (Zs [a]) (Zf (en (L p a)))))\/
  (L p a ∉ ps/\S (L p a)=true/\∃e,lb Φ (En sl ss cl cs en bQ side f ps ws n (Zs [a]) a10)=.rt false (.str (rQ side (w++[a]))) e)\/
  (L p a ∉ ps/\S (L p a)=false/\lb Φ (En sl ss cl cs en bQ side f ps ws n (Zs [a]) a10)=.nx (En sl ss cl cs en bQ side f (ps++[L p a]) (ws++[w++[a]]) n (Zs [a]) (Zf (en (L p a))))):=by
 have hn1:n<ps.length:=(Qqy.mp hp).1;obtain⟨g1,g2⟩:=G.lead p a (hok p<|Qx7 hp) ha;have hlen:ps.length<=6998:=Qq4 (qx U ps B.nd λq hq=>G.all q<|hok q hq) G.few;obtain⟨_,_,hwl⟩:=B.plo n p w hp hw;generalize hq:L p a=q at *;have s1:aW (lF Φ 3<|aa (aB fj 5<|aZ 8)<|Zv 9 aj) (ak 10) (En sl ss cl cs en bQ side f ps ws n (Zs [a]) a10)=.nx (En sl ss cl cs en bQ side f ps ws n (Zs [a])<|Zf<|en q):=by refine bH (e:=En sl ss cl cs en bQ side f ps ws n (Zs [a]) a10) (z7 rfl ?_ g1) rfl;refine aC (e1:=En sl ss cl cs en bQ side f ps ws n (Zs [a]) a10) ?_<|aC rfl bu;refine cB rfl rfl rfl (lN ?_);rw[Qxz,hp];rfl
 have is0:JC (en q) .non=some (.bl false):=by obtain⟨_,_,xs,e⟩:=tH<|G.nk q;rw[e];rfl
 have in0:KR (en q) (.gR<|kn en ps)=some (.bl<|decide (q∈ps)):=by show(Ax<|en q).map _=_;rw[G.nk q];show some (D.bl (jq (kn en ps)<|key q).isSome)=_;rw[TX G]
 have t1:rY (fL<|aB JC 10<|jR .non) (fL<|aB KR 10<|aZ 7) (En sl ss cl cs en bQ side f ps ws n (Zs [a])<|Zf<|en q)=.ok (decide (q∈ps)) (En sl ss cl cs en bQ side f ps ws n (Zs [a])<|Zf<|en q):=by refine(Fv<|f9<|cB rfl rfl rfl is0).trans ?_;exact f9<|cB rfl rfl rfl in0
 have wa:aO dB (aB fj 6<|aZ 8) (aZ 9) (En sl ss cl cs en bQ side f ps ws n (Zs [a])<|Zf<|en q)=.ok (.str<|w++[a]) (En sl ss cl cs en bQ side f ps ws n (Zs [a])<|Zf<|en q):=by
  refine bL (e1:=En sl ss cl cs en bQ side f ps ws n (Zs [a])<|Zf<|en q) ?_ rfl (ZD ?_);refine cB rfl rfl rfl (lN ?_);rw[Qxz,hw];rfl;exact Qq4 (show w.length+1<=7000 by omega) (by decide)
 unfold lb;rw[aA s1];by_cases hm:q∈ps;rw[Qwj hm] at t1;exact .inl ⟨hm,Rf<|jV t1⟩;rw[Qq9 hm] at t1;have u1:gK (rY (fL<|aB JC 10<|jR .non)<|fL<|aB KR 10<|aZ 7) (λenv=>.ct env) cT (En sl ss cl cs en bQ side f ps ws n (Zs [a])<|Zf<|en q)=.nx (En sl ss cl cs en bQ side f ps ws n (Zs [a])<|Zf<|en q):=gJ t1;rw[aA u1];have t2:fL (lF Φ 4<|Zv 10 aj) (En sl ss cl cs en bQ side f ps ws n (Zs [a])<|Zf<|en q)=.ok (S q) (En sl ss cl cs en bQ side f ps ws n (Zs [a])<|Zf<|en q):=
  f9 (z7 rfl (aC rfl bu) (G.shows q g2))
 cases hs:S q with
 |true=>rw[hs] at t2;refine .inr<|.inl ⟨hm,rfl,En sl ss cl cs en bQ side f ps ws n (Zs [a])<|Zf<|en q,jA<|(jV t2).trans<|bV<|aK (aC rfl (aC wa bu))<|stands zJ _⟩
 |false=>
  rw[hs] at t2;refine .inr<|.inr ⟨hm,rfl,?_⟩;have u2:gK (fL<|lF Φ 4<|Zv 10 aj) (bA<|au gr<|Zv 1<|aa (aO dB (aB fj 6<|aZ 8)<|aZ 9) aj) cT (En sl ss cl cs en bQ side f ps ws n (Zs [a])<|Zf<|en q)=.nx (En sl ss cl cs en bQ side f ps ws n (Zs [a])<|Zf<|en q):=gJ t2;rw[aA u2];have s4:=uZ (i:=7) (k:=aR 10) (a:=jR<|.bl true) (e1:=En sl ss cl cs en bQ side f ps ws n (Zs [a])<|Zf<|en q) rfl rfl rfl rfl (G.nk q)
   (by rw[kn,Qq3];exact Qw5 hlen (by decide))
  rw[ab1 G ps q hm] at s4;rw[aA s4];refine(aA<|cO (i:=5) (e:=[Zf bQ,Zf side,Zf<|en f,Zf<|.clo sl cl,Zf<|.clo ss cs,Zl<|ps.map en,Zl<|ws.map .str,(Zt<|.gR<|kn en<|ps++[q]),(Zf<|.int (n:Int)),Zs [a],Zf<|en q]) rfl rfl rfl (by rw[Qq3];exact Qw5 hlen (by decide))).trans ?_;have e5:ps.map en++[en q]=(ps++[q]).map en:=by rw[Qz4];rfl
  have e6:ws.map D.str++[.str (w++[a])]=(ws++[w++[a]]).map D.str:=by rw[Qz4];rfl
  have wa2:aO dB (aB fj 6<|aZ 8) (aZ 9) [Zf bQ,Zf side,Zf<|en f,Zf<|.clo sl cl,Zf<|.clo ss cs,Zl<|ps.map en++[en q],Zl<|ws.map .str,(Zt<|.gR<|kn en<|ps++[q]),(Zf<|.int (n:Int)),Zs [a],Zf<|en q]=.ok (.str<|w++[a]) [Zf bQ,Zf side,Zf<|en f,Zf<|.clo sl cl,Zf<|.clo ss cs,Zl<|ps.map en++[en q],Zl<|ws.map .str,(Zt<|.gR<|kn en<|ps++[q]),(Zf<|.int (n:Int)),Zs [a],Zf<|en q]:=by
   refine bL (e1:=[Zf bQ,Zf side,Zf<|en f,Zf<|.clo sl cl,Zf<|.clo ss cs,Zl<|ps.map en++[en q],Zl (ws.map .str),(Zt (.gR (kn en (ps++[q])))),(Zf (.int (n:Int))),Zs [a],Zf (en q)]) ?_ rfl (ZD ?_);refine cB rfl rfl rfl (lN ?_);rw[Qxz,hw];rfl;exact Qq4 (show w.length+1<=7000 by omega) (by decide)
  refine(cO (i:=6) rfl wa2 rfl (by rw[Qq3,B.len];exact Qw5 hlen (by decide))).trans ?_;rw[e5,e6];rfl
end
section
variable{P:Type}[DecidableEq P]{Φ:Stmt->List D->LD}{sl ss:Stmt}{cl cs:List D}{x:List Nat}{bQ side:D}{so:LD}{en:P->D}{key:P->NK}{L:P->Nat->P}{S:P->Bool}{Ok:P->Prop}{U:List P}{p0:P}
variable(G:Gives Φ sl ss cl cs x en key L S Ok U)
def Nx(side:D)(L:P->Nat->P)(S:P->Bool)(x:List Nat)(p0:P)(r:D):Prop:=∃w,r=.str (rQ side w)/\(∀a∈w,a∈x)/\S (pl L p0 w)=true/\∀v,(∀a∈v,a∈x)->v.length<w.length->S (pl L p0 v)=false
theorem XQ(h1:g d env=some e1)(h2:b e1=.ct e2):ir g b (d::ds) env=ir g b ds e2:=by
 conv=>lhs;unfold ir
 rw[h1];simp;rw[h2]
theorem M6(h1:g d env=some e1)(h2:b e1=.nx e2):ir g b (d::ds) env=ir g b ds e2:=by
 conv=>lhs;unfold ir
 rw[h1];simp;rw[h2]
theorem XN(h1:g d env=some e1)(h2:b e1=.rt o d' e2):ir g b (d::ds) env=.rt o d' e2:=by
 conv=>lhs;unfold ir
 rw[h1];simp;rw[h2]
theorem YH(h:t env=.ok true e1)(h2:b e1=.nx e2):fH t b (m+1) env=fH t b m e2:=by
 conv=>lhs;unfold fH
 rw[h];simp[gZ,if_true];rw[h2]
theorem adz(h:t env=.ok true e1)(h2:b e1=.rt o d e2):fH t b (m+1) env=.rt o d e2:=by
 conv=>lhs;unfold fH
 rw[h];simp[gZ,if_true];rw[h2]
theorem adA(h:t env=.ok false e1):fH t b (m+1) env=.nx e1:=by
 conv=>lhs;unfold fH
 rw[h];rfl
include G
theorem acB(zJ:side∈sides)(f):∀rest done ps ws a9 a10,x=done++rest->Gr L S x p0 n ps ws->(∀q∈ps,Ok q)->ps[n]?=some p->ws[n]?=some w->
  (∀a∈done,∃(j:Nat) (v:List Nat),ps[j]?=some (L p a)/\ws[j]?=some v/\v.length<=w.length+1)->
  (∃r e,ir (ak 9) (lb Φ) (rest.map λa=>.str [a]) (En sl ss cl cs en bQ side f ps ws n a9 a10)=.rt false r e/\Nx side L S x p0 r)\/
  (∃ps' ws' b9 b10,ir (ak 9) (lb Φ) (rest.map λa=>.str [a]) (En sl ss cl cs en bQ side f ps ws n a9 a10)=.nx (En sl ss cl cs en bQ side f ps' ws' n b9 b10)/\Gr L S x p0 (n+1) ps' ws'/\(∀q∈ps',Ok q)/\ps'[n]?=some p):=by
 intro rest;induction rest with
 |nil=>intro done ps ws a9 a10 hx B hok hp hw hc;rw[Qw6] at hx;exact .inr ⟨ps,ws,a9,a10,rfl,B.next hp hw (by rw[hx];exact hc),hok,hp⟩
 |cons a rest ih=>
  intro done ps ws a9 a10 hx B hok hp hw hc;have ha:a∈x:=by rw[hx];simp
  have hx':x=(done++[a])++rest:=by rw[hx];simp
  have hg:ak 9 (.str [a]) (En sl ss cl cs en bQ side f ps ws n a9 a10)=some (En sl ss cl cs en bQ side f ps ws n (Zs [a]) a10):=rfl;rw[Qwq];rcases O6 G zJ B hok hp hw ha f a10 with ⟨hm,h⟩|⟨hm,hs,e,h⟩|⟨hm,hs,h⟩;rw[XQ hg h];refine ih (done++[a]) ps ws _ _ hx' B hok hp hw λb hb=>?_;rcases Qww.mp hb with hb|hb;exact hc b hb;rw[Qq2.mp hb];obtain⟨j,hj⟩:=List.mem_iff_getElem?.mp hm;have hj2:j<ws.length:=by rw[B.len];exact(Qqy.mp hj).1
  have hwj:=Qqv hj2;exact⟨j,_,hj,hwj,B.last w hw j _ hwj⟩;rw[XN hg h];obtain⟨q1,q2,_⟩:=B.plo n p w hp hw;refine .inl ⟨_,_,rfl,w++[a],rfl,λb hb=>?_,by rw[mV,q1];exact hs,λv hv hl=>B.least hw v hv (by rw[Qqk] at hl;exact hl)⟩;rcases Qww.mp hb with hb|hb;exact q2 b hb;rw[Qq2.mp hb];exact ha;rw[M6 hg h];refine ih (done++[a]) (ps++[L p a]) (ws++[w++[a]]) _ _ hx' (B.add hp hw ha hm hs) (λq hq=>?_) (lL hp) (lL hw) λb hb=>?_;rcases Qww.mp hq with hq|hq;exact hok q hq;rw[Qq2.mp hq];exact(G.lead p a (hok p<|Qx7 hp) ha).2;rcases Qww.mp hb with hb|hb;obtain⟨j,v,g1,g2,g3⟩:=hc b hb;exact⟨j,v,lL g1,lL g2,g3⟩;rw[Qq2.mp hb];exact⟨ps.length,w++[a],MP,by rw[<-B.len];exact MP,by rw[Qqk];exact Qq1 _⟩
theorem QM(zJ:side∈sides)(hso:so [bQ]=some (.tup (x.map λa=>.str [a])))(f):∀m n ps ws a9 a10,n+m=7000->n<=ps.length->Gr L S x p0 n ps ws->(∀q∈ps,Ok q)->
  (∃r e,fH (fL (aB M4 8 (au d7 (aa (aZ 5) aj)))) (wb so Φ) m (En sl ss cl cs en bQ side f ps ws n a9 a10)=.rt false r e/\Nx side L S x p0 r)\/
  (∃e,fH (fL (aB M4 8 (au d7 (aa (aZ 5) aj)))) (wb so Φ) m (En sl ss cl cs en bQ side f ps ws n a9 a10)=.nx e/\∀v,(∀a∈v,a∈x)->S (pl L p0 v)=false):=by
 intro m;induction m with
 |zero=>intro n ps ws a9 a10 hm hn B hok;have:=Qq4 (qx U ps B.nd λq hq=>G.all q<|hok q hq) G.few;omega
 |succ m ih=>
  intro n ps ws a9 a10 hm hn B hok;have ht:fL (aB M4 8<|au d7<|aa (aZ 5) aj) (En sl ss cl cs en bQ side f ps ws n a9 a10)=.ok (decide (n<ps.length)) (En sl ss cl cs en bQ side f ps ws n a9 a10):=by
   refine f9<|cB rfl rfl rfl ?_;rw[Qq3];show some (D.bl<|decide (n<(ps.length:Int)))=_;congr 2;simp
  by_cases hlt:n<ps.length;rw[Qwj hlt] at ht;have hp:=Qqv hlt;have hlt2:n<ws.length:=by rw[B.len];exact hlt
  have hw:=Qqv hlt2;have hit:jn (au so<|Zv 0 aj) (En sl ss cl cs en bQ side f ps ws n a9 a10)=.ok (x.map λa=>.str [a]) (En sl ss cl cs en bQ side f ps ws n a9 a10):=
   uY (aK (aC rfl bu) hso) rfl
  rcases acB G zJ f x [] ps ws a9 a10 rfl B hok hp hw (λa ha=>by simp at ha) with ⟨r,e,h1,h2⟩|⟨ps',ws',b9,b10,h1,B',hok',hp'⟩;have hb:wb so Φ (En sl ss cl cs en bQ side f ps ws n a9 a10)=.rt false r e:=jA<|(gU hit).trans h1;exact .inl ⟨r,e,adz ht hb,h2⟩;have hb:wb so Φ (En sl ss cl cs en bQ side f ps ws n a9 a10)=.nx (En sl ss cl cs en bQ side f ps' ws' (n+1) b9 b10):=(aA<|(gU hit).trans h1).trans rfl;have hn':=(Qqy.mp hp').1;rw[YH ht hb];exact ih (n+1) ps' ws' b9 b10 (by omega) hn' B' hok';rw[Qq9 hlt] at ht;exact .inr ⟨_,adA ht,λv hv=>B.sf _<|B.none (by omega) v.length v rfl hv⟩
theorem sought(zJ:side∈sides)(hso:so [bQ]=some (.tup (x.map λa=>.str [a])))(h0:Ok p0) :
  ∃r,bY 11 (di so Φ) [bQ,side,en p0,.clo sl cl,.clo ss cs]=some r/\((r=.non/\∀v,(∀a∈v,a∈x)->S (pl L p0 v)=false)\/Nx side L S x p0 r):=by
 have t0:fL (lF Φ 4<|Zv 2 aj) [Zf bQ,Zf side,Zf<|en p0,Zf<|.clo sl cl,Zf<|.clo ss cs,Zn,Zn,Zn,Zn,Zn,Zn]=.ok (S p0) [Zf bQ,Zf side,Zf<|en p0,Zf<|.clo sl cl,Zf<|.clo ss cs,Zn,Zn,Zn,Zn,Zn,Zn]:=
  f9 (z7 rfl (aC rfl bu) (G.shows p0 h0))
 cases hS:S p0 with
 |true=>rw[hS] at t0;refine⟨.str [],dC (env:=[Zf bQ,Zf side,Zf<|en p0,Zf<|.clo sl cl,Zf<|.clo ss cs,Zn,Zn,Zn,Zn,Zn,Zn]) ?_,.inr ⟨[],?_,λa ha=>by simp at ha,hS,λv _ hv=>absurd hv<|Qj5 _⟩⟩;exact jA<|(jV t0).trans rfl;unfold rQ;split<;>rfl
 |false=>
  rw[hS] at t0;have u0:gK (fL<|lF Φ 4<|Zv 2 aj) (bA<|Zw []) cT [Zf bQ,Zf side,Zf<|en p0,Zf<|.clo sl cl,Zf<|.clo ss cs,Zn,Zn,Zn,Zn,Zn,Zn]=.nx [Zf bQ,Zf side,Zf<|en p0,Zf<|.clo sl cl,Zf<|.clo ss cs,Zn,Zn,Zn,Zn,Zn,Zn]:=gJ t0;have u3:dF 7 (qN (aR 2)<|jR<|.bl true) [Zf bQ,Zf side,Zf<|en p0,Zf<|.clo sl cl,Zf<|.clo ss cs,Zl [en p0],(Zl [.str []]),Zn,Zn,Zn,Zn]=.nx [Zf bQ,Zf side,Zf<|en p0,Zf<|.clo sl cl,Zf<|.clo ss cs,Zl [en p0],(Zl [.str []]),(Zt<|.gR [(en p0,.bl true)]),Zn,Zn,Zn]:=by refine p7 (e:=[Zf bQ,Zf side,Zf<|en p0,Zf<|.clo sl cl,Zf<|.clo ss cs,Zl [en p0],(Zl [.str []]),Zn,Zn,Zn,Zn]) ?_;unfold qN;show(match Ax (en p0) with|some _=>_|none=>_)=_;rw[G.nk p0]
  have hb:∀o,aD (fH (fL<|aB M4 8<|au d7<|aa (aZ 5) aj) (wb so Φ) 7000) (bA<|jR .non) (En sl ss cl cs en bQ side p0 [p0] [[]] 0 none none)=o->di so Φ (envOf 11 [bQ,side,en p0,.clo sl cl,.clo ss cs])=o:=by intro o ho;rw[<-ho];unfold di;refine(aA u0).trans ?_;refine(aA rfl).trans ?_;refine(aA rfl).trans ?_;refine(aA u3).trans ?_;exact aA rfl
  rcases QM G zJ hso p0 7000 0 [p0] [[]] none none rfl (Qx0 _) (Gr.start hS) (λq hq=>by rw[Qq2.mp hq];exact h0) with ⟨r,e,h1,h2⟩|⟨e,h1,h2⟩;exact⟨r,dC<|hb _<|jA h1,.inr h2⟩;exact⟨.non,dC<|hb _<|(aA h1).trans rfl,.inl ⟨rfl,h2⟩⟩
end
end KB
namespace KW
open Ev PySem L2 cR
open jP (SG cO)
open pI (XS sides j9 mW fit iC)
open Ay (bN ji)
noncomputable def ac(ρ:Rl):cR.St->List Nat->Bool
 |_,[]=>false|s,a::z=>!((stp ρ s a).2 == s.2)||ac ρ (stp ρ s a).1 z
theorem nU(ρ):∀z s y,ac ρ s (z++y)=(ac ρ s z||ac ρ (rd ρ s z).1 y)
 |[],s,y=>rfl
 |a::z,s,y=>by
  show(_||ac ρ (stp ρ s a).1 (z++y))=((_||ac ρ (stp ρ s a).1 z)||ac ρ (rd ρ (stp ρ s a).1 z).1 y);rw[nU ρ z,Bool.or_assoc]
theorem Yp(ρ)(s)(z)(a):ac ρ s (z++[a])=(ac ρ s z || !((stp ρ (rd ρ s z).1 a).2 == (rd ρ s z).1.2)):=by rw[nU];show(_||(_||false))=_;rw[Bool.or_false]
noncomputable def yE(x:List Nat):List D->List cR.St->List Nat->List Bool
 |R::Rs,s::ss,z=>ac (cN x R) s z::yE x Rs ss (rd (cN x R) s z).2|_,_,_=>[]
noncomputable def Jq(x:List Nat):List D->List cR.St->List Nat->List Bool
 |R::Rs,s::ss,z=>ac (cN x R) s (z++[35])::Jq x Rs ss (rd (cN x R) s (z++[35])).2|_,_,_=>[]
section
variable{x:List Nat}{R:D}{ρ:Rl}(hx:x∈XS)(hR:Is x R ρ)
include hx hR
theorem Rv(hs:iV x s)(ha:a∈35::x)(A2 a6 a7:OD)(ps)(hp:ps.length<=400)(t) :
  yO [Zf R,Zf (aN s),A2,Zl ps,Zb t,Zs [a],a6,a7]=.nx [Zf R,(Zf (aN (stp ρ s a).1)),A2,(Zl (ps++[.str (stp ρ s a).2])),(Zb (t||(!((stp ρ s a).2 == s.2)))),Zs [a],Zs s.2,(Zs ((stp ρ s a).2))]:=by
 have hu:MT (.str (stp ρ s a).2) (.str s.2)=some (.bl<|!((stp ρ s a).2 == s.2)):=rfl;generalize(!((stp ρ s a).2 == s.2))=u at *;have h1:=one_sign hx hR hs ha;generalize hq:(stp ρ s a).2=q at *;generalize hs':(stp ρ s a).1=s' at *;unfold yO;refine(aA rfl).trans ?_;refine(aA (e:=[Zf R,Zf<|aN s',A2,Zl ps,Zb t,Zs [a],Zs s.2,Zs q]) ?_).trans ?_;rcases h1 with ⟨g1,g2⟩|⟨g1,g2⟩;refine(jV<|f9<|aK rfl g1).trans ?_;exact bH (aK rfl g2) rfl;refine(gJ<|f9<|aK rfl g1).trans ?_;exact bH (aK rfl g2) rfl;refine(aA (e:=[Zf R,Zf<|aN s',A2,Zl ps,Zb<|t||u,Zs [a],Zs s.2,Zs q]) ?_).trans ?_;refine bH (uX rfl ?_) rfl;exact Fy rfl rfl rfl hu;exact(Ev.LR (i:=3) (e:=[Zf R,Zf<|aN s',A2,Zl ps,Zb<|t||u,Zs [a],Zs s.2,Zs q]) rfl rfl rfl (Qw5 hp (by decide))).trans rfl
theorem xn(hs:iV x s)(hz:∀a∈z,a∈35::x)(hn:z.length<=150):dR [R,aN s,.str z]=some (.tup [aN (rd ρ s z).1,.str (rd ρ s z).2,.bl (ac ρ s z)]):=by
 obtain⟨e',f1,hd,dz,pl,a5,a6,a7,e1,hdz,e2,e3,e4,rfl⟩:=rG (g:=ak 5) (rB z)
  (λdone env=>done.length<=z.length/\∃dz pl a5 a6 a7,done=rB dz/\(∀a∈dz,a∈35::x)/\pl.flatten=(rd ρ s dz).2/\pl.length=done.length/\(∀q∈pl,q.length<=2)/\env=[Zf R,(Zf<|aN (rd ρ s dz).1),Zs z,Zl<|pl.map .str,Zb<|ac ρ s dz,a5,a6,a7])
  (λdone d rest hall env ⟨hd,dz,pl,a5,a6,a7,e1,hdz,e2,e3,e4,he⟩=>by
   subst he;obtain⟨a,rfl,ha,hl⟩:=yl hall;have hok:=uE hR dz hs hdz;have hst:=J4 hR hok.1<|hz a ha;have hb:=Rv hx hR hok.1 (hz a ha) (Zs z) a6 a7 (pl.map .str) (by rw[Qq3];omega)<|ac ρ s dz;refine⟨_,_,rfl,hb,by rw[Qqk,Qw1];omega,dz++[a],pl++[(stp ρ (rd ρ s dz).1 a).2],Zs [a],(Zs<|(rd ρ s dz).1.2),(Zs<|(stp ρ (rd ρ s dz).1 a).2),by rw[ux,e1],?_,?_,?_,?_,?_⟩
   intro b hb;rcases Qww.mp hb with hb|hb
   exact hdz b hb
   rw[Qq2.mp hb];exact hz a ha
   rw[uD,List.flatten_append,e2];simp
   rw[Qqk,Qqk,e3]
   rfl
   intro q hq;rcases Qww.mp hq with hq|hq
   exact e4 q hq
   rw[Qq2.mp hq];exact hst.2.1
   rw[uD,Yp,Qz4]
   rfl)
  [Zf R,Zf<|aN s,Zs z,Zl [],Zb false,Zn,Zn,Zn] ⟨Qx0 _,[],[],Zn,Zn,Zn,rfl,λa ha=>by simp at ha,rfl,rfl,λq hq=>by simp at hq,rfl⟩
 have hzz:=uy e1;subst hzz;refine dC (env:=[Zf R,(Zf<|aN (rd ρ s z).1),Zs z,Zl<|pl.map .str,Zb<|ac ρ s z,a5,a6,a7]) ?_;unfold dJ;refine(aA rfl).trans ?_;refine(aA rfl).trans ?_;refine(aA<|(gU rfl).trans f1).trans ?_;have hj:qK (.str []) (.lst<|pl.map .str)=some (.str (rd ρ s z).2):=by rw[pI.Zx (by rw[e3];omega) e4,e2]
 exact bV<|bZ (aC rfl (aC (bL rfl rfl hj)<|aC rfl bu)) Ev.zz3
end
section
variable{x:List Nat}(hx:x∈XS)
include hx
theorem QL(A0 A1 A2:OD):∀Rs ss z acc ts (v6 v7 v8 v9:OD),Rs.length=ss.length->(∀R∈Rs,bN x R)->(∀s∈ss,iV x s)->(∀a∈z,a∈35::x)->(z.length+2)*2^Rs.length<=150->acc.length+Rs.length<=100->ts.length+Rs.length<=100->
  ∃w6 w7 w8 w9,ir (cF 2 (aG (ak 6) (aG (ak 7) cG))) vO (vN Rs (ss.map aN)) [A0,A1,A2,Zs z,Zl acc,Zl ts,v6,v7,v8,v9]=.nx [A0,A1,A2,(Zs ((gV x Rs ss z).2)),(Zl (acc++(gV x Rs ss z).1.map aN)),(Zl (ts++(yE x Rs ss z).map .bl)),w6,w7,w8,w9]/\(∀s∈(gV x Rs ss z).1,iV x s)/\(gV x Rs ss z).1.length=Rs.length
 |[],[],z,acc,ts,v6,v7,v8,v9,_,_,_,_,_,_,ht=>by
  refine⟨v6,v7,v8,v9,?_,λs hs=>by simp[gV] at hs,rfl⟩;show Ev.Out.nx _=Ev.Out.nx [A0,A1,A2,Zs z,Zl<|acc++[],Zl<|ts++[],v6,v7,v8,v9];rw[Qw6,Qw6]
 |[],_::_,_,_,_,_,_,_,_,h,_,_,_,_,_,_=>by simp at h|_::_,[],_,_,_,_,_,_,_,h,_,_,_,_,_,_=>by simp at h
 |R::Rs,s::ss,z,acc,ts,v6,v7,v8,v9,h,hR,hS,hz,hn,ha,ht=>by
  have ZC:=qt<|hR R<|Qqj ..;have hso:=hS s<|Qqj ..;obtain⟨o1,o2,o3⟩:=uE ZC z hso hz;obtain⟨n1,n2⟩:=Fo hn (m:=(rd (cN x R) s z).2.length) (by omega);have hrs:=xn hx ZC hso hz (by omega);rw[Qqw] at ha ht;obtain⟨w6,w7,w8,w9,g1,g2,g3⟩:=QL A0 A1 A2 Rs ss (rd (cN x R) s z).2 (acc++[aN (rd (cN x R) s z).1]) (ts++[.bl (ac (cN x R) s z)]) (Zf R) (Zf<|aN s) (Zf<|aN (rd (cN x R) s z).1) (Zb<|ac (cN x R) s z) (by simpa using h) (λQ hQ=>hR Q<|Qqq _ hQ) (λq hq=>hS q<|Qqq _ hq) o3 n1 (by rw[Qqk,Qw1];omega) (by rw[Qqk,Qw1];omega);refine⟨w6,w7,w8,w9,?_,?_,?_⟩;show ir _ vO (.tup [R,aN s]::vN Rs (ss.map aN)) _=Ev.Out.nx [A0,A1,A2,(Zs<|(gV x Rs ss (rd (cN x R) s z).2).2),(Zl<|acc++(aN (rd (cN x R) s z).1::(gV x Rs ss (rd (cN x R) s z).2).1.map aN)),(Zl<|ts++(.bl (ac (cN x R) s z)::(yE x Rs ss (rd (cN x R) s z).2).map .bl)),w6,w7,w8,w9];rw[wV (e1:=[A0,A1,A2,Zs z,Zl acc,Zl ts,Zf R,Zf<|aN s,v8,v9]) (e2:=[A0,A1,A2,(Zs<|(rd (cN x R) s z).2),(Zl<|acc++[aN (rd (cN x R) s z).1]),(Zl<|ts++[.bl (ac (cN x R) s z)]),Zf R,Zf<|aN s,(Zf<|aN (rd (cN x R) s z).1),(Zb<|ac (cN x R) s z)]) rfl ?_,g1,Qwk,Qwk];rfl;generalize(rd (cN x R) s z).2=q at *;generalize(rd (cN x R) s z).1=s' at *;generalize ac (cN x R) s z=t at *;unfold vO;refine(aA (e:=[A0,A1,A2,Zs q,Zl acc,Zl ts,Zf R,Zf<|aN s,Zf<|aN s',Zb t])<|bH (e:=[A0,A1,A2,Zs z,Zl acc,Zl ts,Zf R,Zf<|aN s,v8,v9]) (aK (ds:=[R,aN s,.str z]) rfl hrs) rfl).trans ?_;refine(aA (e:=[A0,A1,A2,Zs q,Zl (acc++[aN s']),Zl ts,Zf R,Zf (aN s),Zf (aN s'),Zb t]) ?_).trans ?_;exact(Ev.LR (i:=4) (xs:=acc) (d:=aN s') (e:=[A0,A1,A2,Zs q,Zl acc,Zl ts,Zf R,Zf (aN s),Zf (aN s'),Zb t]) rfl rfl rfl (Qw5 (show acc.length<=100 by omega) (by decide))).trans rfl;exact(Ev.LR (i:=5) (xs:=ts) (d:=.bl t) (e:=[A0,A1,A2,Zs q,Zl (acc++[aN s']),Zl ts,Zf R,Zf (aN s),Zf (aN s'),Zb t]) rfl rfl rfl (Qw5 (show ts.length<=100 by omega) (by decide))).trans rfl;intro q hq;rcases Qq7.mp (show q∈(rd (cN x R) s z).1::(gV x Rs ss (rd (cN x R) s z).2).1 from hq) with rfl|hq;exact o1;exact g2 q hq;show(_::(gV x Rs ss (rd (cN x R) s z).2).1).length=_;rw[Qqw,g3,Qqw]
theorem QS(A0 A1:OD):∀Rs ss z ts (v6 v7 v8 v9:OD),Rs.length=ss.length->(∀R∈Rs,bN x R)->(∀s∈ss,iV x s)->(∀a∈z,a∈35::x)->(z.length+2)*2^Rs.length<=150->ts.length+Rs.length<=100->
  ∃w6 w7 w8 w9,ir (cF 2 (aG (ak 4) (aG (ak 5) cG))) JN (vN Rs (ss.map aN)) [A0,A1,Zs z,Zl ts,v6,v7,v8,v9]=.nx [A0,A1,Zs (Je x Rs ss z),(Zl (ts++(Jq x Rs ss z).map .bl)),w6,w7,w8,w9]
 |[],[],z,ts,v6,v7,v8,v9,_,_,_,_,_,ht=>⟨v6,v7,v8,v9,by show Ev.Out.nx _=Ev.Out.nx [A0,A1,Zs z,Zl<|ts++[],v6,v7,v8,v9];rw[Qw6]⟩|[],_::_,_,_,_,_,_,_,h,_,_,_,_,_=>by simp at h|_::_,[],_,_,_,_,_,_,h,_,_,_,_,_=>by simp at h
 |R::Rs,s::ss,z,ts,v6,v7,v8,v9,h,hR,hS,hz,hn,ht=>by
  have ZC:=qt<|hR R<|Qqj ..;have hso:=hS s<|Qqj ..;have hz':∀a∈z++[35],a∈35::x:=λa ha=>by
   rcases Qww.mp ha with ha|ha;exact hz a ha;rw[Qq2.mp ha];exact Qqj ..
  have hzl:(z++[35]).length=z.length+1:=by rw[Qqk,Qw1]
  obtain⟨o1,o2,o3⟩:=uE ZC (z++[35]) hso hz';obtain⟨n1,n2⟩:=Fo hn (m:=(rd (cN x R) s<|z++[35]).2.length) (by omega);have hrs:=xn hx ZC hso hz' (by omega);rw[Qqw] at ht;obtain⟨w6,w7,w8,w9,g1⟩:=QS A0 A1 Rs ss (rd (cN x R) s<|z++[35]).2 (ts++[.bl (ac (cN x R) s<|z++[35])]) (Zf R) (Zf<|aN s) (Zf<|aN (rd (cN x R) s<|z++[35]).1) (Zb<|ac (cN x R) s<|z++[35]) (by simpa using h) (λQ hQ=>hR Q<|Qqq _ hQ) (λq hq=>hS q<|Qqq _ hq) o3 n1 (by rw[Qqk,Qw1];omega);refine⟨w6,w7,w8,w9,?_⟩;show ir _ JN (.tup [R,aN s]::vN Rs (ss.map aN)) _=Ev.Out.nx [A0,A1,(Zs<|Je x Rs ss (rd (cN x R) s<|z++[35]).2),(Zl<|ts++(.bl (ac (cN x R) s<|z++[35])::(Jq x Rs ss (rd (cN x R) s<|z++[35]).2).map .bl)),w6,w7,w8,w9];rw[wV (e1:=[A0,A1,Zs z,Zl ts,Zf R,Zf<|aN s,v8,v9]) (e2:=[A0,A1,(Zs<|(rd (cN x R) s<|z++[35]).2),(Zl<|ts++[.bl (ac (cN x R) s<|z++[35])]),Zf R,Zf<|aN s,(Zf<|aN (rd (cN x R) s<|z++[35]).1),(Zb<|ac (cN x R) s<|z++[35])]) rfl ?_,g1,Qwk];rfl;generalize(rd (cN x R) s (z++[35])).2=q at *;generalize(rd (cN x R) s (z++[35])).1=s' at *;generalize ac (cN x R) s (z++[35])=t at *;unfold JN;refine(aA (e:=[A0,A1,Zs q,Zl ts,Zf R,Zf (aN s),Zf (aN s'),Zb t]) (bH (e:=[A0,A1,Zs z,Zl ts,Zf R,Zf (aN s),v8,v9]) (aK (ds:=[R,aN s,.str (z++[35])]) (aC rfl (aC rfl (aC (Fy (x:=.str z) (y:=.str [35]) rfl rfl rfl (mW (by show z.length+1<=100000;omega))) bu))) hrs) rfl)).trans ?_;exact(Ev.LR (i:=3) (xs:=ts) (d:=.bl t) (e:=[A0,A1,Zs q,Zl ts,Zf R,Zf (aN s),Zf (aN s'),Zb t]) rfl rfl rfl (Qw5 (show ts.length<=100 by omega) (by decide))).trans rfl
end
section
variable{x:List Nat}{s:D}{Rs:List D}{ss:List cR.St}(o:nW x s Rs ss){z:List Nat}(hz:∀a∈z,a∈35::x)(hn:z.length<=7)
include o hz hn
theorem nZ:dH [.tup [s,.tup Rs],.tup (ss.map aN),.str z]=some (.tup [.tup ((gV x (lay s Rs) ss z).1.map aN),.str (gV x (lay s Rs) ss z).2,.tup ((yE x (lay s Rs) ss z).map .bl)])/\nW x s Rs (gV x (lay s Rs) ss z).1:=by
 have h1:=reading_rules o.hx o.hs o.hR<|Qq4 o.h4 (by decide);have h2:=qH (s:=s) o.hR;have h3:=iz s Rs;have h4:=o.h4;have hl:=o.hl;have hx:=o.hx;have hS:=o.hS;have hs:=o.hs;have hR:=o.hR;generalize lay s Rs=Ls at *;generalize D.tup [s,.tup Rs]=O at *;obtain⟨w6,w7,w8,w9,g1,g2,g3⟩:=QL hx (Zf O) (Zf<|.tup<|ss.map aN) (Zs z) Ls ss z [] [] none none none none (by omega) h2 hS hz (aaj (by omega) hn) (by rw[Qzk];omega) (by rw[Qzk];omega);refine⟨dC (env:=[Zf O,(Zf<|.tup<|ss.map aN),Zs z,(Zs<|(gV x Ls ss z).2),(Zl<|[]++(gV x Ls ss z).1.map aN),(Zl<|[]++(yE x Ls ss z).map .bl),w6,w7,w8,w9]) ?_,hx,hs,hR,h4,by omega,g2⟩;unfold fB;refine(aA (e:=[Zf O,(Zf<|.tup<|ss.map aN),Zs z,Zs z,Zn,Zn,Zn,Zn,Zn,Zn]) rfl).trans ?_;refine(aA (e:=[Zf O,(Zf<|.tup<|ss.map aN),Zs z,Zs z,Zl [],Zn,Zn,Zn,Zn,Zn]) rfl).trans ?_;refine(aA (e:=[Zf O,(Zf<|.tup<|ss.map aN),Zs z,Zs z,Zl [],Zl [],Zn,Zn,Zn,Zn]) rfl).trans ?_;refine(aA<|(gU (ds:=vN Ls<|ss.map aN) (e:=[Zf O,(Zf<|.tup<|ss.map aN),Zs z,Zs z,Zl [],Zl [],Zn,Zn,Zn,Zn]) ?_).trans g1).trans ?_;exact zV<|aC (aK (ds:=[O]) rfl h1) rfl;rw[Qj6,Qj6];exact bV<|bZ (ds:=[.tup ((gV x Ls ss z).1.map aN),.str (gV x Ls ss z).2,.tup<|(yE x Ls ss z).map .bl]) rfl Ev.zz3
omit hz hn
theorem lR:eQ [.tup [s,.tup Rs],.tup (ss.map aN)]=some (.tup [.str (Je x (lay s Rs) ss []),.tup ((Jq x (lay s Rs) ss []).map .bl)]):=by
 have h1:=reading_rules o.hx o.hs o.hR<|Qq4 o.h4 (by decide);have h2:=qH (s:=s) o.hR;have h3:=iz s Rs;have h4:=o.h4;have hl:=o.hl;have hx:=o.hx;have hS:=o.hS;generalize lay s Rs=Ls at *;generalize D.tup [s,.tup Rs]=O at *;obtain⟨w6,w7,w8,w9,g1⟩:=QS hx (Zf O) (Zf<|.tup<|ss.map aN) Ls ss [] [] none none none none (by omega) h2 hS (λa ha=>by simp at ha) (aaj (m:=0) (by omega) (by decide)) (by rw[Qzk];omega);refine dC (env:=[Zf O,(Zf<|.tup<|ss.map aN),Zs<|Je x Ls ss [],(Zl<|[]++(Jq x Ls ss []).map .bl),w6,w7,w8,w9]) ?_;unfold m6;refine(aA (e:=[Zf O,(Zf<|.tup<|ss.map aN),Zs [],Zn,Zn,Zn,Zn,Zn]) rfl).trans ?_;refine(aA (e:=[Zf O,(Zf<|.tup<|ss.map aN),Zs [],Zl [],Zn,Zn,Zn,Zn]) rfl).trans ?_;refine(aA<|(gU (ds:=vN Ls<|ss.map aN) (e:=[Zf O,(Zf<|.tup<|ss.map aN),Zs [],Zl [],Zn,Zn,Zn,Zn]) ?_).trans g1).trans ?_;exact zV<|aC (aK (ds:=[O]) rfl h1) rfl;rw[Qj6];exact bV<|bZ (ds:=[.str (Je x Ls ss []),.tup<|(Jq x Ls ss []).map .bl]) rfl Ev.BV
end
end KW
namespace KT
open Ev PySem L2
open pI (XS sides fit)
open Ay (bN)
open cR (aN iV Rl rd cN gV jZ lay lf nW uE)
open KW (ac yE Jq nZ lR)
open vH (rQ)
abbrev Pl:=cR.St×cR.St×cR.St×Bool×Bool
noncomputable def en(p:Pl):D:=.tup [.tup [aN p.1,aN p.2.1],.tup [aN p.2.2.1],.bl p.2.2.2.1,.bl p.2.2.2.2]
noncomputable def key(p:Pl):NK:=.tup [Li.qS [p.1,p.2.1],Li.qS [p.2.2.1],.num (if p.2.2.2.1 then 1 else 0),.num (if p.2.2.2.2 then 1 else 0)]
theorem Ut(p):Ax (en p)=some (key p):=by
 have h:pU (en p)=some (key p):=by unfold en key;simp[pU,Bo,aN,Li.qS,Qk2,Qwq,List.map_nil]
 unfold Ax en;unfold en at h;simp only[h,Option.bind_some];rw[if_pos];simp[key,Li.qS,NK.dep,NK.qR]
theorem Fi(p q)(h:key p=key q):p=q:=by
 obtain⟨a,b,c,d,e⟩:=p;obtain⟨a',b',c',d',e'⟩:=q;unfold key at h;have h0:=NK.tup.inj h;obtain⟨h1,h0⟩:=Qz2 h0;obtain⟨h2,h0⟩:=Qz2 h0;obtain⟨h3,h0⟩:=Qz2 h0;obtain⟨h4,h0⟩:=Qz2 h0;have j1:=Li.yR h1;have j2:=Li.yR h2;obtain⟨k1,j3⟩:=Qz2 j1;obtain⟨k3,_⟩:=Qz2 j3;obtain⟨k2,_⟩:=Qz2 j2;have tf:∀{u v},NK.num (if u=true then 1 else 0)=NK.num (if v=true then 1 else 0)->u=v:=λ{u v} h=>by
  cases u<;>cases v<;>first|rfl|(have:=NK.num.inj h;simp at this)
 have k4:=tf h3;have k5:=tf h4;simp at k1 k2 k3 k4 k5;subst k1 k2 k3 k4 k5
 rfl
noncomputable def prod{α β:Type}(A:List α)(B:List β):List (α×β):=A.flatMap λa=>B.map λb=>(a,b)
theorem uH{α β:Type}(B:List β):∀A:List α,(prod A B).length=A.length*B.length
 |[]=>by simp[prod]
 |a::A=>by
  have:=uH B A;unfold prod at *;rw[List.flatMap_cons,Qqk,this,Qq3,Qqw,Nat.succ_mul,Nat.add_comm]
theorem lZ{α β:Type}{A:List α}{B:List β}{a:α}{b:β}(h1:a∈A)(h2:b∈B):(a,b)∈prod A B:=Qj0.mpr ⟨a,h1,Qw3.mpr ⟨b,h2,rfl⟩⟩
noncomputable def SU(x:List Nat):List cR.St:=prod [false,true] ([]::(35::x).map λa=>[a])
theorem Kw(h:iV x s):s∈SU x:=by
 obtain⟨b,z⟩:=s;refine lZ (by cases b<;>simp) ?_;obtain⟨h1,h2⟩:=h
 match z,h1,h2 with
 |[],_,_=>exact Qqj ..|[a],_,h2=>exact Qqq _<|Qw3.mpr ⟨a,h2 a<|Qqj ..,rfl⟩|_::_::_,h1,_=>simp at h1
noncomputable def U(x:List Nat):List Pl:=prod (SU x) (prod (SU x) (prod (SU x) (prod [false,true] [false,true])))
theorem afH(h:x∈XS):(U x).length<=6998:=by
 have h4:=jP.jO x h;unfold U SU;simp only[uH,Qqw,Qq3,Qzk];have h5:(0+1+1)*(x.length+1+1)<=12:=by omega
 generalize(0+1+1)*(x.length+1+1)=m at *;have a1:m*((0+1+1)*(0+1+1))<=12*4:=Nat.mul_le_mul h5 (by decide);have a2:=Nat.mul_le_mul h5 a1;have a3:=Nat.mul_le_mul h5 a2;omega
def Ok(x:List Nat)(p:Pl):Prop:=iV x p.1/\iV x p.2.1/\iV x p.2.2.1
theorem aeV(h:Ok x p):p∈U x:=by obtain⟨a,b,c,d,e⟩:=p;exact lZ (Kw h.1)<|lZ (Kw h.2.1)<|lZ (Kw h.2.2)<|lZ (by cases d<;>simp) (by cases e<;>simp)
noncomputable def go(ρ1 ρ2:Rl)(p:Pl)(z:List Nat):Pl:=((rd ρ1 p.1 z).1,(rd ρ2 p.2.1 (rd ρ1 p.1 z).2).1,(rd ρ2 p.2.2.1 z).1,p.2.2.2.1||ac ρ2 p.2.1 (rd ρ1 p.1 z).2,p.2.2.2.2||ac ρ2 p.2.2.1 z)
noncomputable def LP(ρ1 ρ2:Rl)(p:Pl)(a:Nat):Pl:=go ρ1 ρ2 p [a]
noncomputable def E1(ρ1 ρ2:Rl)(p:Pl):Bool:=p.2.2.2.1||ac ρ2 p.2.1 ((rd ρ1 p.1 [35]).2++[35])
noncomputable def E2(ρ2:Rl)(p:Pl):Bool:=p.2.2.2.2||ac ρ2 p.2.2.1 [35]
noncomputable def SP(ρ1 ρ2:Rl)(b c:Bool)(p:Pl):Bool:=(E1 ρ1 ρ2 p == b)&&(E2 ρ2 p == c)
section
noncomputable def Ah:bO:=aD (aW (aR 0) (cF 4 (aG (ak 4) (aG (ak 5) (aG (ak 6) (aG (ak 7) cG)))))) (aD (aW (au cR.dH (Zv 3 (Zv 4 (Zv 1 aj)))) (cF 3 (aG (ak 4) (aG (ak 8) (aG (ak 9) cG))))) (aD (aW (au cR.dH (Zv 2 (Zv 5 (Zv 1 aj)))) (cF 3 (aG (ak 5) (aG (ak 8) (aG (ak 10) cG))))) (bA (bF (Zv 4 (Zv 5 (aa (pP (aR 6) (aB fj 9 (Zi 1))) (aa (pP (aR 7) (aB fj 10 (Zi 0))) aj))))))))
noncomputable def vm:bO:=aD (aW (aR 0) (cF 4 (aG (ak 5) (aG (ak 6) (aG (ak 7) (aG (ak 8) cG)))))) (aD (aW (pP (aR 7) (aO fj (aO fj (au cR.eQ (Zv 2 (Zv 5 aj))) (Zi 1)) (Zi 1))) (ak 9)) (aD (aW (pP (aR 8) (aO fj (aO fj (au cR.eQ (Zv 1 (Zv 6 aj))) (Zi 1)) (Zi 0))) (ak 10)) (bA (z8 (aB tR 9 (aZ 3)) (aB tR 10 (aZ 4))))))
end
section
variable{x:List Nat}{s R O:D}(hx:x∈XS)(hs:s∈sides)(hR:bN x R)(hO:bN x O)
noncomputable def ly(s R:D):D:=if cR.rt s=true then cR.tn R else R
theorem Xn:lay s [R,O]=[ly s R,ly s O]:=by unfold lay ly;split<;>rfl
theorem Xo:lay s [O]=[ly s O]:=by unfold lay ly;split<;>rfl
include hx hs hR hO
theorem or2(h1:iV x s1)(h2:iV x s2):nW x s [R,O] [s1,s2]:=
 ⟨hx,hs,λQ hQ=>by simp[Qq7,Qxw,Qj9] at hQ;rcases hQ with rfl|rfl;exact hR;exact hO,by show 2<=4;decide,rfl,λt ht=>by simp[Qq7,Qxw,Qj9] at ht;rcases ht with rfl|rfl;exact h1;exact h2⟩
omit hR in
theorem or1(h3:iV x s3):nW x s [O] [s3]:=
 ⟨hx,hs,λQ hQ=>by simp[Qq7,Qxw,Qj9] at hQ;rw[hQ];exact hO,by show 1<=4;decide,rfl,λt ht=>by simp[Qq7,Qxw,Qj9] at ht;rw[ht];exact h3⟩
theorem Ez(hp:Ok x p)(ha:a∈x):runC 2 11 Ah [.tup [s,.tup [O]],.tup [s,.tup [R,O]]] [en p,.str [a]]=some (en (LP (cN x (ly s R)) (cN x (ly s O)) p a))/\Ok x (LP (cN x (ly s R)) (cN x (ly s O)) p a):=by
 obtain⟨s1,s2,s3,b1,b2⟩:=p;have hz:∀b ∈ [a],b∈35::x:=λb hb=>by rw[Qq2.mp hb];exact Qqq _ ha
 obtain⟨w1,o1⟩:=nZ (or2 hx hs hR hO hp.1 hp.2.1) hz (by show 1<=7;decide);obtain⟨w2,o2⟩:=nZ (or1 hx hs hO hp.2.2) hz (by show 1<=7;decide);rw[Xn] at w1 o1;rw[Xo] at w2 o2;generalize hO1:D.tup [s,.tup [R,O]]=B at *;generalize hO2:D.tup [s,.tup [O]]=I at *;have k1:cR.dH [B,.tup [aN s1,aN s2],.str [a]]=some (.tup [.tup [aN (go (cN x<|ly s R) (cN x<|ly s O) (s1,s2,s3,b1,b2) [a]).1,aN (go (cN x<|ly s R) (cN x<|ly s O) (s1,s2,s3,b1,b2) [a]).2.1],.str (gV x [ly s R,ly s O] [s1,s2] [a]).2,.tup [.bl (ac (cN x<|ly s R) s1 [a]),.bl<|ac (cN x<|ly s O) s2 (rd (cN x<|ly s R) s1 [a]).2]]):=w1;have k2:cR.dH [I,.tup [aN s3],.str [a]]=some (.tup [.tup [aN (go (cN x<|ly s R) (cN x<|ly s O) (s1,s2,s3,b1,b2) [a]).2.2.1],.str (gV x [ly s O] [s3] [a]).2,.tup [.bl (ac (cN x<|ly s O) s3 [a])]]):=w2;refine⟨?_,o1.hS _<|Qqj ..,o1.hS _<|Qqq _<|Qqj ..,o2.hS _<|Qqj ..⟩;unfold LP;generalize hg:go (cN x<|ly s R) (cN x<|ly s O) (s1,s2,s3,b1,b2) [a]=g at *;have e4:g.2.2.2.1=(b1||ac (cN x<|ly s O) s2 (rd (cN x<|ly s R) s1 [a]).2):=by rw[<-hg];rfl
 have e5:g.2.2.2.2=(b2||ac (cN x<|ly s O) s3 [a]):=by rw[<-hg];rfl
 clear hg;generalize ac (cN x<|ly s O) s2 (rd (cN x<|ly s R) s1 [a]).2=t2 at *;generalize ac (cN x<|ly s O) s3 [a]=t3 at *;generalize ac (cN x<|ly s R) s1 [a]=t1 at *;generalize(gV x [ly s R,ly s O] [s1,s2] [a]).2=y1 at *;generalize(gV x [ly s O] [s3] [a]).2=y2 at *;clear w1 w2 o1 o2;obtain⟨g1,g2,g3,g4,g5⟩:=g;simp only at e4 e5;unfold runC;rw[if_pos (show [en (s1,s2,s3,b1,b2),D.str [a]].length=2 from rfl)];have hb:Ah (envOf 11<|[en (s1,s2,s3,b1,b2),.str [a]]++[I,B])=.rt false (en (g1,g2,g3,g4,g5)) [(Zf<|en (s1,s2,s3,b1,b2)),Zs [a],Zf I,Zf B,Zf<|.tup [aN g1,aN g2],Zf<|.tup [aN g3],Zb b1,Zb b2,Zs y2,Zf<|.tup [.bl t1,.bl t2],Zf<|.tup [.bl t3]]:=by unfold Ah;refine(aA rfl).trans ?_;refine(aA<|bH (aK (ds:=[B,.tup [aN s1,aN s2],.str [a]]) rfl k1) rfl).trans ?_;refine(aA (e:=[(Zf<|en (s1,s2,s3,b1,b2)),Zs [a],Zf I,Zf B,Zf<|.tup [aN g1,aN g2],Zf<|.tup [aN g3],Zb b1,Zb b2,Zs y2,Zf<|.tup [.bl t1,.bl t2],Zf<|.tup [.bl t3]])<|bH (e:=[(Zf<|en (s1,s2,s3,b1,b2)),Zs [a],Zf I,Zf B,Zf<|.tup [aN g1,aN g2],Zf<|.tup [aN s3],Zb b1,Zb b2,Zs y1,Zf<|.tup [.bl t1,.bl t2],Zn]) (aK (ds:=[I,.tup [aN s3],.str [a]]) rfl k2) rfl).trans ?_;subst e4 e5;cases b1<;>cases b2<;>rfl
 rw[hb]
theorem yK(b c)(hp:Ok x p):runC 1 11 vm [.tup [s,.tup [O]],.tup [s,.tup [R,O]],.bl b,.bl c] [en p]=some (.bl (SP (cN x (ly s R)) (cN x (ly s O)) b c p)):=by
 obtain⟨s1,s2,s3,b1,b2⟩:=p;have w1:=lR<|or2 hx hs hR hO hp.1 hp.2.1;have w2:=lR<|or1 hx hs hO hp.2.2;rw[Xn] at w1;rw[Xo] at w2;generalize hO1:D.tup [s,.tup [R,O]]=B at *;generalize hO2:D.tup [s,.tup [O]]=I at *;have k1:cR.eQ [B,.tup [aN s1,aN s2]]=some (.tup [.str (cR.Je x [ly s R,ly s O] [s1,s2] []),.tup [.bl (ac (cN x<|ly s R) s1 [35]),.bl<|ac (cN x<|ly s O) s2<|(rd (cN x<|ly s R) s1 [35]).2++[35]]]):=w1;have k2:cR.eQ [I,.tup [aN s3]]=some (.tup [.str (cR.Je x [ly s O] [s3] []),.tup [.bl (ac (cN x<|ly s O) s3 [35])]]):=w2;unfold SP E1 E2;simp only;generalize ac (cN x<|ly s O) s2 ((rd (cN x<|ly s R) s1 [35]).2++[35])=t2 at *;generalize ac (cN x<|ly s O) s3 [35]=t3 at *;generalize ac (cN x<|ly s R) s1 [35]=t1 at *;generalize cR.Je x [ly s R,ly s O] [s1,s2] []=y1 at *;generalize cR.Je x [ly s O] [s3] []=y2 at *;clear w1 w2;unfold runC;rw[if_pos (show [en (s1,s2,s3,b1,b2)].length=1 from rfl)];have hb:vm (envOf 11<|[en (s1,s2,s3,b1,b2)]++[I,B,.bl b,.bl c])=.rt false (.bl<|((b1||t2) == b)&&((b2||t3) == c)) [(Zf<|en (s1,s2,s3,b1,b2)),Zf I,Zf B,Zb b,Zb c,Zf<|.tup [aN s1,aN s2],Zf<|.tup [aN s3],Zb b1,Zb b2,Zb<|b1||t2,Zb<|b2||t3]:=by
  unfold vm;refine(aA rfl).trans ?_;refine(aA (e:=[(Zf<|en (s1,s2,s3,b1,b2)),Zf I,Zf B,Zb b,Zb c,Zf<|.tup [aN s1,aN s2],Zf<|.tup [aN s3],Zb b1,Zb b2,Zb<|b1||t2,Zn])<|bH (cR.uX rfl ?_) rfl).trans ?_;exact bL (bL (aK rfl k1) rfl rfl) rfl rfl;refine(aA (e:=[(Zf<|en (s1,s2,s3,b1,b2)),Zf I,Zf B,Zb b,Zb c,Zf<|.tup [aN s1,aN s2],Zf<|.tup [aN s3],Zb b1,Zb b2,Zb<|b1||t2,Zb<|b2||t3])<|bH (cR.uX rfl ?_) rfl).trans ?_;exact bL (bL (aK (ds:=[I,.tup [aN s3]]) rfl k2) rfl rfl) rfl rfl;generalize(b1||t2)=u1;generalize(b2||t3)=u2;cases u1<;>cases u2<;>cases b<;>cases c<;>rfl
 rw[hb]
end
open cR (aN iV Rl rd cN gV jZ lay lf nW uE stp lA)
open KW (ac nU)
open KB (pl Nx sought)
theorem Y7(ρ1 ρ2)(p):∀v,pl (LP ρ1 ρ2) p v=go ρ1 ρ2 p v:=by
 intro v
 induction v generalizing p with
 |nil=>obtain⟨a,b,c,d,e⟩:=p;show(a,b,c,d,e)=(a,b,c,d||false,e||false);rw[Bool.or_false,Bool.or_false]|cons a v ih=>show pl (LP ρ1 ρ2) (LP ρ1 ρ2 p a) v=_;rw[ih];unfold LP go;obtain⟨s1,s2,s3,b1,b2⟩:=p;have e1:=lA ρ1 [a] s1 v;have e2:=lA ρ2 [a] s3 v;rw[List.singleton_append] at e1 e2;have e3:=lA ρ2 (rd ρ1 s1 [a]).2 s2 (rd ρ1 (rd ρ1 s1 [a]).1 v).2;have e4:=nU ρ2 (rd ρ1 s1 [a]).2 s2 (rd ρ1 (rd ρ1 s1 [a]).1 v).2;have e5:=nU ρ2 [a] s3 v;rw[List.singleton_append] at e5;simp[e1,e2,e3,e4,e5,Bool.or_assoc]
noncomputable def ini(ρl:D):cR.St:=(fit ρl 35,[])
noncomputable abbrev T:=vH.trd
noncomputable def p0(R1 R2:D):Pl:=(ini (lf R1),ini (lf R2),ini (lf R2),false,false)
theorem ac8(x)(R1 R2)(v):E1 (cN x R1) (cN x R2) (pl (LP (cN x R1) (cN x R2)) (p0 R1 R2) v)=ac (cN x R2) (ini (lf R2)) (T x R1 v++[35]):=by rw[Y7];unfold E1 go p0 T vH.trd ini;simp only;rw[Bool.false_or,<-nU,lA,Qwk]
theorem ac7(x)(R1 R2)(v):E2 (cN x R2) (pl (LP (cN x R1) (cN x R2)) (p0 R1 R2) v)=ac (cN x R2) (ini (lf R2)) (v++[35]):=by rw[Y7];unfold E2 go p0;simp only;rw[Bool.false_or,<-nU]
theorem acZ(al)(kvs)(l r):∀z s,s.2.length<=1->z≠[]->(∀h,(cR.Gs kvs h true).length<=1)->
  (rd (.chg al kvs l r) s z).2.length<=(s.2++z).dropLast.length/\((rd (.chg al kvs l r) s z).2=(s.2++z).dropLast↔ac (.chg al kvs l r) s z=false):=by
 intro z;induction z with
 |nil=>intro s _ h;exact absurd rfl h
 |cons a z ih=>
  intro s hs _ hp;have hpt:∀h b,(cR.Gs kvs h b).length<=1:=λh b=>by
   cases b with
   |true=>exact hp h|false=>exact Qq1 _
  have ho:(stp (.chg al kvs l r) s a).2.length<=s.2.length:=by
   obtain⟨b,h⟩:=s;cases h with
   |nil=>exact Qq1 _|cons h t=>have:(cR.Gs kvs h<|b&&fit r a).length<=1:=hpt _ _;show(cR.Gs kvs h<|b&&fit r a).length<=_;rw[Qqw];omega
  have hh:(stp (.chg al kvs l r) s a).1.2=[a]:=cR.Uh _ _ _;cases z with
  |nil=>
   have e1:(rd (.chg al kvs l r) s [a]).2=(stp (.chg al kvs l r) s a).2:=by rw[cR.Eh]
   have e2:(s.2++[a]).dropLast=s.2:=List.dropLast_concat;rw[e1,e2];refine⟨ho,?_⟩;show _↔(!((stp (.chg al kvs l r) s a).2 == s.2)||false)=false;rw[Bool.or_false,Bool.not_eq_false',beq_iff_eq]
  |cons c z=>
   obtain⟨i1,i2⟩:=ih (stp (.chg al kvs l r) s a).1 (by rw[hh];exact Qq1 _) (by simp) hp;rw[hh] at i1 i2;have e1:(rd (.chg al kvs l r) s (a::c::z)).2=(stp (.chg al kvs l r) s a).2++(rd (.chg al kvs l r) (stp (.chg al kvs l r) s a).1 (c::z)).2:=rfl;have e2:(s.2++a::c::z).dropLast=s.2++([a]++c::z).dropLast:=by
    rw[List.dropLast_append_of_ne_nil (by simp)];rfl
   rw[e1,e2,Qqk,Qqk];refine⟨by omega,?_⟩;show _↔(!((stp (.chg al kvs l r) s a).2 == s.2)||ac (.chg al kvs l r) (stp (.chg al kvs l r) s a).1 (c::z))=false;rw[Bool.or_eq_false_iff,Bool.not_eq_false',beq_iff_eq,<-i2];constructor;intro h;have hl:=Qw9 List.length h;rw[Qqk,Qqk] at hl;exact List.append_inj h (by omega);rintro⟨h1,h2⟩;rw[h1,h2]
theorem acX(c)(l r):∀z s,z≠[]->
  (s.2++z).dropLast.length<=(rd (.put c l r) s z).2.length/\((rd (.put c l r) s z).2=(s.2++z).dropLast↔ac (.put c l r) s z=false):=by
 intro z;induction z with
 |nil=>intro s h;exact absurd rfl h
 |cons a z ih=>
  intro s _;have ho:s.2.length<=(stp (.put c l r) s a).2.length:=by show s.2.length<=(s.2++_).length;rw[Qqk];omega
  have hh:(stp (.put c l r) s a).1.2=[a]:=rfl;cases z with
  |nil=>
   have e1:(rd (.put c l r) s [a]).2=(stp (.put c l r) s a).2:=by rw[cR.Eh]
   have e2:(s.2++[a]).dropLast=s.2:=List.dropLast_concat;rw[e1,e2];refine⟨ho,?_⟩;show _↔(!((stp (.put c l r) s a).2 == s.2)||false)=false;rw[Bool.or_false,Bool.not_eq_false',beq_iff_eq]
  |cons d z=>
   obtain⟨i1,i2⟩:=ih (stp (.put c l r) s a).1 (by simp);rw[hh] at i1 i2;have e1:(rd (.put c l r) s (a::d::z)).2=(stp (.put c l r) s a).2++(rd (.put c l r) (stp (.put c l r) s a).1 (d::z)).2:=rfl;have e2:(s.2++a::d::z).dropLast=s.2++([a]++d::z).dropLast:=by
    rw[List.dropLast_append_of_ne_nil (by simp)];rfl
   rw[e1,e2,Qqk,Qqk];refine⟨by omega,?_⟩;show _↔(!((stp (.put c l r) s a).2 == s.2)||ac (.put c l r) (stp (.put c l r) s a).1 (d::z))=false;rw[Bool.or_eq_false_iff,Bool.not_eq_false',beq_iff_eq,<-i2];constructor;intro h;have hl:=Qw9 List.length h;rw[Qqk,Qqk] at hl;exact List.append_inj h (by omega);rintro⟨h1,h2⟩;rw[h1,h2]
noncomputable def A(x:List Nat)(R:D)(w:List Nat):Bool:=!(T x R w == w)
theorem acY{R:D}(hI:cR.Is x R ρ)(i)(hi:i.2=[])(w):(rd ρ i (w++[35])).2=w↔ac ρ i (w++[35])=false:=by
 have e0:(i.2++(w++[35])).dropLast=w:=by rw[hi,Qj6];exact List.dropLast_concat
 cases hI with
 |@put wy l r c hc hl hr=>have:=(acX c l r (w++[35]) i (by simp)).2;rw[e0] at this;exact this
 |@chg al ps kvs l r hp hd hk hl hr=>
  have hlen:=λh=>by
   show((pI.look kvs h).getD [h]).length<=1;cases e:pI.look kvs h with
   |none=>exact Qq1 _|some t=>exact(pI.jG hk e).2.1
  have:=(acZ al kvs l r (w++[35]) i (by rw[hi];exact Qx0 _) (by simp) hlen).2;rw[e0] at this;exact this
theorem Ve{R:D}(hR:bN x R)(w):ac (cN x R) (ini (lf R)) (w++[35])=A x R w:=by
 have key:=acY (cR.qt hR) (ini<|lf R) rfl w;unfold A T vH.trd;cases h:ac (cN x R) (ini<|lf R) (w++[35]) with
 |false=>have z:=key.mpr h;unfold ini at z;rw[z];simp
 |true=>
  have:(rd (cN x R) (fit (lf R) 35,[])<|w++[35]).2≠w:=λz=>by rw[key.mp z] at h;cases h
  simp[this]
noncomputable def W(x:List Nat)(R1 R2:D)(b c:Bool)(v:List Nat):Bool:=(A x R2 (T x R1 v) == b)&&(A x R2 v == c)
theorem ahP{R1 R2:D}(h2:bN x R2)(b c)(v):SP (cN x R1) (cN x R2) b c (pl (LP (cN x R1) (cN x R2)) (p0 R1 R2) v)=W x R1 R2 b c v:=by unfold SP W;rw[ac8,ac7,Ve h2,Ve h2]
noncomputable def Ga(sl ss:Stmt)(g:LD):bO:=aD (aW (bF (Zv 1 (aa (bF (Zv 2 (Zv 3 aj))) aj))) (ak 6)) (aD (aW (bF (Zv 1 (aa (bF (Zv 3 aj)) aj))) (ak 7)) (qb sl ss [7,6] [7,6,4,5] 8 9 g (aR 0) (aR 1) (bF (aa (au cR.aY (Zv 6 aj)) (aa (au cR.aY (Zv 7 aj)) (aa (jR (.bl false)) (aa (jR (.bl false)) aj)))))))
theorem Mu{s R:D}(h:bN x R):bN x (ly s R):=by
 unfold ly;split;exact(cR.Q5 h).1;exact h
theorem QR{s R O bQ:D}{Φ:Stmt->List D->LD}(hx:x∈XS)(hs:s∈sides)(hR:bN x R)(hO:bN x O)(hl:Φ sl=runC 2 11 Ah)(hw:Φ ss=runC 1 11 vm)(hso:so [bQ]=some (.tup (x.map λa=>.str [a])))(b c) :
  ∃r,bY 10 (Ga sl ss (bY 11 (KB.di so Φ))) [bQ,s,R,O,.bl b,.bl c]=some r/\((r=.non/\∀v,(∀a∈v,a∈x)->W x (ly s R) (ly s O) b c v=false)\/
   ∃w,r=.str (rQ s w)/\(∀a∈w,a∈x)/\W x (ly s R) (ly s O) b c w=true/\∀v,(∀a∈v,a∈x)->v.length<w.length->W x (ly s R) (ly s O) b c v=false):=by
 have hG:KB.Gives Φ sl ss [.tup [s,.tup [O]],.tup [s,.tup [R,O]]] [.tup [s,.tup [O]],.tup [s,.tup [R,O]],.bl b,.bl c] x en key (LP (cN x<|ly s R)<|cN x<|ly s O) (SP (cN x<|ly s R) (cN x<|ly s O) b c) (Ok x) (U x):=
  ⟨λp a hp ha=>by rw[hl];exact Ez hx hs hR hO hp ha,λp hp=>by rw[hw];exact yK hx hs hR hO b c hp,Ut,Fi,λp hp=>aeV hp,afH hx⟩
 have z0:∀Q,iV x (ini<|lf Q):=λQ=>⟨Qx0 _,λc hc=>by simp[ini] at hc⟩;obtain⟨r,h1,h2⟩:=sought hG (p0:=p0 (ly s R)<|ly s O) hs hso ⟨z0 _,z0 _,z0 _⟩;have f1:cR.aY [.tup [s,.tup [R,O]]]=some (.tup [aN (ini<|lf<|ly s R),aN<|ini<|lf<|ly s O]):=by have:=cR.first_standing hx hs (Rs:=[R,O]) (λQ hQ=>by simp only[Qq7,Qxw,Qj9] at hQ;rcases hQ with rfl|rfl;exact hR;exact hO) (by show 2<=10;decide);rw[Xn] at this;exact this
 have f2:cR.aY [.tup [s,.tup [O]]]=some (.tup [aN (ini<|lf<|ly s O)]):=by have:=cR.first_standing hx hs (Rs:=[O]) (λQ hQ=>by simp only[Qq7,Qxw,Qj9] at hQ;rw[hQ];exact hO) (by show 1<=10;decide);rw[Xo] at this;exact this
 have hsc:Ck r=true:=by rcases h2 with ⟨rfl,_⟩|⟨w,rfl,_⟩<;>rfl
 refine⟨r,dC (env:=[Zf bQ,Zf s,Zf R,Zf O,Zb b,Zb c,Zf<|.tup [s,.tup [R,O]],Zf<|.tup [s,.tup [O]],Zn,Zn]) ?_,?_⟩;unfold Ga;refine(aA rfl).trans ?_;refine(aA rfl).trans ?_;unfold qb;have ea:aa (aR 0) (aa (aR 1)<|aa (bF<|aa (au cR.aY<|aa (aR 6) aj)<|aa (au cR.aY<|aa (aR 7) aj)<|aa (jR<|.bl false)<|aa (jR<|.bl false) aj) aj) [Zf bQ,Zf s,Zf R,Zf O,Zb b,Zb c,Zf<|.tup [s,.tup [R,O]],Zf<|.tup [s,.tup [O]],Zn,Zn]=.ok [bQ,s,en<|p0 (ly s R)<|ly s O] [Zf bQ,Zf s,Zf R,Zf O,Zb b,Zb c,Zf<|.tup [s,.tup [R,O]],Zf<|.tup [s,.tup [O]],Zn,Zn]:=by
  refine aC rfl (aC rfl (aC ?_ bu));refine bZ ?_ Ev.zz4;exact aC (aK rfl f1)<|aC (aK rfl f2) rfl
 show gZ (aa _ _ [Zf bQ,Zf s,Zf R,Zf O,Zb b,Zb c,Zf<|.tup [s,.tup [R,O]],Zf<|.tup [s,.tup [O]],Zn,Zn]) _=_;rw[ea];show(match bY 11 (KB.di so Φ) [bQ,s,en<|p0 (ly s R)<|ly s O,.clo sl [.tup [s,.tup [O]],.tup [s,.tup [R,O]]],.clo ss [.tup [s,.tup [O]],.tup [s,.tup [R,O]],.bl b,.bl c]] with|some d=>if Ck d=true then Out.rt false d _ else Out.stuck|none=>Out.stuck)=_;rw[h1];simp only[hsc,if_true];have wi:=λv=>ahP (R1:=ly s R) (Mu (s:=s) hO) b c v;rcases h2 with ⟨h2,h3⟩|⟨w,h2,h3,h4,h5⟩;exact .inl ⟨h2,λv hv=>by rw[<-wi v];exact h3 v hv⟩;exact .inr ⟨w,h2,h3,by rw[<-wi w];exact h4,λv hv hl=>by rw[<-wi v];exact h5 v hv hl⟩
end KT
namespace K18
open Ev
section
noncomputable def gn:Ev:=fD.gn
noncomputable def dX:bO:=fD.dX
noncomputable def cA:LD:=bY 1 dX
noncomputable def jd:bO:=fD.jd
noncomputable def gO:LD:=bY 2 jd
noncomputable def gC:bO:=fD.gC
noncomputable def jJ:LD:=bY 5 gC
noncomputable def il:bO:=fD.il
noncomputable def jw:LD:=bY 1 il
noncomputable def fc:Ev:=fD.fc
noncomputable def bU:bO:=fD.bU
noncomputable def cj:LD:=bY 3 bU
noncomputable def eF:Ev:=fD.eF
noncomputable def cu:bO:=fD.cu
noncomputable def aY:LD:=bY 1 cu
noncomputable def bW:bO:=fD.bW
noncomputable def cY:LD:=bY 10 bW
noncomputable def cH:bO:=fD.cH
noncomputable def dh:LD:=bY 10 cH
noncomputable def fP:bO:=fD.fP
noncomputable def dJ:bO:=fD.dJ
noncomputable def dR:LD:=bY 8 dJ
noncomputable def ik:bO:=fD.ik
noncomputable def fB:bO:=fD.fB
noncomputable def dH:LD:=bY 10 fB
noncomputable def gD:bO:=fD.gD
noncomputable def ju:LD:=bY 6 gD
def eN:bO:=fD.eN
def eG:bO:=fD.eG
def jo:bO:=fD.jo
def j6:LD:=bY 9 jo
def m7:bO:=bA (au cV (aa (au wR (aa (aO fj (au j6 (Zv 0 (Zv 1 aj))) (Zi 0)) aj)) aj))
def iH:LD:=bY 2 m7
end
end K18
namespace KM
noncomputable def cp:List Nat->List Nat->List Nat
 |a::as,b::bs=>if a=b then a::cp as bs else []|[],_=>[]|_::_,[]=>[]
section
variable{T:Type}[DecidableEq T]
noncomputable def pQ(ys:List T)(x:T):List T:=if x∈ys then ys else ys++[x]
theorem vp(ys)(x y:T):y∈pQ ys x↔y∈ys\/y=x:=by
 unfold pQ;split;rename_i h;exact⟨.inl,λq=>q.elim id λe=>e ▸ h⟩;rw[Qww,Qq2]
theorem Yo(x:T)(h:ys.Nodup):(pQ ys x).Nodup:=by
 unfold pQ;split;exact h;rename_i hn;rw[List.nodup_append];exact⟨h,Qxk.mpr ⟨by simp,.nil⟩,λa ha b hb e=>hn (by rw[Qq2.mp hb] at e;exact e ▸ ha)⟩
noncomputable def pg:List T->T->Nat
 |[],_=>0|u::us,t=>if u=t then 0 else pg us t+1
theorem zH:∀{l} {t} (m:List T),t∈l->pg (l++m) t=pg l t
 |u::us,t,m,h=>by
  rw[List.cons_append];unfold pg;split;rfl;rename_i e;rw[zH m ((Qq7.mp h).resolve_left λz=>e z.symm)]
end
open Ev PySem L2
open pI (XS sides fit look jG Bb)
open Ay (bN)
open cR (Rl Is stp rd gV Je jZ lay lf cN qt Gs nW iV)
theorem agY(hk:Bb x kvs)(hs:s∈x)(b):∀c∈Gs kvs s b,c∈x:=by
 unfold Gs;split;cases e:look kvs s with
 |none=>exact λc hc=>by rw[Qq2.mp hc];exact hs|some t=>exact λc hc=>(jG hk e).2.2 c hc
 exact λc hc=>by rw[Qq2.mp hc];exact hs
theorem adZ{R:D}(hR:Is x R ρ)(hs:∀c∈s.2,c∈x)(ha:a∈x):(∃b,(stp ρ s a).1=(b,[a]))/\∀c∈(stp ρ s a).2,c∈x:=by
 cases hR with
 |put hc hl hr=>refine⟨⟨_,rfl⟩,λc hm=>?_⟩;rcases Qww.mp hm with hm|hm;exact hs c hm;split at hm;rw[Qq2.mp hm];exact hc;simp at hm
 |chg hp hd hk hl hr=>
  obtain⟨b,h⟩:=s;match h,hs with
  |[],hs=>exact⟨⟨_,rfl⟩,λc hc=>by simp[stp] at hc⟩|s::h,hs=>exact⟨⟨_,rfl⟩,agY hk (hs s<|Qqj ..) _⟩
theorem ad6{R:D}(hR:Is x R ρ):∀z {s},(∀c∈s.2,c∈x)->(∀a∈z,a∈x)->((rd ρ s z).1=s/\z=[]\/∃b,∃c∈x,(rd ρ s z).1=(b,[c]))/\∀c∈(rd ρ s z).2,c∈x
 |[],s,hs,_=>⟨.inl ⟨rfl,rfl⟩,λc hc=>by simp[rd] at hc⟩
 |a::z,s,hs,hz=>by
  have ha:=hz a<|Qqj ..;obtain⟨⟨b,h1⟩,h2⟩:=adZ hR hs ha;have h1':∀c∈(stp ρ s a).1.2,c∈x:=λc hc=>by rw[h1] at hc;rw[Qq2.mp hc];exact ha
  obtain⟨h3,h4⟩:=ad6 hR z h1' λb hb=>hz b<|Qqq _ hb;refine⟨.inr ?_,λc hc=>?_⟩;rcases h3 with ⟨e,_⟩|⟨b',c,hc,e⟩;exact⟨b,a,ha,by show(rd ρ (stp ρ s a).1 z).1=_;rw[e,h1]⟩;exact⟨b',c,hc,e⟩;rcases Qww.mp (show c∈(stp ρ s a).2++(rd ρ (stp ρ s a).1 z).2 from hc) with hc|hc;exact h2 c hc;exact h4 c hc
noncomputable def U(x:List Nat):List D->List (List cR.St)
 |[]=>[[]]|R::Ls=>jZ (R::Ls)::([false,true].flatMap λb=>x.flatMap λc=>(U x Ls).map λu=>(b,[c])::u)
theorem Gk(x)(Ls):jZ Ls∈U x Ls:=by
 cases Ls with
 |nil=>exact Qqj ..|cons R Ls=>exact Qqj ..
theorem ac3{R:D}(b)(hc:c∈x)(h:u∈U x Ls):(b,[c])::u∈U x (R::Ls):=by refine Qqq _<|Qj0.mpr ⟨b,by cases b<;>simp,Qj0.mpr ⟨c,hc,Qw3.mpr ⟨u,h,rfl⟩⟩⟩
theorem Nu{R:D}(h:p∈U x (R::Ls)):∃s u,p=s::u/\u∈U x Ls/\(∀c∈s.2,c∈x)/\(s::u=jZ (R::Ls)\/∃b,∃c∈x,s=(b,[c])):=by
 rcases Qq7.mp h with rfl|h;exact⟨_,jZ Ls,rfl,Gk x Ls,λc hc=>by simp at hc,.inl rfl⟩;obtain⟨b,_,h⟩:=Qj0.mp h;obtain⟨c,hc,h⟩:=Qj0.mp h;obtain⟨u,hu,rfl⟩:=Qw3.mp h;exact⟨(b,[c]),u,rfl,hu,λd hd=>by rw[Qq2.mp hd];exact hc,.inr ⟨b,c,hc,rfl⟩⟩
theorem Aq:∀Ls p,p∈U x Ls->Ls.length=p.length
 |[],p,h=>by rw[Qq2.mp h];rfl
 |R::Ls,p,h=>by
  obtain⟨s,u,rfl,hu,_⟩:=Nu h;rw[Qqw,Qqw,Aq Ls u hu]
theorem RB:∀Ls p z,(∀R∈Ls,bN x R)->p∈U x Ls->(∀a∈z,a∈x)->(gV x Ls p z).1∈U x Ls
 |[],p,z,_,_,_=>Qq2.mpr rfl
 |R::Ls,p,z,hR,hp,hz=>by
  obtain⟨s,u,rfl,hu,hs,h⟩:=Nu hp;obtain⟨h1,h2⟩:=ad6 (qt<|hR R<|Qqj ..) z hs hz;show(rd (cN x R) s z).1::(gV x Ls u (rd (cN x R) s z).2).1∈U x (R::Ls);have ht:=RB Ls u (rd (cN x R) s z).2 (λQ hQ=>hR Q<|Qqq _ hQ) hu h2;rcases h1 with ⟨e,hzn⟩|⟨b,c,hc,e⟩;subst hzn;have hl:=Aq Ls u hu;have e2:(gV x Ls u (rd (cN x R) s []).2).1=u:=by
   show(gV x Ls u []).1=u;rw[vH.ym Ls u hl]
  rw[e2];exact hp;rw[e];exact ac3 b hc ht
theorem tU{α β:Type}(f:α->List β)(k):∀l:List α,(∀a∈l,(f a).length=k)->(l.flatMap f).length=l.length*k
 |[],_=>by simp
 |a::l,h=>by
  rw[List.flatMap_cons,Qqk,h a<|Qqj ..,tU f k l λb hb=>h b<|Qqq _ hb,Qqw,Nat.succ_mul,Nat.add_comm]
theorem Yr(x)(R)(Ls):(U x (R::Ls)).length=1+2*(x.length*(U x Ls).length):=by show(jZ (R::Ls)::([false,true].flatMap λb=>x.flatMap λc=>(U x Ls).map λu=>(b,[c])::u)).length=_;rw[Qqw,tU _ (x.length*(U x Ls).length) _ λb _=>tU _ (U x Ls).length _ λc _=>by rw[Qq3]];rw[Qqw,Qqw,Qzk];omega
theorem Vh(h:x.length<=4)(h3:Ls.length<=3):(U x Ls).length<=585:=by
 have step:∀R L k,(U x L).length<=k->(U x (R::L)).length<=1+8*k:=λR L k hk=>by
  rw[Yr];have:=Nat.mul_le_mul h hk;omega
 match Ls,h3 with
 |[],_=>exact Qq4 (Qq1 1) (by decide)|[a],_=>exact Qq4 (step a [] 1<|Qq1 _) (by decide)|[a,b],_=>exact Qq4 (step a _ 9<|step b [] 1<|Qq1 _) (by decide)|[a,b,c],_=>exact step a _ 73<|step b _ 9<|step c [] 1<|Qq1 _
end KM
namespace Nz
open Ev
section
noncomputable def gn:Ev:=fD.gn
noncomputable def dX:bO:=fD.dX
noncomputable def cA:LD:=bY 1 dX
noncomputable def jd:bO:=fD.jd
noncomputable def gO:LD:=bY 2 jd
noncomputable def gC:bO:=fD.gC
noncomputable def jJ:LD:=bY 5 gC
noncomputable def il:bO:=fD.il
noncomputable def jw:LD:=bY 1 il
noncomputable def fc:Ev:=fD.fc
noncomputable def bU:bO:=fD.bU
noncomputable def cj:LD:=bY 3 bU
noncomputable def eF:Ev:=fD.eF
noncomputable def cu:bO:=fD.cu
noncomputable def aY:LD:=bY 1 cu
noncomputable def bW:bO:=fD.bW
noncomputable def cY:LD:=bY 10 bW
noncomputable def cH:bO:=fD.cH
noncomputable def dh:LD:=bY 10 cH
noncomputable def fP:bO:=fD.fP
noncomputable def dJ:bO:=fD.dJ
noncomputable def dR:LD:=bY 8 dJ
noncomputable def ik:bO:=fD.ik
noncomputable def fB:bO:=fD.fB
noncomputable def dH:LD:=bY 10 fB
noncomputable def gD:bO:=fD.gD
noncomputable def ju:LD:=bY 6 gD
def eN:bO:=aD (aW (au ju (Zv 1 (aa (aB fj 2 (au d7 (aa (aZ 4) aj))) (Zv 6 aj)))) (cF 2 (aG (ak 7) (aG (ak 8) cG)))) (aD (gK (fL (aB rF 7 (aZ 3))) (aD (oU 3 (aR 7) (au d7 (aa (aZ 2) aj))) (fU 2 (aR 7))) cT) (fU 5 (bF (Zv 8 (aa (aB zN 3 (aZ 7)) aj)))))
def eG:bO:=aD (dF 5 (cM aj)) (aD (iW (jn (au cA (Zv 0 aj))) (ak 6) (eN)) (aD (gK (fL (aO gGt (au d7 (aa (aZ 2) aj)) (Zi 600))) (yg) cT) (fU 4 (au cV (aa (aZ 5) aj)))))
def jo:bO:=aD (dF 2 (cM (aa (au aY (Zv 1 aj)) aj))) (aD (dF 3 (qN (aB fj 2 (Zi 0)) (Zi 0))) (aD (dF 4 (cM aj)) (aD (fH (fL (aO M4 (au d7 (aa (aZ 4) aj)) (au d7 (aa (aZ 2) aj)))) (eG) 7000) (bA (bF (Zv 2 (Zv 4 aj)))))))
def j6:LD:=bY 9 jo
end
end Nz
namespace KM
open Ev PySem L2
open jP (cO)
open pI (XS sides fit)
open Ay (bN)
open cR (aN gV Je jZ lay nW iV)
open Li (uZ qS yR Zj)
theorem first_is:Nz.aY=cR.aY:=rfl
section
variable{T:Type}[DecidableEq T]{en:T->D}{key:T->NK}
noncomputable def Fd(en:T->D):Nat->List T->List (D×D)
 |_,[]=>[]|n,u::us=>(en u,.int (n:Int))::Fd en (n+1) us
omit [DecidableEq T] in
theorem Ii:∀us n t,Fd en n (us++[t])=Fd en n us++[(en t,.int (n+us.length:Nat))]
 |[],n,t=>rfl
 |u::us,n,t=>by
  show(en u,D.int n)::Fd en (n+1) (us++[t])=(en u,D.int n)::(Fd en (n+1) us++_);rw[Ii us (n+1) t,Qqw];have:n+1+us.length=n+(us.length+1):=by omega
  rw[this]
omit [DecidableEq T] in
theorem Mw:∀us n,(Fd en n us).length=us.length
 |[],n=>rfl
 |u::us,n=>by
  show(Fd en (n+1) us).length+1=us.length+1;rw[Mw us]
structure afM(en:T->D)(key:T->NK):Prop where
 nk:∀t,Ax (en t)=some (key t)
 inj:∀p q,key p=key q->p=q
variable(Y:afM en key)
include Y
theorem yr:∀us n t,jq (Fd en n us) (key t)=if t∈us then some (.int (n+pg us t:Nat)) else none
 |[],n,t=>by simp[Fd,jq]
 |u::us,n,t=>by
  have ih:=yr us (n+1) t;unfold jq at ih ⊢;unfold Fd;rw[Qz5];have hu:=(tH<|Y.nk u).1;by_cases h:u=t;subst h;simp only[hu,decide_true];have ei:pg (u::us) u=0:=by unfold pg;rw[if_pos rfl]
  rw[if_pos (Qqj ..),ei];rfl;have hne:=λe=>h<|Y.inj u t<|Qw4 e;simp only[hu,Qq9 hne];have ei:pg (u::us) t=pg us t+1:=by conv=>lhs;unfold pg;rw[if_neg h]
  rw[ih,ei];by_cases hm:t∈us;rw[if_pos hm,if_pos<|Qqq _ hm];have:n+1+pg us t=n+(pg us t+1):=by omega
  rw[this];rw[if_neg hm,if_neg λz=>(Qq7.mp z).elim (λe=>h e.symm) hm]
theorem Xq(us)(t)(h:t ∉ us):rT (Fd en 0 us) (en t) (key t) (.int us.length)=Fd en 0 (us++[t]):=by
 unfold rT;rw[yr Y,if_neg h,Ii,Nat.zero_add]
 rfl
theorem Pj(us)(t)[dc:Decidable (t∈us)]:rF (en t) (.gR (Fd en 0 us))=some (.bl (!decide (t∈us))):=by
 show(Ax<|en t).map _=_;rw[Y.nk];show some (D.bl<|!(jq (Fd en 0 us)<|key t).isSome)=_;rw[yr Y];by_cases h:t∈us;rw[if_pos h,Qwj h];rfl;rw[if_neg h,Qq9 h];rfl
theorem Xr(us)(t)(h:t∈us):zN (.gR (Fd en 0 us)) (en t)=some (.int (pg us t)):=by show(Ax<|en t).bind _=_;rw[Y.nk];show jq (Fd en 0 us) (key t)=_;rw[yr Y,if_pos h,Nat.zero_add]
omit Y
theorem Qk(us)(t:T):t∈pQ us t:=(vp us t t).mpr<|.inr rfl
theorem Vd{t u:T}(h:u∈us):pg (pQ us t) u=pg us u:=by
 unfold pQ;split;rfl;exact zH _ h
theorem Jr{t u:T}{i:Nat}(h:us[i]?=some u):(pQ us t)[i]?=some u:=by
 unfold pQ;split;exact h;exact KB.lL h
end
abbrev P:=List cR.St
noncomputable def jK(p:P):D:=.tup (p.map aN)
theorem Ij:afM jK qS:=⟨Zj,λ_ _ h=>yR h⟩
noncomputable def iU(pt:List Nat×Nat):D:=.tup [.str pt.1,.int (pt.2:Int)]
noncomputable def JB(x:List Nat)(Ls:List D)(p:P)(a:Nat):P:=(gV x Ls p [a]).1
noncomputable def WX(x:List Nat)(Ls:List D)(p:P)(a:Nat):List Nat:=(gV x Ls p [a]).2
noncomputable def lU(x:List Nat)(Ls:List D)(ps:List P)(p:P)(a:Nat):List Nat×Nat:=(WX x Ls p a,pg ps (JB x Ls p a))
structure OkP(x:List Nat)(s:D)(Rs:List D)(p:P):Prop where
 o:nW x s Rs p
 u:p∈U x (lay s Rs)
noncomputable abbrev Ba(bQ ord:D)(ps:List P)(rows:List D)(a5 a6 a7 a8:OD):Ev.Env:=
 [Zf bQ,Zf ord,Zl (ps.map jK),Zt (.gR (Fd jK 0 ps)),Zl rows,a5,a6,a7,a8]
structure Qo(x:List Nat)(s:D)(Rs:List D)(ps:List P):Prop where
 nd:ps.Nodup
 z0:ps[0]?=some (jZ (lay s Rs))
 ok:∀p∈ps,OkP x s Rs p
 reach:∀p∈ps,∃w:List Nat,(∀a∈w,a∈x)/\w.foldl (JB x (lay s Rs)) (jZ (lay s Rs))=p
section
variable{x:List Nat}{s:D}{Rs:List D}{bQ:D}
theorem OkP.next(h:OkP x s Rs p)(ha:a∈x):Nz.ju [.tup [s,.tup Rs],jK p,.str [a]]=some (.tup [jK (JB x (lay s Rs) p a),.str (WX x (lay s Rs) p a)])/\OkP x s Rs (JB x (lay s Rs) p a):=by
 have hz:∀b ∈ [a],b∈35::x:=λb hb=>by rw[Qq2.mp hb];exact Qqq _ ha
 obtain⟨h1,h2⟩:=cR.read_on h.o hz (by show 1<=7;decide);exact⟨h1,h2,RB _ _ _ (cR.qH h.o.hR) h.u λb hb=>by rw[Qq2.mp hb];exact ha⟩
theorem Qo.add(F:Qo x s Rs ps)(hp:p∈ps)(ha:a∈x):Qo x s Rs (pQ ps (JB x (lay s Rs) p a)):=by
 refine⟨Yo _ F.nd,Jr F.z0,λq hq=>?_,λq hq=>?_⟩;rcases(vp _ _ _).mp hq with hq|rfl;exact F.ok q hq;exact((F.ok p hp).next ha).2;rcases(vp _ _ _).mp hq with hq|rfl;exact F.reach q hq;obtain⟨w,h1,h2⟩:=F.reach p hp;refine⟨w++[a],λb hb=>?_,by rw[List.foldl_append,h2];rfl⟩;rcases Qww.mp hb with hb|hb;exact h1 b hb;rw[Qq2.mp hb];exact ha
def Few(x:List Nat)(s:D)(Rs:List D):Prop:=∀ps:List P,Qo x s Rs ps->ps.length<=600
theorem Qo.few(F:Qo x s Rs ps)(hu:Few x s Rs):ps.length<=600:=hu ps F
theorem afp(hu:(U x (lay s Rs)).length<=600):Few x s Rs:=λps F=>Qq4 (KB.qx _ ps F.nd λq hq=>(F.ok q hq).u) hu
theorem ad8(F:Qo x s Rs ps)(hu:Few x s Rs)(hp:ps[rows.length]?=some p)(hs:steps.length<=100)(ha:a∈x)(a7 a8) :
  Nz.eN (Ba bQ (.tup [s,.tup Rs]) ps rows (Zl steps) (Zs [a]) a7 a8) =
   .nx (Ba bQ (.tup [s,.tup Rs]) (pQ ps (JB x (lay s Rs) p a)) rows (Zl (steps++[iU (lU x (lay s Rs) (pQ ps (JB x (lay s Rs) p a)) p a)])) (Zs [a]) (Zf (jK (JB x (lay s Rs) p a))) (Zs (WX x (lay s Rs) p a))):=by
 obtain⟨h1,_⟩:=(F.ok p<|Qx7 hp).next ha;have hlen:=F.few hu;unfold lU iU;generalize JB x (lay s Rs) p a=q at *;generalize WX x (lay s Rs) p a=o at *;generalize D.tup [s,.tup Rs]=O at *;have hix:fj (.lst<|ps.map jK) (.int (rows.length:Int))=some (jK p):=by show vL (ps.map jK) (rows.length:Int)=_;exact lN (by rw[Qxz,hp];rfl)
 unfold Nz.eN;refine(aA (e:=Ba bQ O ps rows (Zl steps) (Zs [a]) (Zf<|jK q)<|Zs o) ?_).trans ?_;refine bH (d:=.tup [jK q,.str o]) (e:=Ba bQ O ps rows (Zl steps) (Zs [a]) a7 a8) ?_ rfl;refine aK (aC rfl (aC (e1:=Ba bQ O ps rows (Zl steps) (Zs [a]) a7 a8) ?_ rfl)) h1;exact cB rfl rfl rfl hix;have fin:∀qs,q∈qs->fU 5 (bF<|Zv 8<|aa (aB zN 3<|aZ 7) aj) (Ba bQ O qs rows (Zl steps) (Zs [a]) (Zf<|jK q)<|Zs o) =
   .nx (Ba bQ O qs rows (Zl<|steps++[.tup [.str o,.int (pg qs q:Int)]]) (Zs [a]) (Zf<|jK q)<|Zs o):=λqs hq=>by
  refine(cO (i:=5) (e:=Ba bQ O qs rows (Zl steps) (Zs [a]) (Zf<|jK q)<|Zs o) rfl ?_ rfl (Qw5 hs (by decide))).trans rfl;refine bZ (aC rfl (aC ?_ bu)) Ev.BV;exact cB rfl rfl rfl (Xr Ij qs q hq)
 have ht:fL (aB rF 7<|aZ 3) (Ba bQ O ps rows (Zl steps) (Zs [a]) (Zf<|jK q)<|Zs o)=.ok (!decide (q∈ps)) (Ba bQ O ps rows (Zl steps) (Zs [a]) (Zf<|jK q)<|Zs o):=
  f9 (cB rfl rfl rfl (Pj Ij ps q))
 by_cases hq:q∈ps;rw[Qwj hq] at ht;refine(aA<|gJ ht).trans ?_;have e:pQ ps q=ps:=if_pos hq;rw[e];exact fin ps hq;rw[Qq9 hq] at ht;have e:pQ ps q=ps++[q]:=if_neg hq;rw[e];refine(aA ?_).trans<|fin (ps++[q]) (by simp);refine(jV ht).trans ?_;have s4:=uZ (i:=3) (k:=aR 7) (a:=au d7<|aa (aZ 2) aj) (env:=Ba bQ O ps rows (Zl steps) (Zs [a]) (Zf<|jK q)<|Zs o) rfl rfl rfl rfl (Ij.nk q)
  (by rw[Mw];exact Qw5 hlen (by decide))
 rw[Qq3,Xq Ij ps q hq] at s4;rw[aA s4];refine(cO (i:=2) (e:=[Zf bQ,Zf O,Zl<|ps.map jK,Zt<|.gR<|Fd jK 0<|ps++[q],Zl rows,Zl steps,Zs [a],Zf (jK q),Zs o]) rfl rfl rfl (by rw[Qq3];exact Qw5 hlen (by decide))).trans ?_;have e5:ps.map jK++[jK q]=(ps++[q]).map jK:=by rw[Qz4];rfl
 rw[e5];rfl
theorem ad9(hu:Few x s Rs)(Xx:x.length<=50):∀rest done ps a6 a7 a8,x=done++rest->Qo x s Rs ps->ps[rows.length]?=some p->(∀a∈done,JB x (lay s Rs) p a∈ps)->
  ∃ps' b6 b7 b8,ir (ak 6) Nz.eN (rB rest) (Ba bQ (.tup [s,.tup Rs]) ps rows (Zl (done.map λa=>iU (lU x (lay s Rs) ps p a))) a6 a7 a8) =
   .nx (Ba bQ (.tup [s,.tup Rs]) ps' rows (Zl (x.map λa=>iU (lU x (lay s Rs) ps' p a))) b6 b7 b8)/\Qo x s Rs ps'/\(∀a∈x,JB x (lay s Rs) p a∈ps')/\∃more,ps'=ps++more:=by
 intro rest;induction rest with
 |nil=>intro done ps a6 a7 a8 hx F hp hd;rw[Qw6] at hx;subst hx;exact⟨ps,a6,a7,a8,rfl,F,hd,[],by rw[Qw6]⟩
 |cons a rest ih=>
  intro done ps a6 a7 a8 hx F hp hd;have ha:a∈x:=by rw[hx];simp
  have hx':x=(done++[a])++rest:=by rw[hx];simp
  have hdl:done.length<=50:=by have:=Qw9 List.length hx;rw[Qqk] at this;omega
  have h1:=ad8 (bQ:=bQ) F hu (steps:=done.map λa=>iU<|lU x (lay s Rs) ps p a) hp (by rw[Qq3];omega) ha a7 a8;have F':=F.add (Qx7 hp) ha;have hs:(done.map λb=>iU<|lU x (lay s Rs) ps p b)++[iU (lU x (lay s Rs) (pQ ps<|JB x (lay s Rs) p a) p a)]=(done++[a]).map λb=>iU (lU x (lay s Rs) (pQ ps<|JB x (lay s Rs) p a) p b):=by
   rw[Qz4];congr 1;refine Qjk λb hb=>?_;unfold lU;rw[Vd (hd b hb)]
  rw[hs] at h1;obtain⟨ps',b6,b7,b8,g1,g2,g3,more,g4⟩:=ih (done++[a]) (pQ ps<|JB x (lay s Rs) p a) _ _ _ hx' F' (Jr hp) (λb hb=>by
   rcases Qww.mp hb with hb|hb
   exact(vp _ _ _).mpr<|.inl<|hd b hb
   rw[Qq2.mp hb];exact Qk _ _)
  refine⟨ps',b6,b7,b8,?_,g2,g3,?_⟩;rw[<-g1];exact KB.M6 rfl h1;rw[g4];unfold pQ;split;exact⟨more,rfl⟩;exact⟨_,Qwk ..⟩
noncomputable def sY(x:List Nat)(Ls:List D)(ps:List P)(p:P):D:=.tup (x.map λa=>iU (lU x Ls ps p a))
structure All(x:List Nat)(s:D)(Rs:List D)(ps:List P):Prop extends Qo x s Rs ps where
 clo:∀p∈ps,∀a∈x,JB x (lay s Rs) p a∈ps
theorem Ub{q:P}(h:q∈ps):pg (ps++more) q=pg ps q:=zH _ h
theorem Wd(hu:Few x s Rs)(Xx:x.length<=50)(hso:Nz.cA [bQ]=some (.tup (rB x))):∀m n ps a5 a6 a7 a8,n+m=7000->n<=ps.length->Qo x s Rs ps->(∀p∈ps.take n,∀a∈x,JB x (lay s Rs) p a∈ps)->
  ∃ps' b5 b6 b7 b8,fH (fL (aO M4 (au d7 (aa (aZ 4) aj)) (au d7 (aa (aZ 2) aj)))) Nz.eG m (Ba bQ (.tup [s,.tup Rs]) ps ((ps.take n).map (sY x (lay s Rs) ps)) a5 a6 a7 a8) =
   .nx (Ba bQ (.tup [s,.tup Rs]) ps' (ps'.map (sY x (lay s Rs) ps')) b5 b6 b7 b8)/\All x s Rs ps':=by
 intro m;induction m with
 |zero=>intro n ps a5 a6 a7 a8 hm hn F hc;have:=F.few hu;omega
 |succ m ih=>
  intro n ps a5 a6 a7 a8 hm hn F hc;have hrl:((ps.take n).map<|sY x (lay s Rs) ps).length=n:=by rw[Qq3,Qwy];omega
  have ht:fL (aO M4 (au d7<|aa (aZ 4) aj)<|au d7<|aa (aZ 2) aj) (Ba bQ (.tup [s,.tup Rs]) ps ((ps.take n).map<|sY x (lay s Rs) ps) a5 a6 a7 a8)=.ok (decide (n<ps.length)) (Ba bQ (.tup [s,.tup Rs]) ps ((ps.take n).map<|sY x (lay s Rs) ps) a5 a6 a7 a8):=by
   refine f9<|bL rfl rfl ?_;rw[hrl,Qq3];show some (D.bl<|decide (n<(ps.length:Int)))=_;congr 2;simp
  by_cases hlt:n<ps.length;rw[Qwj hlt] at ht;have hp:=Qqv hlt;obtain⟨ps',b6,b7,b8,g1,g2,g3,more,g4⟩:=ad9 (bQ:=bQ) hu Xx x [] ps a6 a7 a8 rfl F (by rw[hrl];exact hp) (λa ha=>by simp at ha);have hn':n+1<=ps'.length:=by rw[g4,Qqk];omega
  have hf:=g2.few hu;have e1:(ps.take n).map (sY x (lay s Rs) ps)++[sY x (lay s Rs) ps' ps[n]]=(ps'.take<|n+1).map (sY x (lay s Rs) ps'):=by
   have e2:ps'.take (n+1)=ps.take n++[ps[n]]:=by rw[g4,List.take_append_of_le_length (by omega),List.take_succ_eq_append_getElem hlt]
   rw[e2,Qz4];congr 1;refine Qjk λp hpm=>?_;unfold sY;congr 1;refine Qjk λa ha=>?_;unfold lU;rw[g4,Ub<|hc p hpm a ha]
  have hb:Nz.eG (Ba bQ (.tup [s,.tup Rs]) ps ((ps.take n).map<|sY x (lay s Rs) ps) a5 a6 a7 a8)=.nx (Ba bQ (.tup [s,.tup Rs]) ps' ((ps'.take<|n+1).map<|sY x (lay s Rs) ps') (Zl<|x.map λa=>iU<|lU x (lay s Rs) ps' ps[n] a) b6 b7 b8):=by
   rw[<-e1];generalize(ps.take n).map (sY x (lay s Rs) ps)=rows at *;unfold Nz.eG;refine(aA rfl).trans ?_;refine(aA<|(gU<|uY (aK rfl hso) rfl).trans g1).trans ?_;have t6:fL (aO gGt (au d7<|aa (aZ 2) aj)<|Zi 600) (Ba bQ (.tup [s,.tup Rs]) ps' rows (Zl<|x.map λa=>iU<|lU x (lay s Rs) ps' ps[n] a) b6 b7 b8)=.ok false (Ba bQ (.tup [s,.tup Rs]) ps' rows (Zl<|x.map λa=>iU<|lU x (lay s Rs) ps' ps[n] a) b6 b7 b8):=by refine f9<|bL rfl rfl ?_;rw[Qq3];show some (D.bl<|decide (600<(ps'.length:Int)))=_;rw[Qq9 (by omega)]
   refine(aA<|gJ t6).trans ?_;exact(cO (i:=4) (e:=Ba bQ (.tup [s,.tup Rs]) ps' rows (Zl<|x.map λa=>iU<|lU x (lay s Rs) ps' ps[n] a) b6 b7 b8) rfl rfl rfl (by rw[hrl];exact Qwz hlt<|Qq4 (F.few hu) (by decide))).trans rfl
  rw[KB.YH ht hb];refine ih (n+1) ps' _ _ _ _ (by omega) hn' g2 λp hpm a ha=>?_;have e2:ps'.take (n+1)=ps.take n++[ps[n]]:=by rw[g4,List.take_append_of_le_length (by omega),List.take_succ_eq_append_getElem hlt]
  rw[e2] at hpm;rcases Qww.mp hpm with hpm|hpm;rw[g4];exact Qzv _<|hc p hpm a ha;rw[Qq2.mp hpm];exact g3 a ha;rw[Qq9 hlt] at ht;have e:n=ps.length:=by omega
  have e2:ps.take n=ps:=by rw[e,List.take_length]
  rw[e2] at hc;refine⟨ps,a5,a6,a7,a8,?_,F,hc⟩;rw[KB.adA ht,e2]
theorem Hk(hx:x∈XS)(hs:s∈sides)(hR:∀R∈Rs,bN x R)(h4:Rs.length<=4)(hu:Few x s Rs)(hso:Nz.cA [bQ]=some (.tup (rB x))) :
  ∃ps,Nz.j6 [bQ,.tup [s,.tup Rs]]=some (.tup [.lst (ps.map jK),.lst (ps.map (sY x (lay s Rs) ps))])/\All x s Rs ps:=by
 have Xx:x.length<=50:=Qq4 (jP.jO x hx) (by decide);have hf:Nz.aY [.tup [s,.tup Rs]]=some (jK<|jZ<|lay s Rs):=by rw[first_is];exact cR.first_standing hx hs hR (by omega)
 have o0:nW x s Rs (jZ<|lay s Rs):=⟨hx,hs,hR,h4,by unfold jZ;rw[Qq3,cR.iz],cR.Um x _⟩;have F0:Qo x s Rs [jZ (lay s Rs)]:=⟨Qxk.mpr ⟨by simp,.nil⟩,rfl,λp hp=>by rw[Qq2.mp hp];exact⟨o0,Gk _ _⟩,λp hp=>by rw[Qq2.mp hp];exact⟨[],λa ha=>by simp at ha,rfl⟩⟩;obtain⟨ps,b5,b6,b7,b8,g1,g2⟩:=Wd hu Xx hso 7000 0 [jZ (lay s Rs)] none none none none rfl (Qx0 _) F0 (λp hp=>by simp at hp);refine⟨ps,?_,g2⟩;generalize jZ (lay s Rs)=f at *;generalize D.tup [s,.tup Rs]=O at *;refine dC (env:=[Zf bQ,Zf O,Zf<|.lst<|ps.map jK,Zt<|.gR<|Fd jK 0 ps,Zf<|.lst<|ps.map<|sY x (lay s Rs) ps,b5,b6,b7,b8]) ?_;unfold Nz.jo;refine(aA (e:=[Zf bQ,Zf O,Zl [jK f],Zn,Zn,Zn,Zn,Zn,Zn]) ?_).trans ?_;exact(p7<|Jc (aC (aK rfl hf) bu) Ev.zz1).trans rfl;refine(aA (e:=[Zf bQ,Zf O,Zl [jK f],Zt<|.gR [(jK f,.int 0)],Zn,Zn,Zn,Zn,Zn]) ?_).trans ?_;refine(p7 (e:=[Zf bQ,Zf O,Zl [jK f],Zn,Zn,Zn,Zn,Zn,Zn]) ?_).trans rfl;unfold qN;show(match Ax (jK f) with|some _=>_|none=>_)=_;rw[Ij.nk];refine(aA rfl).trans ?_;refine(aA g1).trans ?_;exact bV<|bZ rfl Ev.BV
end
end KM
namespace KZ
open Ev PySem L2
open pI (XS sides fit)
open Ay (bN)
open cR (aN iV lay nW)
open KM (jK U P All Qo)
noncomputable def Br(a b:cR.St):Bool:=if a.1=b.1 then decide (a.2<b.2) else decide (PyProof.Rows.b2i a.1<PyProof.Rows.b2i b.1)
noncomputable def lx:List cR.St->List cR.St->Bool
 |[],[]=>false|[],_::_=>true|_::_,[]=>false|a::p,b::q=>if a=b then lx p q else Br a b
theorem afr(a b):bh 57 (aN a) (aN b)=some (decide (a=b)):=by obtain⟨a1,a2⟩:=a;obtain⟨b1,b2⟩:=b;show vK (bh 56) [.bl a1,.str a2] [.bl b1,.str b2]=_;cases h1:(a1 == b1)<;>cases h2:(a2 == b2)<;>simp[Qzw,beq_iff_eq,ne_eq] at h1 h2<;>simp[vK,bh,h1,h2]
theorem abT(a b)(h:a≠b):Zq true (aN a) (aN b)=some (Br a b):=by
 obtain⟨a1,a2⟩:=a;obtain⟨b1,b2⟩:=b;show Xh [.bl a1,.str a2] [.bl b1,.str b2]=_;unfold Br;by_cases h1:a1=b1;subst h1;have h2:a2≠b2:=λe=>h (by rw[e]);have h2':=Qzw.mpr h2;simp[Xh,ltB,bh,h2'];have h1':=Qzw.mpr h1;simp[Xh,ltB,bh,h1',h1]
theorem CN:∀(p q:List cR.St),oO (jK p) (jK q)=some (lx p q)
 |[],[]=>rfl|[],_::_=>rfl|_::_,[]=>rfl
 |a::p,b::q=>by
  show(match bh 57 (aN a) (aN b) with|some true=>Zo true (p.map aN) (q.map aN)|some false=>Zq true (aN a) (aN b)|none=>none)=_;rw[afr];unfold lx;by_cases h:a=b;rw[Qwj h,if_pos h];exact CN p q;rw[Qq9 h,if_neg h];exact abT a b h
theorem Xj(a):Br a a=false:=by unfold Br;rw[if_pos rfl];simp
theorem abY(h1:Br a b=true)(h2:Br b c=true):Br a c=true:=by obtain⟨a1,a2⟩:=a;obtain⟨b1,b2⟩:=b;obtain⟨c1,c2⟩:=c;unfold Br at h1 h2 ⊢;simp at h1 h2 ⊢;cases a1<;>cases b1<;>cases c1<;>simp[PyProof.Rows.b2i] at h1 h2 ⊢<;>first|exact List.lt_trans h1 h2|assumption|trivial
theorem Xi(h:a≠b):Br a b=true\/Br b a=true:=by
 obtain⟨a1,a2⟩:=a;obtain⟨b1,b2⟩:=b;have tri:a1=b1->a2<b2\/b2<a2:=λe=>by
  by_cases c1:a2<b2;exact .inl c1;by_cases c2:b2<a2;exact .inr c2;exact absurd (by rw[e,List.le_antisymm (List.not_lt.mp c2)<|List.not_lt.mp c1]) h
 unfold Br;simp;cases a1<;>cases b1<;>simp[PyProof.Rows.b2i]<;>exact tri rfl
theorem Tt:∀p,lx p p=false
 |[]=>rfl|a::p=>by unfold lx;rw[if_pos rfl];exact Tt p
theorem Zm:∀{p q u},lx p q=true->lx q u=true->lx p u=true
 |[],[],_,h,_=>by cases h|[],_::_,[],_,h=>by cases h|[],_::_,_::_,_,_=>rfl|_::_,[],_,h,_=>by cases h|_::_,_::_,[],_,h=>by cases h
 |a::p,b::q,c::u,h1,h2=>by
  unfold lx at h1 h2 ⊢;by_cases e1:a=b;subst e1;rw[if_pos rfl] at h1;by_cases e2:a=c;rw[if_pos e2] at h2 ⊢;exact Zm h1 h2;rw[if_neg e2] at h2 ⊢;exact h2;rw[if_neg e1] at h1;by_cases e2:b=c;subst e2;rw[if_neg e1];exact h1;rw[if_neg e2] at h2;have:=abY h1 h2;by_cases e3:a=c;subst e3;rw[Xj] at this;cases this;rw[if_neg e3];exact this
theorem Tr:∀{p q},p≠q->lx p q=true\/lx q p=true
 |[],[],h=>absurd rfl h|[],_::_,_=>.inl rfl|_::_,[],_=>.inr rfl
 |a::p,b::q,h=>by
  unfold lx;by_cases e:a=b;subst e;rw[if_pos rfl,if_pos rfl];exact Tr λz=>h (by rw[z]);rw[if_neg e,if_neg λz=>e z.symm];exact Xi e
theorem abw(p:List cR.St):okP 60 (jK p)=true:=by
 refine Qx5.mpr λd hd=>?_;obtain⟨a,_,rfl⟩:=Qw3.mp hd
 rfl
theorem V1{ps:List P}(nd:ps.Nodup)(hl:∀p∈ps,p.length=n)(hn:ps.length<=1000):qX (ps.map jK):=by
 by_cases h2:ps.length<2;exact .inl (by rw[Qq3];exact h2);have n0:0<n:=by
  rcases Nat.eq_zero_or_pos n with z|z;exfalso;match ps,nd,hl,h2 with
  |a::b::r,nd,hl,_=>
   have e1:=hl a<|Qqj ..;have e2:=hl b<|Qqq _<|Qqj ..;rw[z] at e1 e2;have:a=b:=by rw[List.length_eq_zero_iff.mp e1,List.length_eq_zero_iff.mp e2]
   rw[this,Qxk] at nd;exact nd.1<|Qqj ..
  |[],_,_,h=>exact h (by decide)|[_],_,_,h=>exact h (by show 1<2;decide)
  exact z
 have one:∀d∈ps.map jK,∃p,d=jK p/\p∈ps:=λd hd=>by
  obtain⟨p,hp,rfl⟩:=Qw3.mp hd;exact⟨p,rfl,hp⟩
 refine .inr ⟨⟨by rw[Qq3];exact hn,λd hd=>by obtain⟨p,rfl,_⟩:=one d hd;exact abw p⟩,.inr ⟨λd hd=>?_,λd hd e he=>?_⟩,λd hd=>?_,λd hd e he f hf h1 h2=>?_,?_⟩;obtain⟨p,rfl,hp⟩:=one d hd;have:=hl p hp;match p,this with
 |[],z=>rw[<-z] at n0;exact absurd n0 (by decide)|_::_,_=>rfl
 obtain⟨p,rfl,_⟩:=one d hd;obtain⟨q,rfl,_⟩:=one e he;rw[CN];exact λz=>by cases z
 obtain⟨p,rfl,_⟩:=one d hd;rw[CN,Tt];obtain⟨p,rfl,_⟩:=one d hd;obtain⟨q,rfl,_⟩:=one e he;obtain⟨u,rfl,_⟩:=one f hf;rw[CN] at h1 h2 ⊢;rw[Zm (Qw4 h1) (Qw4 h2)];refine List.pairwise_map.mpr<|nd.imp_of_mem λ{p q} hp hq hne=>?_;rw[CN,CN];rcases Tr hne with z|z;exact .inl (by rw[z]);exact .inr (by rw[z])
section
variable{x:List Nat}{s:D}{Rs:List D}{bQ:D}
theorem Yk(h:All x s Rs ps):∀p∈ps,p.length=Rs.length:=λp hp=>by
 have:=KM.Aq _ _ (h.ok p hp).u;rw[cR.iz] at this;exact this.symm
theorem Yl(h:All x s Rs ps)(hx:x.length<=4)(h3:Rs.length<=3):ps.length<=1000:=
 Qq4 (KB.qx _ ps h.nd λq hq=>(h.ok q hq).u) (Qq4 (KM.Vh hx (by rw[cR.iz];exact h3)) (by decide))
theorem standings(hx:x∈XS)(hs:s∈sides)(hR:∀R∈Rs,bN x R)(h3:Rs.length<=3)(hso:jP.cA [bQ]=some (.tup (x.map λa=>.str [a]))):∃ps,K18.iH [bQ,.tup [s,.tup Rs]]=some (.tup (kO (ps.map jK)))/\All x s Rs ps:=by have Xx:=jP.jO x hx;obtain⟨ps,h1,h2⟩:=KM.Hk hx hs hR (by omega) (KM.afp<|Qq4 (KM.Vh Xx (by rw[cR.iz];exact h3)) (by decide)) hso;refine⟨ps,dC (env:=[Zf bQ,Zf<|.tup [s,.tup Rs]]) ?_,h2⟩;unfold K18.m7;have g:wR [.lst (ps.map jK)]=some (.lst<|kO<|ps.map jK):=if_pos<|V1 h2.nd (Yk h2)<|Yl h2 Xx h3;exact bV<|aK (aC (aK (aC (bL (aK rfl h1) rfl rfl) bu) g) bu) rfl
end
end KZ
namespace KA
open Ev PySem L2
open pI (XS sides fit)
open Ay (bN)
open cR (aN iV Rl rd cN gV Je jZ lay lf nW lA)
open vH (aal rQ)
open KW (ac nU yE Jq nZ lR)
open KT (ly ini A T prod uH lZ)
open KB (pl mV)
open KM (jK P)
noncomputable def orL:List Bool->List Bool->List Bool
 |a::p,b::q=>(a||b)::orL p q|_,_=>[]
theorem uK:∀{p q} {k:Nat},p.length=q.length->(orL p q)[k]?.getD false=(p[k]?.getD false||q[k]?.getD false)
 |[],[],k,_=>rfl|a::p,b::q,0,_=>rfl
 |a::p,b::q,k+1,h=>by
  show(orL p q)[k]?.getD false=_;rw[uK (Nat.succ.inj h)]
  rfl
theorem nq:∀Ls ss z,Ls.length=ss.length->(yE x Ls ss z).length=Ls.length
 |[],[],_,_=>rfl|L::Ls,s::ss,z,h=>Qw9 (·+ 1)<|nq Ls ss _<|Nat.succ.inj h
theorem yD:∀Ls ss z,Ls.length=ss.length->(Jq x Ls ss z).length=Ls.length
 |[],[],_,_=>rfl|L::Ls,s::ss,z,h=>Qw9 (·+ 1)<|yD Ls ss _<|Nat.succ.inj h
theorem oE:∀Ls ss z,Ls.length=ss.length->(gV x Ls ss z).1.length=Ls.length
 |[],[],_,_=>rfl|L::Ls,s::ss,z,h=>Qw9 (·+ 1)<|oE Ls ss _<|Nat.succ.inj h
theorem Gi:∀Ls ss z y,Ls.length=ss.length->yE x Ls ss (z++y)=orL (yE x Ls ss z) (yE x Ls (gV x Ls ss z).1 y)
 |[],[],_,_,_=>rfl
 |L::Ls,s::ss,z,y,h=>by
  show ac (cN x L) s (z++y)::yE x Ls ss (rd (cN x L) s<|z++y).2=(ac (cN x L) s z||ac (cN x L) (rd (cN x L) s z).1 y)::orL (yE x Ls ss (rd (cN x L) s z).2) (yE x Ls (gV x Ls ss (rd (cN x L) s z).2).1 (rd (cN x L) (rd (cN x L) s z).1 y).2);rw[nU,lA,<-Gi Ls ss _ _ (Nat.succ.inj h)]
theorem Gh:∀Ls ss z y,Ls.length=ss.length->Jq x Ls ss (z++y)=orL (yE x Ls ss z) (Jq x Ls (gV x Ls ss z).1 y)
 |[],[],_,_,_=>rfl
 |L::Ls,s::ss,z,y,h=>by
  show ac (cN x L) s (z++y++[35])::Jq x Ls ss (rd (cN x L) s<|z++y++[35]).2=(ac (cN x L) s z||ac (cN x L) (rd (cN x L) s z).1 (y++[35]))::orL (yE x Ls ss (rd (cN x L) s z).2) (Jq x Ls (gV x Ls ss (rd (cN x L) s z).2).1 (rd (cN x L) (rd (cN x L) s z).1<|y++[35]).2);rw[Qwk,nU,lA,<-Gh Ls ss _ _ (Nat.succ.inj h)]
noncomputable def AA(x:List Nat)(Ls:List D)(k:Nat)(v:List Nat):Bool:=(Jq x Ls (jZ Ls) v)[k]?.getD false
theorem Jw:∀Ls k v (hk:k<Ls.length),(∀L∈Ls,bN x L)->AA x Ls k v=A x Ls[k] (aal x (Ls.take k) v)
 |L::Ls,0,v,_,h=>KT.Ve (h L<|Qqj ..) v
 |L::Ls,k+1,v,hk,h=>by
  have:=Jw Ls k (T x L v) (by rw[Qqw] at hk;omega) λM hM=>h M<|Qqq _ hM;exact this
theorem Yz(hL:∀L∈Ls,bN x L)(hM:∀L∈Ms,bN x L)(h1:k<Ls.length)(h2:k<Ms.length)(e:Ls.take (k+1)=Ms.take (k+1))(v):AA x Ls k v=AA x Ms k v:=by
 rw[Jw Ls k v h1 hL,Jw Ms k v h2 hM];have e1:Ls.take k=Ms.take k:=by
  have:=Qw9 (List.take k) e
  rwa [List.take_take,List.take_take,Nat.min_eq_left<|Nat.le_succ k] at this
 have e2:Ls[k]=Ms[k]:=by
  have a:(Ls.take<|k+1)[k]?=some Ls[k]:=by rw[List.getElem?_take,if_pos<|Nat.lt_succ_self k];exact Qqv h1
  rw[e,List.getElem?_take,if_pos<|Nat.lt_succ_self k,Qqv h2] at a;exact(Qw4 a).symm
 rw[e1,e2]
abbrev Pa:=P×Bool
noncomputable def en(p:Pa):D:=.tup [jK p.1,.bl p.2]
noncomputable def key(p:Pa):NK:=.tup [Li.qS p.1,.num (if p.2 then 1 else 0)]
theorem Ut(p):Ax (en p)=some (key p):=by
 have h:pU (en p)=some (key p):=by have h1:pU (jK p.1)=some (Li.qS p.1):=Li.Zh p.1;unfold en key;simp[pU,Bo,h1,Qk2]
 show(pU<|en p).bind _=_;rw[h];refine if_pos ?_;unfold key;have:=Li.Ux p.1;simp[Li.qS,NK.dep,NK.qR];omega
theorem Fi(p q)(h:key p=key q):p=q:=by
 obtain⟨a,b⟩:=p;obtain⟨a',b'⟩:=q;have h0:=NK.tup.inj h;obtain⟨h1,h0⟩:=Qz2 h0;obtain⟨h2,_⟩:=Qz2 h0;have k1:a=a':=Li.yR h1;have k2:b=b':=by have:=NK.num.inj h2;cases b<;>cases b'<;>first|rfl|(simp at this)
 rw[k1,k2]
noncomputable def U(x:List Nat)(Ls:List D):List Pa:=prod (KM.U x Ls) [false,true]
noncomputable def L(x:List Nat)(Ls:List D)(k:Nat)(p:Pa)(a:Nat):Pa:=((gV x Ls p.1 [a]).1,(yE x Ls p.1 [a])[k]?.getD false)
noncomputable def S(x:List Nat)(Ls:List D)(k:Nat)(p:Pa):Bool:=p.2||(Jq x Ls p.1 [])[k]?.getD false
theorem yX(Ls)(k):∀v p,Ls.length=p.1.length->(pl (L x Ls k) p v).1=(gV x Ls p.1 v).1
 |[],p,h=>by rw[vH.ym Ls p.1 h];rfl
 |a::v,p,h=>by
  show(pl (L x Ls k) (L x Ls k p a) v).1=_;rw[yX Ls k v _ (oE Ls p.1 [a] h).symm];have:=vH.Eg (x:=x) Ls p.1 [a] v h;rw[List.singleton_append] at this;rw[this]
  rfl
section
variable{x:List Nat}{Ls:List D}{k:Nat}
theorem Fl(Ls):Ls.length=(jZ Ls).length:=by unfold jZ;rw[Qq3]
theorem Nt:∀Ls ss (k:Nat),(yE x Ls ss [])[k]?.getD false=false
 |[],_,k=>by cases k<;>rfl|_::_,[],k=>by cases k<;>rfl|L::Ls,s::ss,0=>rfl|L::Ls,s::ss,k+1=>Nt Ls ss k
theorem ahR(v)(h:S x Ls k (pl (L x Ls k) (jZ Ls,false) v)=true):AA x Ls k v=true:=by
 rcases List.eq_nil_or_concat v with rfl|⟨u,a,rfl⟩;exact h;rw[List.concat_eq_append] at *;have hl:=Fl Ls;have lu:=oE (x:=x) Ls (jZ Ls) u hl;have la:=oE (x:=x) Ls (jZ Ls) (u++[a]) hl;rw[mV] at h;unfold AA;have e:=Gh (x:=x) Ls (jZ Ls) (u++[a]) [] hl;rw[Qw6] at e;rw[e,uK (by rw[nq _ _ _ hl,yD _ _ _ la.symm]),Gi Ls (jZ Ls) u [a] hl,uK (by rw[nq _ _ _ hl,nq _ _ _ lu.symm])];unfold S at h;have f1:(pl (L x Ls k) (jZ Ls,false) u).1=(gV x Ls (jZ Ls) u).1:=yX Ls k u _ hl;have f2:=yX (x:=x) Ls k (u++[a]) (jZ Ls,false) hl;rw[mV] at f2;rcases Bool.or_eq_true_iff.mp h with h|h;have h:(yE x Ls (pl (L x Ls k) (jZ Ls,false) u).1 [a])[k]?.getD false=true:=h;rw[f1] at h;rw[h];simp;rw[f2] at h;rw[h];simp
theorem ZW:∀n v,v.length=n->(yE x Ls (jZ Ls) v)[k]?.getD false=true->∃u,u.length<=n/\(∀a∈u,a∈v)/\S x Ls k (pl (L x Ls k) (jZ Ls,false) u)=true
 |0,v,hv,h=>by
  rw[List.length_eq_zero_iff.mp hv,Nt] at h;cases h
 |n+1,v,hv,h=>by
  have hl:=Fl Ls;rcases List.eq_nil_or_concat v with rfl|⟨u,a,rfl⟩;cases hv;rw[List.concat_eq_append] at *;rw[Qqk,Qw1] at hv;have lu:=oE (x:=x) Ls (jZ Ls) u hl;rw[Gi Ls (jZ Ls) u [a] hl,uK (by rw[nq _ _ _ hl,nq _ _ _ lu.symm])] at h;rcases Bool.or_eq_true_iff.mp h with h|h;obtain⟨t,t1,t2,t3⟩:=ZW n u (by omega) h;exact⟨t,by omega,λb hb=>Qzv _<|t2 b hb,t3⟩;refine⟨u++[a],by rw[Qqk,Qw1];omega,λb hb=>hb,?_⟩;rw[mV];unfold S;have f1:(pl (L x Ls k) (jZ Ls,false) u).1=(gV x Ls (jZ Ls) u).1:=yX Ls k u _ hl;have:(L x Ls k (pl (L x Ls k) (jZ Ls,false) u) a).2=true:=by
   show(yE x Ls (pl (L x Ls k) (jZ Ls,false) u).1 [a])[k]?.getD false=true;rw[f1];exact h
  rw[this];rfl
theorem ahY(v)(h:AA x Ls k v=true):∃u,u.length<=v.length/\(∀a∈u,a∈v)/\S x Ls k (pl (L x Ls k) (jZ Ls,false) u)=true:=by
 have hl:=Fl Ls;have lv:=oE (x:=x) Ls (jZ Ls) v hl;unfold AA at h;have e:=Gh (x:=x) Ls (jZ Ls) v [] hl;rw[Qw6] at e;rw[e,uK (by rw[nq _ _ _ hl,yD _ _ _ lv.symm])] at h;rcases Bool.or_eq_true_iff.mp h with h|h;exact ZW v.length v rfl h;refine⟨v,Qq1 _,λa ha=>ha,?_⟩;unfold S;rw[yX Ls k v _ hl];rw[h];simp
end
theorem VB:fD.gW=bY 11 (KB.di jP.cA fD.BP):=rfl
theorem W9(h:Ev.defName a≠Ev.defName b):a≠b:=λe=>h (by rw[e])
theorem aa0:fD.BP fD.dg=runC 2 7 fD.jN:=if_pos rfl
theorem aaZ:fD.BP fD.cQ=runC 1 5 fD.jk:=(if_neg<|W9 (by decide +kernel)).trans<|if_pos rfl
theorem Dz:fD.iH=K18.iH:=rfl
structure Ok(x:List Nat)(s:D)(Rs:List D)(p:Pa):Prop where
 o:nW x s Rs p.1
 u:p.1∈KM.U x (lay s Rs)
theorem ZQ{bs:List Bool}(h:k<bs.length):fj (.tup (bs.map .bl)) (.int k)=some (.bl (bs[k]?.getD false)):=by
 refine lN ?_;rw[Qxz,Qqv h]
 rfl
section
variable{x:List Nat}{s:D}{Rs:List D}{k:Nat}{bQ:D}(hx:x∈XS)(hs:s∈sides)(hR:∀R∈Rs,bN x R)(h3:Rs.length<=3)(hk:k<Rs.length)
include hx hs hR h3 hk
theorem Ez(hp:Ok x s Rs p)(ha:a∈x):runC 2 7 fD.jN [.tup [s,.tup Rs],.int k] [en p,.str [a]]=some (en (L x (lay s Rs) k p a))/\Ok x s Rs (L x (lay s Rs) k p a):=by
 have hz:∀b ∈ [a],b∈35::x:=λb hb=>by rw[Qq2.mp hb];exact Qqq _ ha
 obtain⟨w2,o2⟩:=nZ hp.o hz (by show 1<=7;decide);refine⟨?_,o2,KM.RB _ _ _ (cR.qH hR) hp.u λb hb=>by rw[Qq2.mp hb];exact ha⟩;have hl:k<(yE x (lay s Rs) p.1 [a]).length:=by rw[nq _ _ _ (KM.Aq _ _ hp.u),cR.iz];exact hk
 have hb:=ZQ hl;unfold L;generalize(gV x (lay s Rs) p.1 [a]).1=g1 at *;generalize(gV x (lay s Rs) p.1 [a]).2=y at *;generalize yE x (lay s Rs) p.1 [a]=bs at *;generalize D.tup [s,.tup Rs]=B at *;obtain⟨p1,p2⟩:=p;unfold runC;rw[if_pos (show [en (p1,p2),D.str [a]].length=2 from rfl)];have hb:fD.jN (envOf 7<|[en (p1,p2),.str [a]]++[B,.int k])=.rt false (en (g1,bs[k]?.getD false)) [Zf (en (p1,p2)),Zs [a],Zf B,Zf<|.int k,Zf<|jK g1,Zs y,Zf<|.tup<|bs.map .bl]:=by
  unfold fD.jN;refine(aA (e:=[Zf (en (p1,p2)),Zs [a],Zf B,Zf<|.int k,Zf<|jK g1,Zs y,Zf<|.tup<|bs.map .bl]) ?_).trans ?_;exact bH (aK (by rfl) w2) (by rfl);exact bV<|bZ (aC (by rfl)<|aC (Fy (by rfl) (by rfl) (by rfl) hb) bu) Ev.BV
 rw[hb]
theorem yK(hp:Ok x s Rs p):runC 1 5 fD.jk [.tup [s,.tup Rs],.int k] [en p]=some (.bl (S x (lay s Rs) k p)):=by
 have w2:=lR hp.o;have hl:k<(Jq x (lay s Rs) p.1 []).length:=by rw[yD _ _ _ (KM.Aq _ _ hp.u),cR.iz];exact hk
 have hb:=ZQ hl;unfold S;generalize Je x (lay s Rs) p.1 []=y at *;generalize Jq x (lay s Rs) p.1 []=bs at *;generalize D.tup [s,.tup Rs]=B at *;obtain⟨p1,p2⟩:=p;unfold runC;rw[if_pos (show [en (p1,p2)].length=1 from rfl)];have hb:fD.jk (envOf 5<|[en (p1,p2)]++[B,.int k])=.rt false (.bl<|p2||bs[k]?.getD false) [Zf (en (p1,p2)),Zf B,Zf<|.int k,Zf<|jK p1,Zb p2]:=by unfold fD.jk;refine(aA (by rfl)).trans ?_;refine bV<|cR.uX (by rfl) ?_;exact bL (bL (aK (by rfl) w2) (by rfl) (by rfl)) (by rfl) hb
 rw[hb]
theorem Nr(hso:jP.cA [bQ]=some (.tup (x.map λa=>.str [a]))):∃r,fD.mz [bQ,.tup [s,.tup Rs],.int k]=some r/\((r=.non/\∀v,(∀a∈v,a∈x)->AA x (lay s Rs) k v=false)\/
  ∃w,r=.str (rQ s w)/\(∀a∈w,a∈x)/\AA x (lay s Rs) k w=true/\∀v,(∀a∈v,a∈x)->v.length<w.length->AA x (lay s Rs) k v=false):=by
 have Xx:=jP.jO x hx;have o0:=cR.Ag hx hs hR (by omega:Rs.length<=4);have hU:(U x<|lay s Rs).length<=6998:=by unfold U;rw[uH];have:=KM.Vh Xx (Ls:=lay s Rs) (by rw[cR.iz];exact h3);show(KM.U x<|lay s Rs).length*2<=6998;omega
 have hG:KB.Gives fD.BP fD.dg fD.cQ [.tup [s,.tup Rs],.int (k:Int)] [.tup [s,.tup Rs],.int (k:Int)] x en key (L x (lay s Rs) k) (S x (lay s Rs) k) (Ok x s Rs) (U x<|lay s Rs):=
  ⟨λp a hp ha=>by rw[aa0];exact Ez hx hs hR h3 hk hp ha,λp hp=>by rw[aaZ];exact yK hx hs hR h3 hk hp,Ut,Fi,λp hp=>lZ hp.u (by cases p.2<;>simp),hU⟩
 obtain⟨r,h1,h2⟩:=KB.sought hG (bQ:=bQ) (side:=s) (so:=jP.cA) (p0:=(jZ<|lay s Rs,false)) hs hso ⟨o0,KM.Gk _ _⟩;have f1:fD.aY [.tup [s,.tup Rs]]=some (jK<|jZ<|lay s Rs):=cR.first_standing hx hs hR (by omega);obtain⟨ps,hsd,_⟩:=KZ.standings hx hs hR h3 hso;have hsc:Ck r=true:=by rcases h2 with ⟨rfl,_⟩|⟨w,rfl,_⟩<;>rfl
 refine⟨r,dC (env:=[Zf bQ,Zf<|.tup [s,.tup Rs],Zf<|.int (k:Int),Zn,Zn]) ?_,?_⟩;generalize hE:([Zf bQ,Zf<|.tup [s,.tup Rs],Zf<|.int (k:Int),Zn,Zn]:Ev.Env)=env;have e0:envOf 5 [bQ,.tup [s,.tup Rs],.int (k:Int)]=env:=by rw[<-hE];rfl
 rw[e0];unfold fD.U9;refine(aA (e:=env)<|(gJ (e:=env)<|(Fv (e:=env) (by rw[<-hE];rfl)).trans<|P0 (b:=true)<|f9 ?_).trans rfl).trans ?_;have l0:au d7 (aa (aB fj 1<|Zi 1) aj) env=.ok (.int (Rs.length:Int)) env:=aK (ds:=[.tup Rs]) (by rw[<-hE];rfl) rfl;have v0:aR 2 env=.ok (.int (k:Int)) env:=by rw[<-hE];rfl
 unfold Fx;have z0:Zi 0 env=.ok (.int 0) env:=rfl;rw[z0,bR,v0,bR];have g0:gLe (.int 0) (.int (k:Int))=some (.bl true):=by show some (D.bl<|decide ((0:Int)<=k))=_;rw[Qwj (by omega)]
 have g1:M4 (.int (k:Int)) (.int (Rs.length:Int))=some (.bl true):=by show some (D.bl<|decide ((k:Int)<(Rs.length:Int)))=_;rw[Qwj (by omega)]
 rw[g0];show bindR (au d7 (aa (aB fj 1<|Zi 1) aj) env) _=_;rw[l0,bR,g1];rfl;refine(aA (e:=env) ?_).trans ?_;have e:=aK (g:=fD.iH) (a:=Zv 0<|Zv 1 aj) (env:=env) (e:=env) (ds:=[bQ,.tup [s,.tup Rs]]) (by rw[<-hE];rfl) (by rw[Dz];exact hsd);unfold J7;rw[e];rfl;unfold qb;have ea:aa (aR 0) (aa (aB fj 1<|Zi 0)<|aa (bF<|aa (au fD.aY<|aa (aR 1) aj)<|aa (jR<|.bl false) aj) aj) env=.ok [bQ,s,en (jZ<|lay s Rs,false)] env:=by refine aC (d:=bQ) (e1:=env) (by rw[<-hE];rfl)<|aC (d:=s) (e1:=env) (by rw[<-hE];rfl)<|aC ?_ bu;refine bZ (ds:=[jK (jZ<|lay s Rs),.bl false]) ?_ Ev.BV;exact aC (aK (ds:=[.tup [s,.tup Rs]]) (by rw[<-hE];rfl) f1) rfl
 rw[<-hE] at ea ⊢;show gZ (aa _ _ [Zf bQ,Zf<|.tup [s,.tup Rs],Zf<|.int (k:Int),Zn,Zn]) _=_;rw[ea];show(match fD.gW [bQ,s,en (jZ<|lay s Rs,false),.clo fD.dg [.tup [s,.tup Rs],.int (k:Int)],.clo fD.cQ [.tup [s,.tup Rs],.int (k:Int)]] with|some d=>if Ck d=true then Out.rt false d _ else Out.stuck|none=>Out.stuck)=_;rw[VB,h1];simp only[hsc,if_true];have no:∀v,(∀u,u.length<=v.length->(∀a∈u,a∈v)->S x (lay s Rs) k (pl (L x (lay s Rs) k) (jZ<|lay s Rs,false) u)=false)->AA x (lay s Rs) k v=false:=λv h=>by
  cases e:AA x (lay s Rs) k v with
  |false=>rfl|true=>obtain⟨u,u1,u2,u3⟩:=ahY v e;rw[h u u1 u2] at u3;cases u3
 rcases h2 with ⟨h2,h5⟩|⟨w,h2,h5,h6,h7⟩;exact .inl ⟨h2,λv hv=>no v λu _ u2=>h5 u λa ha=>hv a<|u2 a ha⟩;exact .inr ⟨w,h2,h5,ahR w h6,λv hv hl=>no v λu u1 u2=>h7 u (λa ha=>hv a<|u2 a ha) (by omega)⟩
end
end KA
namespace fD
open Ev PySem L2
open pI (XS sides)
open Ay (bN)
open cR (lay nW)
open vH (rQ)
open KT (ly A T W)
open KA (AA Nr)
theorem NQ:gq=bY 10 (KT.Ga bG bC (bY 11 (KB.di jP.cA BP))):=rfl
theorem aeS(h:Ev.freeOf a≠Ev.freeOf b):a≠b:=λe=>h (by rw[e])
theorem aez:BP bG=runC 2 11 KT.Ah:=(if_neg<|aeS (by decide +kernel)).trans<|(if_neg<|KA.W9 (by decide +kernel)).trans<|if_pos rfl
theorem aey:BP bC=runC 1 11 KT.vm:=(if_neg<|KA.W9 (by decide +kernel)).trans<|(if_neg<|aeS (by decide +kernel)).trans<|(if_neg<|KA.W9 (by decide +kernel)).trans<|if_pos rfl
def Told(x:List Nat)(s:D)(B:List Nat->Bool)(r:D):Prop:=(r=.non/\∀v,(∀a∈v,a∈x)->B v=false)\/∃w,r=.str (rQ s w)/\(∀a∈w,a∈x)/\B w=true/\∀v,(∀a∈v,a∈x)->v.length<w.length->B v=false
theorem Told.same(h:Told x s B r)(e:∀v,B v=B' v):Told x s B' r:=by have:=funext e;rw[<-this];exact h
noncomputable def rN:D->D
 |.str w=>.int (w.length:Int)|_=>.non
theorem CQ(h:Told x s B r):iR [r]=some (rN r):=by rcases h with ⟨rfl,_⟩|⟨w,rfl,_⟩<;>rfl
theorem len_eq(h:Told x s B r)(h':Told x s B r'):rN r=rN r':=by
 rcases h with ⟨rfl,h⟩|⟨w,rfl,h1,h2,h3⟩<;>rcases h' with ⟨rfl,h'⟩|⟨w',rfl,h1',h2',h3'⟩;rfl;rw[h w' h1'] at h2';cases h2';rw[h' w h1] at h2;cases h2;show D.int _=D.int _;rw[vH.vd,vH.vd];have a1:¬w.length<w'.length:=λz=>by rw[h3' w h1 z] at h2;cases h2
 have a2:¬w'.length<w.length:=λz=>by rw[h3 w' h1' z] at h2';cases h2'
 have:w.length=w'.length:=by omega
 rw[this]
theorem abN(r):MT (rN r) (rN r)=some (.bl false):=Ay.ji (by unfold rN;split<;>rfl)
noncomputable def nn:D->Bool
 |.non=>true|_=>false
theorem Il(h:Told x s B r):JC r .non=some (.bl (nn r))/\nO r .non=some (.bl (!nn r)):=by rcases h with ⟨rfl,_⟩|⟨w,rfl,_⟩<;>exact⟨rfl,rfl⟩
theorem Ih(s)(Rs)(n):(lay s Rs).take n=lay s (Rs.take n):=by
 unfold lay;split;rw[List.map_take];rfl
section
variable{x:List Nat}{s bQ:D}(hx:x∈XS)(hs:s∈sides)(hso:jP.cA [bQ]=some (.tup (x.map λa=>.str [a])))
include hx hs hso
theorem Ai(hR:∀R∈Rs,bN x R)(h3:Rs.length<=3){k:Nat}(hk:k<Rs.length):∃r,mz [bQ,.tup [s,.tup Rs],.int k]=some r/\Told x s (AA x (lay s Rs) k) r:=Nr hx hs hR h3 hk hso
theorem Lr{R O:D}(hR:bN x R)(hO:bN x O)(b c):∃r,gq [bQ,s,R,O,.bl b,.bl c]=some r/\Told x s (W x (ly s R) (ly s O) b c) r:=by rw[NQ];exact KT.QR hx hs hR hO aez aey hso b c
theorem adB{R O:D}(hR:bN x R)(hO:bN x O):∃r,qM [bQ,s,R,O]=some r/\Told x s (W x (ly s R) (ly s O) true false) r:=by obtain⟨r,h1,h2⟩:=Lr hx hs hso hR hO true false;exact⟨r,dC<|bV<|aK (by rfl) h1,h2⟩
theorem Q6{R O:D}(hR:bN x R)(hO:bN x O):∃r,ph [bQ,s,R,O]=some r/\Told x s (W x (ly s R) (ly s O) false true) r:=by obtain⟨r,h1,h2⟩:=Lr hx hs hso hR hO false true;exact⟨r,dC<|bV<|aK (by rfl) h1,h2⟩
omit hx hs hso in
theorem Ze{R:D}(hR:bN x R)(v):AA x (lay s [R]) 0 v=A x (ly s R) v:=by rw[KT.Xo];exact KA.Jw [ly s R] 0 v (by show 0<1;decide) λL hL=>by rw[Qq2.mp hL];exact KT.Mu hR
omit hx hs hso in
theorem adP{R O:D}(hR:bN x R)(hO:bN x O)(v):AA x (lay s [R,O]) 1 v=A x (ly s O) (T x (ly s R) v):=by
 rw[KT.Xn];refine KA.Jw [ly s R,ly s O] 1 v (by show 1<2;decide) λL hL=>?_;rcases Qq7.mp hL with rfl|hL;exact KT.Mu hR;rw[Qq2.mp hL];exact KT.Mu hO
theorem Yj(hR:∀R∈Rs,bN x R)(hM:bN x M)(h3:Rs.length<=3){k:Nat}(hk:k<Rs.length):∃r r',mz [bQ,.tup [s,.tup (Rs.take (k+1))],.int k]=some r/\mz [bQ,.tup [s,.tup ((Rs++[M]).take 3)],.int k]=some r'/\iR [r]=some (rN r)/\iR [r']=some (rN r):=by
 have h1:∀R∈Rs.take (k+1),bN x R:=λR h=>hR R<|List.mem_of_mem_take h;have h2:∀R∈(Rs++[M]).take 3,bN x R:=λR h=>by
  rcases Qww.mp (List.mem_of_mem_take h) with h|h;exact hR R h;rw[Qq2.mp h];exact hM
 have l1:(Rs.take<|k+1).length=k+1:=by rw[Qwy];omega
 have l2:((Rs++[M]).take 3).length=min 3 (Rs.length+1):=by rw[Qwy,Qqk];rfl
 obtain⟨r,a1,a2⟩:=Ai hx hs hso h1 (by omega) (k:=k) (by omega);obtain⟨r',b1,b2⟩:=Ai hx hs hso h2 (by omega) (k:=k) (by omega);have e:∀v,AA x (lay s<|(Rs++[M]).take 3) k v=AA x (lay s<|Rs.take<|k+1) k v:=KA.Yz (cR.qH h2) (cR.qH h1) (by rw[cR.iz];omega) (by rw[cR.iz];omega) (by
  rw[Ih,Ih,List.take_take,List.take_take,Nat.min_self,Nat.min_eq_left (by omega),List.take_append_of_le_length (by omega)])
 have b3:=b2.same e;refine⟨r,r',a1,b1,CQ a2,?_⟩;rw[len_eq a2 b3];exact CQ b3
theorem TQ{R O:D}(hR:bN x R)(hO:bN x O)(n:Told x s (AA x (lay s [R]) 0) rn)(w:Told x s (W x (ly s R) (ly s O) true false) rw)(t:Told x s (W x (ly s R) (ly s O) false true) rt)(o:Told x s (AA x (lay s [O]) 0) ro)(z:Told x s (AA x (lay s [R,O]) 1) r2) :
  (nn rn=true->nn rw=true/\nn rt=true)/\(nn ro=true->nn rt=true)/\(nn rw=false->∃u v,r2=.str u/\rw=.str v/\u.length<=v.length):=by
 have n':=n.same<|Ze hR;have o':=o.same<|Ze hO;have z':=z.same<|adP hR hO;clear n o z;have fx:∀v,A x (ly s R) v=false->T x (ly s R) v=v:=λv h=>by
  unfold KT.A at h;simpa using h
 refine⟨λh=>?_,λh=>?_,λh=>?_⟩;rcases n' with ⟨rfl,n⟩|⟨_,rfl,_⟩;refine⟨?_,?_⟩;rcases w with ⟨rfl,_⟩|⟨v,rfl,w1,w2,_⟩;rfl;unfold KT.W at w2;rw[fx v (n v w1)] at w2;cases e:A x (ly s O) v<;>rw[e] at w2<;>cases w2;rcases t with ⟨rfl,_⟩|⟨v,rfl,w1,w2,_⟩;rfl;unfold KT.W at w2;rw[fx v (n v w1)] at w2;cases e:A x (ly s O) v<;>rw[e] at w2<;>cases w2;cases h;rcases o' with ⟨rfl,o⟩|⟨_,rfl,_⟩;rcases t with ⟨rfl,_⟩|⟨v,rfl,w1,w2,_⟩;rfl;unfold KT.W at w2;rw[o v w1] at w2;simp at w2;cases h;rcases w with ⟨rfl,_⟩|⟨v,rfl,w1,w2,_⟩;cases h;unfold KT.W at w2;rw[Qzq] at w2;have w3:A x (ly s O) (T x (ly s R) v)=true:=by simpa using w2.1
 rcases z' with ⟨rfl,z⟩|⟨u,rfl,z1,z2,z3⟩;have q:A x (ly s O) (T x (ly s R) v)=false:=z v w1;rw[q] at w3;cases w3;refine⟨_,_,rfl,rfl,?_⟩;rw[vH.vd,vH.vd];exact Nat.le_of_not_lt λq=>by have q:A x (ly s O) (T x (ly s R) v)=false:=z3 v w1 q;rw[q] at w3;cases w3
end
open cR (lay)
theorem abP{s bQ:D}(hx:x∈XS)(hs:s∈sides)(hso:jP.cA [bQ]=some (.tup (x.map λa=>.str [a])))(hR:∀R∈Rs,bN x R)(hM:bN x M)(h3:Rs.length<=3){k:Nat}(hk:k<Rs.length)(A0 A1 A3 a g:OD) :
  ∃b c,uO [A0,A1,Zf bQ,A3,Zf s,Zf (.tup Rs),Zf M,(Zf (.int k)),a,g,Zn,Zn,Zn,Zn,Zn,Zn]=.nx [A0,A1,Zf bQ,A3,Zf s,Zf (.tup Rs),Zf M,(Zf (.int k)),b,c,Zn,Zn,Zn,Zn,Zn,Zn]:=by
 obtain⟨r,r',h1,h2,h4,h5⟩:=Yj hx hs hso hR hM h3 hk;refine⟨(Zf<|rN r),(Zf<|.tup [s,.tup<|(Rs++[M]).take 3]),?_⟩;have c1:XJ (.tup Rs) none (some ((k+1:Nat):Int))=some (.tup<|Rs.take<|k+1):=by show some (D.tup<|cutD Rs none<|some ((k+1:Nat):Int))=_;unfold cutD;rw[HT.Mf];show some (D.tup<|(Rs.drop 0).take<|min (k+1) Rs.length - 0)=_;rw[List.drop_zero,Nat.sub_zero,Nat.min_eq_left (by omega)]
 have c2:XJ (.tup<|Rs++[M]) none (some ((3:Nat):Int))=some (.tup<|(Rs++[M]).take 3):=by show some (D.tup<|cutD (Rs++[M]) none<|some ((3:Nat):Int))=_;unfold cutD;rw[HT.Mf];show some (D.tup<|((Rs++[M]).drop 0).take<|min 3 (Rs++[M]).length - 0)=_;rw[List.drop_zero,Nat.sub_zero,<-List.take_eq_take_min]
 have c3:dB (.tup Rs) (.tup [M])=some (.tup<|Rs++[M]):=by show(if Rs.length+1<=sizeLine then some (D.tup<|Rs++[M]) else none)=_;exact if_pos<|Qq4 (show Rs.length+1<=4 by omega) (by decide)
 have sl:∀{a} {lo hi} {env} {d v} {l u},a env=.ok d env->lo env=.ok l env->hi env=.ok u env->XJ d l u=some v->Ja a lo hi env=.ok v env:=λ{a lo hi env d v l u} q1 q2 q3 q4=>by
  unfold Ja;rw[q1,bR,q2,bR,q3,bR,q4];rfl
 unfold uO;refine(aA (e:=[A0,A1,Zf bQ,A3,Zf s,Zf<|.tup Rs,Zf M,(Zf<|.int (k:Int)),Zf<|rN r,g,Zn,Zn,Zn,Zn,Zn,Zn]) ?_).trans ?_;generalize hE:([A0,A1,Zf bQ,A3,Zf s,Zf<|.tup Rs,Zf M,(Zf<|.int (k:Int)),a,g,Zn,Zn,Zn,Zn,Zn,Zn]:Ev.Env)=env;refine bH (d:=rN r) (e:=env) (aK (ds:=[r]) (aC (aK (ds:=[bQ,.tup [s,.tup<|Rs.take<|k+1],.int (k:Int)]) (e:=env) ?_ h1) bu) h4) (by rw[<-hE];rfl);refine aC (d:=bQ) (e1:=env) (by rw[<-hE];rfl)<|aC (d:=.tup [s,.tup<|Rs.take<|k+1]) (e1:=env) (bZ (aC (d:=s) (e1:=env) (by rw[<-hE];rfl)<|aC (sl (d:=.tup Rs) (l:=none) (u:=some ((k+1:Nat):Int)) (by rw[<-hE];rfl) rfl (by rw[<-hE];rfl) c1) bu) Ev.BV) (by rw[<-hE];rfl);refine(aA (e:=[A0,A1,Zf bQ,A3,Zf s,Zf<|.tup Rs,Zf M,(Zf<|.int (k:Int)),Zf<|rN r,(Zf<|.tup [s,.tup<|(Rs++[M]).take 3]),Zn,Zn,Zn,Zn,Zn,Zn]) ?_).trans ?_;generalize hE:([A0,A1,Zf bQ,A3,Zf s,Zf<|.tup Rs,Zf M,(Zf<|.int (k:Int)),Zf<|rN r,g,Zn,Zn,Zn,Zn,Zn,Zn]:Ev.Env)=env;refine bH (d:=.tup [s,.tup<|(Rs++[M]).take 3]) (e:=env) (bZ (aC (d:=s) (e1:=env) (by rw[<-hE];rfl) (aC (sl (d:=.tup (Rs++[M])) (l:=none) (u:=some ((3:Nat):Int)) ?_ rfl rfl c2) bu)) Ev.BV) (by rw[<-hE];rfl);exact Fy (x:=.tup Rs) (y:=.tup [M]) (by rw[<-hE];rfl) (by rw[<-hE];rfl) (by rw[<-hE];rfl) c3;generalize hE:([A0,A1,Zf bQ,A3,Zf s,Zf (.tup Rs),Zf M,(Zf (.int (k:Int))),Zf (rN r),(Zf (.tup [s,.tup ((Rs++[M]).take 3)])),Zn,Zn,Zn,Zn,Zn,Zn]:Ev.Env)=env;exact(gJ (e:=env) (f9 (bL (x:=rN r) (y:=rN r) (e1:=env) (aK (ds:=[r']) (aC (aK (ds:=[bQ,.tup [s,.tup ((Rs++[M]).take 3)],.int (k:Int)]) (by rw[<-hE];rfl) h2) bu) h5) (by rw[<-hE];rfl) (abN r)))).trans rfl
theorem Q4(ns)(hl:ns.length<=63)(hb:Qq ns):M8 [.arr (ns.map .int)]=some (.bl true):=by
 obtain⟨p,hp⟩:=jP.pack ns hl hb 0 (by decide) (by decide);obtain⟨p2,hp2⟩:=jP.pack ns hl hb 2 (by decide) (by decide);obtain⟨x,rs,n,hx,hst,hr⟩:=jP.stock p;obtain⟨s,Qs,n1,hor,hs,hQ,h2⟩:=cR.order n x hx 2 (by decide);obtain⟨w1,ch1,l1,r1,n2,hr1,ok1⟩:=cR.rule n1 x hx;obtain⟨w2,ch2,l2,r2,n3,hr2,ok2⟩:=cR.rule p2 x hx;have hR1:bN x (.tup [w1,ch1,l1,r1]):=⟨_,_,_,_,rfl,ok1⟩;have hM:bN x (.tup [w2,ch2,l2,r2]):=⟨_,_,_,_,rfl,ok2⟩;have hso:=jP.sounds_of hx hr;generalize D.tup [w1,ch1,l1,r1]=R at *;generalize D.tup [w2,ch2,l2,r2]=M at *;have hR:∀Q∈Qs++[R],bN x Q:=λQ h=>by
  rcases Qww.mp h with h|h;exact hQ Q h;rw[Qq2.mp h];exact hR1
 have h3:(Qs++[R]).length<=3:=by rw[Qqk,Qw1];omega
 obtain⟨rn,a1,t1⟩:=Ai hx hs hso (Rs:=[R]) (λQ h=>by rw[Qq2.mp h];exact hR1) (by show 1<=3;decide) (k:=0) (by show 0<1;decide);obtain⟨ro,a2,t2⟩:=Ai hx hs hso (Rs:=[M]) (λQ h=>by rw[Qq2.mp h];exact hM) (by show 1<=3;decide) (k:=0) (by show 0<1;decide);obtain⟨rb,a3,t3⟩:=Ai hx hs hso (Rs:=[R,M]) (λQ h=>by
  rcases Qq7.mp h with rfl|h
  exact hR1
  rw[Qq2.mp h];exact hM) (by show 2<=3;decide) (k:=1) (by show 1<2;decide)
 obtain⟨xm,a4,t4⟩:=adB hx hs hso hR1 hM;obtain⟨rt,a5,t5⟩:=Q6 hx hs hso hR1 hM;obtain⟨q1,q2,q3⟩:=TQ hx hs hso hR1 hM t1 t4 t5 t2 t3;generalize hRs:Qs++[R]=Rs at *;have last:fj (.tup Rs) (.int<|-1)=some R:=by rw[<-hRs];exact Ay.Vb
 have add:dB (.tup Qs) (.tup [R])=some (.tup Rs):=by rw[<-hRs];show(if Qs.length+1<=sizeLine then some (D.tup<|Qs++[R]) else none)=_;exact if_pos<|Qq4 (show Qs.length+1<=3 by omega) (by decide)
 generalize hst':D.tup rs=bQ at *;generalize hA:(Zf (D.arr<|ns.map .int):OD)=A0;obtain⟨e',f1,b7,b8,b9,rfl⟩:=IV (g:=ak 7) (b:=uO) (λenv=>∃b7 b8 b9,env=[A0,Zl [.int n2],Zf bQ,Zs x,Zf s,Zf<|.tup Rs,Zf M,b7,b8,b9,Zn,Zn,Zn,Zn,Zn,Zn]) (iZ 0 1 Rs.length)
  (λd hd env ⟨b7,b8,b9,he⟩=>by
   subst he;unfold iZ at hd;obtain⟨i,hi,rfl⟩:=Qw3.mp hd;have e:(0+(i:Int)*1)=(i:Int):=by omega
   rw[e];obtain⟨c8,c9,hb⟩:=abP hx hs hso hR hM h3 (Qk5.mp hi) A0 (Zl [.int n2]) (Zs x) b8 b9;exact⟨_,_,rfl,hb,_,_,_,rfl⟩)
  [A0,Zl [.int n2],Zf bQ,Zs x,Zf s,Zf<|.tup Rs,Zf M,Zn,Zn,Zn,Zn,Zn,Zn,Zn,Zn,Zn] ⟨_,_,_,rfl⟩
 obtain⟨i1,_⟩:=Il t1;obtain⟨i2,_⟩:=Il t2;obtain⟨_,j3⟩:=Il t3;obtain⟨i4,j4⟩:=Il t4;obtain⟨_,j5⟩:=Il t5;have e0:envOf 16 [D.arr (ns.map .int)]=[A0,Zn,Zn,Zn,Zn,Zn,Zn,Zn,Zn,Zn,Zn,Zn,Zn,Zn,Zn,Zn]:=by rw[<-hA];rfl
 obtain⟨env',hend⟩:∃env',U8 [A0,Zn,Zn,Zn,Zn,Zn,Zn,Zn,Zn,Zn,Zn,Zn,Zn,Zn,Zn,Zn]=.rt false (.bl true) env':=by
  unfold U8;have go:∀{X Y:Out},X=Y->(∃e,Y=.rt false (.bl true) e)->∃e,X=.rt false (.bl true) e:=λh ⟨e,q⟩=>⟨e,h.trans q⟩;refine go (aA (e:=[A0,Zl [.int p],Zn,Zn,Zn,Zn,Zn,Zn,Zn,Zn,Zn,Zn,Zn,Zn,Zn,Zn]) (by
   rw[<-hA];exact(p7 (d:=.lst [.int p]) (e:=[(Zf<|.arr<|ns.map .int),Zn,Zn,Zn,Zn,Zn,Zn,Zn,Zn,Zn,Zn,Zn,Zn,Zn,Zn,Zn])<|aK (ds:=[.arr (ns.map .int),.int 0]) (by rfl) hp).trans rfl)) ?_
  refine go (aA (e:=[A0,Zl [.int n],Zf bQ,Zn,Zn,Zn,Zn,Zn,Zn,Zn,Zn,Zn,Zn,Zn,Zn,Zn])<|bH (d:=bQ) (e:=[A0,Zl [.int n],Zn,Zn,Zn,Zn,Zn,Zn,Zn,Zn,Zn,Zn,Zn,Zn,Zn,Zn]) (iT (x:=.lst [.int p]) (x0:=.lst [.int p]) (ds:=[]) (e1:=[A0,Zl [.int p],Zn,Zn,Zn,Zn,Zn,Zn,Zn,Zn,Zn,Zn,Zn,Zn,Zn,Zn]) (by rfl) (by rfl) (by rfl) hst) (by rfl)) ?_;refine go (aA (e:=[A0,Zl [.int n],Zf bQ,Zs x,Zn,Zn,Zn,Zn,Zn,Zn,Zn,Zn,Zn,Zn,Zn,Zn])<|bH (d:=.str x) (e:=[A0,Zl [.int n],Zf bQ,Zn,Zn,Zn,Zn,Zn,Zn,Zn,Zn,Zn,Zn,Zn,Zn,Zn]) (aK (ds:=[bQ]) (by rfl) (by rw[<-hst'];exact jP.Kz hx hr)) (by rfl)) ?_;refine go (aA (e:=[A0,Zl [.int n1],Zf bQ,Zs x,Zf s,Zf (.tup Qs),Zn,Zn,Zn,Zn,Zn,Zn,Zn,Zn,Zn,Zn]) (bH (d:=.tup [s,.tup Qs]) (e:=[A0,Zl [.int n1],Zf bQ,Zs x,Zn,Zn,Zn,Zn,Zn,Zn,Zn,Zn,Zn,Zn,Zn,Zn]) (iT (x:=.lst [.int n]) (x0:=.lst [.int n]) (ds:=[.str x,.int 2]) (e1:=[A0,Zl [.int n],Zf bQ,Zs x,Zn,Zn,Zn,Zn,Zn,Zn,Zn,Zn,Zn,Zn,Zn,Zn]) (by rfl) (by rfl) (by rfl) hor) (by rfl))) ?_;refine go (aA (e:=[A0,Zl [.int n2],Zf bQ,Zs x,Zf s,Zf (.tup Rs),Zn,Zn,Zn,Zn,Zn,Zn,Zn,Zn,Zn,Zn]) (bH (d:=.tup Rs) (e:=[A0,Zl [.int n2],Zf bQ,Zs x,Zf s,Zf (.tup Qs),Zn,Zn,Zn,Zn,Zn,Zn,Zn,Zn,Zn,Zn]) (Fy (x:=.tup Qs) (y:=.tup [R]) (by rfl) (bZ (aC (iT (x:=.lst [.int n1]) (x0:=.lst [.int n1]) (ds:=[.str x]) (e1:=[A0,Zl [.int n1],Zf bQ,Zs x,Zf s,Zf (.tup Qs),Zn,Zn,Zn,Zn,Zn,Zn,Zn,Zn,Zn,Zn]) (by rfl) (by rfl) (by rfl) hr1) bu) Ev.zz1) (by rfl) add) (by rfl))) ?_;refine go (aA (e:=[A0,Zl [.int n2],Zf bQ,Zs x,Zf s,Zf (.tup Rs),Zf M,Zn,Zn,Zn,Zn,Zn,Zn,Zn,Zn,Zn]) (bH (d:=M) (e:=[A0,Zl [.int n2],Zf bQ,Zs x,Zf s,Zf (.tup Rs),Zn,Zn,Zn,Zn,Zn,Zn,Zn,Zn,Zn,Zn]) (by
   rw[<-hA];exact cR.Ur (x0:=.lst [.int p2]) (ds:=[.str x]) (e1:=[(Zf (.arr (ns.map .int))),Zl [.int n2],Zf bQ,Zs x,Zf s,Zf (.tup Rs),Zn,Zn,Zn,Zn,Zn,Zn,Zn,Zn,Zn,Zn]) (aK (ds:=[.arr (ns.map .int),.int 2]) (by rfl) hp2) (by rfl) hr2) (by rfl))) ?_
  refine go (aA ((gU (ds:=iZ 0 1 Rs.length) (Qy.Jb (ds:=[.int (Rs.length:Int)]) (by rfl) (Qy.Wa (by omega)))).trans f1)) ?_;refine go (aA (e:=[A0,Zl [.int n2],Zf bQ,Zs x,Zf s,Zf (.tup Rs),Zf M,b7,b8,b9,Zf R,Zf M,Zn,Zn,Zn,Zn]) (bH (d:=.tup [R,M]) (e:=[A0,Zl [.int n2],Zf bQ,Zs x,Zf s,Zf (.tup Rs),Zf M,b7,b8,b9,Zn,Zn,Zn,Zn,Zn,Zn]) (bZ (aC (Fy (x:=.tup Rs) (y:=.int (-1)) (by rfl) (by rfl) (by rfl) last) (aC (d:=M) (by rfl) bu)) Ev.BV) (by rfl))) ?_;refine go (aA (e:=[A0,Zl [.int n2],Zf bQ,Zs x,Zf s,Zf (.tup Rs),Zf M,b7,b8,b9,Zf R,Zf M,Zb (nn rn),Zn,Zn,Zn]) (bH (d:=.bl (nn rn)) (e:=[A0,Zl [.int n2],Zf bQ,Zs x,Zf s,Zf (.tup Rs),Zf M,b7,b8,b9,Zf R,Zf M,Zn,Zn,Zn,Zn]) (bL (x:=rn) (y:=.non) (aK (ds:=[bQ,.tup [s,.tup [R]],.int 0]) (by rfl) a1) (by rfl) i1) (by rfl))) ?_;refine go (aA (e:=[A0,Zl [.int n2],Zf bQ,Zs x,Zf s,Zf (.tup Rs),Zf M,b7,b8,b9,Zf R,Zf M,Zb (nn rn),Zf xm,Zf rt,Zn]) (bH (d:=.tup [xm,rt]) (e:=[A0,Zl [.int n2],Zf bQ,Zs x,Zf s,Zf (.tup Rs),Zf M,b7,b8,b9,Zf R,Zf M,Zb (nn rn),Zn,Zn,Zn]) (bZ (aC (aK (ds:=[bQ,s,R,M]) (by rfl) a4) (aC (aK (ds:=[bQ,s,R,M]) (by rfl) a5) bu)) Ev.BV) (by rfl))) ?_;generalize hE:([A0,Zl [.int n2],Zf bQ,Zs x,Zf s,Zf (.tup Rs),Zf M,b7,b8,b9,Zf R,Zf M,Zb (nn rn),Zf xm,Zf rt,Zn]:Ev.Env)=env;have v12:fL (aR 12) env=.ok (nn rn) env:=by rw[<-hE];rfl
  have w13:fL (aB nO 13 (jR .non)) env=.ok (!nn xm) env:=f9 (Fy (x:=xm) (y:=.non) (by rw[<-hE];rfl) rfl (by rw[<-hE];rfl) j4);have VD:fL (aB JC 13 (jR .non)) env=.ok (nn xm) env:=f9 (Fy (x:=xm) (y:=.non) (by rw[<-hE];rfl) rfl (by rw[<-hE];rfl) i4);have w14:fL (aB nO 14 (jR .non)) env=.ok (!nn rt) env:=f9 (Fy (x:=rt) (y:=.non) (by rw[<-hE];rfl) rfl (by rw[<-hE];rfl) j5);have vo:fL (aO JC (au mz (Zv 2 (aa (bF (Zv 4 (aa (bF (Zv 11 aj)) aj))) (aa (Zi 0) aj)))) (jR .non)) env=.ok (nn ro) env:=f9 (bL (x:=ro) (y:=.non) (e1:=env) (aK (ds:=[bQ,.tup [s,.tup [M]],.int 0]) (by rw[<-hE];rfl) a2) rfl i2);refine go (aA (e:=env) ((gJ (e:=env) (by
   unfold mD;rw[v12,bR];cases e:nn rn with
   |false=>rfl|true=>obtain⟨z1,z2⟩:=q1 e;show rY _ _ env=_;rw[z1] at w13;rw[z2] at w14;exact(Fv w13).trans w14)).trans rfl)) ?_
  refine go (aA (e:=env) ((gJ (e:=env) (by
   unfold mD;rw[vo,bR];cases e:nn ro with
   |false=>rfl|true=>have z2:=q2 e;rw[z2] at w14;exact w14)).trans rfl)) ?_
  cases e:nn xm with
  |true=>rw[e] at VD;exact⟨env,jA ((jV VD).trans rfl)⟩|false=>rw[e] at VD;obtain⟨u,v,eu,ev,le⟩:=q3 e;refine go (aA (e:=env) ((gJ VD).trans rfl)) ?_;rw[eu] at a3 j3;refine go (aA (e:=env.set 15 (Zs u)) (bH (d:=.str u) (e:=env) (aK (ds:=[bQ,.tup [s,.tup [R,M]],.int 1]) (by rw[<-hE];rfl) a3) (by rw[<-hE];rfl))) ?_;refine⟨env.set 15 (Zs u),bV ?_⟩;rw[<-hE,ev];refine(X3 (e:=[A0,Zl [.int n2],Zf bQ,Zs x,Zf s,Zf (.tup Rs),Zf M,b7,b8,b9,Zf R,Zf M,Zb (nn rn),Zs v,Zf rt,Zs u]) (by rfl)).trans ?_;refine bL (x:=.int (u.length:Int)) (y:=.int (v.length:Int)) (by rfl) (by rfl) ?_;show some (D.bl (decide ((u.length:Int)<=(v.length:Int))))=_;rw[Qwj (by omega)]
 refine dC (env:=env') ?_;rw[e0];exact hend
open PySem PySem.Spec PyProof.Rows L2 Ev
theorem all_mk{K:Fg}(X:K.In h)(G:h.Ns mainGlobals mg)(hfa:mg "law"=some (.ref fa))
 
  (QF:PySem.W.nsIn K mainGlobals "bool"=some none) (QD:PySem.W.nsIn K mainGlobals "dict"=some none) (Gx:PySem.W.nsIn K mainGlobals "divmod"=some none) (YD:PySem.W.nsIn K mainGlobals "int"=some none) (tZ:PySem.W.nsIn K mainGlobals "isinstance"=some none) (YC:PySem.W.nsIn K mainGlobals "len"=some none) (QC:PySem.W.nsIn K mainGlobals "list"=some none) (Lp:PySem.W.nsIn K mainGlobals "range"=some none) (Gw:PySem.W.nsIn K mainGlobals "sorted"=some none) (Ln:PySem.W.nsIn K mainGlobals "tuple"=some none) (YB:PySem.W.nsIn K mainGlobals "zip"=some none) (qJ:∀d,PySem.W.kitOne K (.type (VH d)) (.type "bool")=some (uR d "bool")) (uQ:∀d,PySem.W.kitOne K (.type (VH d)) (.type "int")=some (uR d "int")) (KH:PySem.W.nsIn K mainGlobals "EDGE"=some (some (.str "#" aap))) (jY:PySem.W.nsIn K mainGlobals "MOST_STANDINGS"=some (some (.int 600 vY))) (xF:FA K "sounds_of" qg) (Ao:FA K "is_whole" sX) (Vf:FA K "fits" Kd) (Js:FA K "turned" yN) (Dl:FA K "puts_in" wB) (pM:FA K "reading_rules" lr) (oN:FA K "first_standing" jX) (nu:FA K "read_putting_in" jB) (pN:FA K "read_changing" lz) (vA:FA K "read_signs" oW) (Aj:FA K "watch_on" sO) (xD:FA K "watch_end" qd) (Dk:FA K "read_on" wA) (Ak:FA K "readings" sS) (xE:FA K "standings" qe) (qU:FA K "as_it_stands" lX) (pL:FA K "shortest_word" lq) (Le:FC K "acts" Ke) (j8:FC K "shortest_where" jW) (xG:FA K "makes_way" qi) (vq:FA K "takes_from" oV) (xM:FA K "_law_mixed" qp) (An:FA K "_law_pack" sW) (Al:FA K "_law_take" sU) (xH:FA K "_law_stock" qj) (vB:FA K "_law_sounds" oX) (xJ:FA K "_law_signs" ql) (sr:FA K "_law_changes" nG) (Am:FA K "_law_rule" sV) (xK:FA K "_law_order" qm) (vC:FA K "_law_length" oY) (ZX:FA K "law" Rp) (tne:((gG K "shortest_where").2 == (gG K "acts").2)=false) :
  (∀y∈tabs,∃cp,PySem.W.tabIn K y.1=some cp)/\∃fd,(∀s v,BindsTo s fd ⟨[v],[]⟩ [("_law_script",v)])/\∀base,K.In base->base.Ns mainGlobals mg->(∀y∈tabs,BK base mg (gG K y.1).1 (gG K y.1).2)->lE P w K mg base xg 9 fa fd ["_law_script"] (spT (lJ K tabs) (mK K 1 M8)):=
 ⟨(λy hy=>by rcases Qq7.mp hy with rfl|hy;exact Le.tab;rcases Qq7.mp hy with rfl|hy;exact j8.tab;cases hy),ZX.ag7 X G hfa (λs v=>.of_eq rfl) λbase hB F=>acC ⟨zm X G QF,
  zm X G QD,
  zm X G Gx,
  zm X G YD,
  zm X G tZ,
  zm X G YC,
  zm X G QC,
  zm X G Lp,
  zm X G Gw,
  zm X G Ln,
  zm X G YB,
  qJ,
  uQ,
  XF X G KH (by decide +kernel) (by decide),
  XH X G jY,
  tne,
  xF.at X G (fun|[_],_=>rfl),
  Ao.at X G (fun|[_],_=>rfl),
  Vf.at X G (fun|[_,_],_=>rfl),
  Js.at X G (fun|[_],_=>rfl),
  Dl.at X G (fun|[_],_=>rfl),
  pM.at X G (fun|[_],_=>rfl),
  oN.at X G (fun|[_],_=>rfl),
  nu.at X G (fun|[_,_,_],_=>rfl),
  pN.at X G (fun|[_,_,_],_=>rfl),
  vA.at X G (fun|[_,_,_],_=>rfl),
  Aj.at X G (fun|[_,_,_],_=>rfl),
  xD.at X G (fun|[_,_],_=>rfl),
  Dk.at X G (fun|[_,_,_],_=>rfl),
  Ak.at X G (fun|[_,_],_=>rfl),
  xE.at X G (fun|[_,_],_=>rfl),
  qU.at X G (fun|[_,_],_=>rfl),
  pL.at X G (fun|[_,_,_,_,_],_=>rfl),
  Le.at X G (fun|[_,_,_],_=>rfl),
  j8.at X G (fun|[_,_,_,_,_,_],_=>rfl),
  xG.at X G (fun|[_,_,_,_],_=>rfl),
  vq.at X G (fun|[_,_,_,_],_=>rfl),
  xM.at X G (fun|[_],_=>rfl),
  An.at X G (fun|[_,_],_=>rfl),
  Al.at X G (fun|[_,_],_=>rfl),
  xH.at X G (fun|[_],_=>rfl),
  vB.at X G (fun|[_],_=>rfl),
  xJ.at X G (fun|[_,_],_=>rfl),
  sr.at X G (fun|[_,_],_=>rfl),
  Am.at X G (fun|[_,_],_=>rfl),
  xK.at X G (fun|[_,_,_],_=>rfl),
  vC.at X G (fun|[_],_=>rfl)⟩ hB F⟩
end fD
theorem PySem.W.Fast.tw6442841685734475029:True:=trivial
theorem PySem.W.Fast.tw12680048658938096259:True:=trivial
theorem PySem.W.Fast.tw3057757759118557376:True:=trivial
theorem PySem.W.Fast.tw17041696506629359728:True:=trivial
theorem PySem.W.Fast.tw113595685789401159:True:=trivial
theorem PySem.W.Fast.tw16225490533197356278:True:=trivial
theorem PySem.W.Fast.tw14589297508203704201:True:=trivial
theorem PySem.W.Fast.tw14168787740473799770:True:=trivial
theorem PySem.W.Fast.tw8179434014148384999:True:=trivial
theorem PySem.W.Fast.tw110321523811558464:True:=trivial
theorem PySem.W.Fast.tw10824287683444255617:True:=trivial
theorem PySem.W.Fast.tw17711107012952790833:True:=trivial
theorem PySem.W.Fast.tw13149427849221207459:True:=trivial
theorem PySem.W.Fast.tw928664257494567625:True:=trivial
theorem PySem.W.Fast.tw13792671826776921396:True:=trivial
theorem PySem.W.Fast.tw10752034582646524552:True:=trivial
theorem PySem.W.Fast.tw8172997234848107815:True:=trivial
theorem PySem.W.Fast.tw4882939973526031567:True:=trivial
theorem PySem.W.Fast.tw17792375957747143700:True:=trivial
theorem PySem.W.Fast.tw6417998133986923430:True:=trivial
theorem PySem.W.Fast.tw9049134946523024486:True:=trivial
theorem PySem.W.Fast.tw4745273129621874027:True:=trivial
theorem PySem.W.Fast.tw7236142058095109633:True:=trivial
theorem PySem.W.Fast.tw11895262328640168119:True:=trivial
theorem PySem.W.Fast.tw4979683711900970088:True:=trivial
theorem PySem.W.Fast.tw7113962864906461157:True:=trivial
theorem PySem.W.Fast.tw960108553015731208:True:=trivial
theorem PySem.W.Fast.tw11342397612038201134:True:=trivial
theorem PySem.W.Fast.tw16451797166066287622:True:=trivial
theorem PySem.W.Fast.tw6814198052564649677:True:=trivial
theorem PySem.W.Fast.tw18418980292155062624:True:=trivial
theorem PySem.W.Fast.tw13438276349349268016:True:=trivial
theorem PySem.W.Fast.tw5367935211571391960:True:=trivial
theorem PySem.W.Fast.tw14762841670450921206:True:=trivial
theorem PySem.W.Fast.tw7514033689928737148:True:=trivial
theorem PySem.W.Fast.tw5415949557998335804:True:=trivial
theorem PySem.W.Fast.tw11040030769367320081:True:=trivial
theorem PySem.W.Fast.tw14577840827121825890:True:=trivial
theorem PySem.W.Fast.tw6335791380371033726:True:=trivial
theorem PySem.W.Fast.tw2771548945127321727:True:=trivial
theorem PySem.W.Fast.tw513175469119209100:True:=trivial
theorem PySem.W.Fast.tw7158916664458781317:True:=trivial
theorem PySem.W.Fast.tw463162965851116942:True:=trivial
theorem PySem.W.Fast.tw587661445777179479:True:=trivial
open PySem PySem.W PyProof.Rows
set_option maxRecDepth 100000 in
set_option maxHeartbeats 0 in
theorem PySem.Challenge.cw_soundrules_k44_whole_rules_that_act_holds : PySem.Challenge.rw_soundrules_k44_whole_rules_that_act.Holds := by
 w_on;o_law;k_head;(case hw=>w_witness2)
 k_fill
 refine Ev.Z9 (l:=PySem.Challenge.rw_soundrules_k44_whole_rules_that_act) (k:=9) (x:="_law_script") (f:=fD.M8) fD.tabs rfl (by decide) rfl ⟨rfl,by decide,by decide⟩ (λw h Y=>PySem.W.km_in_of Y) fD.Q4 (λw=>by kernel_rfl) (λy hy=>by rcases Qq7.mp (show y ∈ [(("acts" : Str),fD.mR),(("shortest_where" : Str),fD.cX)] from hy) with rfl|hy;exact⟨_,rfl⟩;rcases Qq7.mp hy with rfl|hy;exact⟨_,rfl⟩;cases hy) ?F
 case F=>
  intro w mg fa h KX G hmg
  refine' fD.all_mk KX G hmg ?QF ?QD ?Gx ?YD ?tZ ?YC ?QC ?Lp ?Gw ?Ln ?YB ?qJ ?uQ ?KH ?jY ?xF ?Ao ?Vf ?Js ?Dl ?pM ?oN ?nu ?pN ?vA ?Aj ?xD ?Dk ?Ak ?xE ?qU ?pL ?Le ?j8 ?xG ?vq ?xM ?An ?Al ?xH ?vB ?xJ ?sr ?Am ?xK ?vC ?ZX ?tne
  (case qJ=>(intro d;cases d with|clo=>(show PySem.W.kitOne _ (.type "NoneType") (.type "bool")=some false;kit_is)|non=>(show PySem.W.kitOne _ (.type "NoneType") (.type "bool")=some false;kit_is)|bl=>(show PySem.W.kitOne _ (.type "bool") (.type "bool")=some true;kit_is)|int=>(show PySem.W.kitOne _ (.type "int") (.type "bool")=some false;kit_is)|str=>(show PySem.W.kitOne _ (.type "str") (.type "bool")=some false;kit_is)|tup=>(show PySem.W.kitOne _ (.type "tuple") (.type "bool")=some false;kit_is)|lst=>(show PySem.W.kitOne _ (.type "list") (.type "bool")=some false;kit_is)|arr=>(show PySem.W.kitOne _ (.type "list") (.type "bool")=some false;kit_is)|dct=>(show PySem.W.kitOne _ (.type "dict") (.type "bool")=some false;kit_is)|gR=>(show PySem.W.kitOne _ (.type "dict") (.type "bool")=some false;kit_is)))
  (case uQ=>(intro d;cases d with|clo=>(show PySem.W.kitOne _ (.type "NoneType") (.type "int")=some false;kit_is)|non=>(show PySem.W.kitOne _ (.type "NoneType") (.type "int")=some false;kit_is)|bl=>(show PySem.W.kitOne _ (.type "bool") (.type "int")=some true;kit_is)|int=>(show PySem.W.kitOne _ (.type "int") (.type "int")=some true;kit_is)|str=>(show PySem.W.kitOne _ (.type "str") (.type "int")=some false;kit_is)|tup=>(show PySem.W.kitOne _ (.type "tuple") (.type "int")=some false;kit_is)|lst=>(show PySem.W.kitOne _ (.type "list") (.type "int")=some false;kit_is)|arr=>(show PySem.W.kitOne _ (.type "list") (.type "int")=some false;kit_is)|dct=>(show PySem.W.kitOne _ (.type "dict") (.type "int")=some false;kit_is)|gR=>(show PySem.W.kitOne _ (.type "dict") (.type "int")=some false;kit_is)))
  (case KH=>k_is)
  (case jY=>k_is)
  (case tne=>kernel_rfl)
  all_goals first|k_is|(refine' Ev.FA.mk ?a ?l ?c ?k;(case a=>k_is);(case l=>k_is);(case c=>k_is);(case k=>k_is))|(refine' Ev.FC.mk ?a ?l ?c ?k ?lc ?v;(case a=>k_is);(case l=>k_is);(case c=>k_is);(case k=>k_is);(case lc=>k_is);(case v=>exact rfl))

