import PyProof.Rows.All
import Wide.All
import OpenK.AllK
import Wide.FinOn
import Lean
import PyProof.EqAt
import PyProof.EqKinds
import PyProof.TupleCall
import PyProof.TupleKey
import PyProof.DictRoadsH
import PyProof.FactsAll.bool_1
import PyProof.AttrMissHeap
import KE.KDictOf
import PyProof.ListMulRoad
import PyProof.FactsAll.tuple_2
import KE.KSortTup
import PyProof.TupleOfSeq
import PyProof.ListRange
import PyProof.DictTable
import PyProof.Rows.TupTab
import PyProof.FactsAll.range_1
import KE.KDictList
import PyProof.SetRoads
import PyProof.DictTruth
import PySem.Challenge.RW_soundrules_k27_whole_orders_behind_one_a
noncomputable section
set_option Elab.async false
set_option linter.all false
set_option maxRecDepth 100000
set_option maxHeartbeats 4000000
theorem Qqq:type_of% @PySem.wpAny_bind:=@PySem.wpAny_bind
def Qqx:type_of% @List.length_map:=@List.length_map
theorem Qqz:type_of% @PySem.Heap.get?_push_of_some:=@PySem.Heap.get?_push_of_some
def Qqj:type_of% @List.length_append:=@List.length_append
def Qqk:type_of% @List.mem_cons_of_mem:=@List.mem_cons_of_mem
def Qqv:type_of% @List.mem_cons_self:=@List.mem_cons_self
def Qqw:type_of% @List.length_cons:=@List.length_cons
def Qqy:type_of% @List.mem_singleton:=@List.mem_singleton
def Qq0:type_of% @Nat.le_refl:=@Nat.le_refl
def Qq1:type_of% @List.mem_cons:=@List.mem_cons
theorem Qq2:type_of% @PySem.wpAny_pure:=@PySem.wpAny_pure
def Qq3:type_of% @Nat.le_trans:=@Nat.le_trans
def Qq4:type_of% @List.getElem?_eq_some_iff:=@List.getElem?_eq_some_iff
def Qq5:type_of% @List.size_toArray:=@List.size_toArray
def Qq6:type_of% @Option.map_eq_some_iff:=@Option.map_eq_some_iff
def Qq7:type_of% @List.getD_eq_getElem?_getD:=@List.getD_eq_getElem?_getD
def Qq8:type_of% @List.map_cons:=@List.map_cons
def Qq9:type_of% @List.getElem?_eq_getElem:=@List.getElem?_eq_getElem
def Qwq:type_of% @List.length_singleton:=@List.length_singleton
def Qwx:type_of% @Nat.lt_of_lt_of_le:=@Nat.lt_of_lt_of_le
theorem Qwz:type_of% @PySem.Heap.lt_size:=@PySem.Heap.lt_size
theorem Qwj:type_of% @PySem.Heap.get?_push_size:=@PySem.Heap.get?_push_size
def Qwk:type_of% @List.not_mem_nil:=@List.not_mem_nil
def Qwv:type_of% @List.getElem?_map:=@List.getElem?_map
def Qww:type_of% @List.mem_of_getElem?:=@List.mem_of_getElem?
def Qwy:type_of% @List.mem_map:=@List.mem_map
def Qw0:type_of% @decide_eq_false:=@decide_eq_false
def Qw1:type_of% @List.mem_append:=@List.mem_append
def Qw2:type_of% @Option.some.inj:=@Option.some.inj
def Qw3:type_of% @List.getElem?_set_ne:=@List.getElem?_set_ne
def Qw4:type_of% @Nat.lt_of_le_of_lt:=@Nat.lt_of_le_of_lt
def Qw5:type_of% @Bool.false_ne_true:=@Bool.false_ne_true
def Qw6:type_of% @List.map_append:=@List.map_append
def Qw7:type_of% @List.getElem?_set_self:=@List.getElem?_set_self
def Qw8:type_of% @decide_eq_true:=@decide_eq_true
def Qw9:type_of% @Nat.ne_of_lt:=@Nat.ne_of_lt
def Qxq:type_of% @List.append_nil:=@List.append_nil
def Qxx:type_of% @List.getElem?_append_left:=@List.getElem?_append_left
def Qxz:type_of% @Option.some.injEq:=@Option.some.injEq
def Qxj:type_of% @List.map_map:=@List.map_map
def Qxk:type_of% @of_decide_eq_true:=@of_decide_eq_true
def Qxv:type_of% @List.append_assoc:=@List.append_assoc
def Qxw:type_of% @List.all_eq_true:=@List.all_eq_true
def Qxy:type_of% @Nat.zero_le:=@Nat.zero_le
def Qx0:type_of% @List.mem_append_right:=@List.mem_append_right
def Qx1:type_of% @Option.bind_eq_some_iff:=@Option.bind_eq_some_iff
def Qx2:type_of% @List.length_nil:=@List.length_nil
theorem Qx3:type_of% @PySem.Heap.size_push:=@PySem.Heap.size_push
def Qx4:type_of% @List.getElem?_append_right:=@List.getElem?_append_right
def Qx5:type_of% @congrArg:=@congrArg
def Qx6:type_of% @or_false:=@or_false
def Qx7:type_of% @Nat.pow_le_pow_right:=@Nat.pow_le_pow_right
def Qx8:type_of% @PyProof.Rows.callWith_type1:=@PyProof.Rows.callWith_type1
def Qx9:type_of% @List.map_congr_left:=@List.map_congr_left
def Qzq:type_of% @List.nodup_cons:=@List.nodup_cons
def Qzx:type_of% @List.length_set:=@List.length_set
def Qzz:type_of% @List.lookup_cons:=@List.lookup_cons
def Qzj:type_of% @List.length_take:=@List.length_take
def Qzk:type_of% @List.length_drop:=@List.length_drop
def Qzv:type_of% @List.getElem_mem:=@List.getElem_mem
def Qzw:type_of% @Nat.lt_irrefl:=@Nat.lt_irrefl
def Qzy:type_of% @Option.isSome_iff_exists:=@Option.isSome_iff_exists
def Qz0:type_of% @Nat.ne_of_gt:=@Nat.ne_of_gt
def Qz1:type_of% @beq_eq_false_iff_ne:=@beq_eq_false_iff_ne
def Qz2:type_of% @Array.length_toList:=@Array.length_toList
def Qz3:type_of% @List.length_replicate:=@List.length_replicate
theorem Qz4:type_of% @PySem.wpAny_holding:=@PySem.wpAny_holding
theorem Qz5:type_of% @PySem.wpAny_callSpecial?_slot:=@PySem.wpAny_callSpecial?_slot
def Qz6:type_of% @List.find?_cons:=@List.find?_cons
theorem Qz7:type_of% @PySem.wpAny_call_entry:=@PySem.wpAny_call_entry
def Qz8:type_of% @List.getElem?_take_of_lt:=@List.getElem?_take_of_lt
theorem Qz9:type_of% @PySem.wpAny_field:=@PySem.wpAny_field
def Qjq:type_of% @List.getElem?_replicate:=@List.getElem?_replicate
def Qjx:type_of% @List.mem_append_left:=@List.mem_append_left
def Qjz:type_of% @Bool.and_eq_true:=@Bool.and_eq_true
def Qjj:type_of% @List.take_of_length_le:=@List.take_of_length_le
def Qjk:type_of% @List.length_pos_of_mem:=@List.length_pos_of_mem
theorem Qjv:type_of% @PySem.wpAny_mono:=@PySem.wpAny_mono
def Qjw:type_of% @List.flatten_append:=@List.flatten_append
def Qjy:type_of% @PyProof.Rows.slot_tuple_getitem:=@PyProof.Rows.slot_tuple_getitem
def Qj0:type_of% @List.foldl_cons:=@List.foldl_cons
def Qj1:type_of% @List.getElem?_toArray:=@List.getElem?_toArray
def Qj2:type_of% @Nat.le_add_right:=@Nat.le_add_right
def Qj3:type_of% @List.mem_flatMap:=@List.mem_flatMap
def Qj4:type_of% @List.eq_nil_of_length_eq_zero:=@List.eq_nil_of_length_eq_zero
def Qj5:type_of% @Bool.and_eq_true_iff:=@Bool.and_eq_true_iff
theorem Qj6:type_of% @PySem.wpAny_seqItems:=@PySem.wpAny_seqItems
theorem Qj7:type_of% @PySem.wpAny_newObj_type:=@PySem.wpAny_newObj_type
def Qj8:type_of% @Array.getD_eq_getD_getElem?:=@Array.getD_eq_getD_getElem?
def Qj9:type_of% @List.cons.inj:=@List.cons.inj
theorem Qkq:type_of% @PySem.wpAny_setField_rec:=@PySem.wpAny_setField_rec
def Qkx:type_of% @Nat.le_of_ble_eq_true:=@Nat.le_of_ble_eq_true
def Qkz:type_of% @List.getElem?_eq_none:=@List.getElem?_eq_none
def Qkj:type_of% @Array.getElem?_toList:=@Array.getElem?_toList
def Qkk:type_of% @List.mem_range:=@List.mem_range
def Qkv:type_of% @List.forIn_nil:=@List.forIn_nil
def Qkw:type_of% @List.drop_eq_getElem_cons:=@List.drop_eq_getElem_cons
def Qky:type_of% @Nat.mul_le_mul_right:=@Nat.mul_le_mul_right
theorem Qk0:type_of% @PySem.wpAny_passesOwn:=@PySem.wpAny_passesOwn
def Qk1:type_of% @Nat.not_lt_zero:=@Nat.not_lt_zero
def Qk2:type_of% @List.nil_prefix:=@List.nil_prefix
def Qk3:type_of% @Int.toNat_natCast:=@Int.toNat_natCast
theorem Qk4:type_of% @PySem.mem_of_lookup:=@PySem.mem_of_lookup
def Qk5:type_of% @Nat.mul_le_mul_left:=@Nat.mul_le_mul_left
def Qk6:type_of% @List.length_reverse:=@List.length_reverse
def Qk7:type_of% @List.filter_eq_self:=@List.filter_eq_self
def Qk8:type_of% @List.filterMap_cons:=@List.filterMap_cons
def Qk9:type_of% @beq_self_eq_true:=@beq_self_eq_true
def Qvq:type_of% @List.pairwise_cons:=@List.pairwise_cons
def Qvx:type_of% @Nat.le_succ:=@Nat.le_succ
def Qvz:type_of% @List.forIn_cons:=@List.forIn_cons
def Qvj:type_of% @Bool.eq_iff_iff:=@Bool.eq_iff_iff
def Qvk:type_of% @Option.isSome_map:=@Option.isSome_map
def Qvv:type_of% @Nat.lt_succ_of_lt:=@Nat.lt_succ_of_lt
def Qvw:type_of% @Nat.le_of_succ_le:=@Nat.le_of_succ_le
def Qvy:type_of% @Nat.mul_le_mul:=@Nat.mul_le_mul
def Qv0:type_of% @Nat.le_of_lt:=@Nat.le_of_lt
def Qv1:type_of% @List.map_nil:=@List.map_nil
abbrev mU(x:PySem.Str):Prop:=(x == ("__debug__" : PySem.Str))=false
abbrev uG(x:PySem.Str):Prop:=(x == ("__classdict__" : PySem.Str))=false
open PySem PySem.Spec PyProof.Rows in
abbrev Dy(e:Expr)(E:PySem.Env):Prop:=starEach [e] E=(false,eval e E)::starEach [] E
namespace L2
open PySem PySem.Spec PyProof.Rows
inductive NK where
 | num (i:Int)
 | txt (x:Str)
 | tup (xs:List NK)
noncomputable instance:DecidableEq NK:=λ_ _=>Classical.propDecidable _
mutual
def Cy(h:Heap):NK->Value->Prop
 | .num i,v=>(∃t,v = .int i t)\/∃b:Bool,v = .bool b/\i=if b then 1 else 0
 | .txt x,v=>∃t,v = .str x t
 | .tup ks,v=>∃a o items n,v = .ref a/\h.get? a=some o/\o.cls = .type "tuple"/\o.data = .seq items n/\pq h ks items.toList
def pq(h:Heap):List NK->List Value->Prop
 | [],vs=>vs=[]
 | k::ks,vs=>∃v r,vs=v::r/\Cy h k v/\pq h ks r
end
mutual
def NK.dep:NK->Nat
 | .num _=>0
 | .txt _=>0
 | .tup ks=>1+NK.nO ks
def NK.nO:List NK->Nat
 | []=>0
 | k::ks=>max (NK.dep k) (NK.nO ks)
end
mutual
def NK.draws:NK->Nat
 | .num _=>1
 | .txt _=>1
 | .tup ks=>NK.qg ks+1
def NK.qg:List NK->Nat
 | []=>0
 | k::ks=>NK.draws k+NK.qg ks
end
section
variable(P:Program)(w:World)
mutual
def NK.hash:NK->Int
 | .num i=>hashInt i
 | .txt x=>(strKind P w).hash x
 | .tup ks=>reduceHash (Builtin.Tuple.tupleHashOf (NK.hashes ks))
def NK.hashes:List NK->List Int
 | []=>[]
 | k::ks=>NK.hash k::NK.hashes ks
end
end
theorem pq.length{h:Heap}:∀{ks:List NK} {vs:List Value},pq h ks vs->vs.length=ks.length
 | [],_,e=>by cases e;rfl
 | k::ks,_,e=>by obtain⟨v,r,rfl,_,q⟩:=e;rw[Qqw,Qqw,q.length]
theorem pq.get{h:Heap}:∀{ks:List NK} {vs:List Value} {j:Nat} {v:Value},pq h ks vs->vs[j]? = some v->∃k,ks[j]? = some k/\Cy h k v
 | [],_,_,_,e,g=>by cases e;simp at g
 | k::ks,_,j,v,e,g=>by
  obtain⟨u,r,rfl,h1,h2⟩:=e;cases j with
  | zero=>simp at g;subst g;exact⟨k,rfl,h1⟩
  | succ j=>obtain⟨k',e1,e2⟩:=pq.get h2 (j:=j) (by simpa using g);exact⟨k',by simpa using e1,e2⟩
theorem NK.BL:∀{ks:List NK} {j:Nat} {k:NK},ks[j]? = some k->k.dep<=NK.nO ks
 | [],_,_,e=>by simp at e
 | c::ks,j,k,e=>by
  unfold NK.nO;cases j with
  | zero=>simp at e;subst e;exact Nat.le_max_left _ _
  | succ j=>exact Qq3 (NK.BL (j:=j) (by simpa using e)) (Nat.le_max_right _ _)
mutual
theorem Cy.inj{h:Heap}:∀{x y:NK} {v:Value},Cy h x v->Cy h y v->x=y
 | .num i,.num j,v,a,b=>by
  rcases a with ⟨t,rfl⟩|⟨c,rfl,rfl⟩
  ·rcases b with ⟨t',e⟩|⟨c,e,_⟩
   ·cases e;rfl
   ·cases e
  ·rcases b with ⟨t',e⟩|⟨c,e,rfl⟩
   ·cases e
   ·cases e;rfl
 | .num i,.txt x,v,a,b=>by obtain⟨t,rfl⟩:=b;rcases a with ⟨t',e⟩|⟨c,e,_⟩<;>cases e
 | .num i,.tup ks,v,a,b=>by obtain⟨_,_,_,_,rfl,_⟩:=b;rcases a with ⟨t',e⟩|⟨c,e,_⟩<;>cases e
 | .txt x,.num i,v,a,b=>by obtain⟨t,rfl⟩:=a;rcases b with ⟨t',e⟩|⟨c,e,_⟩<;>cases e
 | .txt x,.txt y,v,a,b=>by obtain⟨t,rfl⟩:=a;obtain⟨t',e⟩:=b;cases e;rfl
 | .txt x,.tup ks,v,a,b=>by obtain⟨t,rfl⟩:=a;obtain⟨_,_,_,_,e,_⟩:=b;cases e
 | .tup ks,.num i,v,a,b=>by obtain⟨_,_,_,_,rfl,_⟩:=a;rcases b with ⟨t',e⟩|⟨c,e,_⟩<;>cases e
 | .tup ks,.txt y,v,a,b=>by obtain⟨_,_,_,_,rfl,_⟩:=a;obtain⟨t',e⟩:=b;cases e
 | .tup ks,.tup ls,v,a,b=>by
  obtain⟨p,o,items,n,rfl,h1,_,h3,h4⟩:=a;obtain⟨p',o',items',n',e,h1',_,h3',h4'⟩:=b;cases e;rw[h1] at h1';cases h1';rw[h3] at h3';cases h3';rw[pq.inj h4 h4']
theorem pq.inj{h:Heap}:∀{x y:List NK} {v:List Value},pq h x v->pq h y v->x=y
 | [],[],_,_,_=>rfl
 | [],k::ks,_,a,b=>by cases a;obtain⟨_,_,e,_⟩:=b;cases e
 | k::ks,[],_,a,b=>by cases b;obtain⟨_,_,e,_⟩:=a;cases e
 | k::ks,l::ls,_,a,b=>by
  obtain⟨v,r,rfl,h1,h2⟩:=a;obtain⟨v',r',e,h1',h2'⟩:=b;cases e;rw[Cy.inj h1 h1',pq.inj h2 h2']
end
mutual
theorem Cy.keeps{h h':Heap}{d:Addr}{o:Obj}{es ep}(ho:h.get? d=some o)(hd:o.data = .dict es ep)(hs:Heap.SameBut d h h'):∀{k:NK} {v:Value},Cy h k v->Cy h' k v
 | .num _,_,e=>e
 | .txt _,_,e=>e
 | .tup ks,_,e=>by
  obtain⟨a,o',items,n,rfl,h1,h2,h3,h4⟩:=e;have hne:a≠d:=by rintro rfl;rw[h1] at ho;cases ho;rw[h3] at hd;cases hd
  exact⟨a,o',items,n,rfl,(hs.2 a hne).trans h1,h2,h3,pq.keeps ho hd hs h4⟩
theorem pq.keeps{h h':Heap}{d:Addr}{o:Obj}{es ep}(ho:h.get? d=some o)(hd:o.data = .dict es ep)(hs:Heap.SameBut d h h'):∀{ks:List NK} {vs:List Value},pq h ks vs->pq h' ks vs
 | [],_,e=>e
 | k::ks,_,e=>by obtain⟨v,r,rfl,h1,h2⟩:=e;exact⟨v,r,rfl,Cy.keeps ho hd hs h1,pq.keeps ho hd hs h2⟩
end
section
variable{P:Program}{w:World}
def Rv{A:Around}{E:Value->Shared->Prop}{s:Shared}{b:Bool}{Q:Int->Shared->Prop}(h:Q (hashInt (if b then 1 else 0)) { s with toks:=s.toks+1 }):wpAny (model P w) A (pyHash (.bool b)) Q E s:=by
 have hT:s.TypeIs (.bool b) "bool":=rfl;have hr:=rawHash_range (if b then 1 else 0);unfold pyHash;have hv:[Value.bool b].any Value.onHeap=false:=rfl;refine Qqq ?_;rw[cRoomFor,if_neg (by rw[hv];exact Qw5)];refine Qq2 ?_;refine Qqq (wpAny_specialOf hT F.slot_bool_hash.lookup ?_);show wpAny _ _ (if (some (Value.builtin "int.__hash__") == some Value.none)=true then _ else _) Q E s;rw[if_neg (by rw[beq_builtin_none];exact Qw5)];refine Qqq (wpAny_specialOf hT F.slot_bool_hash.lookup ?_);show wpAny _ _ (callSpecialIfBoundUnlessNone? (.bool b) "__hash__" _ >>= _) Q E s;refine Qqq (wpAny_callSpecialIfBoundUnlessNone?_slot hT F.slot_bool_hash
  (Qz7 F.slot_bool_hash hT entry_int_hash
   (show wpAny _ _ (do ret (<-mkInt (rawHash (if b then 1 else 0)))) _ _ s from wpAny_ret_mkInt ?_) (args_int_hash _)))
 show wpAny _ _ (if (decide (-(2:Int)^63<=rawHash (if b then 1 else 0))&&decide (rawHash (if b then 1 else 0)<2^63))=true then _ else _) Q E _;rw[if_pos (by rw[Qw8 hr.1,Qw8 hr.2];rfl)];exact Qq2 h
mutual
theorem Vx:∀(k:NK) (v:Value) (A:Around) (E:Value->Shared->Prop) (s:Shared) (Q:Int->Shared->Prop),A.units+k.dep<cLine->Cy s.heap k v->Q (k.hash P w) { s with toks:=s.toks+k.draws }->wpAny (model P w) A (pyHash v) Q E s
 | .num i,v,A,E,s,Q,hu,e,h=>by
  rcases e with ⟨t,rfl⟩|⟨b,rfl,rfl⟩
  ·exact wpAny_pyHash_int h
  ·exact Rv h
 | .txt x,v,A,E,s,Q,hu,e,h=>by
  obtain⟨t,rfl⟩:=e;exact wpAny_pyHash_str h
 | .tup ks,v,A,E,s,Q,hu,e,h=>by
  obtain⟨a,o,items,n,rfl,ho,hc,hd,hi⟩:=e;have hT:s.TypeIs (.ref a) "tuple":=⟨o,ho,hc⟩;have adt:(NK.tup ks).dep=1+NK.nO ks:=by rw[NK.dep]
  rw[adt] at hu;have hu0:A.units<cLine:=by omega
  have hin:A.in1.units+NK.nO ks<cLine:=by show A.units+1+NK.nO ks<cLine;omega
  unfold pyHash
  first|unfold pyHashByItsType|skip
  first|refine Qqq (wpAny_cRoomFor_or (.inr hu0) ?_)|skip
  refine Qqq (wpAny_specialOf hT F.slot_tuple_hash.lookup ?_);show wpAny _ _ (if (some (Value.builtin "tuple.__hash__") == some Value.none)=true then _ else _) Q E s;rw[if_neg (by rw[beq_builtin_none];exact Qw5)];refine Qqq (wpAny_specialOf hT F.slot_tuple_hash.lookup ?_);show wpAny _ _ (callSpecialIfBoundUnlessNone? (.ref a) "__hash__" _ >>= _) Q E s;refine Qqq (wpAny_callSpecialIfBoundUnlessNone?_slot hT F.slot_tuple_hash (Qz7 F.slot_tuple_hash hT F.entry_tuple_hash ?_ (F.args_tuple_hash_1 _)));show wpAny _ _ (Builtin.Tuple.tupleItemsOf (.ref a) >>= _) _ _ s;refine Qqq (wpAny_tupleItemsOf ho hd ?_);refine Qqq ?_;rw[<-Array.forIn_toList];refine Jq ks items.toList A.in1 _ s _ _ #[] hin hi (λx b s' R q=>?_) ?_
  ·first
    | exact Qqq (Qjv q (λz s2 hz=>Qq2 hz) λ_ _ z=>z)
    | exact Qqq (Qjv q (λz s2 hz=>Qqq (Qq2 (Qq2 hz))) λ_ _ z=>z)
  ·show wpAny _ _ (retInt (Builtin.Tuple.tupleHashOf ((#[]:Array Int).toList++NK.hashes P w ks))) _ _ _;have hh:(NK.tup ks).hash P w=reduceHash (Builtin.Tuple.tupleHashOf (NK.hashes P w ks)):=by rw[NK.hash]
   have hdr:(NK.tup ks).draws=NK.qg ks+1:=by rw[NK.draws]
   rw[hh,hdr] at h;rw[show(#[]:Array Int).toList++NK.hashes P w ks=NK.hashes P w ks from rfl];refine wpAny_ret_mkInt ?_;show wpAny _ _ (if (decide (-(2:Int)^63<=Builtin.Tuple.tupleHashOf (NK.hashes P w ks))&&decide (Builtin.Tuple.tupleHashOf (NK.hashes P w ks)<2^63))=true then _ else _) Q E _;unfold reduceHash at h;by_cases hr:(decide (-(2:Int)^63<=Builtin.Tuple.tupleHashOf (NK.hashes P w ks))&&decide (Builtin.Tuple.tupleHashOf (NK.hashes P w ks)<2^63))=true
   ·rw[if_pos hr];rw[if_pos hr] at h;exact Qq2 (by simpa[Nat.add_assoc] using h)
   ·rw[if_neg hr];rw[if_neg hr] at h;exact Qqq (wpAny_rule (Qq2 (by simpa[Nat.add_assoc] using h)))
theorem Jq:∀(ks:List NK) (vs:List Value) (A:Around) (E:Value->Shared->Prop) (s:Shared) (body:Value->Array Int->Sem (ForInStep (Array Int))) (Q:Array Int->Shared->Prop) (acc:Array Int),A.units+NK.nO ks<cLine->pq s.heap ks vs->
  (∀x b s' (R:ForInStep (Array Int)->Shared->Prop),wpAny (model P w) A (pyHash x) (λz s2=>R (.yield (b.push z)) s2) E s'->wpAny (model P w) A (body x b) R E s')->
  Q (acc.toList++NK.hashes P w ks).toArray { s with toks:=s.toks+NK.qg ks }->wpAny (model P w) A (forIn vs acc body) Q E s
 | [],vs,A,E,s,body,Q,acc,hu,e,hb,q=>by
  cases e;rw[Qkv];refine Qq2 ?_;have:(acc.toList++NK.hashes P w []).toArray=acc:=by rw[NK.hashes];simp
  rw[this] at q;have e0:NK.qg []=0:=by rw[NK.qg]
  rw[e0] at q;exact q
 | k::ks,vs,A,E,s,body,Q,acc,hu,e,hb,q=>by
  obtain⟨v,r,rfl,h1,h2⟩:=e;have adt:NK.nO (k::ks)=max k.dep (NK.nO ks):=by rw[NK.nO]
  rw[adt] at hu;rw[Qvz];refine Qqq (hb v acc s _ (Vx k v A E s _ (by omega) h1 ?_));refine Jq ks r A E { s with toks:=s.toks+k.draws } body Q (acc.push (k.hash P w)) (by omega) h2 hb ?_;have e1:NK.hashes P w (k::ks)=k.hash P w::NK.hashes P w ks:=by rw[NK.hashes]
  have e2:NK.qg (k::ks)=k.draws+NK.qg ks:=by rw[NK.qg]
  rw[e1,e2] at q
  simpa[Nat.add_assoc] using q
end
theorem afH:∀(n:Nat) (x y:NK) (u v:Value) (A:Around) (s:Shared),x.dep<=n->A.units+n+1<cLine->Cy s.heap x u->Cy s.heap y v->SeqAt.EqAt A s u v (decide (x=y))
 | n,.num i,.num j,u,v,A,s,hn,hu,hx,hy=>by
  have e:decide (NK.num i=NK.num j)=(i == j):=by rw[Qvj];simp
  rw[e];rcases hx with ⟨t,rfl⟩|⟨b,rfl,rfl⟩
  ·rcases hy with ⟨t',rfl⟩|⟨c,rfl,rfl⟩
   ·exact SeqAt.EqAt.int_int i t j t'
   ·exact SeqAt.EqAt.int_bool i t c
  ·rcases hy with ⟨t',rfl⟩|⟨c,rfl,rfl⟩
   ·exact SeqAt.EqAt.bool_int b j t'
   ·have:((if b then (1:Int) else 0) == (if c then 1 else 0))=(b == c):=by cases b<;>cases c<;>rfl
    rw[this];exact SeqAt.EqAt.bool_bool b c
 | n,.num i,.txt z,u,v,A,s,hn,hu,hx,hy=>by
  rw[Qw0 (λe=>by cases e)];obtain⟨t,rfl⟩:=hy;rcases hx with ⟨t',rfl⟩|⟨b,rfl,rfl⟩
  ·exact SeqAt.EqAt.int_str i t' _ t
  ·exact SeqAt.EqAt.bool_str b _ t
 | n,.num i,.tup ks,u,v,A,s,hn,hu,hx,hy=>by
  rw[Qw0 (λe=>by cases e)];obtain⟨a,o,items,m,rfl,h1,h2,h3,_⟩:=hy;have p:s.heap.IsTuple a items:=⟨o,h1,h2,m,h3⟩;rcases hx with ⟨t',rfl⟩|⟨b,rfl,rfl⟩
  ·exact SeqAt.EqAt.int_tuple i t' p (by omega)
  ·exact SeqAt.EqAt.bool_tuple b p (by omega)
 | n,.txt z,.num i,u,v,A,s,hn,hu,hx,hy=>by
  rw[Qw0 (λe=>by cases e)];obtain⟨t,rfl⟩:=hx;rcases hy with ⟨t',rfl⟩|⟨b,rfl,rfl⟩
  ·exact SeqAt.EqAt.str_int _ t i t'
  ·exact SeqAt.EqAt.str_bool _ t b
 | n,.txt z,.txt z',u,v,A,s,hn,hu,hx,hy=>by
  have e:decide (NK.txt z=NK.txt z')=(z == z'):=by rw[Qvj];simp
  rw[e];obtain⟨t,rfl⟩:=hx;obtain⟨t',rfl⟩:=hy;exact SeqAt.EqAt.str_str _ t _ t'
 | n,.txt z,.tup ks,u,v,A,s,hn,hu,hx,hy=>by
  rw[Qw0 (λe=>by cases e)];obtain⟨t,rfl⟩:=hx;obtain⟨a,o,items,m,rfl,h1,h2,h3,_⟩:=hy;have p:s.heap.IsTuple a items:=⟨o,h1,h2,m,h3⟩;exact SeqAt.EqAt.str_tuple _ t p (by omega)
 | n,.tup ks,.num i,u,v,A,s,hn,hu,hx,hy=>by
  rw[Qw0 (λe=>by cases e)];obtain⟨a,o,items,m,rfl,h1,h2,h3,_⟩:=hx;have p:s.heap.IsTuple a items:=⟨o,h1,h2,m,h3⟩;rcases hy with ⟨t',rfl⟩|⟨b,rfl,rfl⟩
  ·exact SeqAt.EqAt.tuple_int i t' p (by omega)
  ·exact SeqAt.EqAt.tuple_bool b p (by omega)
 | n,.tup ks,.txt z,u,v,A,s,hn,hu,hx,hy=>by
  rw[Qw0 (λe=>by cases e)];obtain⟨a,o,items,m,rfl,h1,h2,h3,_⟩:=hx;have p:s.heap.IsTuple a items:=⟨o,h1,h2,m,h3⟩;obtain⟨t,rfl⟩:=hy;exact SeqAt.EqAt.tuple_str _ t p (by omega)
 | 0,.tup ks,.tup ls,u,v,A,s,hn,hu,hx,hy=>by
  rw[NK.dep] at hn;omega
 | n+1,.tup ks,.tup ls,u,v,A,s,hn,hu,hx,hy=>by
  have hx0:=hx;have hy0:=hy;obtain⟨a,o,items,m,rfl,h1,h2,h3,h4⟩:=hx;obtain⟨a',o',items',m',rfl,h1',h2',h3',h4'⟩:=hy;have p:s.heap.IsTuple a items:=⟨o,h1,h2,m,h3⟩;have p':s.heap.IsTuple a' items':=⟨o',h1',h2',m',h3'⟩;rw[NK.dep] at hn;by_cases haa:a=a'
  ·subst haa;rw[Qw8 (Cy.inj hx0 hy0)];exact SeqAt.EqAt.same _
  ·refine SeqAt.EqAt.of_refs haa ?_;have l1:=h4.length;have l2:=h4'.length;rw[Qz2] at l1 l2;have hu0:A.units<cLine:=by omega
   have:=SeqAt.RcAt.tuples (e:=λj=>decide (ks[j]? = ls[j]?)) p p' hu0 λj q1 q2=>?_
   ·have e:((List.range (min items.size items'.size)).all (λj=>decide (ks[j]? = ls[j]?))&&items.size == items'.size)=decide (NK.tup ks=NK.tup ls):=by
     rw[Qvj];simp only[Qjz,Qxw,Qkk,decide_eq_true_eq,beq_iff_eq,NK.tup.injEq];constructor
     ·rintro⟨g1,g2⟩;apply List.ext_getElem?;intro j;by_cases hj:j<min items.size items'.size
      ·exact g1 j hj
      ·rw[Qkz (by omega),Qkz (by omega)]
     ·rintro rfl;exact⟨λ_ _=>rfl,by omega⟩
    rw[<-e];exact this
   ·have g1:items.toList[j]? = some items[j]:=by simp
    have g2:items'.toList[j]? = some items'[j]:=by simp
    obtain⟨k,r1,r2⟩:=h4.get g1;obtain⟨l,r3,r4⟩:=h4'.get g2;have e:decide (ks[j]? = ls[j]?)=decide (k=l):=by rw[r1,r3];simp
    rw[e];exact afH n k l _ _ A.in1 s (Qq3 (NK.BL r1) (by omega)) (by show A.units+1+n+1<cLine;omega) r2 r4
theorem Oz:∀(n:Nat) (k:NK) (v:Value) (A:Around) (E:Value->Shared->Prop) (s:Shared) (Q:Bool->Shared->Prop),k.dep<=n->Cy s.heap k v->Q true s->wpAny (model P w) A (eqIsQuiet n v) Q E s
 | n,.num i,v,A,E,s,Q,hn,e,h=>by
  rcases e with ⟨t,rfl⟩|⟨b,rfl,rfl⟩
  ·rw[eqIsQuiet_byValue n rfl];exact Qq2 h
  ·rw[eqIsQuiet_byValue n rfl];exact Qq2 h
 | n,.txt x,v,A,E,s,Q,hn,e,h=>by
  obtain⟨t,rfl⟩:=e;rw[eqIsQuiet_byValue n rfl];exact Qq2 h
 | 0,.tup ks,v,A,E,s,Q,hn,e,h=>by
  rw[NK.dep] at hn;omega
 | n+1,.tup ks,v,A,E,s,Q,hn,e,h=>by
  obtain⟨a,o,items,m,rfl,ho,hc,hd,hi⟩:=e;rw[NK.dep] at hn;have hT:s.TypeIs (.ref a) "tuple":=⟨o,ho,hc⟩;unfold eqIsQuiet;refine Qqq (wpAny_specialOf hT F.slot_tuple_eq.lookup ?_);show wpAny _ _ (isInstance (.ref a) (.type "tuple") >>= _) _ _ s;refine Qqq (wpAny_isInstance hT isSubtype_tuple_tuple ?_);simp only[Bool.not_true,Bool.false_eq_true,if_false];refine Qqq (Qj6 ho hd ?_);refine Qqq ?_;show wpAny _ _ (forIn items _ _) _ _ s;rw[<-Array.forIn_toList];refine wpAny_forIn_list _ (λrest r s'=>r.1=none/\s'=s/\∀v∈rest,∃k:NK,k.dep<=n/\Cy s.heap k v) _ ?_ ?_ _ _ ⟨rfl,rfl,λv hv=>?_⟩
  ·rintro v rest r s' ⟨hr,rfl,hall⟩;obtain⟨k,hk1,hk2⟩:=hall v Qqv;refine Qqq (Oz n k v A E _ _ hk1 hk2 ?_);simp only[Bool.not_true,Bool.false_eq_true,if_false];exact Qq2 ⟨rfl,rfl,λu hu'=>hall u (Qqk _ hu')⟩
  ·rintro⟨r1,r2⟩ s' ⟨hr,rfl,_⟩;simp only at hr;subst hr;exact Qq2 h
  ·obtain⟨j,hj,rfl⟩:=List.mem_iff_getElem.mp hv;obtain⟨k,r1,r2⟩:=hi.get (Qq9 hj);exact⟨k,Qq3 (NK.BL r1) (by omega),r2⟩
noncomputable def rK(P:Program)(w:World):HeapKind P w NK where
 is:=λh k a=>Cy h k (.ref a)/\k.dep<=8
 hash:=NK.hash P w
 draws:=NK.draws
 room:=λA=>A.units+10<cLine
 inj:=λhx hy=>hx.1.inj hy.1
 keeps:=λx ho hd hs=>⟨x.1.keeps ho hd hs,x.2⟩
 pyHash:=λhu hk h=>Vx _ _ _ _ _ _ (by have:=hk.2;omega) hk.1 h
 eqBool:=λhu hx hy h=>afH 8 _ _ _ _ _ _ hx.2 (by omega) hx.1 hy.1 P w _ _ h
 quiet:=λhk h=>Oz 8 _ _ _ _ _ _ hk.2 hk.1 h
end
abbrev Key:=Sum Int Str
def Bk:Key->Value->Bool
 | .inl k,v=>Value.isInt k v
 | .inr x,v=>Value.isStrOf x v
def ahB(w:World):Key->Int
 | .inl k=>hashInt k
 | .inr x=>hashStr w x
theorem fc:∀{k:Key} {v:Value},Bk k v=true->(∃i t,k=Sum.inl i/\v=Value.int i t)\/(∃x t,k=Sum.inr x/\v=Value.str x t)
 | .inl i,v,h=>by
  obtain⟨t,e⟩:=Value.isInt_shape (k:=i) (v:=v) h;exact .inl ⟨i,t,rfl,e⟩
 | .inr x,v,h=>by
  obtain⟨t,e⟩:=Value.isStrOf_shape (x:=x) (v:=v) h;exact .inr ⟨x,t,rfl,e⟩
def Rn(i:Int)(t:Tok):Bk (.inl i) (.int i t)=true:=by simp[Bk,Value.isInt]
def Rm(x:Str)(t:Tok):Bk (.inr x) (.str x t)=true:=by simp[Bk,Value.isStrOf]
def ac9(a b:Int):decide ((Sum.inl a:Key)=Sum.inl b)=(a == b):=by
 by_cases e:a=b
 ·subst e;simp
 ·have h:¬(Sum.inl a:Key)=Sum.inl b:=λq=>e (Sum.inl.inj q);rw[Qw0 h];exact(Qz1.mpr e).symm
def ac6(a b:Str):decide ((Sum.inr a:Key)=Sum.inr b)=decide (a=b):=by
 by_cases e:a=b
 ·subst e;simp
 ·have h:¬(Sum.inr a:Key)=Sum.inr b:=λq=>e (Sum.inr.inj q);rw[Qw0 h,Qw0 e]
def ac8(a:Int)(b:Str):decide ((Sum.inl a:Key)=Sum.inr b)=false:=Qw0 (λq=>nomatch q)
def ac7(a:Str)(b:Int):decide ((Sum.inr a:Key)=Sum.inl b)=false:=Qw0 (λq=>nomatch q)
def dC(prog:Program)(w:World):PySem.KeyKind prog w Key where
 is:=Bk
 hash:=ahB w
 inj:=λv a b ha hb=>by
  rcases fc ha with ⟨i,t,rfl,rfl⟩|⟨x,t,rfl,rfl⟩
  ·rcases fc hb with ⟨j,u,rfl,e⟩|⟨y,u,rfl,e⟩
   ·injection e with e1 _;rw[e1]
   ·exact nomatch e
  ·rcases fc hb with ⟨j,u,rfl,e⟩|⟨y,u,rfl,e⟩
   ·exact nomatch e
   ·injection e with e1 _;rw[e1]
 byValue:=λk v h=>by
  rcases fc h with ⟨i,t,rfl,rfl⟩|⟨x,t,rfl,rfl⟩<;>rfl
 pyHash:=λhv h=>by
  rcases fc hv with ⟨i,t,rfl,rfl⟩|⟨x,t,rfl,rfl⟩
  ·exact wpAny_pyHash_int h
  ·exact wpAny_pyHash_str h
 eqBool:=λhu hv h=>by
  rcases fc hu with ⟨i,t,rfl,rfl⟩|⟨x,t,rfl,rfl⟩
  ·rcases fc hv with ⟨j,u,rfl,rfl⟩|⟨y,u,rfl,rfl⟩
   ·rw[ac9] at h;exact wpAny_eqBool_int h
   ·rw[ac8] at h;exact SeqAt.EqAt.int_str i t y u _ _ _ _ h
  ·rcases fc hv with ⟨j,u,rfl,rfl⟩|⟨y,u,rfl,rfl⟩
   ·rw[ac7] at h;exact SeqAt.EqAt.str_int x t j u _ _ _ _ h
   ·rw[ac6] at h;exact wpAny_eqBool_str h
 «strs»:=λk x t v h=>by
  rcases fc h with ⟨i,u,rfl,e⟩|⟨y,u,rfl,e⟩
  ·exact nomatch e
  ·injection e with e1 _
   subst e1;cases v<;>rfl
def Ju(prog:Program)(w:World)(i:Int)(t:Tok):(dC prog w).is (.inl i) (.int i t)=true:=Rn i t
def Jt(prog:Program)(w:World)(x:Str)(t:Tok):(dC prog w).is (.inr x) (.str x t)=true:=Rm x t
inductive V where
 | non|bl (b:Bool)|int (i:Int)|str (x:Str)|byt (b:Array UInt8)|flt (b:UInt64)|ref (a:Addr)|ty (n:String)
 deriving DecidableEq
def RelV:V->Value->Prop
 | .non,u=>u=Value.none
 | .bl b,u=>u=Value.bool b
 | .int i,u=>∃t,u=Value.int i t
 | .str x,u=>∃t,u=Value.str x t
 | .byt b,u=>∃t,u=Value.bytes b t
 | .flt b,u=>∃t,u=Value.float b t
 | .ref a,u=>u=Value.ref a
 | .ty n,u=>u=Value.type n
abbrev Vals:List V->List Value->Prop:=Paired RelV
def Vals.length{xs:List V}{us:List Value}(r:Vals xs us):xs.length=us.length:=Paired.length r
theorem Vals.get:∀{xs:List V} {us:List Value} {i:Nat} {x:V},Vals xs us->xs[i]? = some x->∃u,us[i]? = some u/\RelV x u
 | _,_,_,_,.nil,e=>by simp at e
 | _,_,0,_,.cons r _,e=>by simp at e;subst e;exact⟨_,rfl,r⟩
 | _,_,i+1,x,.cons _ t,e=>by
  obtain⟨u,h1,h2⟩:=Vals.get (i:=i) (x:=x) t (by simpa using e);exact⟨u,by simpa using h1,h2⟩
theorem Vals.set{x:V}{u:Value}(r:RelV x u):∀{xs:List V} {us:List Value} (i:Nat),Vals xs us->Vals (xs.set i x) (us.set i u)
 | _,_,_,.nil=>.nil
 | _,_,0,.cons _ t=>.cons r t
 | _,_,i+1,.cons q t=>.cons q (Vals.set r i t)
theorem Vals.append:∀{xs ys:List V} {us ws:List Value},Vals xs us->Vals ys ws->Vals (xs++ys) (us++ws)
 | _,_,_,_,.nil,s=>s
 | _,_,_,_,.cons r t,s=>.cons r (Vals.append t s)
theorem Vals.take:∀{xs:List V} {us:List Value} (n:Nat),Vals xs us->Vals (xs.take n) (us.take n)
 | _,_,0,_=>.nil
 | _,_,_+1,.nil=>.nil
 | _,_,n+1,.cons r t=>.cons r (Vals.take n t)
theorem Vals.drop:∀{xs:List V} {us:List Value} (n:Nat),Vals xs us->Vals (xs.drop n) (us.drop n)
 | _,_,0,r=>r
 | _,_,_+1,.nil=>.nil
 | _,_,n+1,.cons _ t=>Vals.drop n t
def wJ:Option V->Option Value->Prop
 | some v,some u=>RelV v u
 | none,none=>True
 | _,_=>False
def KV{κ:Type}:List (κ×V)->List (κ×Value)->Prop:=Paired λ(p:κ×V) (q:κ×Value)=>p.1=q.1/\RelV p.2 q.2
def kV:Key->V
 | .inl i=>.int i
 | .inr x=>.str x
inductive HO where
 /-- a list -/
 | lst (xs:List V)
 /-- a tuple (never changes) -/
 | tup (xs:List V)
 /-- a dict whose keys are ints and texts;one whose keys are tuples of ints and texts (the empty one is both) -/
 | dK (kvs:List (Key×V))|dT (kvs:List (List Key×V))|dN (kvs:List (NK×V×V))
 /-- a set of ints: its members,its size -/
 | set (S:Int->Bool) (n:Nat)
 /-- an instance of the class at C,its dict at dx,its attributes -/
 | ins (C dx:Addr) (fs:List (Str×V))
 /-- the dict of the instance at x -/
 | own (x:Addr)
 /-- the dict of an exception -/
 | xd (fs:List (Str×V))
 /-- a bound method,f of x -/
 | met (f x:Addr)
 /-- a range object lo,lo+1,.. below hi -/
 | rng (lo hi:Int)
 /-- a thing that is known to the object (the script;a dict while a loop walks it): read,never written while it is so -/
 | JP (o:Obj) (u:HO)
 /-- a code object's table -/
 | tbl (ps:Array Value)
 /-- a code object's table: whatever it holds,the codes made at these places are known and bear these names -/
 | tab (qs:List (Pos×Str))
 /-- any other thing,by what is true of its one object (a def of one's own: Xc a S n:=HO.ext λh=>..) -/
 | ext (φ:Heap->Prop)
abbrev Hp:=Addr->Option HO
def upd(H:Hp)(a:Addr)(o:HO):Hp:=λb=>if b=a then some o else H b
def bh{H:Hp}{a:Addr}{o:HO}:upd H a o a=some o:=by unfold upd;rw[if_pos rfl]
def bL{H:Hp}{a b:Addr}{o:HO}(h:b≠a):upd H a o b=H b:=by unfold upd;rw[if_neg h]
def XM{H:Hp}{a:Addr}{o u:HO}:upd (upd H a o) a u=upd H a u:=by funext b;unfold upd;split<;>rfl
def afE{H:Hp}{a b:Addr}{o u:HO}(h:H a=some o)(h':H b=some u)(d:o≠u):a≠b:=by intro e;subst e;rw[h] at h';exact d (Qw2 h')
def eF{H:Hp}{a b:Addr}{o:HO}(h:H a=some o)(h':H b=none):a≠b:=by intro e;subst e;rw[h] at h';cases h'
def Dh(h:Heap)(a:Addr)(items:Array Value):Prop:=∃o,h.get? a=some o/\o.cls = .type "tuple"/\(∃n,o.data = .seq items n)/\o.dict=none
def Dh.is{h:Heap}{a:Addr}{items:Array Value}(x:Dh h a items):IsTup h a items:=let ⟨o,h1,h2,h3,_⟩:=x;⟨o,h1,h2,h3⟩
def Dh.new(h:Heap)(items:Array Value):Dh (h.push { cls:=.type "tuple",data:=.seq items }) h.objs.size items:=⟨_,Qwj _ rfl,rfl,⟨_,rfl⟩,rfl⟩
section
variable(P:Program)(w:World)
def gH(H:Hp)(h:Heap)(a:Addr):HO->Prop
 | .lst xs=>xs.length<=sizeLine/\∃(its:List Value) (n:Nat),Vals xs its/\h.get? a=some { cls:=.type "list",data:=.seq its.toArray n }
 | .tup xs=>xs.length<=sizeLine/\∃its:List Value,Vals xs its/\Dh h a its.toArray
 | .dK kvs=>kvs.length<=sizeLine/\(a == sysModules)=false/\∃vs,KV kvs vs/\h.DictOf (dC P w) a vs
 | .dT kvs=>kvs.length<=sizeLine/\(a == sysModules)=false/\∃xs:List (List Key×Addr×Value),
   Paired (λ(p:List Key×V) (q:List Key×Addr×Value)=>p.1=q.1/\H q.2.1=some (.tup (p.1.map kV))/\RelV p.2 q.2.2) kvs xs/\
   ∃o es ep,h.get? a=some o/\o.ExactDict/\o.data = .dict es ep/\es.toList=xs.map (entryOfKey (tupleKind (dC P w)))/\(xs.map (·.1)).Nodup
 | .dN kvs=>kvs.length<=sizeLine/\(a == sysModules)=false/\∃xs:List (NK×Addr×Value),
   Paired (λ(p:NK×V×V) (q:NK×Addr×Value)=>p.1=q.1/\p.2.1 = .ref q.2.1/\RelV p.2.2 q.2.2) kvs xs/\
   ∃o es ep,h.get? a=some o/\o.ExactDict/\o.data = .dict es ep/\es.toList=xs.map (entryOfKey (rK P w))/\(xs.map (·.1)).Nodup
 | .set S n=>h.SetOf (intKind P w) a S n
 | .ins C dx fs=>H dx=some (.own a)/\fs.length<=1000/\dx≠a/\h.get? a=some (PySem.W.instObj C dx)/\
   ∃mA,h.Ns1 dx mA/\(∀f,wJ (fs.lookup f) (mA f))/\PySem.Within mA (fs.map (·.1))
 | .own _=>∃o,h.get? a=some o
 | .xd fs=>∃mA,h.Ns1 a mA/\∀f,wJ (fs.lookup f) (mA f)
 | .rng lo hi=>∃t u v,h.get? a=some { cls:=.type "range",data:=.fields #[.int lo t,.int hi u,.int 1 v] }
 | .JP o u=>h.get? a=some o/\gH H h a u
 | .tbl ps=>h.get? a=some { cls:=.none,data:=.fields ps }
 | .tab qs=>∃ps:Array Value,h.get? a=some { cls:=.none,data:=.fields ps }/\TriplesOk ps.toList/\∀q∈qs,codeAmong q.1 ps.toList=none\/∃(c:Addr) (o:Obj) (u:HO) (vs:Array Value) (t:Tok),codeAmong q.1 ps.toList=some (.ref c)/\H c=some (.JP o u)/\o.data = .fields vs/\vs[1]? = some (.str q.2 t)
 | .met f x=>h.get? a=some (PySem.W.methodObj (.ref f) (.ref x))
 | .ext φ=>φ h/\(∃o,h.get? a=some o)/\∀h1 h2:Heap,φ h1->(∀o,h1.get? a=some o->h2.get? a=some o)->φ h2
def wL(H:Hp)(h:Heap):Prop:=∀a o,H a=some o->gH P w H h a o
end
section
variable{P:Program}{w:World}{H H':Hp}{h h':Heap}{a:Addr}{o:HO}
def gH.lt(x:gH P w H h a o):a<h.objs.size:=by
 cases o with
 | lst xs=>obtain⟨_,_,_,_,e⟩:=x;exact Qwz e
 | tup xs=>obtain⟨_,_,_,p⟩:=x;exact p.is.lt
 | dK kvs=>obtain⟨_,_,_,_,o,_,_,e,_⟩:=x;exact Qwz e
 | dT kvs=>obtain⟨_,_,_,_,o,_,_,e,_⟩:=x;exact Qwz e
 | dN kvs=>obtain⟨_,_,_,_,o,_,_,e,_⟩:=x;exact Qwz e
 | set S n=>obtain⟨o,_,_,_,e,_⟩:=x;exact Qwz e
 | ins C dx fs=>obtain⟨_,_,_,e,_⟩:=x;exact Qwz e
 | own y=>obtain⟨_,e⟩:=x;exact Qwz e
 | xd fs=>obtain⟨_,⟨_,_,_,e,_⟩,_⟩:=x;exact Qwz e
 | rng lo hi=>obtain⟨_,_,_,e⟩:=x;exact Qwz e
 | JP ob u=>obtain⟨e,_⟩:=x;exact Qwz e
 | tbl ps=>exact Qwz (show h.get? a=some _ from x)
 | tab qs=>obtain⟨_,e,_⟩:=x;exact Qwz e
 | met f y=>exact Qwz (show h.get? a=some _ from x)
 | ext φ=>obtain⟨_,⟨_,e⟩,_⟩:=x;exact Qwz e
theorem Paired.ac4{α β:Type}{F G:α->β->Prop}:∀{l₁:List α} {l₂:List β},Paired F l₁ l₂->(∀a b,F a b->G a b)->Paired G l₁ l₂
 | _,_,.nil,_=>.nil
 | _,_,.cons r t,f=>.cons (f _ _ r) (Paired.ac4 t f)
def gH.stay(x:gH P w H h a o)(k:∀b u,(b=a\/H b=some (.own a))->h.get? b=some u->h'.get? b=some u)
  (ho:∀b,H b=some (.own a)->H' b=some (.own a)) (ht:∀b xs,H b=some (.tup xs)->H' b=some (.tup xs))
  (hz:∀(b:Addr) (o:Obj) (u:HO) (vs:Array Value),o.data = .fields vs->H b=some (.JP o u)->H' b=some (.JP o u):=by intro _ _ _ _ _ q;exact q):gH P w H' h' a o:=by
 induction o with
 | lst xs=>obtain⟨z,its,n,r,e⟩:=x;exact⟨z,its,n,r,k _ _ (.inl rfl) e⟩
 | tup xs=>obtain⟨z,its,r,ob,e,c⟩:=x;exact⟨z,its,r,ob,k _ _ (.inl rfl) e,c⟩
 | dK kvs=>obtain⟨z,y,vs,r,ob,es,ep,e,c⟩:=x;exact⟨z,y,vs,r,ob,es,ep,k _ _ (.inl rfl) e,c⟩
 | dT kvs=>
  obtain⟨z,y,xs,r,ob,es,ep,e,c⟩:=x;exact⟨z,y,xs,Paired.ac4 r λp q z=>⟨z.1,ht _ _ z.2.1,z.2.2⟩,ob,es,ep,k _ _ (.inl rfl) e,c⟩
 | dN kvs=>obtain⟨z,y,xs,r,ob,es,ep,e,c⟩:=x;exact⟨z,y,xs,r,ob,es,ep,k _ _ (.inl rfl) e,c⟩
 | set S n=>obtain⟨ob,es,ep,t,e,c⟩:=x;exact⟨ob,es,ep,t,k _ _ (.inl rfl) e,c⟩
 | ins C dx fs=>
  obtain⟨d,z,ne,e,mA,⟨od,es,ep,e2,c⟩,r⟩:=x;exact⟨ho _ d,z,ne,k _ _ (.inl rfl) e,mA,⟨od,es,ep,k _ _ (.inr d) e2,c⟩,r⟩
 | own y=>obtain⟨ob,e⟩:=x;exact⟨ob,k _ _ (.inl rfl) e⟩
 | xd fs=>obtain⟨mA,⟨od,es,ep,e,c⟩,r⟩:=x;exact⟨mA,⟨od,es,ep,k _ _ (.inl rfl) e,c⟩,r⟩
 | rng lo hi=>obtain⟨t,u,v,e⟩:=x;exact⟨t,u,v,k _ _ (.inl rfl) e⟩
 | JP ob u ih=>obtain⟨e,q⟩:=x;exact⟨k _ _ (.inl rfl) e,ih q⟩
 | tbl ps=>
  have e:h.get? a=some { cls:=.none,data:=.fields ps }:=x;show h'.get? a=some { cls:=.none,data:=.fields ps };exact k a _ (.inl rfl) e
 | tab qs=>
  obtain⟨ps,e,t,r⟩:=x;refine⟨ps,k a _ (.inl rfl) e,t,λq hq=>?_⟩;rcases r q hq with z|⟨c,o,u,vs,t,h1,h2,h3,h4⟩
  ·exact .inl z
  ·exact .inr ⟨c,o,u,vs,t,h1,hz c o u vs h3 h2,h3,h4⟩
 | met f y=>
  have e:h.get? a=some (PySem.W.methodObj (.ref f) (.ref y)):=x;show h'.get? a=some (PySem.W.methodObj (.ref f) (.ref y));exact k a _ (.inl rfl) e
 | ext φ=>obtain⟨p,⟨o,e⟩,st⟩:=x;exact⟨st _ _ p λo q=>k _ _ (.inl rfl) q,⟨o,k _ _ (.inl rfl) e⟩,st⟩
def wL.lt(x:wL P w H h)(e:H a=some o):a<h.objs.size:=(x a o e).lt
def wL.fresh(x:wL P w H h)(e:h.objs.size<=a):H a=none:=by
 cases q:H a with
 | none=>rfl
 | some u=>exact absurd (Qwx (x.lt q) e) (Qzw _)
def wL.kept(x:wL P w H h)(k:∀b u,h.get? b=some u->h'.get? b=some u):wL P w H h':=λa o e=>
 (x a o e).stay (λb u _ q=>k b u q) (λ_ q=>q) λ_ _ q=>q
def wL.laid(x:wL P w H h)(k:∀b u,h.get? b=some u->h'.get? b=some u)(hp:h.objs.size<=a)(new:gH P w (upd H a o) h' a o):wL P w (upd H a o) h':=λb u e=>by
 have hn:=x.fresh hp;by_cases hb:b=a
 ·subst hb;rw[bh] at e;cases e;exact new
 ·rw[bL hb] at e;exact(x b u e).stay (λc v _ q=>k c v q) (λc q=>by rw[bL (eF q hn)];exact q) (λc xs q=>by rw[bL (eF q hn)];exact q) λc _ _ _ _ q=>by rw[bL (eF q hn)];exact q
end
def Rd(H:Hp)(a:Addr)(u:HO):Prop:=H a=some u\/∃o,H a=some (.JP o u)
def Rd.ok{P:Program}{w:World}{H:Hp}{h:Heap}{a:Addr}{u:HO}(r:Rd H a u)(x:wL P w H h):gH P w H h a u:=by
 rcases r with r|⟨o,r⟩
 ·exact x a u r
 ·obtain⟨_,q⟩:=x a _ r;exact q
def Mut:Option HO->Prop
 | some (.lst _)=>True
 | some (.dK _)=>True
 | some (.dT _)=>True
 | some (.dN _)=>True
 | some (.set _ _)=>True
 | some (.ins _ _ _)=>True
 | some (.ext _)=>True
 | _=>False
section
variable{P:Program}{w:World}{H:Hp}{h h':Heap}{x e:Addr}{o':HO}
def wL.write(ok:wL P w H h)(mu:Mut (H x))(he:e=x\/H e=some (.own x))(k:∀b u,b≠e->h.get? b=some u->h'.get? b=some u)(heo:∃u,h'.get? e=some u)
  (new:gH P w (upd H x o') h' x o'):wL P w (upd H x o') h':=λb u q=>by
 have afA:∀c y,H c=some (.own y)->c≠x:=λc y r z=>by subst z;rw[r] at mu;exact mu
 have ahw:∀c xs,H c=some (.tup xs)->c≠x:=λc xs r z=>by subst z;rw[r] at mu;exact mu
 by_cases hb:b=x
 ·subst hb;rw[bh] at q;cases q;exact new
 ·rw[bL hb] at q;by_cases hbe:b=e
  ·have q':H b=some (.own x):=by
    rcases he with z|z
    ·exact absurd (hbe.trans z) hb
    ·rw[hbe];exact z
   rw[q] at q';cases q';obtain⟨v,hv⟩:=heo;exact⟨v,by rw[hbe];exact hv⟩
  ·refine(ok b u q).stay (λc v hc r=>k c v ?_ r) (λc r=>by rw[bL (afA c b r)];exact r) (λc xs r=>by rw[bL (ahw c xs r)];exact r) λc _ _ _ _ r=>by rw[bL (λz=>by subst z;rw[r] at mu;exact mu)];exact r
   rcases hc with rfl|hc
   ·exact hbe
   ·rintro rfl;rcases he with z|z
    ·exact afA c b hc z
    ·rw[hc] at z;cases z;exact hb rfl
end
structure Un(fs ex:List Addr)(H H':Hp)(h h':Heap):Prop where
 keep:∀b o,h.get? b=some o->H b=none->b ∉ fs->b ∉ ex->h'.get? b=some o
 slot:∀b o,h.get? b=some o->H b=none->b∈fs->b ∉ ex->∃sl,h'.get? b=some { o with slots:=sl }
 free:∀b o,h.get? b=some o->H b=none->b ∉ ex->H' b=none
 there:∀b o,h.get? b=some o->b ∉ ex->∃o',h'.get? b=some o'
 tups:∀b xs,H b=some (.tup xs)->H' b=some (.tup xs)
 Bp:∀b o u,H b=some (.JP o u)->H' b=some (.JP o u)
 Hw:∀b ps,H b=some (.tbl ps)->∃more,H' b=some (.tbl (ps++more))
 tabs:∀b qs,H b=some (.tab qs)->H' b=some (.tab qs)
section
variable{fs fs' ex ex':List Addr}{H H1 H2:Hp}{h h1 h2 h':Heap}{a x e:Addr}{o:HO}
def Un.any(u:Un fs ex H H1 h h1){b:Addr}{ob:Obj}(q:h.get? b=some ob)(n:H b=none)(hx:b ∉ ex):∃sl,h1.get? b=some { ob with slots:=sl }:=by
 by_cases hb:b∈fs
 ·exact u.slot b ob q n hb hx
 ·exact⟨ob.slots,u.keep b ob q n hb hx⟩
def Un.kept(k:∀b u,h.get? b=some u->h'.get? b=some u):Un fs ex H H h h':=
 ⟨λb ob q _ _ _=>k b ob q,λb ob q _ _ _=>⟨ob.slots,k b ob q⟩,λ_ _ _ n _=>n,λb ob q _=>⟨ob,k b ob q⟩,λ_ _ q=>q,λ_ _ _ q=>q,λ_ ps q=>⟨#[],by rw[q];simp⟩,λ_ _ q=>q⟩
def Un.refl:Un fs ex H H h h:=Un.kept λ_ _ q=>q
def Un.laid(k:∀b u,h.get? b=some u->h'.get? b=some u)(hp:h.objs.size<=a)(hn:H a=none):Un fs ex H (upd H a o) h h' where
 keep:=λb u q _ _ _=>k b u q
 slot:=λb u q _ _ _=>⟨u.slots,k b u q⟩
 free:=λb u q n _=>by rw[bL (Qw9 (Qwx (Qwz q) hp))];exact n
 there:=λb u q _=>⟨u,k b u q⟩
 tups:=λb xs q=>by rw[bL (eF q hn)];exact q
 Bp:=λb u xs q=>by rw[bL (eF q hn)];exact q
 Hw:=λb ps q=>⟨#[],by rw[bL (eF q hn),q];simp⟩
 tabs:=λb qs q=>by rw[bL (eF q hn)];exact q
def Un.write(mu:Mut (H x))(he:e=x\/H e=some (.own x))(k:∀b u,b≠e->h.get? b=some u->h'.get? b=some u)(heo:∃u,h'.get? e=some u):Un fs ex H (upd H x o) h h':=by
 have hx:∀b,H b=none->b≠x:=λb n z=>by subst z;rw[n] at mu;exact mu
 have hb:∀b,H b=none->b≠e:=λb n z=>by
  subst z;rcases he with r|r
  ·exact hx b n r
  ·rw[n] at r;cases r
 have hm:∀b u,H b=some u->¬Mut (some u)->b≠x:=λb u q nm z=>by subst z;rw[q] at mu;exact nm mu
 refine⟨λb u q n _ _=>k b u (hb b n) q,λb u q n _ _=>⟨u.slots,k b u (hb b n) q⟩,λb u q n _=>by rw[bL (hx b n)];exact n,λb u q _=>?_,
  λb xs q=>by rw[bL (hm b _ q λz=>z)];exact q,λb u xs q=>by rw[bL (hm b _ q λz=>z)];exact q,λb ps q=>⟨#[],by rw[bL (hm b _ q λz=>z),q];simp⟩,λb qs q=>by rw[bL (hm b _ q λz=>z)];exact q⟩
 by_cases hbe:b=e
 ·subst hbe;exact heo
 ·exact⟨u,k b u hbe q⟩
end
def trk(h:Heap)(H:Hp):List Addr:=(List.range h.objs.size).filter λa=>(H a).isSome
def Gx(h:Heap)(H:Hp):Heap:=PySem.W.hideAll h (trk h H)
def Ru(h:Heap)(H:Hp):(Gx h H).objs.size=h.objs.size:=PySem.W.hideAll_size _ _
def V9{h:Heap}{H:Hp}{b:Addr}{o:Obj}(e:h.get? b=some o)(n:H b=none):(Gx h H).get? b=some o:=
 PySem.W.hideAll_get _ e λhm=>by
  have q:(H b).isSome=true:=(List.mem_filter.mp hm).2;rw[n] at q;simp at q
def Y6{h:Heap}{H:Hp}{b:Addr}{o:Obj}(e:(Gx h H).get? b=some o):h.get? b=some o/\H b=none:=by
 have e':h.get? b=some o:=PySem.W.of_hideAll (trk h H) e;refine⟨e',?_⟩;cases q:H b with
 | none=>rfl
 | some x=>
  have hm:b∈trk h H:=List.mem_filter.mpr ⟨Qkk.mpr (Qwz e'),by simp[q]⟩;have z:(Gx h H).get? b=none:=PySem.W.hideAll_none (trk h H) hm;rw[z] at e;cases e
def aaf(g h:Heap)(L:Addr):List (Addr×Obj):=(List.range h.objs.size).filterMap λa=>if a=L\/(g.get? a).isSome=true then none else (h.get? a).map λo=>(a,o)
def rest(g h:Heap)(L d:Addr):List (Addr×Obj):=(aaf g h L).filter λp=>decide (p.1≠d)
structure Mod(K:PySem.W.Frag)(mg:Str->Option Value)(base:Heap):Prop where
 kin:K.In base
 glob:base.Ns mainGlobals mg
 blt:∃mb,base.Ns builtinsNs mb/\∀x:Str,x ≠ "__name__"->mb x=bootBuiltins x
 nolimit:base.NoLimit
structure Cx where
 prog:Program
 w:World
 K:PySem.W.Frag
 mg:Str->Option Value
 base:Heap
 A:Around
 N:List Str
 s₀:Shared
 H₀:Hp
 env:Env
 outer:List Env
 stack:List Env
 ex:List Addr
 fn:Str->Bool
 calm:Bool
 pn:List (Addr×Obj)
 xe:Value->Shared->Prop
def frs(l:List Env):List Addr:=l.filterMap (·.frame)
abbrev Cx.fs(X:Cx):List Addr:=frs X.outer
def tR(sc:Scope)(x:Str):Prop:=sc.names.lookup x=some .local\/sc.names.lookup x=some .cell\/sc.names.lookup x=some .free
def Loc(sc:Scope)(x:Str):Prop:=sc.names.lookup x=some .local\/sc.names.lookup x=some .cell
def Look(env:Env)(h:Heap)(m:Str->Option Value)(x:Str)(u:Value):Prop:=
 (env.kindOf x=some .local/\m x=some u)\/((env.kindOf x=some .cell\/env.kindOf x=some .free)/\∃c,env.cells.lookup x=some c/\h.IsCell c (some u))
structure Cx.Ok(X:Cx):Prop where
 mod:Mod X.K X.mg X.base
 kind:X.env.scope.kind = .function
 glob:X.env.globals=mainGlobals
 blt:X.env.builtins=builtinsNs
 above:X.s₀.heap.objs.size<=X.env.locals
 inj:∀x y c,X.env.cells.lookup x=some c->X.env.cells.lookup y=some c->x=y
 has:∀x,(X.env.kindOf x=some .cell\/X.env.kindOf x=some .free)->∃c,X.env.cells.lookup x=some c
 cab:∀x c,X.fn x=true->X.env.cells.lookup x=some c->X.s₀.heap.objs.size<=c
 hd:X.calm=true->X.A.handled=none
 frames:X.A.frames=some X.stack
 jw:X.stack=X.outer\/(X.stack=X.env::X.outer/\X.env.frame=some X.env.locals)
 exf:∀b∈X.ex,b≠X.env.locals/\∀x c,X.env.cells.lookup x=some c->c≠b
 bs:∀b o,X.base.get? b=some o->X.s₀.heap.get? b=some o/\X.H₀ b=none
 bsz:X.base.objs.size<=X.s₀.heap.objs.size
 Vq:∀b o,X.base.get? b=some o->b ∉ X.ex
 Wm:∀b∈X.ex,b ∉ X.fs
 Bo:X.s₀.heap.FunFrames X.base X.outer
 frf:∀b∈X.fs,X.H₀ b=none
structure Inv(X:Cx)(pins:List (Addr×Obj))(σ:List (Option V))(H:Hp)(s:Shared):Prop where
 ok:X.Ok
 os:s.os=X.s₀.os
 bare:AllBare s.gens
 base:Un X.fs X.ex X.H₀ H X.s₀.heap s.heap
 loc:∃m,s.heap.Ns X.env.locals m/\∀(i:Nat) (x:Str) (v:V),X.N[i]? = some x->σ[i]? = some (some v)->tR X.env.scope x->∃u,RelV v u/\Look X.env s.heap m x u
 cell:∀x c,X.env.cells.lookup x=some c->∃v,s.heap.IsCell c v
 free:H X.env.locals=none
 vX:∀x c,X.env.cells.lookup x=some c->H c=none\/(X.fn x=false/\∃o u,H c=some (.JP o u))
 pin:∀p∈X.pn++pins,s.heap.get? p.1=some p.2/\H p.1=none/\p.1≠X.env.locals/\p.1 ∉ X.fs/\∀v,p.2.data ≠ .cell v
 hok:wL X.prog X.w H s.heap
 len:σ.length=X.N.length
section
variable{X:Cx}{pins:List (Addr×Obj)}{σ:List (Option V)}{H H':Hp}{s:Shared}{h':Heap}
def Cx.Ok.ahy(ok:X.Ok){b:Addr}{o:Obj}(e:X.base.get? b=some o):b ∉ X.fs:=λhb=>by
 have:=(ok.Bo.mem hb).1;rw[e] at this;cases this
def Inv.bs(I:Inv X pins σ H s):∀b o,X.base.get? b=some o->s.heap.get? b=some o/\H b=none:=λb o e=>
 ⟨I.base.keep b o (I.ok.bs b o e).1 (I.ok.bs b o e).2 (I.ok.ahy e) (I.ok.Vq b o e),I.base.free b o (I.ok.bs b o e).1 (I.ok.bs b o e).2 (I.ok.Vq b o e)⟩
def Inv.bk(I:Inv X pins σ H s):∀b o,X.base.get? b=some o->s.heap.get? b=some o:=λb o e=>(I.bs b o e).1
def Inv.mod(I:Inv X pins σ H s):Mod X.K X.mg X.base:=I.ok.mod
def Inv.kIn(I:Inv X pins σ H s):X.K.In s.heap:=I.ok.mod.kin.keeps I.bk
def Inv.lt(I:Inv X pins σ H s):X.env.locals<s.heap.objs.size:=let ⟨_,hn,_⟩:=I.loc;hn.lt
def Inv.sz(I:Inv X pins σ H s):X.s₀.heap.objs.size<=s.heap.objs.size:=Qq3 I.ok.above (Qv0 I.lt)
def Inv.ahx(I:Inv X pins σ H s){a:Addr}(h:s.heap.objs.size<=a):a ∉ X.fs:=λhb=>by
 obtain⟨_,o,ho,_⟩:=I.ok.Bo.mem hb;exact absurd (Qwx (Qwz ho) (Qq3 I.sz h)) (Qzw _)
def Inv.cne(I:Inv X pins σ H s):∀x c,X.env.cells.lookup x=some c->c≠X.env.locals:=λx c e z=>by
 obtain⟨v,o,ho,hd⟩:=I.cell x c e;obtain⟨m,⟨o',es,ep,ho',hd',_⟩,_⟩:=I.loc;rw[z,ho'] at ho;cases ho;rw[hd'] at hd;cases hd
def Inv.Bo(I:Inv X pins σ H s):s.heap.FunFrames X.base X.outer:=by
 have all:∀(l:List Env),(∀b∈frs l,b∈X.fs)->X.s₀.heap.FunFrames X.base l->s.heap.FunFrames X.base l:=by
  intro l
  induction l with
  | nil=>intro _ _;trivial
  | cons env r ih=>
   intro hs hl;obtain⟨hk,⟨L,o,hf,hn,ho,hd⟩,hr⟩:=hl;have hL:L∈X.fs:=hs L (by unfold frs;rw[Qk8,hf];exact Qqv);obtain⟨sl,e⟩:=I.base.slot L o ho (I.ok.frf L hL) hL λz=>I.ok.Wm L z hL;exact⟨hk,⟨L,_,hf,hn,e,hd⟩,ih (λb hb=>hs b (by unfold frs;rw[Qk8,hf];exact Qqk _ hb)) hr⟩
 exact all X.outer (λ_ hb=>hb) I.ok.Bo
def Inv.stack(I:Inv X pins σ H s):s.heap.FunFrames X.base X.stack:=by
 rcases I.ok.jw with e|⟨e,hf⟩
 ·rw[e];exact I.Bo
 ·rw[e];obtain⟨m,hn,_⟩:=I.loc;refine .cons (by rw[I.ok.kind];decide) hf hn ?_ I.Bo;exact Heap.get?_none_of_le (Qq3 I.ok.bsz I.ok.above)
def Inv.Lj(I:Inv X pins σ H s):∀b∈frs X.stack,b∈X.env.locals::X.fs:=λb hb=>by
 rcases I.ok.jw with e|⟨e,hf⟩
 ·rw[e] at hb;exact Qqk _ hb
 ·rw[e] at hb;unfold frs at hb;rw[Qk8,hf] at hb;exact hb
def Inv.NP(I:Inv X pins σ H s):∀b∈frs X.stack,H b=none:=λb hb=>by
 rcases Qq1.mp (I.Lj b hb) with e|hb
 ·rw[e];exact I.free
 ·obtain⟨_,o,ho,_⟩:=I.ok.Bo.mem hb;exact I.base.free b o ho (I.ok.frf b hb) λz=>I.ok.Wm b z hb
def Inv.step{g':Array GenState}{t':Nat}{d':Drawn}{ch:List Addr}(I:Inv X pins σ H s)
  (hch:∀b∈ch,(b∈X.ex\/X.s₀.heap.objs.size<=b)/\b≠X.env.locals/\(∀x c,X.env.cells.lookup x=some c->c≠b)/\∀p∈X.pn++pins,p.1≠b)
  (keep:∀b o,b≠X.env.locals->b ∉ X.fs->b ∉ ch->s.heap.get? b=some o->H b=none->h'.get? b=some o)
  (slot:∀b o,b≠X.env.locals->b∈X.fs->b ∉ ch->s.heap.get? b=some o->H b=none->∃sl,h'.get? b=some { o with slots:=sl }) (free:∀b o,b ∉ ch->s.heap.get? b=some o->H b=none->H' b=none)
  (there:∀b o,b ∉ ch->s.heap.get? b=some o->∃o',h'.get? b=some o')
  (tups:∀b xs,H b=some (.tup xs)->H' b=some (.tup xs)) (Bp:∀b o u,H b=some (.JP o u)->H' b=some (.JP o u)) (Hw:∀b ps,H b=some (.tbl ps)->∃more,H' b=some (.tbl (ps++more)))
  (ns:∀m,s.heap.Ns X.env.locals m->h'.Ns X.env.locals m) (hok:wL X.prog X.w H' h') (hg:AllBare g')
  (tabs:∀(b:Addr) (qs:List (Pos×Str)),H b=some (.tab qs)->H' b=some (.tab qs):=by intro _ _ q;exact q) :
  Inv X pins σ H' { s with heap:=h',gens:=g',drawn:=d',toks:=t' }:=by
 have neL:∀b o,X.s₀.heap.get? b=some o->b≠X.env.locals:=λb o e=>Qw9 (Qwx (Qwz e) I.ok.above);have neC:∀b o,X.s₀.heap.get? b=some o->b ∉ X.ex->b ∉ ch:=λb o e hx hb=>by
  rcases(hch b hb).1 with z|z
  ·exact hx z
  ·exact absurd (Qwx (Qwz e) z) (Qzw _)
 have cellK:∀x c,X.env.cells.lookup x=some c->∀v,s.heap.IsCell c v->h'.IsCell c v:=λx c e v ⟨o,ho,hd⟩=>by
  have nch:c ∉ ch:=λz=>(hch c z).2.2.1 x c e rfl;rcases I.vX x c e with hn|⟨_,fo,fu,hz⟩
  ·by_cases hc:c∈X.fs
   ·obtain⟨sl,q⟩:=slot c o (I.cne x c e) hc nch ho hn;exact⟨_,q,hd⟩
   ·exact⟨o,keep c o (I.cne x c e) hc nch ho hn,hd⟩
  ·have e1:=(I.hok c _ hz).1;rw[ho] at e1;cases e1;exact⟨o,(hok c _ (Bp c o fu hz)).1,hd⟩
 refine⟨I.ok,I.os,hg,⟨λb o e n hb hx=>?_,λb o e n hb hx=>?_,λb o e n hx=>?_,λb o e hx=>?_,λb xs e=>tups b xs (I.base.tups b xs e),λb o xs e=>Bp b o xs (I.base.Bp b o xs e),λb ps e=>?_,λb qs e=>tabs b qs (I.base.tabs b qs e)⟩,?_,λx c e=>?_,?_,λx c e=>?_,λp hp=>?_,hok,I.len⟩
 ·exact keep b o (neL b o e) hb (neC b o e hx) (I.base.keep b o e n hb hx) (I.base.free b o e n hx)
 ·obtain⟨sl,e1⟩:=I.base.slot b o e n hb hx;obtain⟨sl',e2⟩:=slot b _ (neL b o e) hb (neC b o e hx) e1 (I.base.free b o e n hx);exact⟨sl',e2⟩
 ·obtain⟨o',e1⟩:=I.base.there b o e hx;exact free b o' (neC b o e hx) e1 (I.base.free b o e n hx)
 ·obtain⟨o',e1⟩:=I.base.there b o e hx;exact there b o' (neC b o e hx) e1
 ·obtain⟨m1,e1⟩:=I.base.Hw b ps e;obtain⟨m2,e2⟩:=Hw b _ e1;exact⟨m1++m2,by rw[e2,Array.append_assoc]⟩
 ·obtain⟨m,hn,hl⟩:=I.loc;refine⟨m,ns m hn,λi x v e1 e2 e3=>?_⟩;obtain⟨u,r,l⟩:=hl i x v e1 e2 e3;refine⟨u,r,?_⟩;rcases l with l|⟨k,c,e,z⟩
  ·exact .inl l
  ·exact .inr ⟨k,c,e,cellK x c e _ z⟩
 ·obtain⟨v,z⟩:=I.cell x c e;exact⟨v,cellK x c e v z⟩
 ·obtain⟨m,⟨o,_,_,ho,_⟩,_⟩:=I.loc;exact free _ o (λz=>(hch _ z).2.1 rfl) ho I.free
 ·rcases I.vX x c e with hn|⟨h1,fo,fu,hz⟩
  ·obtain⟨v,o,ho,hd⟩:=I.cell x c e;exact .inl (free c o (λz=>(hch c z).2.2.1 x c e rfl) ho hn)
  ·exact .inr ⟨h1,fo,fu,Bp c fo fu hz⟩
 ·obtain⟨e,n,ne,nf,d⟩:=I.pin p hp;have nch:p.1 ∉ ch:=λz=>(hch p.1 z).2.2.2 p hp rfl;exact⟨keep p.1 p.2 ne nf nch e n,free p.1 p.2 nch e n,ne,nf,d⟩
def Inv.un{t':Nat}(I:Inv X pins σ H s)(u:Un X.fs [] H H' s.heap h')(hok:wL X.prog X.w H' h'):Inv X pins σ H' { s with heap:=h',toks:=t' }:=by
 obtain⟨m,⟨o,es,ep,ho,r⟩,_⟩:=id I.loc;obtain⟨sl,hL⟩:=u.any ho I.free (by simp);exact I.step (g':=s.gens) (d':=s.drawn) (ch:=[]) (λ_ z=>nomatch z) (λb o _ hb _ e n=>u.keep b o e n hb (by simp)) (λb o _ hb _ e n=>u.slot b o e n hb (by simp)) (λb o _ e n=>u.free b o e n (by simp)) (λb o _ e=>u.there b o e (by simp)) u.tups u.Bp u.Hw (λm' hm=>by
  obtain⟨o',es',ep',ho',r'⟩:=hm;rw[ho] at ho';cases ho';exact⟨_,es',ep',hL,r'⟩) hok I.bare u.tabs
def Inv.call{g':Array GenState}{t':Nat}{d':Drawn}{ch:List Addr}(I:Inv X pins σ H s)(u:Un (frs X.stack) ch H H' s.heap h')(hok:wL X.prog X.w H' h')(hg:AllBare g')
  (hch:∀b∈ch,(b∈X.ex\/X.s₀.heap.objs.size<=b)/\b≠X.env.locals/\(∀x c,X.env.cells.lookup x=some c->c≠b)/\∀p∈X.pn++pins,p.1≠b) :
  Inv X pins σ H' { s with heap:=h',gens:=g',drawn:=d',toks:=t' }:=by
 obtain⟨m,⟨o,es,ep,ho,r⟩,_⟩:=id I.loc;obtain⟨sl,hL⟩:=u.any ho I.free λz=>(hch _ z).2.1 rfl;exact I.step (ch:=ch) hch (λb o hL hb hc e n=>u.keep b o e n (λz=>(Qq1.mp (I.Lj b z)).elim hL hb) hc) (λb o _ _ hc e n=>u.any e n hc) (λb o hc e n=>u.free b o e n hc) (λb o hc e=>u.there b o e hc) u.tups u.Bp u.Hw (λm' hm=>by
  obtain⟨o',es',ep',ho',r'⟩:=hm;rw[ho] at ho';cases ho';exact⟨_,es',ep',hL,r'⟩) hok hg u.tabs
def Inv.turned{t':Nat}{it:Addr}(I:Inv X pins σ H s)(k:∀b o,b≠it->s.heap.get? b=some o->h'.get? b=some o)(hn:H it=none)(hL:it≠X.env.locals)
  (h1:it∈X.ex\/X.s₀.heap.objs.size<=it) (h2:∀x c,X.env.cells.lookup x=some c->c≠it) (h3:∀p∈X.pn++pins,p.1≠it):Inv X pins σ H { s with heap:=h',toks:=t' }:=by
 have nit:∀b u,H b=some u->b≠it:=λb u e z=>by rw[z,hn] at e;cases e
 refine I.step (g':=s.gens) (d':=s.drawn) (ch:=[it]) (λb hb=>?_) (λb o _ _ hc e _=>k b o (λz=>hc (by simp[z])) e) (λb o _ _ hc e _=>⟨o.slots,k b o (λz=>hc (by simp[z])) e⟩) (λ_ _ _ _ n=>n)
  (λb o hc e=>⟨o,k b o (λz=>hc (by simp[z])) e⟩) (λ_ _ e=>e) (λ_ _ _ e=>e) (λb ps e=>⟨#[],by rw[e];simp⟩) (λm hm=>?_) (λb u e=>?_) I.bare
 ·have e:b=it:=by simpa using hb
  subst e;exact⟨h1,hL,h2,h3⟩
 ·obtain⟨o,es,ep,ho,r⟩:=hm;exact⟨o,es,ep,k _ o (Ne.symm hL) ho,r⟩
 ·refine(I.hok b u e).stay (λc v hc q=>k c v ?_ q) (λ_ q=>q) λ_ _ q=>q;rcases hc with z|z
  ·rw[z];exact nit b u e
  ·exact nit c _ z
def Inv.tok(I:Inv X pins σ H s)(t:Nat):Inv X pins σ H { s with toks:=t }:=I.un (h':=s.heap) (t':=t) Un.refl I.hok
def Inv.kept{t':Nat}(I:Inv X pins σ H s)(k:∀b u,s.heap.get? b=some u->h'.get? b=some u):Inv X pins σ H { s with heap:=h',toks:=t' }:=I.un (Un.kept k) (I.hok.kept k)
def Inv.laid{a:Addr}{o:HO}{t':Nat}(I:Inv X pins σ H s)(k:∀b u,s.heap.get? b=some u->h'.get? b=some u)(hp:s.heap.objs.size<=a)(new:gH X.prog X.w (upd H a o) h' a o) :
  Inv X pins σ (upd H a o) { s with heap:=h',toks:=t' }:=I.un (Un.laid k hp (I.hok.fresh hp)) (I.hok.laid k hp new)
def Inv.write{x e:Addr}{o:HO}{t':Nat}(I:Inv X pins σ H s)(mu:Mut (H x))(he:e=x\/H e=some (.own x))(k:∀b u,b≠e->s.heap.get? b=some u->h'.get? b=some u)(heo:∃u,h'.get? e=some u)
  (new:gH X.prog X.w (upd H x o) h' x o):Inv X pins σ (upd H x o) { s with heap:=h',toks:=t' }:=I.un (Un.write mu he k heo) (I.hok.write mu he k heo new)
def Inv.Om{aaP:List (Addr×Obj)}(I:Inv X pins σ H s)(h:∀p∈aaP,s.heap.get? p.1=some p.2/\H p.1=none/\p.1≠X.env.locals/\p.1 ∉ X.fs/\∀v,p.2.data ≠ .cell v):Inv X aaP σ H s:=
 ⟨I.ok,I.os,I.bare,I.base,I.loc,I.cell,I.free,I.vX,λp hp=>(Qw1.mp hp).elim (λz=>I.pin p (Qjx _ z)) (h p),I.hok,I.len⟩
def Jm{N:List Str}(hN:N.Nodup){i j:Nat}{x:Str}(a:N[i]? = some x)(b:N[j]? = some x):i=j:=by obtain⟨h1,e1⟩:=Qq4.mp a;obtain⟨h2,e2⟩:=Qq4.mp b;exact(List.getElem_inj hN).mp (e1.trans e2.symm)
def Ds{M:Model}{A:Around}{E:Value->Shared->Prop}{i:Nat}{x:Str}{v:V}{u:Value}{Q:Unit->Shared->Prop}(I:Inv X pins σ H s)(hN:X.N.Nodup)(hi:X.N[i]? = some x)(hx:Loc X.env.scope x)(r:RelV v u)
  (h:∀s',Inv X pins (σ.set i (some v)) H s'->(∃a,Heap.SameBut a s.heap s'.heap/\(a=X.env.locals\/X.env.cells.lookup x=some a))->Q () s') (hf:X.fn x=true\/X.env.scope.names.lookup x=some .local:=by first|exact .inl rfl|exact .inr rfl|assumption):wpAny M A (storeName X.env x u) Q E s:=by
 obtain⟨m,hn,hl⟩:=id I.loc;have hcls:(X.env.scope.kind == .class||(X.env.scope.kind == .module&&X.env.locals != X.env.globals))=false:=by rw[I.ok.kind];rfl
 have hiσ:i<σ.length:=by rw[I.len];exact(Qq4.mp hi).1
 have cne:=I.cne;have tracked:∀{a:Addr} {h':Heap},(∃o,s.heap.get? a=some o/\H a=none)->Heap.SameBut a s.heap h'->wL X.prog X.w H h':=λ{a h'} ha hs b ob e=>by
  obtain⟨_,_,hfree⟩:=ha;refine(I.hok b ob e).stay (λc w' hc q=>(hs.2 c ?_).trans q) (λ_ q=>q) λ_ _ q=>q;rintro rfl;rcases hc with rfl|hc
  ·rw[hfree] at e;cases e
  ·rw[hfree] at hc;cases hc
 rcases hx with hk|hk
 ·refine wpAny_storeName_local hk hn (λh' hn' hs=>?_) hcls;obtain⟨oL,_,_,hoL,_⟩:=id hn;refine h _ ⟨I.ok,I.os,I.bare,⟨λb o e n hb hx=>?_,λb o e n hb hx=>?_,I.base.free,λb o e hx=>?_,I.base.tups,I.base.Bp,I.base.Hw,I.base.tabs⟩,⟨_,hn',λj y v' e1 e2 e3=>?_⟩,λy c e=>?_,I.free,I.vX,λp hp=>?_,tracked ⟨oL,hoL,I.free⟩ hs,by simpa using I.len⟩ ⟨_,hs,.inl rfl⟩
  ·exact(hs.2 b (Qw9 (Qwx (Qwz e) I.ok.above))).trans (I.base.keep b o e n hb hx)
  ·obtain⟨sl,e1⟩:=I.base.slot b o e n hb hx;exact⟨sl,(hs.2 b (Qw9 (Qwx (Qwz e) I.ok.above))).trans e1⟩
  ·obtain⟨o',e1⟩:=I.base.there b o e hx;exact⟨o',(hs.2 b (Qw9 (Qwx (Qwz e) I.ok.above))).trans e1⟩
  ·by_cases hj:j=i
   ·subst hj;rw[hi] at e1;cases e1;rw[Qw7 hiσ] at e2;cases e2;exact⟨u,r,.inl ⟨hk,by simp⟩⟩
   ·rw[Qw3 (Ne.symm hj)] at e2;obtain⟨u',r',q⟩:=hl j y v' e1 e2 e3;refine⟨u',r',?_⟩;rcases q with ⟨k,e⟩|⟨k,c,e,z⟩
    ·refine .inl ⟨k,?_⟩;have:y≠x:=λe=>hj (Jm hN e1 (e ▸ hi));simp[this,e]
    ·exact .inr ⟨k,c,e,z.sameBut hs (cne y c e)⟩
  ·obtain⟨w',z⟩:=I.cell y c e;exact⟨w',z.sameBut hs (cne y c e)⟩
  ·obtain⟨e,n,ne,nf,d⟩:=I.pin p hp;exact⟨(hs.2 p.1 ne).trans e,n,ne,nf,d⟩
 ·have hfn:X.fn x=true:=by
   rcases hf with z|z
   ·exact z
   ·rw[z] at hk;cases hk
  obtain⟨c,hc⟩:=I.ok.has x (.inl hk);obtain⟨w',z⟩:=I.cell x c hc;refine wpAny_storeName_cell I.ok.kind hk hc z (λh' hc' hs=>?_);obtain⟨oc,hoc,ahN⟩:=id z;refine h { s with heap:=h' } ⟨I.ok,I.os,I.bare,⟨λb o e n hb hx=>?_,λb o e n hb hx=>?_,I.base.free,λb o e hx=>?_,I.base.tups,I.base.Bp,I.base.Hw,I.base.tabs⟩,⟨m,hn.sameBut hs (Ne.symm (cne x c hc)),λj y v' e1 e2 e3=>?_⟩,λy c' e=>?_,I.free,I.vX,λp hp=>?_,tracked ⟨oc,hoc,(I.vX x c hc).resolve_right λz=>by rw[hfn] at z;cases z.1⟩ hs,by simpa using I.len⟩ ⟨c,hs,.inr hc⟩
  ·exact(hs.2 b (Qw9 (Qwx (Qwz e) (I.ok.cab x c hfn hc)))).trans (I.base.keep b o e n hb hx)
  ·obtain⟨sl,e1⟩:=I.base.slot b o e n hb hx;exact⟨sl,(hs.2 b (Qw9 (Qwx (Qwz e) (I.ok.cab x c hfn hc)))).trans e1⟩
  ·obtain⟨o',e1⟩:=I.base.there b o e hx;exact⟨o',(hs.2 b (Qw9 (Qwx (Qwz e) (I.ok.cab x c hfn hc)))).trans e1⟩
  ·by_cases hj:j=i
   ·subst hj;rw[hi] at e1;cases e1;rw[Qw7 hiσ] at e2;cases e2;exact⟨u,r,.inr ⟨.inl hk,c,hc,hc'⟩⟩
   ·rw[Qw3 (Ne.symm hj)] at e2;obtain⟨u',r',q⟩:=hl j y v' e1 e2 e3;refine⟨u',r',?_⟩;rcases q with q|⟨k,c',e,z'⟩
    ·exact .inl q
    ·refine .inr ⟨k,c',e,z'.sameBut hs ?_⟩;rintro rfl;exact hj (Jm hN e1 (I.ok.inj _ _ _ e hc ▸ hi))
  ·by_cases hcc:c'=c
   ·subst hcc;exact⟨_,hc'⟩
   ·obtain⟨w2,z2⟩:=I.cell y c' e;exact⟨w2,z2.sameBut hs hcc⟩
  ·obtain⟨e,n,ne,nf,d⟩:=I.pin p hp;refine⟨(hs.2 p.1 ?_).trans e,n,ne,nf,d⟩;intro q;rw[q,hoc] at e;have q':oc=p.2:=Qw2 e;exact d w' (by rw[<-q'];exact ahN)
def zZ{M:Model}{A:Around}{E:Value->Shared->Prop}{i:Nat}{x:Str}{v:V}{u:Value}{Q:Unit->Shared->Prop}(I:Inv X pins σ H s)(hN:X.N.Nodup)(hi:X.N[i]? = some x)(hx:Loc X.env.scope x)(r:RelV v u)
  (h:∀s',Inv X pins (σ.set i (some v)) H s'->Q () s') (hf:X.fn x=true\/X.env.scope.names.lookup x=some .local:=by first|exact .inl rfl|exact .inr rfl|assumption):wpAny M A (storeName X.env x u) Q E s:=
 Ds I hN hi hx r (λs' I' _=>h s' I') hf
def Inv.call'{s':Shared}{ch:List Addr}(I:Inv X pins σ H s)(ho:s'.os=s.os)(u:Un (frs X.stack) ch H H' s.heap s'.heap)(hok:wL X.prog X.w H' s'.heap)(hg:AllBare s'.gens)
  (hch:∀b∈ch,(b∈X.ex\/X.s₀.heap.objs.size<=b)/\b≠X.env.locals/\(∀x c,X.env.cells.lookup x=some c->c≠b)/\∀p∈X.pn++pins,p.1≠b):Inv X pins σ H' s':=by
 obtain⟨h',g',d',t',o'⟩:=s';have e:o'=s.os:=ho;subst e;exact I.call (g':=g') (t':=t') (d':=d') u hok hg hch
end
abbrev XK:=Value->Option Addr->Hp->Prop
abbrev St:=List (Option V)
abbrev VK:=V->Hp->Prop
abbrev TE:=St->Hp->VK->Prop
abbrev TT:=St->Hp->(Bool->Hp->Prop)->Prop
abbrev TA:=St->Hp->(List V->Hp->Prop)->Prop
structure Ends where
 nx:St->Hp->Prop
 rt:VK
 bk:St->Hp->Prop:=λ_ _=>False
 ct:St->Hp->Prop:=λ_ _=>False
abbrev TS:=Ends->St->Hp->Prop
def EP(X:Cx)(pins:List (Addr×Obj))(σ:St)(Q:VK)(u:Value)(s':Shared):Prop:=∃v H',Inv X pins σ H' s'/\RelV v u/\Q v H'
def TP(X:Cx)(pins:List (Addr×Obj))(σ:St)(Q:Bool->Hp->Prop)(b:Bool)(s':Shared):Prop:=∃H',Inv X pins σ H' s'/\Q b H'
def AP(X:Cx)(pins:List (Addr×Obj))(σ:St)(Q:List V->Hp->Prop)(us:List Value)(s':Shared):Prop:=∃vs H',Inv X pins σ H' s'/\Vals vs us/\Q vs H'
def SP(X:Cx)(pins:List (Addr×Obj))(D:Ends)(f:Flow)(s':Shared):Prop:=
 match f with
 | .next=>∃σ' H',Inv X pins σ' H' s'/\D.nx σ' H'
 | .brk=>∃σ' H',Inv X pins σ' H' s'/\D.bk σ' H'
 | .cont=>∃σ' H',Inv X pins σ' H' s'/\D.ct σ' H'
 | .ret u=>∃v σ' H',Inv X pins σ' H' s'/\RelV v u/\D.rt v H'
def PE(X:Cx)(e:Expr)(t:TE):Prop:=
 ∀(pins:List (Addr×Obj)) (s:Shared) (σ:St) (H:Hp) (Q:VK),Inv X pins σ H s->t σ H Q->wpAny (model X.prog X.w) X.A (eval e X.env) (EP X pins σ Q) X.xe s
def PT(X:Cx)(e:Expr)(t:TT):Prop:=
 ∀(pins:List (Addr×Obj)) (s:Shared) (σ:St) (H:Hp) (Q:Bool->Hp->Prop),Inv X pins σ H s->t σ H Q->wpAny (model X.prog X.w) X.A (isTrue e X.env (eval e X.env)) (TP X pins σ Q) X.xe s
def PW(X:Cx)(e:Expr)(t:TT):Prop:=
 ∀(whole:Sem Value) (pins:List (Addr×Obj)) (s:Shared) (σ:St) (H:Hp) (Q:Bool->Hp->Prop),Inv X pins σ H s->t σ H Q->wpAny (model X.prog X.w) X.A (isTrue e X.env whole) (TP X pins σ Q) X.xe s
def PW.pt{X:Cx}{e:Expr}{t:TT}(h:PW X e t):PT X e t:=h _
def PA(X:Cx)(es:List Expr)(t:TA):Prop:=
 ∀(pos:Pos) (pins:List (Addr×Obj)) (s:Shared) (σ:St) (H:Hp) (Q:List V->Hp->Prop),Inv X pins σ H s->t σ H Q->wpAny (model X.prog X.w) X.A (spliced (backTo pos (starEach es X.env))) (AP X pins σ Q) X.xe s
def PS(X:Cx)(st:Stmt)(t:TS):Prop:=
 ∀(pins:List (Addr×Obj)) (s:Shared) (σ:St) (H:Hp) (D:Ends),Inv X pins σ H s->t D σ H->wpAny (model X.prog X.w) X.A (exec st X.env) (SP X pins D) X.xe s
def Ks(X:Cx)(st:List Stmt)(t:TS):Prop:=
 ∀(pins:List (Addr×Obj)) (s:Shared) (σ:St) (H:Hp) (D:Ends),Inv X pins σ H s->t D σ H->wpAny (model X.prog X.w) X.A (execs st X.env) (SP X pins D) X.xe s
def fL{α:Type}{t:Sem α}{Q Q':α->Shared->Prop}{M:Model}{A:Around}{E:Value->Shared->Prop}{s:Shared}(h:wpAny M A t Q E s)(hQ:∀a s,Q a s->Q' a s):wpAny M A t Q' E s:=Qjv h hQ λ_ _ x=>x
section
variable{X:Cx}
def aeD(i:Nat):TE:=λσ H Q=>∃v,σ[i]? = some (some v)/\Q v H
def tC(v:V):TE:=λ_ H Q=>Q v H
def jY{i:Nat}{x:Str}{pos:Pos}(hN:X.N[i]? = some x)(hv:tR X.env.scope x)(hd:mU x:=by decide)(hcd:uG x:=by decide):PE X (.Name x pos) (aeD i):=by
 intro pins s σ H Q I h;obtain⟨v,e,h⟩:=h;obtain⟨m,hn,hl⟩:=I.loc;obtain⟨u,r,l⟩:=hl i x v hN e hv;have fin:EP X pins σ Q u s:=⟨v,H,I,r,h⟩;rcases l with ⟨hk,hm⟩|⟨hk,c,hc,hcell⟩
 ·exact wpAny_Name (wpAny_loadName_local I.ok.kind hk hn hm fin) hd
 ·rcases hk with hk|hk
  ·exact wpAny_Name (wpAny_loadName_cell I.ok.kind hk hc hcell fin) hd
  ·exact wpAny_Name (wpAny_loadName_free I.ok.kind hk hc hcell fin hcd) hd
def U6{i j pos}:PE X (.Constant (.int i) j pos) (tC (.int i)):=λ_ _ _ H _ I h=>wpAny_Constant_int ⟨.int i,H,I.tok _,⟨_,rfl⟩,h⟩
def afo{b j pos}:PE X (.Constant (.bool b) j pos) (tC (.bl b)):=λ_ _ _ H _ I h=>Constant_bool ⟨.bl b,H,I,rfl,h⟩
def acp{j pos}:PE X (.Constant .none j pos) (tC .non):=λ_ _ _ H _ I h=>Constant_none ⟨.non,H,I,rfl,h⟩
def acn{x j pos}:PE X (.Constant (.str x) j pos) (tC (.str x)):=λ_ _ _ H _ I h=>Calls.Constant_str ⟨.str x,H,I.tok _,⟨_,rfl⟩,h⟩
def Gl(X:Cx)(x:Str):Prop:=X.env.kindOf x=some .globalImplicit
def O4{E:Value->Shared->Prop}{pins:List (Addr×Obj)}{s:Shared}{σ:St}{H:Hp}{x:Str}{u:Value}{pos:Pos}{Q:Value->Shared->Prop}(I:Inv X pins σ H s)(hg:Gl X x)(hm:X.mg x=some u)(h:Q u s)
  (hd:mU x:=by decide):wpAny (model X.prog X.w) X.A (eval (.Name x pos) X.env) Q E s:=
 Calls.Name_function_global I.ok.kind hg (Calls.loadGlobal_global (by rw[I.ok.glob];exact I.mod.glob.keeps I.bk) hm h) hd
def rO{E:Value->Shared->Prop}{pins:List (Addr×Obj)}{s:Shared}{σ:St}{H:Hp}{x:Str}{u:Value}{pos:Pos}{Q:Value->Shared->Prop}(I:Inv X pins σ H s)(hg:Gl X x)(hm:X.mg x=none)(hv:bootBuiltins x=some u)(h:Q u s)
  (hn:x ≠ "__name__":=by decide) (hd:mU x:=by decide):wpAny (model X.prog X.w) X.A (eval (.Name x pos) X.env) Q E s:=by
 obtain⟨mb,h1,h2⟩:=I.mod.blt;exact Calls.Name_function_global I.ok.kind hg (Calls.loadGlobal_builtin (by rw[I.ok.glob];exact I.mod.glob.keeps I.bk) hm (by rw[I.ok.blt];exact h1.keeps I.bk) ((h2 x hn).trans hv) h) hd
def YK{x:Str}{v:V}{u:Value}{pos:Pos}(hg:Gl X x)(hm:X.mg x=some u)(r:RelV v u)(hd:mU x:=by decide):PE X (.Name x pos) (tC v):=
 λ_ _ _ H _ I h=>O4 I hg hm ⟨v,H,I,r,h⟩ hd
variable{a b:Expr}{ta tb:TE}{pos:Pos}
def tB(t:TE):TT:=λσ H Q=>t σ H λx H1=>∃c,x = .bl c/\Q c H1
def ab9{e:Expr}{t:TE}(h:PE X e t)(he:∀whole,isTrue e X.env whole=(do let v <-whole;standAt e.pos;holding [v] (truthy v)):=by intro _;rfl):PT X e (tB t):=by intro pins s σ H Q I hw;refine isTrue_plain (fL (h pins s σ H _ I hw) λv s1 ⟨x,H1,I1,r1,q1⟩=>?_) (he _);obtain⟨d,rfl,q⟩:=q1;cases r1;exact wpAny_truthy_bool ⟨H1,I1,q⟩
variable{tA tB':TT}{rest:List Expr}
def ahl(t u:TT):TT:=λσ H Q=>t σ H λc H1=>if c=true then u σ H1 Q else Q false H1
def tOr(t u:TT):TT:=λσ H Q=>t σ H λc H1=>if c=true then Q true H1 else u σ H1 Q
def ahc(t:TT):TT:=λσ H Q=>t σ H λc H1=>Q (!c) H1
def pw_and1(ha:PT X a tA):PW X (.BoolOp .And [a] pos) tA:=by
 intro wh pins s σ H Q I h;refine isTrue_and (fL (ha pins s σ H Q I h) λc s1 e=>?_);cases c with
 | true=>exact isTrue_and_nil e
 | false=>exact e
def pw_or1(ha:PT X a tA):PW X (.BoolOp .Or [a] pos) tA:=by
 intro wh pins s σ H Q I h;refine isTrue_or (fL (ha pins s σ H Q I h) λc s1 e=>?_);cases c with
 | false=>exact isTrue_or_nil e
 | true=>exact e
def pw_and(ha:PT X a tA)(hb:PW X (.BoolOp .And (b::rest) pos) tB'):PW X (.BoolOp .And (a::b::rest) pos) (ahl tA tB'):=by
 intro wh pins s σ H Q I h;refine isTrue_and (fL (ha pins s σ H _ I h) λc s1 ⟨H1,I1,q1⟩=>?_);cases c with
 | true=>exact hb wh pins s1 σ H1 Q I1 q1
 | false=>exact⟨H1,I1,q1⟩
def pw_or(ha:PT X a tA)(hb:PW X (.BoolOp .Or (b::rest) pos) tB'):PW X (.BoolOp .Or (a::b::rest) pos) (tOr tA tB'):=by
 intro wh pins s σ H Q I h;refine isTrue_or (fL (ha pins s σ H _ I h) λc s1 ⟨H1,I1,q1⟩=>?_);cases c with
 | true=>exact⟨H1,I1,q1⟩
 | false=>exact hb wh pins s1 σ H1 Q I1 q1
def aca(ha:PT X a tA):PT X (.UnaryOp .Not a pos) (ahc tA):=by intro pins s σ H Q I h;exact isTrue_not (ha pins s σ H (λc H1=>Q (!c) H1) I h)
def ahb(ta tb:TE):TE:=λσ H Q=>ta σ H λx H1=>∃c,x = .bl c/\if c=true then Q (.bl true) H1 else tb σ H1 Q
def Ml{op}{t:TE}(h:PE X a t):PE X (.BoolOp op [a] pos) t:=λpins s σ H Q I hw=>BoolOp_one (h pins s σ H Q I hw)
def afm(ha:PE X a ta)(hb:PE X (.BoolOp .Or (b::rest) pos) tb):PE X (.BoolOp .Or (a::b::rest) pos) (ahb ta tb):=by
 intro pins s σ H Q I h;refine BoolOp_or (fL (ha pins s σ H _ I h) λv s1 ⟨x,H1,I1,r1,q1⟩=>?_);obtain⟨c,rfl,q1⟩:=q1;cases r1;refine wpAny_truthy_bool ?_;cases c with
 | false=>exact hb pins s1 σ H1 Q I1 q1
 | true=>exact⟨.bl true,H1,I1,rfl,q1⟩
def tIf(t:TT)(ta tb:TE):TE:=λσ H Q=>t σ H λc H1=>if c=true then ta σ H1 Q else tb σ H1 Q
def U7{c:Expr}(hc:PT X c tA)(ha:PE X a ta)(hb:PE X b tb):PE X (.IfExp c a b pos) (tIf tA ta tb):=by
 intro pins s σ H Q I h;refine wpAny_IfExp (fL (hc pins s σ H _ I h) λd s1 ⟨H1,I1,q1⟩=>?_);cases d with
 | true=>exact ha pins s1 σ H1 Q I1 q1
 | false=>exact hb pins s1 σ H1 Q I1 q1
end
def ju(K:PySem.W.Frag)(H:Hp)(a:Addr)(xs:List V):Prop:=
 Rd H a (.lst xs)\/
  ∃(o:Obj) (its:Array Value) (n:Nat),K.lookup a=some o/\o.cls = .type "list"/\o.dict=none/\o.data = .seq its n/\its.size<=sizeLine/\Vals xs its.toList
def mK(K:PySem.W.Frag)(H:Hp)(a:Addr)(xs:List V):Prop:=
 Rd H a (.tup xs)\/
  ∃(o:Obj) (its:Array Value) (n:Nat),K.lookup a=some o/\o.cls = .type "tuple"/\o.dict=none/\o.data = .seq its n/\its.size<=sizeLine/\Vals xs its.toList
def aia:Value->Option V
 | .none=>some .non
 | .bool b=>some (.bl b)
 | .int i _=>some (.int i)
 | .str x _=>some (.str x)
 | .bytes b _=>some (.byt b)
 | .float b _=>some (.flt b)
 | .ref a=>some (.ref a)
 | .type n=>some (.ty n)
 | _=>none
def RelV.abs{x:V}{u:Value}(r:RelV x u):aia u=some x:=by
 cases x with
 | non=>cases r;rfl
 | bl _=>cases r;rfl
 | int _=>obtain⟨t,rfl⟩:=r;rfl
 | str _=>obtain⟨t,rfl⟩:=r;rfl
 | byt _=>obtain⟨t,rfl⟩:=r;rfl
 | flt _=>obtain⟨t,rfl⟩:=r;rfl
 | ref _=>cases r;rfl
 | ty _=>cases r;rfl
def RelV.inj{x y:V}{u:Value}(r:RelV x u)(q:RelV y u):x=y:=Qw2 (r.abs.symm.trans q.abs)
theorem Vals.inj:∀{xs ys:List V} {us:List Value},Vals xs us->Vals ys us->xs=ys
 | _,_,_,.nil,.nil=>rfl
 | _,_,_,.cons r t,.cons r' t'=>by rw[r.inj r',Vals.inj t t']
section
variable{X:Cx}{pins:List (Addr×Obj)}{σ:St}{H:Hp}{s:Shared}{a:Addr}{xs ys:List V}
theorem ju.of{K:PySem.W.Frag}(h:H a=some (.lst xs)):ju K H a xs:=.inl (.inl h)
theorem mK.of{K:PySem.W.Frag}(h:H a=some (.tup xs)):mK K H a xs:=.inl (.inl h)
def Inv.list(I:Inv X pins σ H s)(h:ju X.K H a xs):∃its:List Value,Vals xs its/\PlainL s.heap a its.toArray/\xs.length<=sizeLine:=by
 rcases h with h|⟨o,its,n,hk,hc,hd,hs,hz,r⟩
 ·obtain⟨z,its,n,r,e⟩:=h.ok I.hok;exact⟨its,r,⟨_,n,e,rfl,rfl,rfl⟩,z⟩
 ·refine⟨its.toList,r,⟨o,n,I.kIn a o hk,hc,hd,by simpa using hs⟩,?_⟩;have e:=r.length;simp only[Qz2] at e;omega
def Inv.tuple(I:Inv X pins σ H s)(h:mK X.K H a xs):∃its:List Value,Vals xs its/\IsTup s.heap a its.toArray/\xs.length<=sizeLine:=by
 rcases h with h|⟨o,its,n,hk,hc,hdn,hs,hz,r⟩
 ·obtain⟨z,its,r,p⟩:=h.ok I.hok;exact⟨its,r,p.is,z⟩
 ·refine⟨its.toList,r,⟨o,I.kIn a o hk,hc,n,by simpa using hs⟩,?_⟩;have e:=r.length;simp only[Qz2] at e;omega
def Inv.vL(I:Inv X pins σ H s)(h:ju X.K H a xs)(h':ju X.K H a ys):xs=ys:=by
 obtain⟨its,r,⟨o,n,e,_,_,d⟩,_⟩:=I.list h;obtain⟨its',r',⟨o',n',e',_,_,d'⟩,_⟩:=I.list h';rw[e] at e';cases e';rw[d] at d';injection d' with d1 _
 have:its=its':=by simpa using Qx5 Array.toList d1
 subst this;exact r.inj r'
def Inv.wQ(I:Inv X pins σ H s)(h:mK X.K H a xs)(h':mK X.K H a ys):xs=ys:=by
 obtain⟨its,r,⟨o,e,_,n,d⟩,_⟩:=I.tuple h;obtain⟨its',r',⟨o',e',_,n',d'⟩,_⟩:=I.tuple h';rw[e] at e';cases e';rw[d] at d';injection d' with d1 _
 have:its=its':=by simpa using Qx5 Array.toList d1
 subst this;exact r.inj r'
end
abbrev Cx.wish(X:Cx)(E:Value->Shared->Prop):Cx:={ X with xe:=E }
abbrev Cx.nox(X:Cx):Cx:=X.wish λ_ _=>False
def Cx.Ok.wish{X:Cx}(ok:X.Ok)(E:Value->Shared->Prop):(X.wish E).Ok:=
 ⟨ok.mod,ok.kind,ok.glob,ok.blt,ok.above,ok.inj,ok.has,ok.cab,ok.hd,ok.frames,ok.jw,ok.exf,ok.bs,ok.bsz,ok.Vq,ok.Wm,ok.Bo,ok.frf⟩
def Cx.Ok.qT{X:Cx}{E:Value->Shared->Prop}(ok:(X.wish E).Ok):X.Ok:=
 ⟨ok.mod,ok.kind,ok.glob,ok.blt,ok.above,ok.inj,ok.has,ok.cab,ok.hd,ok.frames,ok.jw,ok.exf,ok.bs,ok.bsz,ok.Vq,ok.Wm,ok.Bo,ok.frf⟩
section
variable{X:Cx}{pins:List (Addr×Obj)}{σ:St}{H:Hp}{s:Shared}{E:Value->Shared->Prop}
def Inv.wish(I:Inv X pins σ H s)(E:Value->Shared->Prop):Inv (X.wish E) pins σ H s:=⟨I.ok.wish E,I.os,I.bare,I.base,I.loc,I.cell,I.free,I.vX,I.pin,I.hok,I.len⟩
def Inv.qT(I:Inv (X.wish E) pins σ H s):Inv X pins σ H s:=⟨I.ok.qT,I.os,I.bare,I.base,I.loc,I.cell,I.free,I.vX,I.pin,I.hok,I.len⟩
def SP.qT{D:Ends}{f:Flow}{s':Shared}(h:SP (X.wish E) pins D f s'):SP X pins D f s':=by
 cases f with
 | next=>obtain⟨σ',H',I,q⟩:=h;exact⟨σ',H',I.qT,q⟩
 | brk=>obtain⟨σ',H',I,q⟩:=h;exact⟨σ',H',I.qT,q⟩
 | cont=>obtain⟨σ',H',I,q⟩:=h;exact⟨σ',H',I.qT,q⟩
 | ret u=>obtain⟨v,σ',H',I,r,q⟩:=h;exact⟨v,σ',H',I.qT,r,q⟩
def Ks.nox{st:List Stmt}{t:TS}(h:Ks X.nox st t):Ks X st t:=λpins s σ H D I hw=>
 Qjv (h pins s σ H D (I.wish _) hw) (λ_ _ q=>q.qT) λ_ _ z=>False.elim z
end
section
variable{X:Cx}{st:Stmt}{rest:List Stmt}{t u:TS}{e:Expr}{te:TE}{pos:Pos}
def aeH:TS:=λD σ H=>D.nx σ H
def ag6(t u:TS):TS:=λD σ H=>t { D with nx:=u D } σ H
def Yw:Ks X [] aeH:=λ_ _ σ H _ I h=>wpAny_execs_nil ⟨σ,H,I,h⟩
def Ux(h1:PS X st t)(h2:Ks X rest u):Ks X (st::rest) (ag6 t u):=by
 intro pins s σ H D I h;refine wpAny_execs_cons (fL (h1 pins s σ H { D with nx:=u D } I h) λf s1 q=>?_);cases f with
 | next=>
  obtain⟨σ',H',I',q⟩:=q;exact h2 pins s1 σ' H' D I' q
 | ret v=>exact q
 | brk=>exact q
 | cont=>exact q
def Yv(h1:PS X st t):Ks X [st] t:=by
 intro pins s σ H D I h;refine wpAny_execs_cons (fL (h1 pins s σ H D I h) λf s1 q=>?_);cases f with
 | next=>exact wpAny_execs_nil q
 | ret v=>exact q
 | brk=>exact q
 | cont=>exact q
def Inv.quiet{pins:List (Addr×Obj)}{σ:St}{H:Hp}{s:Shared}(I:Inv X pins σ H s):interactive X.env=false:=by simp[interactive,I.ok.kind]
def aeI(te:TE):TS:=λD σ H=>te σ H λ_ H1=>D.nx σ H1
def Ol(he:PE X e te)(hs:swapsWith e none pos.line X.env=pure false:=by rfl):PS X (.Expr e pos) (aeI te):=by intro pins s σ H D I h;exact wpAny_Expr_any (fL (he pins s σ H _ I h) λv s1 ⟨x,H1,I1,r1,q1⟩=>⟨σ,H1,I1,q1⟩) I.quiet hs
def ag9(te:TE):TS:=λD σ H=>te σ H D.rt
def UJ(he:PE X e te):PS X (.Return (some e) pos) (ag9 te):=by intro pins s σ H D I h;exact wpAny_Return_some (fL (he pins s σ H _ I h) λv s1 ⟨x,H1,I1,r1,q1⟩=>⟨x,σ,H1,I1,r1,q1⟩)
def ahg(c:TT)(t u:TS):TS:=λD σ H=>c σ H λb H1=>if b=true then t D σ H1 else u D σ H1
def afk{c:Expr}{a b:List Stmt}{tc:TT}(hc:PT X c tc)(ha:Ks X a t)(hb:Ks X b u):PS X (.If c a b pos) (ahg tc t u):=by
 intro pins s σ H D I h;refine wpAny_If (fL (hc pins s σ H _ I h) λd s1 ⟨H1,I1,q1⟩=>?_);cases d with
 | true=>exact ha pins s1 σ H1 D I1 q1
 | false=>exact hb pins s1 σ H1 D I1 q1
end
abbrev TG:=V->St->Hp->(St->Hp->Prop)->Prop
abbrev TGs:=List V->St->Hp->(St->Hp->Prop)->Prop
def PG(X:Cx)(target:Expr)(t:TG):Prop:=
 ∀(pins:List (Addr×Obj)) (s:Shared) (σ:St) (H:Hp) (v:V) (u:Value) (Q:St->Hp->Prop),Inv X pins σ H s->RelV v u->t v σ H Q->
  wpAny (model X.prog X.w) X.A (assign target X.env u) (λ_ s'=>∃σ' H',Inv X pins σ' H' s'/\Q σ' H') X.xe s
def PGs(X:Cx)(ts:List Expr)(t:TGs):Prop:=
 ∀(pins:List (Addr×Obj)) (s:Shared) (σ:St) (H:Hp) (vs:List V) (us:List Value) (Q:St->Hp->Prop),Inv X pins σ H s->Vals vs us->t vs σ H Q->
  wpAny (model X.prog X.w) X.A (assignInOrder ((assignEach ts X.env).map (·.2)) us) (λ_ s'=>∃σ' H',Inv X pins σ' H' s'/\Q σ' H') X.xe s
abbrev uQ:=V->V->V->Hp->(Hp->Prop)->Prop
def agq(X:Cx)(t:uQ):Prop:=
 ∀(pins:List (Addr×Obj)) (s:Shared) (σ:St) (H:Hp) (o i v:V) (ov iv u:Value) (Q:Hp->Prop),Inv X pins σ H s->RelV o ov->RelV i iv->RelV v u->t o i v H Q->
  wpAny (model X.prog X.w) X.A (setItem ov iv u) (λ_ s'=>∃H',Inv X pins σ H' s'/\Q H') X.xe s
abbrev TIp:=V->V->Hp->VK->Prop
def PIp(X:Cx)(op:Operator)(t:TIp):Prop:=
 ∀(pins:List (Addr×Obj)) (s:Shared) (σ:St) (H:Hp) (x y:V) (v u:Value) (Q:VK),Inv X pins σ H s->RelV x v->RelV y u->t x y H Q->
  wpAny (model X.prog X.w) X.A (inplaceOp op v u) (EP X pins σ Q) X.xe s
section
variable{X:Cx}{pos:Pos}
def JL(i:Nat):TG:=λv σ H Q=>Q (σ.set i (some v)) H
def YJ{i:Nat}{x:Str}(hN:X.N.Nodup)(hi:X.N[i]? = some x)(hx:Loc X.env.scope x)(hf:X.fn x=true\/X.env.scope.names.lookup x=some .local:=by first|exact .inl rfl|exact .inr rfl|assumption):PG X (.Name x pos) (JL i):=by intro pins s σ H v u Q I r h;exact wpAny_assign_Name (zZ I hN hi hx r (λs' I'=>⟨_,H,I',h⟩) hf)
def ahZ:TGs:=λvs σ H Q=>vs=[]/\Q σ H
def aga(t:TG)(u:TGs):TGs:=λvs σ H Q=>∃v r,vs=v::r/\t v σ H λσ' H'=>u r σ' H' Q
def YH:PGs X [] ahZ:=by intro pins s σ H vs us Q I r h;obtain⟨e,h⟩:=h;subst e;cases r;exact assignInOrder_nil ⟨σ,H,I,h⟩
def U5{e:Expr}{es:List Expr}{t:TG}{u:TGs}(h1:PG X e t)(h2:PGs X es u)
  (hs:(assignEach (e::es) X.env).map (·.2)=assign e X.env::(assignEach es X.env).map (·.2):=by rfl):PGs X (e::es) (aga t u):=by
 intro pins s σ H vs us Q I r h;obtain⟨v,vr,e1,h⟩:=h;subst e1;cases r with
 | cons r rr=>
  rw[hs];refine assignInOrder_cons (fL (h1 pins s σ H _ _ _ I r h) λ_ s1 ⟨σ1,H1,I1,q1⟩=>?_);exact h2 pins s1 σ1 H1 _ _ Q I1 rr q1
def ahV(K:PySem.W.Frag)(n:Nat)(t:TGs):TG:=λv σ H Q=>∃a xs,v = .ref a/\mK K H a xs/\xs.length=n/\t xs σ H Q
def aci{es:List Expr}{k:Nat}{t:TGs}{n:Nat}(hc:X.calm=true)(h:PGs X es t)
  (hn:(assignEach es X.env).length=n:=by rfl) (hst:(assignEach es X.env).findIdx? (·.1)=none:=by rfl):PG X (.Tuple es k pos) (ahV X.K n t):=by
 intro pins s σ H v u Q I r hw;obtain⟨a,xs,e1,hq,hl,hw⟩:=hw;subst e1;cases r;obtain⟨its,rv,ht,hz⟩:=I.tuple hq;refine assign_Tuple_tuple (I.ok.hd hc) ht (by simp[hn,<-hl,rv.length]) hst λh' hx=>?_;have I1:Inv X pins σ H { s with heap:=h' }:=I.kept (t':=s.toks) λb o e=>hx b o (Qw9 (Qwz e)) e;exact h pins _ σ H xs _ Q I1 (by simpa using rv) hw
def Rw(to ti:TE)(t:uQ):TG:=λv σ H Q=>to σ H λo H1=>ti σ H1 λi H2=>t o i v H2 λH3=>Q σ H3
def acj{o i:Expr}{to ti:TE}{t:uQ}(ho:PE X o to)(hi:PE X i ti)(hs:agq X t)
  (ha:∀v,assign (.Subscript o i pos) X.env v=(do
   let ov <-holding [v] (eval o X.env)
   let iv <-holding [v,ov] (eval i X.env)
   standAt pos
   holding [v,ov,iv] (setItem ov iv v)
   release [v,ov,iv] []):=by intro _;rfl):PG X (.Subscript o i pos) (Rw to ti t):=by
 intro pins s σ H v u Q I r h;rw[ha];refine Qqq (Qz4 (fL (ho pins s σ H _ I h) λov s1 ⟨x,H1,I1,r1,q1⟩=>?_));refine Qqq (Qz4 (fL (hi pins s1 σ H1 _ I1 q1) λiv s2 ⟨y,H2,I2,r2,q2⟩=>?_));refine Qqq (wpAny_standAt (Qqq (Qz4 (fL (hs pins s2 σ H2 x y v ov iv u _ I2 r1 r2 r q2) λ_ s3 ⟨H3,I3,q3⟩=>?_))));exact wpAny_release ⟨σ,H3,I3,q3⟩
def XX(te:TE)(g:TG):TS:=λD σ H=>te σ H λx H1=>g x σ H1 D.nx
def ace{tg e:Expr}{te:TE}{g:TG}(he:PE X e te)(hg:PG X tg g)(hs:swapsWithSole [tg] e pos.line X.env=pure false:=by rfl)(hw:swappedStores [tg] e X.env=pure none:=by rfl)
  (h1:(assignEach [tg] X.env).map (·.2)=[assign tg X.env]:=by rfl):PS X (.Assign [tg] e pos) (XX te g):=by
 intro pins s σ H D I h;refine wpAny_Assign_stores (fL (he pins s σ H _ I h) λv s1 ⟨x,H1,I1,r1,q1⟩=>?_) hs hw;rw[h1];exact fL (hg pins s1 σ H1 x v _ I1 r1 q1) λ_ s2 q=>q
def UG{i:Nat}{x:Str}{e:Expr}{te:TE}{pos':Pos}(hN:X.N.Nodup)(hi:X.N[i]? = some x)(hx:Loc X.env.scope x)(he:PE X e te)(hs:swapsWith e (some (.Name x pos')) pos.line X.env=pure false:=by rfl)(hf:X.fn x=true\/X.env.scope.names.lookup x=some .local:=by first|exact .inl rfl|exact .inr rfl|assumption) :
  PS X (.Assign [.Name x pos'] e pos) (XX te (JL i)):=by
 intro pins s σ H D I h;refine wpAny_Assign_Name (fL (he pins s σ H _ I h) λv s1 ⟨y,H1,I1,r1,q1⟩=>?_) hs;exact zZ I1 hN hi hx r1 (λs2 I2=>⟨_,H1,I2,q1⟩) hf
def ahk(i:Nat)(te:TE)(ti:TIp):TS:=λD σ H=>∃x,σ[i]? = some (some x)/\te σ H λy H1=>ti x y H1 λz H2=>D.nx (σ.set i (some z)) H2
def acd{i:Nat}{x:Str}{e:Expr}{te:TE}{op:Operator}{ti:TIp}{pos':Pos}(hN:X.N.Nodup)(hi:X.N[i]? = some x)(hx:Loc X.env.scope x)(he:PE X e te)(ho:PIp X op ti)(hf:X.fn x=true\/X.env.scope.names.lookup x=some .local:=by first|exact .inl rfl|exact .inr rfl|assumption) :
  PS X (.AugAssign (.Name x pos') op e pos) (ahk i te ti):=by
 intro pins s σ H D I h;obtain⟨v,e1,h⟩:=h;obtain⟨m,hn,hl⟩:=I.loc;have vis:tR X.env.scope x:=by rcases hx with k|k;exact .inl k;exact .inr (.inl k)
 obtain⟨u,r,l⟩:=hl i x v hi e1 vis;refine wpAny_AugAssign_Name ?_;have go:wpAny (model X.prog X.w) X.A (eval e X.env) (λw s₂=>wpAny (model X.prog X.w) X.A (inplaceOp op u w) (λr s₃=>wpAny (model X.prog X.w) X.A (storeName X.env x r) (λ_=>SP X pins D .next) X.xe s₃) X.xe s₂) X.xe s:=by refine fL (he pins s σ H _ I h) λw s1 ⟨y,H1,I1,r1,q1⟩=>?_;refine fL (ho pins s1 σ H1 v y u w _ I1 r r1 q1) λz s2 ⟨zv,H2,I2,r2,q2⟩=>?_;exact zZ I2 hN hi hx r2 (λs3 I3=>⟨_,H2,I3,q2⟩) hf
 rcases l with ⟨hk,hm⟩|⟨hk,c,hc,hcell⟩
 ·exact wpAny_loadName_local I.ok.kind hk hn hm go
 ·rcases hk with hk|hk
  ·exact wpAny_loadName_cell I.ok.kind hk hc hcell go
  ·rcases hx with k|k
   ·have:X.env.scope.names.lookup x=some .free:=hk;rw[k] at this;cases this
   ·have:X.env.scope.names.lookup x=some .free:=hk;rw[k] at this;cases this
def ipI(f:Int->Int->Int):TIp:=λx y H Q=>∃i j,x = .int i/\y = .int j/\Q (.int (f i j)) H
def adk:PIp X .Add (ipI λi j=>i+j):=by intro pins s σ H x y v u Q I r1 r2 h;obtain⟨i,j,e1,e2,q⟩:=h;subst e1;subst e2;obtain⟨t,rfl⟩:=r1;obtain⟨t',rfl⟩:=r2;exact iadd_int ⟨.int _,H,I.tok _,⟨_,rfl⟩,q⟩
def abE(c:TT)(tb:TS):TS:=λD σ H=>∃W:Nat->St->Hp->Prop,(∃m,W m σ H)/\∀m σ H,W m σ H->
 c σ H λb H1=>if b=true then ∃N:St->Hp->Prop,(∀σ' H',N σ' H'->∃m',m'<m/\W m' σ' H')/\tb { D with nx:=N,ct:=N,bk:=D.nx } σ H1 else D.nx σ H1
def Uy{c:Expr}{body:List Stmt}{tc:TT}{tb:TS}(hp:PassesOwn (model X.prog X.w) X.A X.env X.xe)(hc:PT X c tc)(hb:Ks X body tb):PS X (.While c body [] pos) (abE tc tb):=by
 intro pins s σ H D I h;obtain⟨W,⟨m0,w0⟩,turn⟩:=h;refine wpAny_While (codeAny_whileLoop (λn s'=>∃σ' H',Inv X pins σ' H' s'/\W n σ' H') ?_ m0 ⟨σ,H,I,w0⟩);rintro n s1 ⟨σ1,H1,I1,w1⟩;refine Qk0 hp (fL (hc pins s1 σ1 H1 _ I1 (turn n σ1 H1 w1)) λb s2 ⟨H2,I2,q2⟩=>?_);cases b with
 | true=>
  obtain⟨N,hN,q2⟩:=q2;rw[if_pos rfl];refine Qk0 hp (fL (hb pins s2 σ1 H2 _ I2 q2) λf s3 q3=>?_);cases f with
  | next=>
   obtain⟨σ3,H3,I3,n3⟩:=q3;obtain⟨m',hm,w3⟩:=hN σ3 H3 n3;exact⟨m',hm,σ3,H3,I3,w3⟩
  | cont=>
   obtain⟨σ3,H3,I3,n3⟩:=q3;obtain⟨m',hm,w3⟩:=hN σ3 H3 n3;exact⟨m',hm,σ3,H3,I3,w3⟩
  | brk=>exact q3
  | ret v=>exact q3
 | false=>
  rw[if_neg Qw5];exact wpAny_execs_nil ⟨σ1,H2,I2,q2⟩
end
structure It where
 go:Nat->Hp->Prop
 yld:Nat->Hp->V->Hp->Prop
 stop:Nat->Hp->Prop
def sO(X:Cx)(pins:List (Addr×Obj))(H:Hp)(b:Addr):Prop:=
 H b=none/\b≠X.env.locals/\b ∉ X.fs/\(b∈X.ex\/X.s₀.heap.objs.size<=b)/\(∀x c,X.env.cells.lookup x=some c->c≠b)/\∀p∈X.pn++pins,p.1≠b
def Inv.Gy{X:Cx}{pins:List (Addr×Obj)}{σ:St}{H H':Hp}{s:Shared}{b:Addr}(I:Inv X pins σ H s)(hb:s.heap.objs.size<=b)(hn:H' b=none):sO X pins H' b:=by
 refine⟨hn,Qz0 (Qwx I.lt hb),I.ahx hb,.inr (Qq3 I.sz hb),λx c e z=>?_,λp hp z=>?_⟩
 ·obtain⟨v,q⟩:=I.cell x c e;exact absurd (Qwx q.lt (by rw[z];exact hb)) (Qzw _)
 ·exact absurd (Qwx (Qwz (I.pin p hp).1) (by rw[z];exact hb)) (Qzw _)
structure Turn(P:Program)(w:World)(K:PySem.W.Frag)(tg:Expr)(J:It)(fp:List Addr)(it:Addr)(tn:Nat->Heap->Prop):Prop where
 mem:it∈fp
 obj:∀i h,tn i h->∀b∈fp,∃o,h.get? b=some o/\∀v,o.data ≠ .cell v
 keep:∀i h h',tn i h->(∀b∈fp,∀o,h.get? b=some o->h'.get? b=some o)->tn i h'
 item:∀(X:Cx),X.prog=P->X.w=w->X.K=K->X.calm=true->∀(i:Nat) (pins:List (Addr×Obj)) (s:Shared) (σ:St) (H:Hp) (E:Value->Shared->Prop),Inv X pins σ H s->(∀b∈fp,sO X pins H b)->tn i s.heap->J.go i H->
  wpAny (model P w) X.A (pyNext (.ref it)) (λr s1=>∃u,r=some u/\
   wpAny (model P w) X.A (letOwnedTupleGo tg (.ref it) u) (λ_ s2=>∃x H',Inv X pins σ H' s2/\RelV x u/\J.yld i H x H'/\tn (i+1) s2.heap/\∀b∈fp,H' b=none) E s1) E s
 done:∀(X:Cx),X.prog=P->X.w=w->X.K=K->X.calm=true->∀(i:Nat) (pins:List (Addr×Obj)) (s:Shared) (σ:St) (H:Hp) (E:Value->Shared->Prop),Inv X pins σ H s->(∀b∈fp,sO X pins H b)->tn i s.heap->J.stop i H->
  wpAny (model P w) X.A (pyNext (.ref it)) (λr s1=>r=none/\Inv X pins σ H s1) E s
 self:∀(A:Around) (i:Nat) (s:Shared) (Q:Value->Shared->Prop) (E:Value->Shared->Prop),tn i s.heap->Q (.ref it) s->wpAny (model P w) A (pyIter (.ref it)) Q E s
abbrev TI:=St->Hp->(It->Hp->Prop)->Prop
def PIE(X:Cx)(pins:List (Addr×Obj))(σ:St)(tg:Expr)(R:It->Hp->Prop)(itv:Value)(s2:Shared):Prop:=
 ∃(it:Addr) (fp:List Addr) (tn:Nat->Heap->Prop) (J:It) (H':Hp),itv = .ref it/\Inv X pins σ H' s2/\Turn X.prog X.w X.K tg J fp it tn/\tn 0 s2.heap/\(∀b∈fp,sO X pins H' b)/\R J H'
def PI(X:Cx)(tg iter:Expr)(wi:TI):Prop:=
 ∀(pins:List (Addr×Obj)) (s:Shared) (σ:St) (H:Hp) (R:It->Hp->Prop),Inv X pins σ H s->wi σ H R->
  wpAny (model X.prog X.w) X.A (eval iter X.env) (λv s1=>wpAny (model X.prog X.w) X.A (pyIter v) (PIE X pins σ tg R) X.xe s1) X.xe s
def Ei{M : Model}{A : Around}{E : Value → Shared → Prop}{s : Shared}{tg : Expr}{it : Addr}{u : Value}{o : Obj}{n : String}{vs : Array Value}{Q : Unit → Shared → Prop}(ho : s.heap.get? it = some o)(hc : o.cls = .type n)(hd : o.data = .fields vs)
    (hn : ["enumerate", "zip", "dict_itemiterator", "dict_reverseitemiterator", "odict_iterator", "itertools.zip_longest", "itertools.pairwise"].contains n = false) (hQ : Q () s) : wpAny M A (letOwnedTupleGo tg (.ref it) u) Q E s := by
  unfold letOwnedTupleGo;cases tg <;> first
    | exact Qq2 hQ
    | (cases u <;> first
        | exact Qq2 hQ
        | (refine Qqq (wpAny_load ho ?_)
           rw [hc, hd];show wpAny M A (if (["enumerate", "zip", "dict_itemiterator", "dict_reverseitemiterator", "odict_iterator", "itertools.zip_longest", "itertools.pairwise"].contains n && vs[0]? == some (rawInt _)) = true then _ else _) Q E s;rw [if_neg (by intro h; rw [hn, Bool.false_and] at h; cases h)];exact Qq2 hQ))
def Itl(K:PySem.W.Frag)(a:Addr):It:=
 ⟨λi H=>∃xs x,ju K H a xs/\xs[i]? = some x,λi H x H'=>H'=H/\∀xs,ju K H a xs->xs[i]? = some x,λi H=>∃xs,ju K H a xs/\xs.length<=i⟩
def Itt(K:PySem.W.Frag)(a:Addr):It:=
 ⟨λi H=>∃xs x,mK K H a xs/\xs[i]? = some x,λi H x H'=>H'=H/\∀xs,mK K H a xs->xs[i]? = some x,λi H=>∃xs,mK K H a xs/\xs.length<=i⟩
def Itr(lo:Int)(n:Nat):It:=⟨λi _=>i<n,λi H x H'=>H'=H/\x = .int (lo+i),λi _=>n<=i⟩
theorem Qt{P:Program}{w:World}{K:PySem.W.Frag}{tg:Expr}(a it:Addr):Turn P w K tg (Itl K a) [it] it (λi h=>h.IsListIter it a i) where
 mem:=by simp
 obj:=λi h st b hb=>by
  have e:b=it:=by simpa using hb
  subst e;obtain⟨o,e,c,d⟩:=st;exact⟨o,e,λv z=>by rw[d] at z;cases z⟩
 keep:=λi h h' st k=>st.at λo e=>k it (by simp) o e
 item:=by intro X hP hw hK hc i pins s σ H E I hf st hg;subst hP hw hK;obtain⟨xs,x,hq,hx⟩:=hg;obtain⟨its,rv,p,hz⟩:=I.list hq;obtain⟨u,hu,ru⟩:=rv.get hx;obtain⟨f0,f1,f2,f3,f4,f5⟩:=hf it (by simp);refine wpAny_pyNext_list_item st p.isList (x:=u) (by simpa using hu) λh' st' sb=>?_;have I1:Inv X pins σ H { s with heap:=h' }:=I.turned (t':=s.toks) (λb o hb e=>(sb.2 b hb).trans e) f0 f1 f3 f4 f5;obtain⟨o,e,c,d⟩:=id st';exact⟨u,rfl,Ei (s:={ s with heap:=h' }) e c d (by decide) ⟨x,H,I1,ru,⟨rfl,λys hy=>by rw[I.vL hy hq];exact hx⟩,st',λb hb=>(hf b hb).1⟩⟩
 done:=by intro X hP hw hK hc i pins s σ H E I hf st hg;subst hP hw hK;obtain⟨xs,hq,hx⟩:=hg;obtain⟨its,rv,p,hz⟩:=I.list hq;obtain⟨f0,f1,f2,f3,f4,f5⟩:=hf it (by simp);have hl:=rv.length;exact wpAny_pyNext_list_end (I.ok.hd hc) st p.isList (by simp;omega) λh' eb=>⟨rfl,I.turned (t':=s.toks) (λb o hb e=>eb b o hb e) f0 f1 f3 f4 f5⟩
 self:=λ_ _ _ _ _ st h=>wpAny_pyIter_listiter st h
theorem K6{P:Program}{w:World}{K:PySem.W.Frag}{tg:Expr}(a it:Addr):Turn P w K tg (Itt K a) [it] it (λi h=>h.IsTupleIter it a i) where
 mem:=by simp
 obj:=λi h st b hb=>by
  have e:b=it:=by simpa using hb
  subst e;obtain⟨o,e,c,d⟩:=st;exact⟨o,e,λv z=>by rw[d] at z;cases z⟩
 keep:=λi h h' st k=>st.at λo e=>k it (by simp) o e
 item:=by intro X hP hw hK hc i pins s σ H E I hf st hg;subst hP hw hK;obtain⟨xs,x,hq,hx⟩:=hg;obtain⟨its,rv,p,hz⟩:=I.tuple hq;obtain⟨u,hu,ru⟩:=rv.get hx;obtain⟨f0,f1,f2,f3,f4,f5⟩:=hf it (by simp);refine wpAny_pyNext_tuple_item st (show s.heap.IsTuple a its.toArray from p) (x:=u) (by simpa using hu) λh' st' sb=>?_;have I1:Inv X pins σ H { s with heap:=h' }:=I.turned (t':=s.toks) (λb o hb e=>(sb.2 b hb).trans e) f0 f1 f3 f4 f5;obtain⟨o,e,c,d⟩:=id st';exact⟨u,rfl,Ei (s:={ s with heap:=h' }) e c d (by decide) ⟨x,H,I1,ru,⟨rfl,λys hy=>by rw[I.wQ hy hq];exact hx⟩,st',λb hb=>(hf b hb).1⟩⟩
 done:=by intro X hP hw hK hc i pins s σ H E I hf st hg;subst hP hw hK;obtain⟨xs,hq,hx⟩:=hg;obtain⟨its,rv,p,hz⟩:=I.tuple hq;obtain⟨f0,f1,f2,f3,f4,f5⟩:=hf it (by simp);have hl:=rv.length;exact wpAny_pyNext_tuple_end (I.ok.hd hc) st (show s.heap.IsTuple a its.toArray from p) (by simp;omega) λh' eb=>⟨rfl,I.turned (t':=s.toks) (λb o hb e=>eb b o hb e) f0 f1 f3 f4 f5⟩
 self:=λ_ _ _ _ _ st h=>wpAny_pyIter_tupleiter st h
theorem K7{P:Program}{w:World}{K:PySem.W.Frag}{tg:Expr}(it:Addr)(lo:Int)(n:Nat):Turn P w K tg (Itr lo n) [it] it (λi h=>IsRangeIter h it (lo+(i:Nat)*1) ((n:Int) - (i:Nat)) 1) where
 mem:=by simp
 obj:=λi h st b hb=>by
  have e:b=it:=by simpa using hb
  subst e;exact⟨_,st,λv z=>by
   have z':Data.fields _=Data.cell v:=z;cases z'⟩
 keep:=λi h h' st k=>k it (by simp) _ st
 item:=by intro X hP hw hK hc i pins s σ H E I hf st hg;subst hP hw hK;obtain⟨f0,f1,f2,f3,f4,f5⟩:=hf it (by simp);have W:=Walks.range (prog:=X.prog) (w:=X.w) (I.ok.hd hc) it lo 1 n;refine W.item i s _ _ hg st λv h' tk hv st' kk=>?_;obtain⟨t,rfl⟩:=hv;have I1:Inv X pins σ H { s with heap:=h',toks:=tk }:=I.turned (λb o hb e=>kk b o (by simpa using hb) e) f0 f1 f3 f4 f5;refine⟨_,rfl,Ei (s:={ s with heap:=h',toks:=tk }) (n:="range_iterator") st' rfl rfl (by decide) ⟨.int (lo+i),H,I1,⟨t,?_⟩,⟨rfl,rfl⟩,st',λb hb=>(hf b hb).1⟩⟩;rw[Int.mul_one]
 done:=by intro X hP hw hK hc i pins s σ H E I hf st hg;subst hP hw hK;obtain⟨f0,f1,f2,f3,f4,f5⟩:=hf it (by simp);exact wpAny_pyNext_range_end (I.ok.hd hc) st (by have:n<=i:=hg;omega) λh' eb=>⟨rfl,I.turned (t':=s.toks) (λb o hb e=>eb b o hb e) f0 f1 f3 f4 f5⟩
 self:=λ_ _ _ _ _ st h=>wpAny_pyIter_rangeiter st h
section
variable{X:Cx}{tg:Expr}
def TY{pins:List (Addr×Obj)}{σ:St}{H:Hp}{s:Shared}{R:It->Hp->Prop}{E:Value->Shared->Prop}{lo hi:Int}{t u v:Tok}{tk:Nat}(I:Inv X pins σ H s)(h1 : -(2^62)<=lo)(h2:lo<2^62)(h3 : -(2^62)<=hi)(h4:hi<2^62)
  (q:R (Itr lo (hi - lo).toNat) H):wpAny (model X.prog X.w) X.A (pyIter (.ref s.heap.objs.size)) (PIE X pins σ tg R) E { s with heap:=s.heap.push { cls:=.type "range",data:=.fields #[.int lo t,.int hi u,.int 1 v] },toks:=tk }:=by
 refine wpAny_pyIter_range (IsRange.new ..) (small_one h1 h2 h3 h4) ?_;have I1:Inv X pins σ H { s with heap:=s.heap.push { cls:=.type "range",data:=.fields #[.int lo t,.int hi u,.int 1 v] },toks:=tk }:=I.kept λb o e=>Qqz _ e;refine⟨(s.heap.push { cls:=.type "range",data:=.fields #[.int lo t,.int hi u,.int 1 v] }).objs.size,[(s.heap.push { cls:=.type "range",data:=.fields #[.int lo t,.int hi u,.int 1 v] }).objs.size],_,_,H,rfl,
  I1.kept (t':=tk) λb o e=>Qqz _ e,K7 _ lo (hi - lo).toNat,?_,λb hb=>?_,q⟩
 ·have e1:lo+((0:Nat):Int)*1=lo:=by simp
  have e2:(((hi - lo).toNat:Nat):Int) - ((0:Nat):Int)=Builtin.Range.rangeSize lo hi 1:=by rw[rangeSize_one];split<;>omega
  show IsRangeIter _ _ (lo+((0:Nat):Int)*1) ((((hi - lo).toNat:Nat):Int) - ((0:Nat):Int)) 1;rw[e1,e2];exact Qwj _ rfl
 ·have e:b=(s.heap.push { cls:=.type "range",data:=.fields #[.int lo t,.int hi u,.int 1 v] }).objs.size:=by simpa using hb
  subst e;exact I1.Gy (Qq0 _) (I1.hok.fresh (Qq0 _))
def afZ(ta:TA):TI:=λσ H R=>ta σ H λvs H1=>∃j:Int,vs=[.int j]/\-(2^62)<=j/\j<2^62/\R (Itr 0 j.toNat) H1
def Q6{a:Expr}{ta:TA}{p pos:Pos}(hg:Gl X "range")(hm:X.mg "range" = none)(ha:PA X [a] ta)(hs:starEach [a] X.env=[(false,eval a X.env)]:=by rfl):PI X tg (.Call (.Name "range" p) [a] [] pos) (afZ ta):=by
 intro pins s σ H R I h;refine Call_ (rO I hg hm boot_range (Qx8 (fL (ha pos pins s σ H _ I h) λus s1 ⟨vs,H1,I1,r1,q1⟩=>?_) hs rfl));obtain⟨j,e,q1,q2,q⟩:=q1;subst e;cases r1 with
 | cons r rr=>
  cases rr;obtain⟨t,rfl⟩:=r;exact call_range_1 (TY I1 (by omega) (by omega) q1 q2 (by simpa using q))
def ahh(wi:TI)(g:TG)(tb:TS):TS:=λD σ H=>wi σ H λJ H1=>∃W:Nat->Nat->St->Hp->Prop,(∃m,W 0 m σ H1)/\∀i m σ H,W i m σ H->
 (J.stop i H/\D.nx σ H)\/(J.go i H/\∃N:St->Hp->Prop,(∀σ' H',N σ' H'->∃m',m'<m/\W (i+1) m' σ' H')/\∀x H',J.yld i H x H'->g x σ H' λσ2 H2=>tb { D with nx:=N,ct:=N,bk:=D.nx } σ2 H2)
def Ao(fp:List Addr)(h:Heap):List (Addr×Obj):=fp.filterMap λb=>(h.get? b).map λo=>(b,o)
def pW{fp:List Addr}{h:Heap}{b:Addr}{o:Obj}(hb:b∈fp)(e:h.get? b=some o):(b,o)∈Ao fp h:=List.mem_filterMap.mpr ⟨b,hb,by rw[e];rfl⟩
def Rb{fp:List Addr}{h:Heap}{p:Addr×Obj}(hp:p∈Ao fp h):p.1∈fp/\h.get? p.1=some p.2:=by
 obtain⟨b,hb,e⟩:=List.mem_filterMap.mp hp;cases q:h.get? b with
 | none=>rw[q] at e;cases e
 | some o=>
  rw[q] at e;have e':(b,o)=p:=Qw2 e;subst e';exact⟨hb,q⟩
def Inv.pinned{pins:List (Addr×Obj)}{σ:St}{H:Hp}{s:Shared}{fp:List Addr}(I:Inv X pins σ H s)(hf:∀b∈fp,sO X pins H b)(ho:∀b∈fp,∃o,s.heap.get? b=some o/\∀v,o.data ≠ .cell v):Inv X (pins++Ao fp s.heap) σ H s:=
 I.Om λp hp=>(Qw1.mp hp).elim (λz=>I.pin p (Qx0 _ z)) λz=>by
  obtain⟨hb,e⟩:=Rb z;obtain⟨f0,f1,f2,_⟩:=hf p.1 hb;obtain⟨o,e',d⟩:=ho p.1 hb;rw[e] at e';cases e';exact⟨e,f0,f1,f2,d⟩
def Inv.uW{pins pl:List (Addr×Obj)}{σ:St}{H:Hp}{s:Shared}(I:Inv X (pins++pl) σ H s):Inv X pins σ H s:=I.Om λp hp=>I.pin p (Qx0 _ (Qjx _ hp))
def acb{iter:Expr}{body:List Stmt}{wi:TI}{g:TG}{tb:TS}{pos:Pos}(hp:PassesOwn (model X.prog X.w) X.A X.env X.xe)(hc:X.calm=true)(hi:PI X tg iter wi)(hg:PG X tg g)(hb:Ks X body tb)
  (hs:∀x,foldedSetIterable iter X.env x=pure x:=by intro _;rfl):PS X (.For tg iter body [] pos) (ahh wi g tb):=by
 intro pins s σ H D I h;refine wpAny_For (fL (hi pins s σ H _ I h) λv s1 h1=>fL h1 λitv s2 h2=>?_) hs;obtain⟨it,fp,tn,J,H2,e,I2,T,st2,f2,W,⟨m0,w0⟩,turn⟩:=h2;subst e
 -- what stays true of the iterator's objects through the loop
 have stat:∀{H':Hp},(∀b∈fp,H' b=none)->∀b∈fp,sO X pins H' b:=λhn b hb=>⟨hn b hb,(f2 b hb).2⟩;refine codeAny_forLoop_any (λn s'=>∃i σ' H',Inv X pins σ' H' s'/\tn i s'.heap/\(∀b∈fp,H' b=none)/\W i n σ' H') ?_ m0 ⟨0,σ,H2,I2,st2,λb hb=>(f2 b hb).1,w0⟩;rintro n s3 ⟨i,σ3,H3,I3,st3,fr3,w3⟩;rcases turn i n σ3 H3 w3 with ⟨stop,qn⟩|⟨go,N,hN,step⟩
 ·refine Qk0 hp (fL (T.done X rfl rfl rfl hc i pins s3 σ3 H3 X.xe I3 (stat fr3) st3 stop) λr s4 ⟨hr,I4⟩=>?_);subst hr;exact wpAny_execs_nil ⟨σ3,H3,I4,qn⟩
 ·refine Qk0 hp (fL (T.item X rfl rfl rfl hc i pins s3 σ3 H3 X.xe I3 (stat fr3) st3 go) λr s4 ⟨u,hr,h4⟩=>?_);subst hr;refine Qk0 hp (fL h4 λ_ s5 ⟨x,H5,I5,r5,y5,st5,fr5⟩=>?_);have I5':=I5.pinned (stat fr5) (T.obj _ _ st5);refine Qk0 hp (fL (hg _ s5 σ3 H5 x u _ I5' r5 (step x H5 y5)) λ_ s6 ⟨σ6,H6,I6,q6⟩=>?_);refine Qk0 hp (fL (hb _ s6 σ6 H6 _ I6 q6) λf s7 q7=>?_);have again:∀{σ7:St} {H7:Hp},Inv X (pins++Ao fp s5.heap) σ7 H7 s7->N σ7 H7->∃m,m<n/\∃i σ' H',Inv X pins σ' H' s7/\tn i s7.heap/\(∀b∈fp,H' b=none)/\W i m σ' H':=λ{σ7 H7} I7 n7=>by
   obtain⟨m',hm,w7⟩:=hN σ7 H7 n7;refine⟨m',hm,i+1,σ7,H7,I7.uW,T.keep _ _ _ st5 λb hb o e=>(I7.pin (b,o) (Qx0 _ (Qx0 _ (pW hb e)))).1,λb hb=>?_,w7⟩;obtain⟨o,e,d⟩:=T.obj _ _ st5 b hb;exact(I7.pin (b,o) (Qx0 _ (Qx0 _ (pW hb e)))).2.1
  cases f with
  | next=>obtain⟨σ7,H7,I7,n7⟩:=q7;exact again I7 n7
  | cont=>obtain⟨σ7,H7,I7,n7⟩:=q7;exact again I7 n7
  | brk=>obtain⟨σ7,H7,I7,q7⟩:=q7;exact⟨σ7,H7,I7.uW,q7⟩
  | ret v=>obtain⟨x7,σ7,H7,I7,r7,q7⟩:=q7;exact⟨x7,σ7,H7,I7.uW,r7,q7⟩
end
abbrev R2:=V->V->Hp->VK->Prop
def ph(X:Cx)(f:Value->Value->Sem Value)(r:R2):Prop:=
 ∀(pins:List (Addr×Obj)) (s:Shared) (σ:St) (H:Hp) (x y:V) (v u:Value) (Q:VK),Inv X pins σ H s->RelV x v->RelV y u->r x y H Q->
  wpAny (model X.prog X.w) X.A (f v u) (EP X pins σ Q) X.xe s
def UnR(X:Cx)(f:Value->Sem Value)(r:V->Hp->VK->Prop):Prop:=
 ∀(pins:List (Addr×Obj)) (s:Shared) (σ:St) (H:Hp) (x:V) (v:Value) (Q:VK),Inv X pins σ H s->RelV x v->r x H Q->
  wpAny (model X.prog X.w) X.A (f v) (EP X pins σ Q) X.xe s
def jg(X:Cx)(f:Value)(r:List V->Hp->VK->Prop):Prop:=
 ∀(pins:List (Addr×Obj)) (s:Shared) (σ:St) (H:Hp) (xs:List V) (us:List Value) (Q:VK),Inv X pins σ H s->Vals xs us->r xs H Q->
  wpAny (model X.prog X.w) X.A (call f us) (EP X pins σ Q) X.xe s
def XQ(r:R2)(ta tb:TE):TE:=λσ H Q=>ta σ H λx H1=>tb σ H1 λy H2=>r x y H2 Q
def tUn(r:V->Hp->VK->Prop)(ta:TE):TE:=λσ H Q=>ta σ H λx H1=>r x H1 Q
def rI(C:Int->Int->Prop)(g:Int->Int->V):R2:=λx y H Q=>∃i j,x = .int i/\y = .int j/\C i j/\Q (g i j) H
def Oc(g:Int->Int->V):R2:=λx y H Q=>∃i j,x = .int i/\y = .int j/\Q (g i j) H
def rU(g:Int->V):V->Hp->VK->Prop:=λx H Q=>∃i,x = .int i/\Q (g i) H
section
variable{X:Cx}{a b c:Expr}{ta tb tc:TE}{pos:Pos}
def adZ(ha:PE X a ta)(hb:PE X b tb){pins:List (Addr×Obj)}{s:Shared}{σ:St}{H:Hp}{R:V->V->Hp->Prop}(I:Inv X pins σ H s)
  (h:ta σ H λx H1=>tb σ H1 λy H2=>R x y H2) {Q:Value->Shared->Prop} {f:Value->Value->Sem Value}
  (hf:∀v u s2 x y H2,Inv X pins σ H2 s2->RelV x v->RelV y u->R x y H2->wpAny (model X.prog X.w) X.A (f v u) Q X.xe s2) :
  wpAny (model X.prog X.w) X.A (eval a X.env) (λv s₁=>wpAny (model X.prog X.w) X.A (eval b X.env) (λu s₂=>wpAny (model X.prog X.w) X.A (f v u) Q X.xe s₂) X.xe s₁) X.xe s:=by
 refine fL (ha pins s σ H _ I h) λv s1 ⟨x,H1,I1,r1,q1⟩=>?_;refine fL (hb pins s1 σ H1 _ I1 q1) λu s2 ⟨y,H2,I2,r2,q2⟩=>?_;exact hf v u s2 x y H2 I2 r1 r2 q2
def aaR{op:Operator}{r:R2}(ho:ph X (binaryOp op) r)(ha:PE X a ta)(hb:PE X b tb):PE X (.BinOp a op b pos) (XQ r ta tb):=by intro pins s σ H Q I h;exact wpAny_BinOp (adZ ha hb I h λv u s2 x y H2 I2 rx ry q=>ho pins s2 σ H2 x y v u Q I2 rx ry q)
def aaQ{op:UnaryOp}{r:V->Hp->VK->Prop}(ho:UnR X (unaryOp op) r)(ha:PE X a ta):PE X (.UnaryOp op a pos) (tUn r ta):=by intro pins s σ H Q I h;exact UnaryOp_ (fL (ha pins s σ H _ I h) λv s1 ⟨x,H1,I1,r1,q1⟩=>ho pins s1 σ H1 x v Q I1 r1 q1)
def opI{f:Value->Value->Sem Value}{C:Int->Int->Prop}{g:Int->Int->Int}
  (rule:∀(i j:Int) (t u:Tok) (s:Shared) (Q:Value->Shared->Prop) (E:Value->Shared->Prop),C i j->Q (.int (g i j) s.toks) { s with toks:=s.toks+1 }->wpAny (model X.prog X.w) X.A (f (.int i t) (.int j u)) Q E s) :
  ph X f (rI C λi j=>.int (g i j)):=by
 intro pins s σ H x y v u Q I rx ry h;obtain⟨i,j,rfl,rfl,hc,q⟩:=h;obtain⟨t,rfl⟩:=rx;obtain⟨t',rfl⟩:=ry;exact rule i j t t' s _ _ hc ⟨.int (g i j),H,I.tok _,⟨_,rfl⟩,q⟩
def acJ{f:Value->Value->Sem Value}{g:Int->Int->Int}
  (rule:∀(i j:Int) (t u:Tok) (s:Shared) (Q:Value->Shared->Prop) (E:Value->Shared->Prop),Q (.int (g i j) s.toks) { s with toks:=s.toks+1 }->wpAny (model X.prog X.w) X.A (f (.int i t) (.int j u)) Q E s) :
  ph X f (Oc λi j=>.int (g i j)):=by
 intro pins s σ H x y v u Q I rx ry h;obtain⟨i,j,rfl,rfl,q⟩:=h;obtain⟨t,rfl⟩:=rx;obtain⟨t',rfl⟩:=ry;exact rule i j t t' s _ _ ⟨.int (g i j),H,I.tok _,⟨_,rfl⟩,q⟩
def afs{f:Value->Value->Sem Value}{g:Int->Int->Bool}
  (rule:∀(i j:Int) (t u:Tok) (s:Shared) (Q:Value->Shared->Prop) (E:Value->Shared->Prop),Q (.bool (g i j)) s->wpAny (model X.prog X.w) X.A (f (.int i t) (.int j u)) Q E s) :
  ph X f (Oc λi j=>.bl (g i j)):=by
 intro pins s σ H x y v u Q I rx ry h;obtain⟨i,j,rfl,rfl,q⟩:=h;obtain⟨t,rfl⟩:=rx;obtain⟨t',rfl⟩:=ry;exact rule i j t t' s _ _ ⟨.bl (g i j),H,I,rfl,q⟩
def agv(i j:Int):Prop:=0<j/\j<1073741824
def aaw(i j:Int):Prop:=0<=j/\j<=1000000/\i.natAbs<2^64
def K4(k:Nat):(0:Int)<=2^k:=by rw[two_pow_cast];exact Int.natCast_nonneg _
def acI:ph X (binaryOp .Add) (Oc λi j=>.int (i+j)):=acJ λ_ _ _ _ _ _ _ q=>add_int q
def acu:ph X (binaryOp .Sub) (Oc λi j=>.int (i - j)):=acJ λ_ _ _ _ _ _ _ q=>sub_int q
def acz:ph X (binaryOp .Mod) (rI (λ_ j=>0<j) λi j=>.int (i % j)):=opI λi j _ _ _ _ _ hc q=>by
 have h1:(0:Int)<j:=hc;exact mod_int' (by omega) (by rw[Int.fmod_eq_emod_of_nonneg i (by omega)];exact q)
def acx:ph X (binaryOp .Pow) (rI aaw λi j=>.int (i^j.toNat)):=opI λ_ _ _ _ _ _ _ hc q=>pow_int_small hc.1 hc.2.1 hc.2.2 q
def acw:ph X (binaryOp .LShift) (rI aaw λi j=>.int (i*2^j.toNat)):=opI λ_ _ _ _ _ _ _ hc q=>lshift_int_small hc.1 hc.2.1 hc.2.2 q
def acv:ph X (binaryOp .RShift) (rI (λ_ j=>0<=j) λi j=>.int (i / 2^j.toNat)):=opI λi j _ _ _ _ _ hc q=>
 rshift_int hc (by rw[Int.fdiv_eq_ediv_of_nonneg i (K4 _)];exact q)
def acH:ph X (binaryOp .BitAnd) (Oc λi j=>.int (Builtin.bitAnd i j)):=acJ λ_ _ _ _ _ _ _ q=>and_int q
def unI{f:Value->Sem Value}{g:Int->Int}
  (rule:∀(i:Int) (t:Tok) (s:Shared) (Q:Value->Shared->Prop) (E:Value->Shared->Prop),Q (.int (g i) s.toks) { s with toks:=s.toks+1 }->wpAny (model X.prog X.w) X.A (f (.int i t)) Q E s) :
  UnR X f (rU λi=>.int (g i)):=by
 intro pins s σ H x v Q I rx h;obtain⟨i,rfl,q⟩:=h;obtain⟨t,rfl⟩:=rx;exact rule i t s _ _ ⟨.int (g i),H,I.tok _,⟨_,rfl⟩,q⟩
def SJ:UnR X (unaryOp .USub) (rU λi=>.int (-i)):=unI λ_ _ _ _ _ q=>neg_int q
end
def adM{i j:Bool}:decide (V.bl i=V.bl j)=(i == j):=by rw[Qvj];simp
section
variable{X:Cx}{a b c:Expr}{ta tb tc:TE}{pos:Pos}
def Gz{pins:List (Addr×Obj)}{σ:St}{H:Hp}{s:Shared}{Q:VK}{k k':Bool}(I:Inv X pins σ H s)(q:Q (.bl k) H)(e:k=k'):EP X pins σ Q (.bool k') s:=by subst e;exact⟨.bl k,H,I,rfl,q⟩
def afp:ph X (compareOp .Lt) (Oc λi j=>.bl (decide (i<j))):=afs λ_ _ _ _ _ _ _ q=>lt_int q
def afq:ph X (compareOp .Gt) (Oc λi j=>.bl (decide (j<i))):=afs λ_ _ _ _ _ _ _ q=>gt_int q
def Q9:ph X (compareOp .Lt) (λx y H Q=>∃i j,x = .str i/\y = .str j/\Q (.bl (decide (i.cps.toList<j.cps.toList))) H):=by intro pins s σ H x y v u Q I rx ry h;obtain⟨i,j,rfl,rfl,q⟩:=h;obtain⟨t,rfl⟩:=rx;obtain⟨t',rfl⟩:=ry;exact lt_str (Gz I q rfl)
def Ra:ph X (compareOp .In) (λx y H Q=>∃i j,x = .str i/\y = .str j/\Q (.bl (!(Builtin.Str.occurrences j i 0 j.length 1).isEmpty)) H):=by intro pins s σ H x y v u Q I rx ry h;obtain⟨i,j,rfl,rfl,q⟩:=h;obtain⟨t,rfl⟩:=rx;obtain⟨t',rfl⟩:=ry;exact in_str (Gz I q rfl)
def acB:ph X (compareOp .Is) (λx y H Q=>y = .non/\Q (.bl (decide (x = .non))) H):=by
 intro pins s σ H x y v u Q I rx ry h;obtain⟨rfl,q⟩:=h;cases ry;refine is_none_gen (Gz I q ?_);cases x<;>first
  | (cases rx;rfl)
  | (obtain⟨t,rfl⟩:=rx;rfl)
def ph.or{f:Value->Value->Sem Value}{r r':R2}(h:ph X f r)(h':ph X f r'):ph X f (λx y H Q=>r x y H Q\/r' x y H Q):=by
 intro pins s σ H x y v u Q I rx ry q;rcases q with q|q
 ·exact h pins s σ H x y v u Q I rx ry q
 ·exact h' pins s σ H x y v u Q I rx ry q
def Oo{op:CmpOp}{r:R2}(ho:ph X (compareOp op) r)(ha:PE X a ta)(hb:PE X b tb)(hm:behindInMarks op b=false):PE X (.Compare a [op] [b] pos) (XQ r ta tb):=by intro pins s σ H Q I h;exact wpAny_Compare1 (adZ ha hb I h λv u s2 x y H2 I2 rx ry q=>ho pins s2 σ H2 x y v u Q I2 rx ry q) hm
def aeE(t:TE):TT:=λσ H Q=>t σ H λx H'=>∃k,x = .bl k/\Q k H'
def Oj{op:CmpOp}{r:R2}(ho:ph X (compareOp op) r)(ha:PE X a ta)(hb:PE X b tb)(hm:behindInMarks op b=false):PT X (.Compare a [op] [b] pos) (aeE (XQ r ta tb)):=by
 intro pins s σ H Q I h;refine wpAny_isTrue_Compare1 (fL (ha pins s σ H _ I h) λv s1 ⟨x,H1,I1,r1,q1⟩=>fL (hb pins s1 σ H1 _ I1 q1) λu s2 ⟨y,H2,I2,r2,q2⟩=>
  fL (ho pins s2 σ H2 x y v u _ I2 r1 r2 q2) λc s3 ⟨z,H3,I3,r3,k,e,q3⟩=>?_) hm
 subst e;cases r3;exact wpAny_truthy_bool ⟨H3,I3,q3⟩
def adh{κ:Type}{kvs:List (κ×V)}{vs:List (κ×Value)}(r:KV kvs vs):(!vs.isEmpty) = !kvs.isEmpty:=by cases r<;>rfl
def adg{xs:List V}{its:List Value}(r:Vals xs its):(!its.toArray.isEmpty) = !xs.isEmpty:=by cases r<;>simp
def Bd:(sizeLine:Nat)<2^63:=by rw[sizeLine_eq];decide
def Mp:ph X (binaryOp .Add) (λx y H Q=>∃i j,x = .str i/\y = .str j/\i.length+j.length<=sizeLine/\Q (.str (i++j)) H):=by intro pins s σ H x y v u Q I rx ry h;obtain⟨i,j,rfl,rfl,hz,q⟩:=h;obtain⟨t,rfl⟩:=rx;obtain⟨t',rfl⟩:=ry;exact add_str (λt' tk=>⟨.str (i++j),H,I.tok _,⟨_,rfl⟩,q⟩) hz
def vals1{x:V}{us:List Value}(r:Vals [x] us):∃u,us=[u]/\RelV x u:=by
 cases r with
 | cons r1 r2=>cases r2;exact⟨_,rfl,r1⟩
def vals2{x y:V}{us:List Value}(r:Vals [x,y] us):∃u w',us=[u,w']/\RelV x u/\RelV y w':=by
 cases r with
 | cons r1 r2=>
  cases r2 with
  | cons r3 r4=>cases r4;exact⟨_,_,rfl,r1,r3⟩
def RW(hc:X.calm=true):jg X (.builtin "max") (λxs H Q=>∃i j,xs=[.int i,.int j]/\Q (.int (if j > i then j else i)) H):=by
 intro pins s σ H xs us Q I r h;obtain⟨i,j,rfl,q⟩:=h;obtain⟨u,w',rfl,⟨t,rfl⟩,⟨t',rfl⟩⟩:=vals2 r;refine max_two_ints (I.ok.hd hc) λh' tk k=>⟨_,H,I.kept k,?_,q⟩;by_cases hj:j > i
 ·rw[if_pos hj,if_pos hj];exact⟨_,rfl⟩
 ·rw[if_neg hj,if_neg hj];exact⟨_,rfl⟩
def RV(hc:X.calm=true):jg X (.builtin "min") (λxs H Q=>∃i j,xs=[.int i,.int j]/\Q (.int (if j<i then j else i)) H):=by
 intro pins s σ H xs us Q I r h;obtain⟨i,j,rfl,q⟩:=h;obtain⟨u,w',rfl,⟨t,rfl⟩,⟨t',rfl⟩⟩:=vals2 r;refine min_two_ints (I.ok.hd hc) λh' tk k=>⟨_,H,I.kept k,?_,q⟩;by_cases hj:j<i
 ·rw[if_pos hj,if_pos hj];exact⟨_,rfl⟩
 ·rw[if_neg hj,if_neg hj];exact⟨_,rfl⟩
def agu(K:PySem.W.Frag)(x:V)(H:Hp)(n:Nat):Prop:=
 match x with
 | .str y=>y.length<=sizeLine/\n=y.length
 | .byt y=>y.size<=sizeLine/\n=y.size
 | .ref p=>(∃xs,ju K H p xs/\n=xs.length)\/∃xs,mK K H p xs/\n=xs.length
 | _=>False
def WR:jg X (.builtin "len") (λxs H Q=>∃x n,xs=[x]/\agu X.K x H n/\Q (.int n) H):=by
 intro pins s σ H xs us Q I r h;obtain⟨x,n,rfl,e,q⟩:=h;obtain⟨u,rfl,rx⟩:=vals1 r;have hl:=Bd;have hs:sizeLine=16777216:=sizeLine_eq;cases x with
 | str y=>
  obtain⟨t,rfl⟩:=rx;obtain⟨hy,e'⟩:y.length<=sizeLine/\n=y.length:=e;subst e';exact len_str (by omega) ⟨.int _,H,I.tok _,⟨_,rfl⟩,q⟩
 | byt y=>
  obtain⟨t,rfl⟩:=rx;obtain⟨hy,e'⟩:y.size<=sizeLine/\n=y.size:=e;subst e';exact PySem.W.len_bytes (by omega) ⟨.int _,H,I.tok _,⟨_,rfl⟩,q⟩
 | ref p=>
  cases rx;have e':(∃xs,ju X.K H p xs/\n=xs.length)\/∃xs,mK X.K H p xs/\n=xs.length:=e;rcases e' with ⟨xs,hx,e'⟩|⟨xs,hx,e'⟩
  ·subst e';obtain⟨its,r',pl,hz⟩:=I.list hx;have hlen:=r'.length;exact Calls.call_len_list pl.isList (by simp only[Qq5];omega) ⟨.int xs.length,H,I.tok _,⟨_,by simp only[Qq5];rw[hlen]⟩,q⟩
  ·subst e';obtain⟨its,r',pl,hz⟩:=I.tuple hx;have hlen:=r'.length;exact len_tuple pl (by simp only[Qq5];omega) ⟨.int xs.length,H,I.tok _,⟨_,by simp only[Qq5];rw[hlen]⟩,q⟩
 | _=>exact(show False from e).elim
def Ka:jg X (.builtin "divmod") (λxs H Q=>∃i j,xs=[.int i,.int j]/\agv i j/\∀p,H p=none->Q (.ref p) (upd H p (.tup [.int (i / j),.int (i % j)]))):=by intro pins s σ H xs us Q I r h;obtain⟨i,j,rfl,⟨h1,h2⟩,q⟩:=h;obtain⟨u,w',rfl,⟨t,rfl⟩,⟨t',rfl⟩⟩:=vals2 r;refine divmod_int (by omega) ?_ (.inl (PyProof.noPylong_small (by omega)));rw[Int.fdiv_eq_ediv_of_nonneg i (by omega),Int.fmod_eq_emod_of_nonneg i (by omega)];have hn:H s.heap.objs.size=none:=I.hok.fresh (Qq0 _);refine⟨.ref s.heap.objs.size,_,?_,rfl,q _ hn⟩;refine I.laid (λb o e=>Qqz _ e) (Qq0 _) ⟨by simp only[Qqw,Qx2];rw[sizeLine_eq];decide,[.int (i / j) s.toks,.int (i % j) (s.toks+1)],.cons ⟨_,rfl⟩ (.cons ⟨_,rfl⟩ .nil),?_⟩;exact⟨_,Qwj s.heap rfl,rfl,⟨0,rfl⟩,rfl⟩
end
def wJ.some_of{v:V}{o:Option Value}(r:wJ (some v) o):∃u,o=some u/\RelV v u:=by
 cases o with
 | none=>exact(show False from r).elim
 | some u=>exact⟨u,rfl,r⟩
structure ji(k:Nat)(A:Around):Prop where
 hd:A.handled=none
 dp:A.depth+3*k+5<recursionLimit
 un:A.units+16*k+200<cLine
def ji.mono{j k:Nat}{A:Around}(r:ji k A)(h:j<=k):ji j A:=⟨r.hd,by have:=r.dp;omega,by have:=r.un;omega⟩
def ji.deeper{k:Nat}{A:Around}(r:ji (k+1) A)(env:Env):ji k (A.deeper env):=
 ⟨r.hd,by have:=r.dp;show A.depth+1+3*k+5<_;omega,by have:=r.un;show A.units+3+16*k+200<_;omega⟩
def ji.depth{k:Nat}{A:Around}(r:ji k A):A.depth<recursionLimit:=by have:=r.dp;omega
def ji.units{k:Nat}{A:Around}(r:ji k A):A.units+64<cLine:=by have:=r.un;omega
def ahd:TA:=λ_ H Q=>Q [] H
def aeK(ta:TE)(tr:TA):TA:=λσ H Q=>ta σ H λx H1=>tr σ H1 λxs H2=>Q (x::xs) H2
section
variable{X:Cx}{e:Expr}{es:List Expr}{te:TE}{t:TA}{pos:Pos}
def rG:PA X [] ahd:=λ_ _ _ _ H Q I h=>Calls.spliced_nil ⟨[],H,I,.nil,h⟩
def lF(ha:PE X e te)(hr:PA X es t)(hs:starEach (e::es) X.env=(false,eval e X.env)::starEach es X.env:=by rfl):PA X (e::es) (aeK te t):=by intro pos pins s σ H Q I h;rw[hs];show wpAny _ _ (spliced ((false,eval e X.env)::backTo pos (starEach es X.env))) _ _ s;refine Calls.spliced_cons (fL (ha pins s σ H _ I h) λu s1 ⟨x,H1,I1,r1,q1⟩=>?_);exact fL (hr pos pins s1 σ H1 _ I1 q1) λus s2 ⟨xs,H2,I2,r2,q2⟩=>⟨x::xs,H2,I2,.cons r1 r2,q2⟩
def ag5(t:TA):TE:=λσ H Q=>t σ H λxs H1=>xs.length<=sizeLine/\∀p,H1 p=none->Q (.ref p) (upd H1 p (.tup xs))
def ahe(t:TA):TE:=λσ H Q=>t σ H λxs H1=>xs.length<=sizeLine/\∀p,H1 p=none->Q (.ref p) (upd H1 p (.lst xs))
def ack{x1}(h:PA X es t):PE X (.Tuple es x1 pos) (ag5 t):=by intro pins s σ H Q I hq;refine wpAny_Tuple_spliced (fL (h pos pins s σ H _ I hq) λus s1 ⟨xs,H1,I1,r,z,q⟩=>⟨by rw[<-r.length];exact z,?_⟩);have hf:H1 s1.heap.objs.size=none:=I1.hok.fresh (Qq0 _);refine⟨.ref s1.heap.objs.size,upd H1 s1.heap.objs.size (.tup xs),I1.laid (t':=s1.toks) (λb u e=>Qqz _ e) (Qq0 _) ?_,rfl,q _ hf⟩;exact⟨z,us,r,Dh.new _ _⟩
def acq(h:PA X es t):PE X (.List es pos) (ahe t):=by intro pins s σ H Q I hq;refine wpAny_List_spliced (fL (h pos pins s σ H _ I hq) λus s1 ⟨xs,H1,I1,r,z,q⟩=>⟨by rw[<-r.length];exact z,?_⟩);have hf:H1 s1.heap.objs.size=none:=I1.hok.fresh (Qq0 _);refine⟨.ref s1.heap.objs.size,upd H1 s1.heap.objs.size (.lst xs),I1.laid (t':=s1.toks) (λb u e=>Qqz _ e) (Qq0 _) ?_,rfl,q _ hf⟩;exact⟨z,us,0,r,Qwj _ rfl⟩
end
abbrev Sp:=List V->Hp->VK->XK->Prop
abbrev CXT:=List Env->Hp->Shared->XK->Value->Shared->Prop
structure aat(P:Program)(w:World)(K:PySem.W.Frag)(mg:Str->Option Value)(base:Heap)(A:Around)(outer:List Env)(s:Shared)(H:Hp):Prop where
 frames:A.frames=some outer
 mod:Mod K mg base
 bs:∀b o,base.get? b=some o->s.heap.get? b=some o/\H b=none
 bsz:base.objs.size<=s.heap.objs.size
 Bo:s.heap.FunFrames base outer
 frf:∀b∈frs outer,H b=none
 hok:wL P w H s.heap
 bare:AllBare s.gens
def CE(outer:List Env)(P:Program)(w:World)(H:Hp)(s:Shared)(Q:VK)(u:Value)(s':Shared):Prop:=
 ∃v H',s'.os=s.os/\AllBare s'.gens/\Un (frs outer) [] H H' s.heap s'.heap/\wL P w H' s'.heap/\RelV v u/\Q v H'
def CR(CX:CXT)(outer:List Env)(P:Program)(w:World)(H:Hp)(s:Shared)(Q:VK)(E:XK)(r:Result)(s':Shared):Prop:=
 match r with
 | .ok (.ret u)=>CE outer P w H s Q u s'
 | .ok _=>False
 | .error e=>CX outer H s E e s'
structure pP(P:Program)(w:World)(K:PySem.W.Frag)(mg:Str->Option Value)(base:Heap)(CX:CXT)(k:Nat)(f:Addr)(fd:FuncData)(ps:List Str)(sp:Sp):Prop where
 len:∀vs H Q E,sp vs H Q E->vs.length=ps.length
 run:∀(A:Around) (outer:List Env) (s:Shared) (H:Hp) (args:Args) (us:List Value) (vs:List V) (Q:VK) (E:XK),ji k A->aat P w K mg base A outer s H->BindsTo s fd args (ps.zip us)->Vals vs us->sp vs H Q E->
  codeAny (model P w) A (.call (.ref f) args) (CR CX outer P w H s Q E) s
section
variable{X:Cx}{pins:List (Addr×Obj)}{σ:St}{H:Hp}{s s':Shared}
def Inv.env0(I:Inv X pins σ H s):aat X.prog X.w X.K X.mg X.base X.A X.stack s H:=
 ⟨I.ok.frames,I.ok.mod,I.bs,Qq3 I.ok.bsz I.sz,I.stack,I.NP,I.hok,I.bare⟩
def Inv.after{Q:VK}{u:Value}(I:Inv X pins σ H s)(h:CE X.stack X.prog X.w H s Q u s'):EP X pins σ Q u s':=by obtain⟨v,H',os,bare,un,hok,r,q⟩:=h;obtain⟨hh,g,d,t,os'⟩:=s';obtain rfl:os'=s.os:=os;exact⟨v,H',I.call (h':=hh) (g':=g) (d':=d) (t':=t) (ch:=[]) un hok bare (λb z=>absurd z (by simp)),r,q⟩
end
def aeL(sp:Sp)(dvs:List V)(E:XK)(t:TA):TE:=λσ H Q=>t σ H λvs H1=>sp (vs++dvs) H1 Q E
def Binds(K:PySem.W.Frag)(fd:FuncData)(ps:List Str)(ds:List Value):Prop:=
 ∀(s:Shared) (us:List Value),K.In s.heap->(us++ds).length=ps.length->BindsTo s fd ⟨us,[]⟩ (ps.zip (us++ds))
theorem Binds.all{K:PySem.W.Frag}{fd:FuncData}{ps:List Str}(h:∀us:List Value,us.length=ps.length->bindArgs fd ⟨us,[]⟩=pure (ps.zip us)):Binds K fd ps []:=λs us _ hl=>by
 rw[Qxq] at hl ⊢;exact .of_eq (h us hl)
def Passes(CX:CXT)(X:Cx)(E:XK):Prop:=∀(pins:List (Addr×Obj)) (σ:St) (H:Hp) (s:Shared) (e:Value) (s':Shared),Inv X pins σ H s->CX X.stack H s E e s'->X.xe e s'
section
variable{X:Cx}{CX:CXT}{k:Nat}{f C:Addr}{fd:FuncData}{ps:List Str}{sp:Sp}{dvs:List V}{ds:List Value}{E:XK}{x m:Str}{p pos apos:Pos}{e o:Expr}{es:List Expr}{ta:TE}{t:TA}
def abU{pins:List (Addr×Obj)}{σ:St}{H:Hp}{s:Shared}{Q:VK}{us:List Value}{vs:List V}(F:pP X.prog X.w X.K X.mg X.base CX k f fd ps sp)(hr:ji k X.A)(hb:Binds X.K fd ps ds)(hd:Vals dvs ds)(hx:Passes CX X E)
  (I:Inv X pins σ H s) (r:Vals vs us) (h:sp (vs++dvs) H Q E):wpAny (model X.prog X.w) X.A (call (.ref f) us) (EP X pins σ Q) X.xe s:=by
 have r2:Vals (vs++dvs) (us++ds):=r.append hd;have hl:(us++ds).length=ps.length:=by rw[<-r2.length];exact F.len _ _ _ _ h
 refine wpAny_call (codeAny_mono (F.run X.A X.stack s H ⟨us,[]⟩ (us++ds) (vs++dvs) Q E hr I.env0 (hb s us I.kIn hl) r2 h) λr s' hq=>?_);cases r with
 | error e=>exact hx pins σ H s e s' I hq
 | ok fl=>
  cases fl with
  | ret u=>exact I.after hq
  | next=>exact False.elim hq
  | brk=>exact False.elim hq
  | cont=>exact False.elim hq
def Gg(F:pP X.prog X.w X.K X.mg X.base CX k f fd ps sp)(hr:ji k X.A)(hg:Gl X x)(hm:X.mg x=some (.ref f))(hk:PySem.W.keepIn X.K (.ref f)=true)(hb:Binds X.K fd ps ds)(hd:Vals dvs ds)(hx:Passes CX X E)
  (ha:PA X (e::es) t) (hdb:mU x:=by decide) (he:starEach (e::es) X.env=(false,eval e X.env)::starEach es X.env:=by rfl) (hpl:(backTo pos (starEach es X.env)).any (·.1)=false:=by rfl) :
  PE X (.Call (.Name x p) (e::es) [] pos) (aeL sp dvs E t):=by
 intro pins s σ H Q I h;refine wpAny_Call_Name_kw (O4 I hg hm ?_ hdb);refine PySem.W.callWith_K (h₀:=X.base) I.ok.mod.kin hk (fL (ha pos pins s σ H _ I h) λus s1 ⟨vs,H1,I1,r,q⟩=>⟨I1.kIn,?_⟩) he hpl;exact abU F hr hb hd hx I1 r q
end
structure bB(N P:List Str)(sc:Scope):Prop where
 kind:sc.kind = .function
 co:sc.isCoroutine=false
 gen:sc.isGenerator=false
 nd:N.Nodup
 pre:N.take P.length=P
 par:∀x∈P,sc.names.lookup x=some .local\/sc.names.lookup x=some .cell
 acW:∀y∈sc.names,y.2 ≠ .free
theorem Ew{kindOf:Str->Option NameKind}{x:Str}:∀{binds:List (Str×Value)} {m:Str->Option Value},(∀v,(x,v) ∉ binds)->bindL kindOf binds m x=m x
 | [],_,_=>rfl
 | (n,v)::r,m,h=>by
  unfold bindL;rw[Ew λw hw=>h w (Qqk _ hw)];split
  ·have:x≠n:=by rintro rfl;exact h v Qqv
   simp[this]
  ·rfl
theorem Ey{kindOf:Str->Option NameKind}{x:Str}:∀{binds:List (Str×Value)} {m:Str->Option Value},(∀v,(x,v) ∉ binds)->bindC kindOf binds m x=m x
 | [],_,_=>rfl
 | (n,v)::r,m,h=>by
  unfold bindC;rw[Ey λw hw=>h w (Qqk _ hw)];split
  ·rfl
  ·have:x≠n:=by rintro rfl;exact h v Qqv
   simp[this]
theorem Ex{kindOf:Str->Option NameKind}{x:Str}{v:Value}:∀{P:List Str} {vs:List Value} {i:Nat} {m:Str->Option Value},P.Nodup->P[i]? = some x->vs[i]? = some v->kindOf x=some .local->
  bindL kindOf (P.zip vs) m x=some v
 | [],_,_,_,_,h,_,_=>by simp at h
 | _::_,[],_,_,_,_,h,_=>by simp at h
 | p::P,w::vs,0,m,nd,h1,h2,hk=>by
  simp at h1 h2;subst h1;subst h2;show bindL kindOf ((p,w)::P.zip vs) m p=_;unfold bindL;rw[Ew λv hv=>(Qzq.mp nd).1 (List.of_mem_zip hv).1,if_pos hk];simp
 | p::P,w::vs,i+1,m,nd,h1,h2,hk=>by
  show bindL kindOf ((p,w)::P.zip vs) m x=_;unfold bindL;exact Ex (i:=i) (Qzq.mp nd).2 (by simpa using h1) (by simpa using h2) hk
theorem Ez{kindOf:Str->Option NameKind}{x:Str}{v:Value}:∀{P:List Str} {vs:List Value} {i:Nat} {m:Str->Option Value},P.Nodup->P[i]? = some x->vs[i]? = some v->kindOf x≠some .local->
  bindC kindOf (P.zip vs) m x=some v
 | [],_,_,_,_,h,_,_=>by simp at h
 | _::_,[],_,_,_,_,h,_=>by simp at h
 | p::P,w::vs,0,m,nd,h1,h2,hk=>by
  simp at h1 h2;subst h1;subst h2;show bindC kindOf ((p,w)::P.zip vs) m p=_;unfold bindC;rw[Ey λv hv=>(Qzq.mp nd).1 (List.of_mem_zip hv).1,if_neg hk];simp
 | p::P,w::vs,i+1,m,nd,h1,h2,hk=>by
  show bindC kindOf ((p,w)::P.zip vs) m x=_;unfold bindC;exact Ez (i:=i) (Qzq.mp nd).2 (by simpa using h1) (by simpa using h2) hk
def start(N:List Str)(vs:List V):St:=vs.map some++List.replicate (N.length - vs.length) none
def M5(CX:CXT)(P:Program)(w:World)(K:PySem.W.Frag)(mg:Str->Option Value)(base:Heap)(N:List Str)(qual:Str)(scope:Scope)(f:Addr)(cd:Value)(A:Around)(outer:List Env)(s:Shared)(H:Hp)(E:XK):Cx where
 prog:=P
 w:=w
 K:=K
 mg:=mg
 base:=base
 A:=A.deeper (envOfC qual scope s.heap.objs.size f cd)
 N:=N
 s₀:=s
 H₀:=H
 env:=envOfC qual scope s.heap.objs.size f cd
 outer:=outer
 stack:=envOfC qual scope s.heap.objs.size f cd::outer
 ex:=[]
 calm:=true
 fn:=λ_=>true
 pn:=[]
 xe:=λe s'=>wpAny (model P w) (A.deeper (envOfC qual scope s.heap.objs.size f cd)) (leaving (envOfC qual scope s.heap.objs.size f cd) e) (λ_ s''=>CX outer H s E e s'') (λe' s''=>CX outer H s E e' s'') s'
def BW{sc:Scope}{n:Nat}{x:Str}(h:sc.names.lookup x=some .cell):∃c,(cellsFrom n sc.names []).lookup x=some c:=by have q:=PySem.W.cellsFrom_some sc.names n [] (.inl h);exact Qzy.mp q
theorem Rp{CX:CXT}{P:Program}{w:World}{K:PySem.W.Frag}{mg:Str->Option Value}{base:Heap}{N ps:List Str}{qual:Str}{scope:Scope}{f:Addr}{cd:Value}{A:Around}{outer:List Env}{s s1:Shared}{H:Hp}{E:XK}{us:List Value}{vs:List V}
  (S:bB N ps scope) (hd:A.handled=none) (e0:aat P w K mg base A outer s H) (hl:vs.length=ps.length) (r:Vals vs us)
  (x:InCallC s s.heap.objs.size (bindL (envOfC qual scope s.heap.objs.size f cd).kindOf (ps.zip us) λ_=>none) (cellsFrom (s.heap.objs.size+1) scope.names []) (bindC (envOfC qual scope s.heap.objs.size f cd).kindOf (ps.zip us) λ_=>none) s1) :
  Inv (M5 CX P w K mg base N qual scope f cd A outer s H E) [] (start N vs) H s1:=by
 have hpl:ps.length<=N.length:=by have:=Qx5 List.length S.pre;rw[Qzj] at this;omega
 obtain⟨h1,tk,rfl,hk⟩:=x.done;have noA:∀b:Addr,b ∉ (M5 CX P w K mg base N qual scope f cd A outer s H E).ex:=λb z=>absurd (show b∈([]:List Addr) from z) (by simp);refine⟨⟨e0.mod,S.kind,rfl,rfl,Qq0 _,λy z c h1 h2=>?_,λy hy=>?_,λy c _ h=>?_,λ_=>hd,Around.frames_deeper e0.frames,.inr ⟨rfl,rfl⟩,λb z=>absurd z (noA b),e0.bs,e0.bsz,λb _ _=>noA b,λb z=>absurd z (noA b),e0.Bo,e0.frf⟩,
  rfl,e0.bare,Un.kept hk,⟨_,x.toInCall.ns,λi y v h1 h2 h3=>?_⟩,λy c h=>⟨_,x.cell y c h⟩,e0.hok.fresh (Qq0 _),λy c h=>?_,λp hp=>absurd (show p∈([]:List (Addr×Obj)) from hp) (by simp),e0.hok.kept hk,?_⟩
 ·exact name_of_addr x.apart (Qk4 h1) (Qk4 h2)
 ·have hy:scope.names.lookup y=some .cell\/scope.names.lookup y=some .free:=hy;rcases hy with hy|hy
  ·exact BW hy
  ·exact absurd rfl (S.acW _ (Qk4 hy))
 ·exact Qv0 (x.above y c (Qk4 h))
 ·have hi:i<vs.length:=by
   unfold start at h2;by_cases hi:i<vs.length
   ·exact hi
   ·rw[Qx4 (by simpa using hi)] at h2;rw[Qjq] at h2;split at h2<;>cases h2
  have ha:vs[i]? = some v:=by
   unfold start at h2;rw[Qxx (by simpa using hi),Qwv] at h2;cases e:vs[i]? with
   | none=>rw[e] at h2;cases h2
   | some a=>rw[e] at h2;cases h2;rfl
  obtain⟨u,hu,rv⟩:=r.get ha;have hp:ps[i]? = some y:=by rw[<-S.pre,Qz8 (by omega)];exact h1
  have ndP:ps.Nodup:=by rw[<-S.pre];exact S.nd.sublist (List.take_sublist _ _)
  refine⟨u,rv,?_⟩;rcases S.par y (Qww hp) with k|k
  ·exact .inl ⟨k,Ex ndP hp hu k⟩
  ·obtain⟨c,e⟩:=BW (n:=s.heap.objs.size+1) k;refine .inr ⟨.inl k,c,e,?_⟩;have q:=x.cell y c e;rw[Ez ndP hp hu (by show scope.names.lookup y≠_;rw[k];decide)] at q;exact q
 ·exact .inl (e0.hok.fresh (Qv0 (x.above y c (Qk4 h))))
 ·unfold start;show _=N.length;rw[Qqj,Qqx,Qz3];omega
theorem agc{CX:CXT}{P:Program}{w:World}{K:PySem.W.Frag}{mg:Str->Option Value}{base:Heap}{k:Nat}{f:Addr}{name qual:Str}{params:Arguments}{body:List Stmt}{scope:Scope}{dV kV doc pm cdv ct oc:Value}{an od:Option Addr}
  {osl:Array (Option Value)} {N ps:List Str} {sp:Sp} (lk:K.lookup f=some ⟨oc,od,.func (PySem.W.fnOf name qual params body scope dV kV doc pm an cdv ct),osl⟩) (hcd:PySem.W.codeIn K cdv qual=true) (S:bB N ps scope)
  (len:∀vs H Q E,sp vs H Q E->vs.length=ps.length)
  (hbody:∀(A:Around) (outer:List Env) (s:Shared) (H:Hp) (vs:List V) (Q:VK) (E:XK),ji k (A.deeper (envOfC qual scope s.heap.objs.size f cdv))->sp vs H Q E->
   ∃t,Ks (M5 CX P w K mg base N qual scope f cdv A outer s H E) body t/\t { nx:=λ_ H'=>Q .non H',rt:=Q } (start N vs) H) :
  pP P w K mg base CX (k+1) f (PySem.W.fnOf name qual params body scope dV kV doc pm an cdv ct) ps sp:=by
 refine⟨len,λA outer s H args us vs Q E hr e0 hb r hsp=>?_⟩;have hl:=len _ _ _ _ hsp;have KX:K.In s.heap:=e0.mod.kin.keeps λb o e=>(e0.bs b o e).1;have lim:s.heap.NoLimit:=e0.mod.nolimit.keeps λb o e=>(e0.bs b o e).1;have hkind:∀y∈ps.zip us,scope.names.lookup y.1=some .local\/(scope.names.lookup y.1=some .cell/\((cellsFrom (s.heap.objs.size+1) scope.names []).lookup y.1).isSome=true):=λ⟨n,v⟩ hy=>by
  rcases S.par n (List.of_mem_zip hy).1 with q|q
  ·exact .inl q
  ·exact .inr ⟨q,PySem.W.cellsFrom_some _ _ _ (.inl q)⟩
 refine codeAny_call_function hr.depth (KX _ _ lk) rfl S.co S.gen rfl (PySem.W.codeRec_of KX hcd) (hb _ _ _ _ ?_);refine wpAny_newFunctionEnv_cells S.kind hkind λenv he s1 x=>?_;subst he;refine⟨lim.keeps x.toInCall.keep,codeAny_func ?_⟩;obtain⟨t,ht,hq⟩:=hbody A outer s H vs Q E (hr.deeper _) hsp;have I:Inv (M5 CX P w K mg base N qual scope f cdv A outer s H E) [] (start N vs) H s1:=Rp S hr.hd e0 hl r x;refine Qjv (ht [] s1 (start N vs) H _ I hq) (λfl s' hs=>?_) λe s' hs=>hs;have fin:∀{σ':St} {H':Hp} {v:V} {u:Value},Inv (M5 CX P w K mg base N qual scope f cdv A outer s H E) [] σ' H' s'->RelV v u->Q v H'->CE outer P w H s Q u s':=
  λ{σ' H' v u} J rv q=>⟨v,H',J.os,J.bare,J.base,J.hok,rv,q⟩
 cases fl with
 | ret u=>
  obtain⟨v,σ',H',J,rv,q⟩:=hs;exact fin J rv q
 | next=>
  obtain⟨σ',H',J,q⟩:=hs;exact fin (v:=V.non) (u:=Value.none) J rfl q
 | brk=>
  obtain⟨_,_,_,q⟩:=hs;exact False.elim q
 | cont=>
  obtain⟨_,_,_,q⟩:=hs;exact False.elim q
section
variable{X:Cx}{x:Str}{p pos:Pos}{e:Expr}{es:List Expr}{t:TA}{id T:String}{r:List V->Hp->VK->Prop}
def tCB(r:List V->Hp->VK->Prop)(t:TA):TE:=λσ H Q=>t σ H λvs H1=>r vs H1 Q
def Jc(hc:jg X (.builtin id) r)(hg:Gl X x)(hm:X.mg x=none)(hv:bootBuiltins x=some (.builtin id))(ha:PA X (e::es) t)(hn:x ≠ "__name__":=by decide)(hdb:mU x:=by decide)
  (he:starEach (e::es) X.env=(false,eval e X.env)::starEach es X.env:=by rfl) (hpl:(backTo pos (starEach es X.env)).any (·.1)=false:=by rfl):PE X (.Call (.Name x p) (e::es) [] pos) (tCB r t):=by
 intro pins s σ H Q I h;refine wpAny_Call_Name_kw (rO I hg hm hv ?_ hn hdb);exact PyProof.Rows.callWith_builtin1 (fL (ha pos pins s σ H _ I h) λus s1 ⟨vs,H1,I1,r1,q1⟩=>hc pins s1 σ H1 vs us Q I1 r1 q1) he hpl
def DR(hc:jg X (.type T) r)(hg:Gl X x)(hm:X.mg x=none)(hv:bootBuiltins x=some (.type T))(ha:PA X (e::es) t)(hn:x ≠ "__name__":=by decide)(hdb:mU x:=by decide)
  (he:starEach (e::es) X.env=(false,eval e X.env)::starEach es X.env:=by rfl) (hpl:(backTo pos (starEach es X.env)).any (·.1)=false:=by rfl):PE X (.Call (.Name x p) (e::es) [] pos) (tCB r t):=by
 intro pins s σ H Q I h;refine wpAny_Call_Name_kw (rO I hg hm hv ?_ hn hdb);exact Qx8 (fL (ha pos pins s σ H _ I h) λus s1 ⟨vs,H1,I1,r1,q1⟩=>hc pins s1 σ H1 vs us Q I1 r1 q1) he hpl
end
end L2
namespace HT
open PySem PyProof.Rows
section
variable{prog:Program}{w:World}{A:Around}{E:Value->Shared->Prop}{s:Shared}
def aac{t b:Addr}{vs ws:List Value}{Q:Value->Shared->Prop}(ht:IsTup s.heap t vs.toArray)(hb:IsTup s.heap b ws.toArray)(hv:vs≠[])
  (h1:ws=[]->Q (.ref t) s) (h2:ws≠[]->Q (.ref s.heap.objs.size) { s with heap:=s.heap.push { cls:=.type "tuple",data:=.seq (vs++ws).toArray } })
  (hsz:vs.length+ws.length<=sizeLine):wpAny (model prog w) A (binaryOp .Add (.ref t) (.ref b)) Q E s:=by
 obtain⟨⟨cls,dd,data,sl⟩,ho,hc,n,hd⟩:=id ht;obtain⟨⟨cls2,dd2,data2,sl2⟩,ho2,hc2,n2,hd2⟩:=id hb;simp only at hc hd hc2 hd2;subst hc hd hc2 hd2;have e:vs.toArray++ws.toArray=(vs++ws).toArray:=by simp
 by_cases hw:ws=[]
 ·exact concat_meets ⟨_,ho,rfl⟩ ⟨_,ho2,rfl⟩ noFill_tuple_add seq_tuple_add PySem.F.slot_tuple_add PySem.F.entry_tuple_add (PySem.F.args_tuple_add_2 _ _)
   (tuple_addW1 t b vs.toArray ws.toArray n n2 dd dd2 sl sl2 (by simpa using hv) (by simp[hw])) ⟨ho,ho2,h1 hw⟩
 ·refine concat_meets ⟨_,ho,rfl⟩ ⟨_,ho2,rfl⟩ noFill_tuple_add seq_tuple_add PySem.F.slot_tuple_add PySem.F.entry_tuple_add (PySem.F.args_tuple_add_2 _ _)
   (tuple_addW2 t b vs.toArray ws.toArray n n2 dd dd2 sl sl2 (by simpa using hv) (by simpa using hw) (by rw[Qq5,Qq5];exact hsz)) ⟨ho,ho2,?_⟩
  rw[e];exact h2 hw
def fM(n d:Nat):Option Int->Nat
 | none=>d
 | some v=>if v<0 then (v+(n:Int)).toNat else min v.toNat n
def N8(n d k:Nat):fM n d (some (k:Int))=min k n:=by show(if (k:Int)<0 then ((k:Int)+(n:Int)).toNat else min (k:Int).toNat n)=min k n;rw[if_neg (by omega),Qk3]
def FW(n d:Nat)(hd:d<=n)(o:Option Int):fM n d o<=n:=by
 cases o with
 | none=>exact hd
 | some v=>
  show(if v<0 then (v+(n:Int)).toNat else min v.toNat n)<=n;by_cases hv:v<0
  ·rw[if_pos hv];omega
  ·rw[if_neg hv];exact Nat.min_le_right _ _
def Qa(v:Int)(n d:Nat):(if v<0 then max (v+(n:Int)) 0 else min v (n:Int))=((fM n d (some v):Nat):Int):=by
 show(if v<0 then max (v+(n:Int)) 0 else min v (n:Int))=(((if v<0 then (v+(n:Int)).toNat else min v.toNat n):Nat):Int);by_cases hv:v<0
 ·simp only[if_pos hv];omega
 ·simp only[if_neg hv];omega
def Nh(lo hi:Option Int)(n:Nat):Builtin.Slice.sliceAdjust lo hi 1 (n:Int)=(((fM n 0 lo:Nat):Int),((fM n n hi:Nat):Int)):=by
 have h1:¬((1:Int)<0):=by omega
 unfold Builtin.Slice.sliceAdjust;simp only[h1,if_false];refine Prod.ext ?_ ?_
 ·cases lo with
  | none=>rfl
  | some v=>exact Qa v n 0
 ·cases hi with
  | none=>rfl
  | some v=>exact Qa v n n
def Mj(i j:Nat):Builtin.Slice.slicePlaces (i:Int) (j:Int) 1=j - i:=by
 unfold Builtin.Slice.slicePlaces;have h1:(1:Int) > 0:=by omega
 simp only[h1,if_true,Int.ediv_one];split<;>omega
def Aa{v:Value}{o:Option Int}{Q:Option Int->Shared->Prop}(p:IsPart v o)(h:Q o s):wpAny (model prog w) A (Builtin.Slice.slicePartIndex v) Q E s:=by
 cases p with
 | none=>exact slicePart_none h
 | int i t=>exact slicePart_int h
def pB{sl:Addr}{vl vu:Value}{lo hi:Option Int}{n:Nat}{Q:Int×Int×Nat->Shared->Prop}(hs:s.heap.IsSliceOf sl vl vu .none)(pl:IsPart vl lo)(pu:IsPart vu hi)
  (h:Q (((fM n 0 lo:Nat):Int),1,fM n n hi - fM n 0 lo) s):wpAny (model prog w) A (Builtin.Slice.sliceApplied (.ref sl) (pure (n:Int))) Q E s:=by
 obtain⟨os,hos,hcs,hds⟩:=id hs;unfold Builtin.Slice.sliceApplied Builtin.Slice.sliceFields;refine Qqq (Qqq (Qz9 hos hds (x:=vl) rfl (Qqq (Qz9 hos hds (x:=vu) rfl (Qqq (Qz9 hos hds (x:=.none) rfl (Qq2 ?_)))))));refine Qqq (slicePart_none ?_);show wpAny _ _ (if ((1:Int) == 0)=true then _ else _) _ _ s;rw[if_neg (by decide)];refine Qqq (Aa pl (Qqq (Aa pu (Qqq (Qq2 ?_)))));show wpAny _ _ (match Builtin.Slice.sliceAdjust lo hi 1 (n:Int) with|(lo,hi)=>pure (lo,(1:Int),Builtin.Slice.slicePlaces lo hi 1)) _ _ s;rw[Nh lo hi n];show wpAny _ _ (pure (((fM n 0 lo:Nat):Int),(1:Int),Builtin.Slice.slicePlaces ((fM n 0 lo:Nat):Int) ((fM n n hi:Nat):Int) 1)) _ _ s;rw[Mj];exact Qq2 h
def U3(xs:Array Value)(i k:Nat):((List.range k).filterMap λ(m:Nat)=>xs[((i:Int)+(m:Int)*1).toNat]?).toArray=((xs.toList.drop i).take k).toArray:=by
 have e:(λ(m:Nat)=>xs[((i:Int)+(m:Int)*1).toNat]?)=λm=>xs[i+m]?:=by
  funext m
  have:((i:Int)+(m:Int)*1).toNat=i+m:=by omega
  rw[this]
 rw[e];have:=pick_run xs i k;rw[List.filterMap_map] at this;have e2:((λx=>xs[x]?) ∘ λx=>i+x)=λm=>xs[i+m]?:=rfl;rw[e2] at this;rw[this]
def vV{t sl:Addr}{items:Array Value}{vl vu:Value}{lo hi:Option Int}{Q:Value->Shared->Prop}(ht:IsTup s.heap t items)(hs:s.heap.IsSliceOf sl vl vu .none)(pl:IsPart vl lo)(pu:IsPart vu hi)
  (hw:¬(fM items.size 0 lo=0/\fM items.size items.size hi=items.size))
  (h:Q (.ref s.heap.objs.size) { s with heap:=s.heap.push { cls:=.type "tuple",data:=.seq ((items.toList.drop (fM items.size 0 lo)).take (fM items.size items.size hi - fM items.size 0 lo)).toArray } })
  (hsz:items.size<=sizeLine):wpAny (model prog w) A (getItem (.ref t) (.ref sl)) Q E s:=by
 have Ph:sizeOk (.seq ((items.toList.drop (fM items.size 0 lo)).take (fM items.size items.size hi - fM items.size 0 lo)).toArray):=by show((items.toList.drop (fM items.size 0 lo)).take (fM items.size items.size hi - fM items.size 0 lo)).toArray.size<=sizeLine;rw[Qq5,Qzj,Qzk,Qz2];omega
 have hj:fM items.size items.size hi<=items.size:=FW _ _ (Qq0 _) hi;obtain⟨os,hos,hcs,hds⟩:=id hs;have hTs:s.TypeIs (.ref sl) "slice":=⟨os,hos,hcs⟩;unfold getItem
 try with_reducible refine Qz4 ?_
 first|refine Qqq (Qq2 ?_)|skip
 refine Qqq (wpAny_sequenceKey ht.typeIs (by decide) ?_);refine Qqq (Qz5 (name:=Str.ofString "__getitem__") ht.typeIs Qjy
  (Qz7 Qjy ht.typeIs entry_tuple_getitem ?_ (args_tuple_getitem _ _)))
 show wpAny _ _ (Builtin.Tuple.tupleItemsOf (.ref t) >>= _) _ _ s;refine Qqq (tupleItemsOf_ ht ?_);refine Qqq (wpAny_typeOf hTs ?_);rw[if_pos (by decide)];refine Qqq (pB hs pl pu ?_);have hno:¬((((fM items.size 0 lo:Nat):Int) == 0&&(1:Int) == 1&&(fM items.size items.size hi - fM items.size 0 lo) == items.size)=true):=by intro q;rw[Qjz,Qjz] at q;have q1:((fM items.size 0 lo:Nat):Int)=0:=eq_of_beq q.1.1;have q2:fM items.size items.size hi - fM items.size 0 lo=items.size:=eq_of_beq q.2;exact hw ⟨by omega,by omega⟩
 show wpAny _ _ (if (((fM items.size 0 lo:Nat):Int) == 0&&(1:Int) == 1&&(fM items.size items.size hi - fM items.size 0 lo) == items.size)=true then _ else _) _ _ s;rw[if_neg hno,U3]
 first
  | exact Qqq (m:=Builtin.Tuple.tupleExact _) (Qj7 (Qq2 ⟨_,rfl,Qq2 h⟩) Ph)
  | exact Qqq (m:=Builtin.Tuple.tupleExact _) (Qj7 (Qqq (Qq2 (Qq2 ⟨_,rfl,Qq2 h⟩))) Ph)
  | exact Qqq (Qqq (m:=Builtin.Tuple.tupleExact _) (Qj7 (Qq2 (Qq2 ⟨_,rfl,Qq2 h⟩)) Ph))
  | exact Qqq (Qqq (m:=Builtin.Tuple.tupleExact _) (Qj7 (Qq2 ⟨_,rfl,Qq2 h⟩) Ph))
end
end HT
namespace L2
open PySem PySem.Spec PyProof.Rows
abbrev TO:=St->Hp->(Option Int->Hp->Prop)->Prop
def PO(X:Cx)(e:Option Expr)(t:TO):Prop:=
 ∀(pins:List (Addr×Obj)) (s:Shared) (σ:St) (H:Hp) (Q:Option Int->Hp->Prop),Inv X pins σ H s->t σ H Q->
  wpAny (model X.prog X.w) X.A (evalPart e X.env) (λu s'=>∃o H',Inv X pins σ H' s'/\IsPart u o/\Q o H') X.xe s
def XR:TO:=λ_ H Q=>Q none H
def aeG(t:TE):TO:=λσ H Q=>t σ H λx H1=>∃i,x = .int i/\Q (some i) H1
def intsAre_of{ns:List Int}:∀{us:List Value},Vals (ns.map V.int) us->IntsAre us ns:=by
 induction ns with
 | nil=>intro us r;rw[Qv1] at r;cases r;exact .nil
 | cons n ns ih=>
  intro us r;rw[Qq8] at r;cases r with
  | cons r1 r2=>
   obtain⟨t,e⟩:=r1;subst e;exact .cons n t (ih r2)
section
variable{X:Cx}{e:Expr}{te:TE}{lo hi:Option Expr}{tl th:TO}{pos p2:Pos}
def YB:PO X none XR:=by intro pins s σ H Q I h;rw[evalPart_none];exact Qq2 ⟨none,H,I,.none,h⟩
def Yz(h:PE X e te):PO X (some e) (aeG te):=by intro pins s σ H Q I hw;rw[evalPart_some];refine fL (h pins s σ H _ I hw) λu s1 ⟨x,H1,I1,r1,q1⟩=>?_;obtain⟨i,rfl,q⟩:=q1;obtain⟨t,rfl⟩:=r1;exact⟨some i,H1,I1,.int i t,q⟩
def Qj(X:Cx)(r:V->Option Int->Option Int->Hp->VK->Prop):Prop:=
 ∀(pins:List (Addr×Obj)) (s:Shared) (σ:St) (H:Hp) (x:V) (v vl vu:Value) (lo hi:Option Int) (sl:Addr) (Q:VK),Inv X pins σ H s->RelV x v->s.heap.IsSliceOf sl vl vu .none->IsPart vl lo->IsPart vu hi->r x lo hi H Q->
  ∃T id,typeLookup (.type T) "__getitem__" = pure (some (.builtin id))/\s.TypeIs v T/\wpAny (model X.prog X.w) X.A (getItem v (.ref sl)) (EP X pins σ Q) X.xe s
def Qj.or{r r':V->Option Int->Option Int->Hp->VK->Prop}(h:Qj X r)(h':Qj X r'):Qj X (λx lo hi H Q=>r x lo hi H Q\/r' x lo hi H Q):=by
 intro pins s σ H x v vl vu lo hi sl Q I rx hs pl pu q;rcases q with q|q
 ·exact h pins s σ H x v vl vu lo hi sl Q I rx hs pl pu q
 ·exact h' pins s σ H x v vl vu lo hi sl Q I rx hs pl pu q
def tSl(r:V->Option Int->Option Int->Hp->VK->Prop)(te:TE)(tl th:TO):TE:=λσ H Q=>te σ H λx H1=>tl σ H1 λl H2=>th σ H2 λu H3=>r x l u H3 Q
def Jb{r:V->Option Int->Option Int->Hp->VK->Prop}(hr:Qj X r)(he:PE X e te)(hl:PO X lo tl)(hu:PO X hi th):PE X (.Subscript e (.Slice lo hi none p2) pos) (tSl r te tl th):=by intro pins s σ H Q I h;refine Subscript_ (fL (he pins s σ H _ I h) λv s1 ⟨x,H1,I1,r1,q1⟩=>?_);refine wpAny_Slice (fL (hl pins s1 σ H1 _ I1 q1) λvl s2 ⟨l,H2,I2,pl,q2⟩=>fL (hu pins s2 σ H2 _ I2 q2) λvu s3 ⟨u,H3,I3,pu,q3⟩=>?_);rw[evalPart_none];refine Qq2 ?_;have I4:Inv X pins σ H3 { s3 with heap:=s3.heap.push { cls:=.type "slice",data:=.fields #[vl,vu,.none] } }:=I3.kept (t':=s3.toks) λb ob q=>Qqz _ q;obtain⟨T,id,hT,ht,hg⟩:=hr pins { s3 with heap:=s3.heap.push { cls:=.type "slice",data:=.fields #[vl,vu,.none] } } σ H3 x v vl vu l u s3.heap.objs.size Q I4 r1 (Heap.IsSliceOf.new ..) pl pu q3;show wpAny (model X.prog X.w) X.A (subscriptTail e (.Slice lo hi none p2) v (.ref s3.heap.objs.size)) (EP X pins σ Q) X.xe { s3 with heap:=s3.heap.push { cls:=.type "slice",data:=.fields #[vl,vu,.none] } };exact tail_any (ops:=[.ref s3.heap.objs.size,v]) ht hT hg (by with_unfolding_all rfl)
def za(xs:List V)(lo hi:Option Int):List V:=(xs.drop (HT.fM xs.length 0 lo)).take (HT.fM xs.length xs.length hi - HT.fM xs.length 0 lo)
def yu(xs:List V)(lo hi:Option Int):(za xs lo hi).length<=xs.length:=by unfold za;rw[Qzj,Qzk];omega
def abW(K:PySem.W.Frag):V->Option Int->Option Int->Hp->VK->Prop:=λx lo hi H Q=>∃a xs,x = .ref a/\mK K H a xs/\
 ¬(HT.fM xs.length 0 lo=0/\HT.fM xs.length xs.length hi=xs.length)/\∀p,H p=none->Q (.ref p) (upd H p (.tup (za xs lo hi)))
def Ln:Qj X (abW X.K):=by
 intro pins s σ H x v vl vu lo hi sl Q I rx hs pl pu h;obtain⟨a,xs,rfl,hx,hw,q⟩:=h;cases rx;obtain⟨its,r,ht,hz⟩:=I.tuple hx;have hlen:its.toArray.size=xs.length:=by rw[Qq5];exact r.length.symm
 refine⟨"tuple",_,PyProof.Rows.slot_tuple_getitem.lookup,ht.typeIs,?_⟩;refine HT.vV ht hs pl pu (by rw[hlen];exact hw) ?_ (by rw[hlen];exact hz);rw[hlen];refine⟨.ref s.heap.objs.size,_,I.laid (t':=s.toks) (o:=.tup (za xs lo hi)) (λb ob q=>Qqz _ q) (Qq0 _) ?_,rfl,q _ (I.hok.fresh (Qq0 _))⟩;exact⟨Qq3 (yu xs lo hi) hz,_,(r.drop (HT.fM xs.length 0 lo)).take (HT.fM xs.length xs.length hi - HT.fM xs.length 0 lo),Dh.new _ _⟩
def aaO(K:PySem.W.Frag):R2:=λx y H Q=>∃a b xs ys,x = .ref a/\y = .ref b/\mK K H a xs/\mK K H b ys/\xs≠[]/\xs.length+ys.length<=sizeLine/\
 (ys=[]->Q (.ref a) H)/\(ys≠[]->∀p,H p=none->Q (.ref p) (upd H p (.tup (xs++ys))))
def Vals.Gk{xs:List V}{us:List Value}(r:Vals xs us):us=[]↔xs=[]:=by
 cases r with
 | nil=>simp
 | cons _ _=>simp
def Y4:ph X (binaryOp .Add) (aaO X.K):=by intro pins s σ H x y v u Q I rx ry h;obtain⟨a,b,xs,ys,rfl,rfl,ha,hb,hx,hz,q1,q2⟩:=h;cases rx;cases ry;obtain⟨its,r1,p1,_⟩:=I.tuple ha;obtain⟨its2,r2,p2,_⟩:=I.tuple hb;refine HT.aac p1 p2 (λz=>hx (r1.Gk.mp z)) (λz=>⟨.ref a,H,I,rfl,q1 (r2.Gk.mp z)⟩) (λz=>?_) (by rw[<-r1.length,<-r2.length];exact hz);refine⟨.ref s.heap.objs.size,_,I.laid (t':=s.toks) (o:=.tup (xs++ys)) (λb ob q=>Qqz _ q) (Qq0 _) ?_,rfl,q2 (λw=>z (r2.Gk.mpr w)) _ (I.hok.fresh (Qq0 _))⟩;exact⟨by rw[Qqj];exact hz,_,r1.append r2,Dh.new _ _⟩
end
def Zu(n:Nat)(i:Int):Option Nat:=if 0<=i then (if i<n then some i.toNat else none) else if -(n:Int)<=i then some (i+n).toNat else none
def uf{α:Type}(xs:List α)(i:Int):Option α:=(Zu xs.length i).bind λj=>xs[j]?
def Pb{n:Nat}{i:Int}{j:Nat}(h:Zu n i=some j):seqIndex? i n=some j/\j<n/\-(n:Int)<=i/\i<n:=by
 unfold Zu at h;by_cases h0:0<=i
 ·rw[if_pos h0] at h;by_cases h1:i<n
  ·rw[if_pos h1] at h;have e:i.toNat=j:=Qw2 h;exact⟨by rw[seqIndex_of h0 h1,e],by omega,by omega,h1⟩
  ·rw[if_neg h1] at h;cases h
 ·rw[if_neg h0] at h;by_cases h1 : -(n:Int)<=i
  ·rw[if_pos h1] at h;have e:(i+n).toNat=j:=Qw2 h;exact⟨by rw[seqIndex_neg (by omega) h1,e],by omega,h1,by omega⟩
  ·rw[if_neg h1] at h;cases h
def Hd{α:Type}{xs:List α}{i:Int}{v:α}(h:uf xs i=some v):∃j,seqIndex? i xs.length=some j/\xs[j]? = some v/\j<xs.length/\-(xs.length:Int)<=i/\i<xs.length:=by
 unfold uf at h;cases e:Zu xs.length i with
 | none=>rw[e] at h;cases h
 | some j=>
  rw[e] at h;obtain⟨h1,h2,h3,h4⟩:=Pb e;exact⟨j,h1,h,h2,h3,h4⟩
def mW{α:Type}{xs:List α}{j:Nat}{v:α}(h:xs[j]? = some v):uf xs (j:Int)=some v:=by
 have hj:j<xs.length:=(Qq4.mp h).1;have e:Zu xs.length (j:Int)=some j:=by unfold Zu;rw[if_pos (by omega),if_pos (by omega)];simp
 unfold uf;rw[e];exact h
def wK(b:Expr):Prop:=∀o i,subscripted b false o i=operate [o,i] (getItem o i)
def IxR(X:Cx)(r:R2):Prop:=
 ∀(value slice:Expr) (pins:List (Addr×Obj)) (s:Shared) (σ:St) (H:Hp) (x y:V) (v u:Value) (Q:VK),Inv X pins σ H s->RelV x v->RelV y u->r x y H Q->
  subscripted slice false v u=operate [v,u] (getItem v u)->wpAny (model X.prog X.w) X.A (subscriptTail value slice v u) (EP X pins σ Q) X.xe s
def MtR(X:Cx)(id:String)(r:V->List V->Hp->VK->Prop):Prop:=
 ∀(pins:List (Addr×Obj)) (s:Shared) (σ:St) (H:Hp) (x:V) (xs:List V) (v:Value) (us:List Value) (Q:VK),Inv X pins σ H s->RelV x v->Vals xs us->r x xs H Q->
  wpAny (model X.prog X.w) X.A (call (.builtin id) (v::us)) (EP X pins σ Q) X.xe s
section
variable{X:Cx}{a b:Expr}{ta tb:TE}{pos:Pos}
def IxR.or{r r':R2}(h:IxR X r)(h':IxR X r'):IxR X (λx y H Q=>r x y H Q\/r' x y H Q):=by
 intro value slice pins s σ H x y v u Q I rx ry q hs;rcases q with q|q
 ·exact h value slice pins s σ H x y v u Q I rx ry q hs
 ·exact h' value slice pins s σ H x y v u Q I rx ry q hs
def aaS{r:R2}(hr:IxR X r)(ha:PE X a ta)(hb:PE X b tb)(hs:wK b):PE X (.Subscript a b pos) (XQ r ta tb):=by intro pins s σ H Q I h;exact Subscript_ (adZ ha hb I h λv u s2 x y H2 I2 rx ry q=>hr a b pins s2 σ H2 x y v u Q I2 rx ry q (hs _ _))
def ae4(K:PySem.W.Frag):R2:=λx y H Q=>∃p xs i v,x = .ref p/\y = .int i/\ju K H p xs/\uf xs i=some v/\Q v H
def ae2(K:PySem.W.Frag):R2:=λx y H Q=>∃p xs i v,x = .ref p/\y = .int i/\mK K H p xs/\uf xs i=some v/\Q v H
def ae3:R2:=λx y H Q=>∃z i c,x = .str z/\y = .int i/\z.length<=sizeLine/\uf z.cps.toList i=some c/\Q (.str ⟨#[c]⟩) H
def Zr:IxR X (ae4 X.K):=by
 intro value slice pins s σ H x y v u Q I rx ry h hs;obtain⟨p,xs,i,z,rfl,rfl,hq,he,q⟩:=h;cases rx;obtain⟨t,rfl⟩:=ry;obtain⟨its,r,pl,hz⟩:=I.list hq;obtain⟨j,h1,h2,h3,h4,h5⟩:=Hd he;obtain⟨w,ew,Lz⟩:=r.get h2;have hl:=r.length;have hn:=Bd;have fin:EP X pins σ Q w s:=⟨z,H,I,Lz,q⟩;by_cases h0:0<=i
 ·have hj:i.toNat=j:=by
   rw[seqIndex_of h0 h5] at h1;exact Qw2 h1
  exact item_listR pl.isList h0 (by omega) (by rw[hj];simpa using ew) fin hs
 ·have hj:(i+(its.toArray.size:Int)).toNat=j:=by
   rw[seqIndex_neg (by omega) h4] at h1;rw[Qq5,<-hl];exact Qw2 h1
  exact subscriptTail_builtinR (x:=w) pl.isList.typeIs slot_list_getitem.lookup
   (wpAny_getItem_list_neg (Q:=λr s'=>r=w/\EP X pins σ Q r s') pl.isList (by omega) (by rw[Qq5]<;>omega) (by omega) (by rw[hj];simpa using ew) ⟨rfl,fin⟩) hs
def adb:IxR X (ae2 X.K):=by
 intro value slice pins s σ H x y v u Q I rx ry h hs;obtain⟨p,xs,i,z,rfl,rfl,hq,he,q⟩:=h;cases rx;obtain⟨t,rfl⟩:=ry;obtain⟨its,r,pl,hz⟩:=I.tuple hq;obtain⟨j,h1,h2,h3,h4,h5⟩:=Hd he;obtain⟨w,ew,Lz⟩:=r.get h2;have hl:=r.length;have hn:=Bd;have fin:EP X pins σ Q w s:=⟨z,H,I,Lz,q⟩;exact subscriptTail_builtinR (x:=w) pl.typeIs slot_tuple_getitem.lookup
  (getItem_tuple (j:=j) (Q:=λr s'=>r=w/\EP X pins σ Q r s') pl (by omega) (by omega) (by rw[Qq5,<-hl];exact h1) (by simpa using ew) ⟨rfl,fin⟩) hs
def ade:IxR X ae3:=by
 intro value slice pins s σ H x y v u Q I rx ry h hs;obtain⟨z,i,c,rfl,rfl,hz,he,q⟩:=h;obtain⟨t,rfl⟩:=rx;obtain⟨t',rfl⟩:=ry;obtain⟨j,h1,h2,h3,h4,h5⟩:=Hd he;have hl:z.cps.toList.length=z.length:=by simp[Str.length]
 rw[hl] at h1 h4 h5;have hn:=Bd;exact tail_any (typeIs_str s z t) slot_str_getitem.lookup (getItem_str (c:=c) (by
  have e1:decide (i < -(2^63:Int))=false:=Qw0 (by omega);have e2:decide (i ≥ 2^63)=false:=Qw0 (by omega);rw[e1,e2,Bool.or_false]) (by rw[h1];simpa using h2) ⟨.str ⟨#[c]⟩,H,I.tok _,⟨_,rfl⟩,q⟩) hs
def rIx(K:PySem.W.Frag):R2:=λx y H Q=>ae4 K x y H Q\/ae2 K x y H Q\/ae3 x y H Q
def V1:IxR X (rIx X.K):=Zr.or (adb.or ade)
def Mx(its:List Value)(n j:Nat)(u:Value):Obj.mapSeq (·.setIfInBounds j u) { cls:=.type "list",data:=.seq its.toArray n } = { cls:=.type "list",data:=.seq (its.set j u).toArray n }:=by simp[Obj.mapSeq]
def Inv.lst{pins:List (Addr×Obj)}{σ:St}{H:Hp}{s:Shared}{p:Addr}{xs:List V}(I:Inv X pins σ H s)(h:H p=some (.lst xs)) :
  ∃(its:List Value) (n:Nat),Vals xs its/\s.heap.get? p=some { cls:=.type "list",data:=.seq its.toArray n }/\xs.length<=sizeLine:=by
 obtain⟨z,its,n,r,e⟩:=I.hok p _ h;exact⟨its,n,r,e,z⟩
def Inv.ac5{pins:List (Addr×Obj)}{σ:St}{H:Hp}{s:Shared}{p:Addr}{xs ys:List V}{its its':List Value}{n n':Nat}{f:Obj->Obj}(I:Inv X pins σ H s)(h:H p=some (.lst xs))
  (ho:s.heap.get? p=some { cls:=.type "list",data:=.seq its.toArray n }) (hf:f { cls:=.type "list",data:=.seq its.toArray n } = { cls:=.type "list",data:=.seq its'.toArray n' }) (r:Vals ys its') (hz:ys.length<=sizeLine) (t:Nat) :
  Inv X pins σ (upd H p (.lst ys)) { s with heap:=s.heap.update p f,toks:=t }:=by
 have e:(s.heap.update p f).get? p=some { cls:=.type "list",data:=.seq its'.toArray n' }:=by rw[Heap.get?_update_self f ho (by rw[hf]<;>rfl),hf]
 refine I.write (x:=p) (e:=p) (by rw[h];trivial) (.inl rfl) (λb u hb q=>(Heap.get?_update_other _ _ (Ne.symm hb)).trans q) ⟨_,e⟩ ?_;exact⟨hz,its',n',r,e⟩
def Ob:V->V->V->Hp->(Hp->Prop)->Prop:=λo i v H Q=>∃p xs k j,o = .ref p/\i = .int k/\H p=some (.lst xs)/\Zu xs.length k=some j/\Q (upd H p (.lst (xs.set j v)))
def set_list:agq X Ob:=by
 intro pins s σ H o i v ov iv u Q I ro ri rv h;obtain⟨p,xs,k,j,rfl,rfl,hp,hj,q⟩:=h;cases ro;obtain⟨t,rfl⟩:=ri;obtain⟨its,n,r,ho,hz⟩:=I.lst hp;obtain⟨h1,h2,h3,h4⟩:=Pb hj;have hl:=r.length;have hn:=Bd;have I':Inv X pins σ (upd H p (.lst (xs.set j v))) { s with heap:=s.heap.update p (Obj.mapSeq (·.setIfInBounds j u)) }:=
  I.ac5 hp ho (Mx its n j u) (r.set rv j) (by rw[Qzx];exact hz) s.toks
 by_cases h0:0<=k
 ·have hk:k.toNat=j:=by
   rw[seqIndex_of h0 h4] at h1;exact Qw2 h1
  exact PySem.W.ki_setAt ho h0 (by omega) (by rw[Qq5,<-hl];exact h4) (by rw[hk];exact⟨_,I',q⟩)
 ·have hk:(k+(its.toArray.size:Int)).toNat=j:=by
   rw[seqIndex_neg (by omega) h3] at h1;rw[Qq5,<-hl];exact Qw2 h1
  exact PySem.W.ki_setBack ho (by omega) (by rw[Qq5,<-hl];exact h3) (by omega) (by rw[hk];exact⟨_,I',q⟩)
def Fv(lo hi:Option Int)(n:Nat):(sliceBounds lo hi none n).1=((HT.fM n 0 lo:Nat):Int)/\(sliceBounds lo hi none n).2.1=((HT.fM n n hi:Nat):Int)/\(sliceBounds lo hi none n).2.2=1:=by
 refine⟨?_,?_,rfl⟩
 ·cases lo with
  | none=>simp[sliceBounds,HT.fM]
  | some i=>
   simp only[sliceBounds,HT.fM,Option.getD_none,show(1:Int) > 0 by decide,if_true];by_cases h:i<0
   ·simp only[h,if_true]<;>omega
   ·simp only[h,if_false]<;>omega
 ·cases hi with
  | none=>simp[sliceBounds,HT.fM]
  | some i=>
   simp only[sliceBounds,HT.fM,Option.getD_none,show(1:Int) > 0 by decide,if_true];by_cases h:i<0
   ·simp only[h,if_true]<;>omega
   ·simp only[h,if_false]<;>omega
def CK(its:List Value)(lo hi:Option Int):slicePick its.toArray lo hi none=((its.drop (HT.fM its.length 0 lo)).take (HT.fM its.length its.length hi - HT.fM its.length 0 lo)).toArray:=by obtain⟨h1,h2,h3⟩:=Fv lo hi its.toArray.size;unfold slicePick;rw[h1,h2,h3];simp only[sliceRange_one,pick_run,Qq5]<;>rfl
def aeY(K:PySem.W.Frag):V->Option Int->Option Int->Hp->VK->Prop:=λx lo hi H Q=>∃a xs,x = .ref a/\ju K H a xs/\∀p,H p=none->Q (.ref p) (upd H p (.lst (za xs lo hi)))
def NZ:Qj X (aeY X.K):=by intro pins s σ H x v vl vu lo hi sl Q I rx hs pl pu h;obtain⟨a,xs,rfl,hx,q⟩:=h;cases rx;obtain⟨its,r,ht,hz⟩:=I.list hx;have hlen:=r.length;refine⟨"list",_,slot_list_getitem.lookup,ht.isList.typeIs,?_⟩;refine wpAny_getItem_list_slice ht.isList hs pl pu .none (by simp) ?_ (by rw[Qq5]<;>omega);rw[CK,<-hlen];refine⟨.ref s.heap.objs.size,_,I.laid (t':=s.toks) (o:=.lst (za xs lo hi)) (λb ob q=>Qqz _ q) (Qq0 _) ?_,rfl,q _ (I.hok.fresh (Qq0 _))⟩;exact⟨Qq3 (yu xs lo hi) hz,_,0,(r.drop (HT.fM xs.length 0 lo)).take (HT.fM xs.length xs.length hi - HT.fM xs.length 0 lo),Qwj _ rfl⟩
def aa4:V->Bool
 | .non=>true
 | .bl _=>true
 | .int _=>true
 | .str _=>true
 | _=>false
def eqV:V->V->Bool
 | .non,.non=>true
 | .bl a,.bl b=>a == b
 | .bl a,.int b=>(if a then 1 else 0) == b
 | .int a,.bl b=>a == (if b then 1 else 0)
 | .int a,.int b=>a == b
 | .str a,.str b=>a == b
 | _,_=>false
def adH{A:Around}{s:Shared}{y x:V}{u v:Value}(ry:RelV y u)(rx:RelV x v)(fy:aa4 y=true)(fx:aa4 x=true):SeqAt.EqAt A s u v (eqV y x):=by
 cases y with
 | non=>
  cases ry;cases x with
  | non=>cases rx;exact SeqAt.EqAt.same _
  | bl b=>cases rx;exact SeqAt.EqAt.none_bool b
  | int b=>obtain⟨t,rfl⟩:=rx;exact SeqAt.EqAt.none_int b t
  | str b=>obtain⟨t,rfl⟩:=rx;exact SeqAt.EqAt.none_str b t
  | _=>exact absurd (show false=true from fx) Qw5
 | bl a=>
  cases ry;cases x with
  | non=>cases rx;exact SeqAt.EqAt.bool_none a
  | bl b=>cases rx;exact SeqAt.EqAt.bool_bool a b
  | int b=>obtain⟨t,rfl⟩:=rx;exact SeqAt.EqAt.bool_int a b t
  | str b=>obtain⟨t,rfl⟩:=rx;exact SeqAt.EqAt.bool_str a b t
  | _=>exact absurd (show false=true from fx) Qw5
 | int a=>
  obtain⟨t',rfl⟩:=ry;cases x with
  | non=>cases rx;exact SeqAt.EqAt.int_none a t'
  | bl b=>cases rx;exact SeqAt.EqAt.int_bool a t' b
  | int b=>obtain⟨t,rfl⟩:=rx;exact SeqAt.EqAt.int_int a t' b t
  | str b=>obtain⟨t,rfl⟩:=rx;exact SeqAt.EqAt.int_str a t' b t
  | _=>exact absurd (show false=true from fx) Qw5
 | str a=>
  obtain⟨t',rfl⟩:=ry;cases x with
  | non=>cases rx;exact SeqAt.EqAt.str_none a t'
  | bl b=>cases rx;exact SeqAt.EqAt.str_bool a t' b
  | int b=>obtain⟨t,rfl⟩:=rx;exact SeqAt.EqAt.str_int a t' b t
  | str b=>obtain⟨t,rfl⟩:=rx;exact SeqAt.EqAt.str_str a t' b t
  | _=>exact absurd (show false=true from fx) Qw5
 | _=>exact absurd (show false=true from fy) Qw5
def jg.or{f:Value}{r r':List V->Hp->VK->Prop}(h:jg X f r)(h':jg X f r'):jg X f (λxs H Q=>r xs H Q\/r' xs H Q):=by
 intro pins s σ H xs us Q I rs q;rcases q with q|q
 ·exact h pins s σ H xs us Q I rs q
 ·exact h' pins s σ H xs us Q I rs q
def G5:jg X (.type "list") (λxs H Q=>∃p ys,xs=[.ref p]/\(ju X.K H p ys\/mK X.K H p ys)/\∀l,H l=none->Q (.ref l) (upd H l (.lst ys))):=by
 intro pins s σ H xs us Q I r h;obtain⟨p,ys,rfl,hq,q⟩:=h;obtain⟨u,rfl,rx⟩:=vals1 r;cases rx;have fin:∀(its:List Value),Vals ys its->ys.length<=sizeLine->∀(h':Heap) (c':Nat),(∀b o',s.heap.get? b=some o'->h'.get? b=some o')->
   h'.get? s.heap.objs.size=some { cls:=.type "list",dict:=none,data:=.seq its.toArray c',slots:=#[] }->EP X pins σ Q (.ref s.heap.objs.size) { s with heap:=h' }:=λits r' hz h' c' kp e=>
  ⟨.ref s.heap.objs.size,_,I.laid (t':=s.toks) kp (Qq0 _) (show gH X.prog X.w _ h' _ (.lst ys) from⟨hz,its,c',r',e⟩),rfl,q _ (I.hok.fresh (Qq0 _))⟩
 rcases hq with hq|hq
 ·obtain⟨its,r',pl,hz⟩:=I.list hq;have hlen:=r'.length;obtain⟨o,ho,hc,n,hd⟩:=pl.isList;exact call_list_seq p (.inl rfl) ho hc hd (λh' c' kp e=>fin its r' hz h' c' kp e) (by simp only[Qq5]<;>omega)
 ·obtain⟨its,r',pl,hz⟩:=I.tuple hq;have hlen:=r'.length;obtain⟨o,ho,hc,n,hd⟩:=pl;exact call_list_seq p (.inr rfl) ho hc hd (λh' c' kp e=>fin its r' hz h' c' kp e) (by simp only[Qq5]<;>omega)
def Df:jg X (.type "tuple") (λxs H Q=>∃p ys,xs=[.ref p]/\((ju X.K H p ys/\∀l,H l=none->Q (.ref l) (upd H l (.tup ys)))\/(mK X.K H p ys/\Q (.ref p) H))):=by
 intro pins s σ H xs us Q I r h;obtain⟨p,ys,rfl,h⟩:=h;obtain⟨u,rfl,rx⟩:=vals1 r;cases rx;rcases h with ⟨hq,q⟩|⟨hq,q⟩
 ·obtain⟨its,r',pl,hz⟩:=I.list hq;have hlen:=r'.length;refine call_tuple_list pl.isList (λh' kp=>?_) (by simp only[Qq5]<;>omega);have I1:Inv X pins σ H { s with heap:=h' }:=I.kept (t':=s.toks) kp;have I2:Inv X pins σ (upd H h'.objs.size (.tup ys)) { s with heap:=h'.push { cls:=.type "tuple",data:=.seq its.toArray } }:=
   I1.laid (t':=s.toks) (λb o e=>Qqz _ e) (Qq0 _) (show gH X.prog X.w _ _ _ (.tup ys) from⟨hz,its,r',Dh.new _ _⟩)
  exact⟨.ref h'.objs.size,_,I2,rfl,q _ (I1.hok.fresh (Qq0 _))⟩
 ·obtain⟨its,r',pl,hz⟩:=I.tuple hq;exact call_tuple_same pl ⟨.ref p,H,I,rfl,q⟩
def tyV(K:PySem.W.Frag)(T:String)(x:V)(H:Hp):Prop:=match x with
 | .str _=>T = "str"
 | .int _=>T = "int"
 | .ref p=>(T = "list"/\∃xs,ju K H p xs)\/(T = "tuple"/\∃o,K.lookup p=some o/\o.cls = .type "tuple"/\o.dict=none)\/
   (T = "dict"/\((∃kvs,H p=some (.dK kvs))\/∃kvs,H p=some (.dT kvs)))\/(T = "set"/\∃S n,H p=some (.set S n))
 | _=>False
def abx{pins:List (Addr×Obj)}{σ:St}{H:Hp}{s:Shared}{T:String}{x:V}{v:Value}(I:Inv X pins σ H s)(r:RelV x v)(ty:tyV X.K T x H) :
  s.TypeIs v T/\∀a,v = .ref a->∃ob,s.heap.get? a=some ob/\ob.dict=none:=by
 cases x with
 | str z=>
  obtain⟨t,rfl⟩:=r;cases(show T = "str" from ty);exact⟨typeIs_str s z t,λ_ e=>nomatch e⟩
 | int i=>
  obtain⟨t,rfl⟩:=r;cases(show T = "int" from ty);exact⟨typeIs_int s i t,λ_ e=>nomatch e⟩
 | ref p=>
  cases r;rcases ty with ⟨rfl,xs,hq⟩|⟨rfl,o,hk,hc,hd⟩|⟨rfl,hk⟩|⟨rfl,S,n,hk⟩
  ·obtain⟨its,_,pl,_⟩:=I.list hq;refine⟨pl.isList.typeIs,λa e=>?_⟩;cases e;obtain⟨o,n,e,c,hd,_⟩:=pl;exact⟨o,e,hd⟩
  ·refine⟨⟨o,I.kIn p o hk,hc⟩,λa e=>?_⟩;cases e;exact⟨o,I.kIn _ o hk,hd⟩
  ·have z:∃o,s.heap.get? p=some o/\o.ExactDict:=by
    rcases hk with ⟨kvs,hk⟩|⟨kvs,hk⟩
    ·obtain⟨_,_,_,_,o,_,_,e,ex,_⟩:=I.hok p _ hk;exact⟨o,e,ex⟩
    ·obtain⟨_,_,_,_,o,_,_,e,ex,_⟩:=I.hok p _ hk;exact⟨o,e,ex⟩
   obtain⟨o,e,ex⟩:=z;refine⟨⟨o,e,ex.1⟩,λa e2=>?_⟩;cases e2;exact⟨o,e,ex.2.1⟩
  ·obtain⟨o,_,_,_,e,ex,_⟩:=I.hok p _ hk;refine⟨⟨o,e,ex.1⟩,λa e2=>?_⟩;cases e2;exact⟨o,e,ex.2.1⟩
 | _=>exact False.elim ty
def tBM(K:PySem.W.Frag)(T:String)(r:V->List V->Hp->VK->Prop)(to:TE)(t:TA):TE:=λσ H Q=>to σ H λx H1=>tyV K T x H1/\t σ H1 λxs H2=>r x xs H2 Q
variable{o e:Expr}{es:List Expr}{to:TE}{t:TA}{name:Str}{apos cpos:Pos}{T id:String}{r:V->List V->Hp->VK->Prop}
def Vd(pa:PlainAttrs T)(slot:Slot T name id)(hty:typeOf (.builtin id)=pure (.type "method_descriptor"))(hm:MtR X id r)(ho:PE X o to)(ha:PA X (e::es) t)
  (hbase:attributeBase o name X.env (eval o X.env)=eval o X.env:=by rfl)
  (hfew:((backTo cpos (starEach (e::es) X.env)).all (λx=>!x.1)&&(backToKw cpos (keywordEach [] X.env)).all (λx=>x.1.isSome)
   && decide ((e::es).length+([]:List Keyword).length+(if ([]:List Keyword).isEmpty then 0 else 1)<30))=true:=by rfl)
  (hline:(apos.endLine == cpos.line)=true:=by rfl) (hs:starEach (e::es) X.env=(false,eval e X.env)::starEach es X.env:=by rfl) (hplain:(backTo cpos (starEach es X.env)).any (·.1)=false:=by rfl) :
  PE X (.Call (.Attribute o name apos) (e::es) [] cpos) (tBM X.K T r to t):=by
 intro pins s σ H Q I h;refine wpAny_Call_method_late hbase hfew hline rfl (fL (ho pins s σ H _ I h) λv s1 ⟨x,H1,I1,r1,ty,q1⟩=>?_);obtain⟨h1,h2⟩:=abx I1 r1 ty;refine⟨T,id,pa,slot,hty,h1,h2,?_⟩;have hA:=ha cpos pins s1 σ H1 _ I1 q1;rw[hs] at hA ⊢;refine Calls.callWith_builtin (by show(false||(backTo cpos (starEach es X.env)).any (·.1))=false;rw[hplain]<;>rfl) (Calls.evalArgs_plain ?_);exact fL hA λus s2 ⟨vs,H2,I2,r2,q2⟩=>hm pins s2 σ H2 x vs v us Q I2 r1 r2 q2
end
def MtM(X:Cx)(id:String)(r:V->List V->Hp->VK->Prop):Prop:=
 ∀(pins:List (Addr×Obj)) (s:Shared) (σ:St) (H:Hp) (x:V) (xs:List V) (v:Value) (us:List Value) (Q:VK),Inv X pins σ H s->RelV x v->Vals xs us->r x xs H Q->
  wpAny (model X.prog X.w) X.A (call (.builtin id) (v::us)) (EP X pins σ Q) X.xe s
theorem Vals.one:∀{x:V} {us:List Value},Vals [x] us->∃u,us=[u]/\RelV x u
 | _,_,.cons r .nil=>⟨_,rfl,r⟩
theorem Vals.two:∀{x y:V} {us:List Value},Vals [x,y] us->∃u v,us=[u,v]/\RelV x u/\RelV y v
 | _,_,_,.cons r (.cons q .nil)=>⟨_,_,rfl,r,q⟩
section
variable{X:Cx}{pins:List (Addr×Obj)}{σ:St}{H:Hp}{s:Shared}{l b:Addr}{xs ys zs:List V}
def Inv.afJ{its its':List Value}{n:Nat}{f:Array Value->Array Value}{t':Nat}(I:Inv X pins σ H s)(hH:H l=some (.lst xs))
  (e:s.heap.get? l=some { cls:=.type "list",data:=.seq its.toArray n }) (hf:f its.toArray=its'.toArray) (hv:Vals ys its') (hz:ys.length<=sizeLine) :
  Inv X pins σ (upd H l (.lst ys)) { s with heap:=s.heap.update l (Obj.mapSeq f),toks:=t' }:=by
 have q:=PySem.IsL.update e f;rw[hf] at q;refine I.write (x:=l) (e:=l) (by rw[hH];exact trivial) (.inl rfl) (λb' u hb hu=>(Heap.get?_update_other s.heap (Obj.mapSeq f) (Ne.symm hb)).trans hu) ⟨_,q⟩ ?_;exact⟨hz,its',_,hv,q⟩
def Inv.afK{its:List Value}{t':Nat}(I:Inv X pins σ H s)(hv:Vals ys its)(hz:ys.length<=sizeLine) :
  Inv X pins σ (upd H s.heap.objs.size (.lst ys)) { s with heap:=s.heap.push { cls:=.type "list",data:=.seq its.toArray },toks:=t' }:=
 I.laid (λ_ _ q=>Qqz _ q) (Qq0 _) ⟨hz,its,0,hv,Qwj _ rfl⟩
def Inv.fresh(I:Inv X pins σ H s):H s.heap.objs.size=none:=I.hok.fresh (Qq0 _)
def Inv.Vz(I:Inv X pins σ H s)(hH:H l=some (.lst xs)):xs.length<=sizeLine/\∃(its:List Value) (n:Nat),Vals xs its/\xs.length=its.length/\s.heap.get? l=some { cls:=.type "list",data:=.seq its.toArray n }:=by obtain⟨z,its,n,r,e⟩:=I.hok l _ hH;exact⟨z,its,n,r,r.length,e⟩
def Vp{n:Nat}(h:n<=sizeLine):Builtin.List.listTooLong n=false:=by unfold Builtin.List.listTooLong;exact Qw0 (by omega)
end
section
variable{X:Cx}{prog:Program}{w:World}{A:Around}{E:Value->Shared->Prop}{s:Shared}
def Yj:V->List V->Hp->VK->Prop:=λx vs H Q=>∃l xs y,x = .ref l/\vs=[y]/\H l=some (.lst xs)/\xs.length<sizeLine/\Q .non (upd H l (.lst (xs++[y])))
def Ec:MtM X "list.append" Yj:=by intro pins s σ H x vs v us Q I rx rv h;obtain⟨l,xs,y,rfl,rfl,hH,hz,q⟩:=h;cases rx;obtain⟨u,rfl,ru⟩:=rv.one;obtain⟨z,its,n,r,hl,e⟩:=I.Vz hH;refine call_meets F.slot_list_append ⟨_,e,rfl⟩ F.entry_list_append (F.args_list_append_2 _ _) (PySem.list_append l its.toArray n u (by rw[Qq5];omega)) ⟨e,?_⟩;refine⟨.non,_,I.afJ (its':=its++[u]) hH e (by simp) (r.append (.cons ru .nil)) ?_,rfl,q⟩;rw[Qqj,Qwq];omega
def Yi:V->List V->Hp->VK->Prop:=λx vs H Q=>∃l b xs zs,x = .ref l/\vs=[.ref b]/\H l=some (.lst xs)/\H b=some (.lst zs)/\xs.length+zs.length<=sizeLine/\Q .non (upd H l (.lst (xs++zs)))
def Ri:MtM X "list.extend" Yi:=by
 intro pins s σ H x vs v us Q I rx rv h;obtain⟨l,b,xs,zs,rfl,rfl,hH,hB,hz,q⟩:=h;cases rx;obtain⟨u,rfl,ru⟩:=rv.one;cases ru;obtain⟨z,its,n,r,hl,e⟩:=I.Vz hH;obtain⟨z2,its2,n2,r2,hl2,e2⟩:=I.Vz hB;have hsz:its.toArray.size+its2.toArray.size<=sizeLine:=by rw[Qq5,Qq5];omega
 have af2:¬(!its.toArray.isEmpty&&Builtin.List.listTooLong (its.toArray.size+its2.toArray.size))=true:=by rw[Vp hsz,Bool.and_false];exact Qw5
 refine call_meets F.slot_list_extend ⟨_,e,rfl⟩ F.entry_list_extend (F.args_list_extend_2 _ _)
  (AutoSeq1.list_extend_list_list_0 l its.toArray n b its2.toArray n2 af2 (by rw[Qq5];omega) (by omega)) ⟨e,e2,?_⟩
 refine⟨.non,_,I.afJ (its':=its++its2) hH e (by simp) (r.append r2) ?_,rfl,q⟩;rw[Qqj];omega
def ae9:R2:=λx y H Q=>∃l b xs zs,x = .ref l/\y = .ref b/\H l=some (.lst xs)/\H b=some (.lst zs)/\xs.length+zs.length<=sizeLine/\∀p,H p=none->Q (.ref p) (upd H p (.lst (xs++zs)))
def acG:ph X (binaryOp .Add) ae9:=by
 intro pins s σ H x y v u Q I rx ry h;obtain⟨l,b,xs,zs,rfl,rfl,hH,hB,hz,q⟩:=h;cases rx;cases ry;obtain⟨z,its,n,r,hl,e⟩:=I.Vz hH;obtain⟨z2,its2,n2,r2,hl2,e2⟩:=I.Vz hB;refine PySem.P.add_list e e2 ?_ (by rw[Qq5,Qq5];omega);have ea:its.toArray++its2.toArray=(its++its2).toArray:=by simp
 rw[ea];exact⟨.ref _,_,I.afK (t':=s.toks) (r.append r2) (by rw[Qqj];omega),rfl,q _ I.fresh⟩
set_option maxRecDepth 100000 in
end
end L2
namespace Att
open PySem PySem.W PySem.Calls PyProof.Rows
def yZ{P:Params}{h:Heap}:∀(ns:List Int) (vs:List Value),WellAll P h vs (ns.map WData.int)->IntsAre vs ns:=by
 intro ns
 induction ns with
 | nil=>
  intro vs w;rw[Qv1] at w;cases w;exact .nil
 | cons n ns ih=>
  intro vs w;rw[Qq8] at w;cases w with
  | cons a b=>
   cases a;exact .cons _ _ (ih _ b)
def QF{l:OpenLaw}{n:Nat}(hn:l.most=some n){P:Params}{h:Heap}{args:List WData}{vals:List Value}
  (hpre:l.row.toRowW.claim.pre args=true) (hwl:WellAll P h vals args) :
  ∃a vs ns,vals=[Value.ref a]/\args=[WData.list (ns.map WData.int)]/\h.get? a=some { cls:=.type "list",data:=.seq vs.toArray }/\IntsAre vs ns/\ns.length<=n:=by
 have hsh:WShape.hasAll [] args [.list .int]=true:=(pre_splitW hpre).1;have hc:l.pre.holds [] { args:=args }=true:=(pre_splitW hpre).2;obtain⟨d,r,rfl,h1,h2⟩:=hasAllW_cons hsh;obtain rfl:=hasAllW_nil h2;obtain⟨xs,rfl,h3⟩:=hasW_list h1;obtain⟨ns,rfl⟩:=items_int h3;have hlen:ns.length<=n:=by
  unfold OpenLaw.pre at hc;have h4:(WTm.not (.lt (.lit (.int (n:Int))) (.len (.arg 0)))).holds [] { args:=[.list (ns.map .int)] }=true:=by have h4:=(holds_andW hc).1;rw[hn] at h4;exact h4
  have h5:=condW_of h4 (w_not (w_lt w_lit (w_len_list (w_arg rfl))));rw[Qqx] at h5;refine Nat.le_of_not_lt λq=>?_;have q':(n:Int)<((ns.length:Nat):Int):=by omega
  first
   | (rw[Qw8 q'] at h5;exact absurd h5 (by decide))
   | (simp at h5;omega)
 cases hwl with
 | cons w1 w2=>
  cases w2;cases w1 with
  | list ho hall=>exact⟨_,_,ns,rfl,rfl,ho,yZ ns _ hall,hlen⟩
def Q3(l:OpenLaw)(args:List WData):l.row.toRowW.claim.post args (.bool true) args=true:=
 postW_of (r:=l.row.toRowW) (X:=(true == true))
  (show WShape.has [] (.bool true) .bool=true by first|rfl|decide|simp[WShape.has,WShape.arms,WShape.armsAll])
  (show(WTm.eq .res (.lit (.bool true))).value [] { args:=args,res:=some (.bool true),after:=args }=some (.bool (true == true)) from w_eq_bool (w_res rfl) w_lit) rfl
end Att
namespace L2
open PySem PySem.Spec PyProof.Rows
theorem Dq:∀{vs:List Value} {ns:List Int},IntsAre vs ns->Vals (ns.map V.int) vs
 | _,_,.nil=>.nil
 | _,_,.cons n t h=>.cons ⟨t,rfl⟩ (Dq h)
def Only(H:Hp):Prop:=∀b,H b=none\/∃o xs,H b=some (.JP o (.lst xs))
theorem VJ{P:Program}{w:World}{K:PySem.W.Frag}{mg mb:Str->Option Value}{CX:CXT}{k:Nat}{fa a:Addr}{fd:FuncData}{x:Str}{sp:Sp}{s₁:Shared}{vs:List Value}{ns:List Int}
  (KX:K.In s₁.heap) (hns:s₁.heap.Ns mainGlobals mg) (hb:s₁.heap.Ns builtinsNs mb) (hbb:∀x:Str,x ≠ "__name__"->mb x=bootBuiltins x) (hlim:s₁.heap.NoLimit) (hg:s₁.gens = #[])
  (ha:s₁.heap.get? a=some { cls:=.type "list",data:=.seq vs.toArray }) (hi:IntsAre vs ns) (hl:ns.length<=sizeLine) (hr:ji k callerA)
  (F:∀base:Heap,K.In base->base.Ns mainGlobals mg->pP P w K mg base CX k fa fd [x] sp) (hbind:∀(s:Shared) (u:Value),BindsTo s fd ⟨[u],[]⟩ [(x,u)])
  (hsp:∀H:Hp,Only H->ju K H a (ns.map V.int)->sp [.ref a] H (λv _=>v = .bl true) λ_ _ _=>False)
  (hCX:∀H e s',CX [] H s₁ (λ_ _ _=>False) e s'->False) :
  codeAny (model P w) callerA (.call (.ref fa) ⟨[.ref a],[]⟩) (λr s'=>r = .ok (.ret (.bool true))/\OldK s₁.heap s'.heap/\s'.os=s₁.os/\AllBare s'.gens) s₁:=by
 have rv:=Dq hi;have lenV:=hi.length
 -- from an abstract heap in which nothing but the script may be tracked
 have core:∀H:Hp,Only H->ju K H a (ns.map V.int)->wL P w H s₁.heap->(∀b,H b≠none->b=a)->(H a≠none->K.lookup a=none)->
   codeAny (model P w) callerA (.call (.ref fa) ⟨[.ref a],[]⟩) (λr s'=>r = .ok (.ret (.bool true))/\OldK s₁.heap s'.heap/\s'.os=s₁.os/\AllBare s'.gens) s₁:=by
  intro H hO hS hok hA hK;have Qf:∀{b:Addr} {o:Obj},s₁.heap.get? b=some o->H b=none->(Gx s₁.heap H).get? b=some o:=λe n=>V9 e n;have noA:∀{b:Addr} {o:Obj} {es:Array DictEntry} {ep:Nat},s₁.heap.get? b=some o->o.data = .dict es ep->H b=none:=λ{b o es ep} e d=>by
   cases q:H b with
   | none=>rfl
   | some u=>
    have e':b=a:=hA b (by rw[q];simp);subst e';rw[ha] at e;cases e;have d':Data.seq vs.toArray _=Data.dict es ep:=d;cases d'
  have nsK:∀{b:Addr} {m:Str->Option Value},s₁.heap.Ns b m->(Gx s₁.heap H).Ns b m:=λ{b m} ⟨o,es,ep,e,d,r⟩=>⟨o,es,ep,Qf e (noA e d),d,r⟩;have hKb:K.In (Gx s₁.heap H):=λb o e=>Qf (KX b o e) (by
   cases q:H b with
   | none=>rfl
   | some u=>
    have e':b=a:=hA b (by rw[q];simp);subst e';rw[hK (by rw[q];simp)] at e;cases e)
  have hM:Mod K mg (Gx s₁.heap H):=⟨hKb,nsK hns,⟨mb,nsK hb,hbb⟩,let ⟨mc,h1,h2⟩:=hlim;⟨mc,nsK h1,h2⟩⟩;have e0:aat P w K mg (Gx s₁.heap H) callerA [] s₁ H:=⟨rfl,hM,λb o e=>Y6 e,Nat.le_of_eq (Ru _ _),trivial,λb hb=>absurd (show b∈([]:List Addr) from hb) (by simp),hok,.of_eq hg⟩;refine codeAny_mono ((F _ hKb (nsK hns)).run callerA [] s₁ H ⟨[.ref a],[]⟩ [.ref a] [.ref a] _ _ hr e0 (hbind s₁ (.ref a)) (.cons rfl .nil) (hsp H hO hS)) λr s' h=>?_;cases r with
  | error e=>exact(hCX H e s' h).elim
  | ok fl=>
   cases fl with
   | next=>exact False.elim h
   | brk=>exact False.elim h
   | cont=>exact False.elim h
   | ret u=>
    obtain⟨v,H',os,bare,un,hok',r',q⟩:=h;have q':v = .bl true:=q;subst q';obtain rfl:u=Value.bool true:=r';refine⟨rfl,OldK.of_keep λb o e=>?_,os,bare⟩;cases q:H b with
    | none=>exact un.keep b o e q (by intro z;exact absurd (show b∈([]:List Addr) from z) (by simp)) (by simp)
    | some u=>
     rcases hO b with z|⟨ob,xs,z⟩
     ·rw[q] at z;cases z
     ·have z2:=un.Bp b ob _ z;obtain⟨e1,_⟩:=hok b _ z;obtain⟨e2,_⟩:=hok' b _ z2;rw[e] at e1;cases e1;exact e2
 cases hk:K.lookup a with
 | some o=>
  -- the script is one of the module's own objects
  have e:=KX a o hk;rw[ha] at e;cases e;refine core (λ_=>none) (λ_=>.inl rfl) (.inr ⟨_,vs.toArray,_,hk,rfl,rfl,rfl,by rw[Qq5,lenV];exact hl,by simpa using rv⟩) (λb u z=>by have z':(none:Option HO)=some u:=z;cases z') (λb z=>absurd rfl z) λz=>absurd rfl z
 | none=>
  refine core (λb=>if b=a then some (.JP { cls:=.type "list",data:=.seq vs.toArray } (.lst (ns.map V.int))) else none) (λb=>?_) (.inl (.inr ⟨{ cls:=.type "list",data:=.seq vs.toArray },if_pos rfl⟩)) (λb u z=>?_) (λb z=>?_) λ_=>hk
  ·by_cases hb:b=a
   ·exact .inr ⟨_,_,if_pos hb⟩
   ·exact .inl (if_neg hb)
  ·by_cases hb:b=a
   ·have z':=(if_pos hb).symm.trans z;cases z';subst hb;exact⟨ha,by rw[Qqx];exact hl,vs,_,rv,ha⟩
   ·have z':=(if_neg hb).symm.trans z;cases z'
  ·by_cases hb:b=a
   ·exact hb
   ·exact absurd (if_neg hb) z
def j9(s:Stmt):Arguments:=match s with
 | .FunctionDef _ a _ _ _ _ _ _ _ _=>a
 | _=>{ posonlyargs:=[],args:=[],vararg:=none,kwonlyargs:=[],kw_defaults:=[],kwarg:=none,defaults:=[] }
def fJ(s:Stmt):List Stmt:=match s with
 | .FunctionDef _ _ b _ _ _ _ _ _ _=>b
 | _=>[]
def aN(s:Stmt):Scope:=match s with
 | .FunctionDef _ _ _ _ _ _ sc _ _ _=>sc
 | _=>{ kind:=.function,names:=[],isGenerator:=false,isCoroutine:=false }
abbrev Hj:CXT:=λ_ _ _ _ _ _=>False
abbrev E0:XK:=λ_ _ _=>False
def Ve{X:Cx}:Passes Hj X E0:=λ_ _ _ _ _ _ _ h=>h.elim
structure Xk(K:PySem.W.Frag)(x qual:Str)(st:Stmt)(f:Addr)(fd:FuncData):Prop where
 ex:∃(oc:Value) (od:Option Addr) (kV doc pm:Value) (an:Option Addr) (cdv ct:Value) (osl:Array (Option Value)),
  fd=PySem.W.fnOf x qual (j9 st) (fJ st) (aN st) .none kV doc pm an cdv ct/\K.lookup f=some ⟨oc,od,.func fd,osl⟩/\PySem.W.codeIn K cdv qual=true
 kp:PySem.W.keepIn K (.ref f)=true
section
variable{P:Program}{w:World}{K:PySem.W.Frag}{mg:Str->Option Value}{base:Heap}
def Xk.ok{x qual:Str}{st:Stmt}{f:Addr}{fd:FuncData}{N ps:List Str}{k:Nat}{sp:Sp}(F:Xk K x qual st f fd)(S:bB N ps (aN st))(len:∀vs H Q E,sp vs H Q E->vs.length=ps.length)
  (hbody:∀(cdv:Value) (A:Around) (outer:List Env) (s:Shared) (H:Hp) (vs:List V) (Q:VK) (E:XK),ji k (A.deeper (envOfC qual (aN st) s.heap.objs.size f cdv))->sp vs H Q E->
   ∃t,Ks (M5 Hj P w K mg base N qual (aN st) f cdv A outer s H E).nox (fJ st) t/\t { nx:=λ_ H'=>Q .non H',rt:=Q } (start N vs) H):pP P w K mg base Hj (k+1) f fd ps sp:=by
 obtain⟨oc,od,kV,doc,pm,an,cdv,ct,osl,rfl,lk,hcd⟩:=F.ex;refine agc lk hcd S len λA outer s H vs Q E hr hsp=>?_;obtain⟨t,h,q⟩:=hbody cdv A outer s H vs Q E hr hsp;exact⟨t,h.nox,q⟩
def Xk.binds{x qual:Str}{st:Stmt}{f:Addr}{fd:FuncData}{ps:List Str}(F:Xk K x qual st f fd)
  (h:∀(kV doc pm:Value) (an:Option Addr) (cdv ct:Value) (us:List Value),us.length=ps.length->bindArgs (PySem.W.fnOf x qual (j9 st) (fJ st) (aN st) .none kV doc pm an cdv ct) ⟨us,[]⟩=pure (ps.zip us)):Binds K fd ps []:=by
 obtain⟨oc,od,kV,doc,pm,an,cdv,ct,osl,rfl,lk,hcd⟩:=F.ex;exact .all (h kV doc pm an cdv ct)
def MP{x qual:Str}{st:Stmt}{f:Addr}{oc:Value}{od an:Option Addr}{osl:Array (Option Value)}{kV doc pm cdv ct:Value}(l:K.lookup f=some ⟨oc,od,.func (PySem.W.fnOf x qual (j9 st) (fJ st) (aN st) .none kV doc pm an cdv ct),osl⟩)
  (c:PySem.W.codeIn K cdv qual=true) (k:PySem.W.keepIn K (.ref f)=true):Xk K x qual st f (PySem.W.fnOf x qual (j9 st) (fJ st) (aN st) .none kV doc pm an cdv ct):=⟨⟨oc,od,kV,doc,pm,an,cdv,ct,osl,rfl,l,c⟩,k⟩
end
def ahD{A B:Prop}(h:B):if false=true then A else B:=by rw[if_neg Qw5];exact h
def ahC{A B:Prop}(h:A):if true=true then A else B:=by rw[if_pos rfl];exact h
def aR(H H':Hp):Prop:=∀b o,H b=some o->H' b=some o
def aR.refl(H:Hp):aR H H:=λ_ _ h=>h
def aR.trans{H H1 H2:Hp}(a:aR H H1)(b:aR H1 H2):aR H H2:=λc o h=>b c o (a c o h)
def aR.free{H H':Hp}(e:aR H H'){l:Addr}(h:H' l=Option.none):H l=Option.none:=by
 cases q:H l with
 | none=>rfl
 | some o=>
  rw[e l o q] at h;cases h
theorem aR.seq{K:PySem.W.Frag}{H H':Hp}{a:Addr}{xs:List V}(e:aR H H')(h:ju K H a xs):ju K H' a xs:=by
 rcases h with (h|⟨o,h⟩)|h
 ·exact .inl (.inl (e _ _ h))
 ·exact .inl (.inr ⟨o,e _ _ h⟩)
 ·exact .inr h
section
variable{κ:Type}[DecidableEq κ]
def qR(kvs:List (κ×V))(k:κ):Option V:=(kvs.find? λkv=>decide (kv.1=k)).map (·.2)
def putK(kvs:List (κ×V))(k:κ)(v:V):List (κ×V):=
 if (kvs.any λkv=>decide (kv.1=k))=true then kvs.map (λkv=>if kv.1=k then (kv.1,v) else kv) else kvs++[(k,v)]
def uU{p:κ×V}{r:List (κ×V)}{k:κ}(e:p.1=k):qR (p::r) k=some p.2:=by simp[qR,Qz6,e]
def uV{p:κ×V}{r:List (κ×V)}{k:κ}(e:¬p.1=k):qR (p::r) k=qR r k:=by simp[qR,Qz6,e]
theorem zV(k:κ):∀kvs:List (κ×V),(kvs.any λkv=>decide (kv.1=k))=(qR kvs k).isSome
 | []=>rfl
 | p::r=>by
  rw[List.any_cons];by_cases e:p.1=k
  ·simp only[uU e,Qw8 e,Bool.true_or,Option.isSome_some]
  ·rw[uV e,Qw0 e,Bool.false_or];exact zV k r
def n8(kvs:List (κ×V))(k:κ)(v:V):(putK kvs k v).length<=kvs.length+1:=by
 unfold putK;split
 ·rw[Qqx];omega
 ·rw[Qqj,Qqw,Qx2];omega
def wJ.lg{o:Option V}{u:Option Value}(r:wJ o u):o.isSome=u.isSome:=by
 cases o with
 | none=>cases u with
  | none=>rfl
  | some _=>exact(show False from r).elim
 | some _=>cases u with
  | none=>exact(show False from r).elim
  | some _=>rfl
def wJ.getD{o:Option V}{u:Option Value}{d:V}{d':Value}(r:wJ o u)(rd:RelV d d'):RelV (o.getD d) (u.getD d'):=by
 cases o with
 | none=>cases u with
  | none=>exact rd
  | some _=>exact(show False from r).elim
 | some _=>cases u with
  | none=>exact(show False from r).elim
  | some _=>exact r
def KV.val{kvs:List (κ×V)}{vs:List (κ×Value)}(r:KV kvs vs)(k:κ):wJ (qR kvs k) (valueAt vs k):=by
 unfold KV at r
 induction r with
 | nil=>exact True.intro
 | @cons p q ps qs h t ih=>
  obtain⟨h1,h2⟩:=h;by_cases e:p.1=k
  ·have e':q.1=k:=h1.symm.trans e;have b:valueAt (q::qs) k=some q.2:=by simp[valueAt,Qz6,e']
   rw[uU e,b];exact h2
  ·have e':¬q.1=k:=λz=>e (h1.trans z);have b:valueAt (q::qs) k=valueAt qs k:=by simp[valueAt,Qz6,e']
   rw[uV e,b];exact ih
def KV.any{kvs:List (κ×V)}{vs:List (κ×Value)}(r:KV kvs vs)(k:κ):(kvs.any λkv=>decide (kv.1=k))=vs.any λkv=>decide (kv.1=k):=by
 unfold KV at r
 induction r with
 | nil=>rfl
 | cons h t ih=>rw[List.any_cons,List.any_cons,ih,h.1]
def KV.repl{kvs:List (κ×V)}{vs:List (κ×Value)}(r:KV kvs vs)(k:κ){y:V}{u:Value}(ry:RelV y u) :
  KV (kvs.map λkv=>if kv.1=k then (kv.1,y) else kv) (vs.map λkv=>if kv.1=k then (kv.1,u) else kv):=by
 unfold KV at r ⊢
 induction r with
 | nil=>exact .nil
 | @cons p q ps qs h t ih=>
  rw[Qq8,Qq8];refine .cons ?_ ih;obtain⟨h1,h2⟩:=h;by_cases e:p.1=k
  ·rw[if_pos e,if_pos (h1.symm.trans e)];exact⟨h1,ry⟩
  ·rw[if_neg e,if_neg (λz=>e (h1.trans z))];exact⟨h1,h2⟩
def KV.put{kvs:List (κ×V)}{vs:List (κ×Value)}(r:KV kvs vs)(k:κ){y:V}{u:Value}(ry:RelV y u):KV (putK kvs k y) (stored vs k u):=by
 unfold putK stored;rw[r.any k];by_cases e:(vs.any λkv=>decide (kv.1=k))=true
 ·rw[if_pos e,if_pos e];exact r.repl k ry
 ·rw[if_neg e,if_neg e];exact Paired.snoc r ⟨rfl,ry⟩
def KV.keys{kvs:List (κ×V)}{vs:List (κ×Value)}(r:KV kvs vs):kvs.map (·.1)=vs.map (·.1):=by
 unfold KV at r
 induction r with
 | nil=>rfl
 | cons h t ih=>rw[Qq8,Qq8,ih,h.1]
def KV.length{kvs:List (κ×V)}{vs:List (κ×Value)}(r:KV kvs vs):kvs.length=vs.length:=Paired.length r
end
def yp{P:Program}{w:World}{k:Key}{u:Value}(r:RelV (kV k) u):(dC P w).is k u=true:=by
 cases k with
 | inl i=>obtain⟨t,e⟩:=(show ∃t,u=Value.int i t from r);subst e;exact Ju P w i t
 | inr x=>obtain⟨t,e⟩:=(show ∃t,u=Value.str x t from r);subst e;exact Jt P w x t
theorem Eg{P:Program}{w:World}:∀{ks:List Key} {us:List Value},Vals (ks.map kV) us->ItemsAre (dC P w) ks us
 | [],_,r=>by rw[Qv1] at r;cases r;exact .nil
 | k::ks,_,r=>by
  rw[Qq8] at r;cases r with
  | cons h t=>exact .cons (yp h) (Eg t)
abbrev KT(H:Hp):List (List Key×V)->List (List Key×Addr×Value)->Prop:=Paired λp q=>p.1=q.1/\H q.2.1=some (.tup (p.1.map kV))/\RelV p.2 q.2.2
def KT.val{H:Hp}{kvs:List (List Key×V)}{xs:List (List Key×Addr×Value)}(r:KT H kvs xs)(k:List Key):wJ (qR kvs k) ((atKey xs k).map (·.2)):=by
 induction r with
 | nil=>exact True.intro
 | @cons p q ps qs h t ih=>
  obtain⟨h1,_,h2⟩:=h;by_cases e:p.1=k
  ·have e':q.1=k:=h1.symm.trans e;have b:atKey (q::qs) k=some q.2:=by simp[atKey,Qz6,e']
   rw[uU e,b];exact h2
  ·have e':¬q.1=k:=λz=>e (h1.trans z);have b:atKey (q::qs) k=atKey qs k:=by simp[atKey,Qz6,e']
   rw[uV e,b];exact ih
def KT.repl{H:Hp}{kvs:List (List Key×V)}{xs:List (List Key×Addr×Value)}(r:KT H kvs xs)(k:List Key){y:V}{u:Value}(ry:RelV y u) :
  KT H (kvs.map λkv=>if kv.1=k then (kv.1,y) else kv) (xs.map (putAt k u)):=by
 induction r with
 | nil=>exact .nil
 | @cons p q ps qs h t ih=>
  rw[Qq8,Qq8];refine .cons ?_ ih;obtain⟨h1,h2,h3⟩:=h;unfold putAt;by_cases e:p.1=k
  ·rw[if_pos e,if_pos (h1.symm.trans e)];exact⟨h1,h2,ry⟩
  ·rw[if_neg e,if_neg (λz=>e (h1.trans z))];exact⟨h1,h2,h3⟩
def KT.put{H:Hp}{kvs:List (List Key×V)}{xs:List (List Key×Addr×Value)}(r:KT H kvs xs)(k:List Key){b:Addr}{y:V}{u:Value}(hb:H b=some (.tup (k.map kV)))(ry:RelV y u) :
  KT H (putK kvs k y) (storedH xs k b u):=by
 have e:(kvs.any λkv=>decide (kv.1=k))=(atKey xs k).isSome:=by rw[zV,(r.val k).lg,Qvk]
 unfold putK storedH;rw[e];by_cases q:(atKey xs k).isSome=true
 ·rw[if_pos q,if_pos q];exact r.repl k ry
 ·rw[if_neg q,if_neg q];exact Paired.snoc r ⟨rfl,hb,ry⟩
def KT.keeps{H H':Hp}{kvs:List (List Key×V)}{xs:List (List Key×Addr×Value)}(r:KT H kvs xs)(ht:∀b ys,H b=some (.tup ys)->H' b=some (.tup ys)):KT H' kvs xs:=
 Paired.ac4 r λ_ _ z=>⟨z.1,ht _ _ z.2.1,z.2.2⟩
section
variable{P:Program}{w:World}{H:Hp}{h:Heap}{a:Addr}
def aaL{u:HO}(ok:wL P w H h)(e:Rd H a u):gH P w H h a u:=e.ok ok
def yt{kvs:List (Key×V)}(ok:wL P w H h)(e:Rd H a (.dK kvs)):kvs.length<=sizeLine/\(a == sysModules)=false/\∃vs,KV kvs vs/\h.DictOf (dC P w) a vs:=
 show gH P w H h a (.dK kvs) from aaL ok e
def aa6{kvs:List (Key×V)}(ok:wL P w H h)(e:H a=some (.dK kvs)):kvs.length<=sizeLine/\(a == sysModules)=false/\∃vs,KV kvs vs/\h.DictOf (dC P w) a vs:=yt ok (.inl e)
def xN{ks:List Key}(ok:wL P w H h)(e:H a=some (.tup (ks.map kV))):(tupleKind (dC P w)).is h ks a:=by obtain⟨_,its,r,o,h1,h2,⟨n,h3⟩,_⟩:=(show gH P w H h a (.tup (ks.map kV)) from ok a _ e);exact⟨o,its.toArray,n,h1,h2,h3,by simpa using Eg r⟩
def BK{kvs:List (List Key×V)}(ok:wL P w H h)(e:Rd H a (.dT kvs)):kvs.length<=sizeLine/\(a == sysModules)=false/\
  ∃xs,KT H kvs xs/\h.DictOfH (tupleKind (dC P w)) a xs:=by
 obtain⟨z,y,xs,r,o,es,ep,h1,h2,h3,h4,h5⟩:=(show gH P w H h a (.dT kvs) from aaL ok e);refine⟨z,y,xs,r,o,es,ep,h1,h2,h3,h4,λx hx=>?_,h5⟩;have all:∀{l:List (List Key×V)} {m:List (List Key×Addr×Value)},KT H l m->∀x∈m,(tupleKind (dC P w)).is h x.1 x.2.1:=by
  intro l m q
  induction q with
  | nil=>intro x hx;exact nomatch hx
  | @cons p q ps qs hq t ih=>
   intro x hx;rcases Qq1.mp hx with e|hx
   ·subst e;exact xN ok (by rw[<-hq.1];exact hq.2.1)
   ·exact ih x hx
 exact all r x hx
def age{kvs:List (List Key×V)}(ok:wL P w H h)(e:H a=some (.dT kvs)):kvs.length<=sizeLine/\(a == sysModules)=false/\
  ∃xs,KT H kvs xs/\h.DictOfH (tupleKind (dC P w)) a xs:=BK ok (.inl e)
end
def Dk(H:Hp)(a:Addr)(y:V)(r:Option V):Prop:=
 (∃kvs k,Rd H a (.dK kvs)/\y=kV k/\r=qR kvs k)\/∃kvs k b,Rd H a (.dT kvs)/\y = .ref b/\H b=some (.tup (k.map kV))/\r=qR kvs k
def Xn(H:Hp)(a:Addr)(y v:V)(H':Hp):Prop:=
 (∃kvs k,H a=some (.dK kvs)/\y=kV k/\kvs.length<sizeLine/\H'=upd H a (.dK (putK kvs k v)))\/
 ∃kvs k b,H a=some (.dT kvs)/\y = .ref b/\H b=some (.tup (k.map kV))/\kvs.length<sizeLine/\H'=upd H a (.dT (putK kvs k v))
theorem Xn.k{H:Hp}{a:Addr}{kvs:List (Key×V)}{k:Key}{v:V}(e:H a=some (.dK kvs))(hl:kvs.length<sizeLine):Xn H a (kV k) v (upd H a (.dK (putK kvs k v))):=.inl ⟨kvs,k,e,rfl,hl,rfl⟩
section
variable{X:Cx}{pins:List (Addr×Obj)}{σ:St}{H:Hp}{s:Shared}{a:Addr}{y v:V}{u r:Value}{o:Option V}{A:Around}{E:Value->Shared->Prop}
def Inv.big(I:Inv X pins σ H s):sysModules<s.heap.objs.size:=by have h:mainGlobals<s.heap.objs.size:=(I.mod.glob.keeps I.bk).lt;exact Nat.lt_trans (by decide) h
def RM{Q:Value->Shared->Prop}(hu:A.units+1<cLine)(I:Inv X pins σ H s)(g:Dk H a y (some v))(ry:RelV y u)(h:∀w' s',Inv X pins σ H s'->RelV v w'->Q w' s') :
  wpAny (model X.prog X.w) A (getItem (.ref a) u) Q E s:=by
 rcases g with ⟨kvs,k,e,ey,l⟩|⟨kvs,k,b,e,ey,eb,l⟩
 ·subst ey;obtain⟨z,hd,vs,rel,dd⟩:=yt I.hok e;obtain⟨w',hw,Lz⟩:=wJ.some_of (v:=v) (o:=valueAt vs k) (by rw[l];exact rel.val k);exact wpAny_getItem_of (yp ry) dd.mapOf hw (h w' _ (I.tok _) Lz)
 ·subst ey;cases(show u=Value.ref b from ry);obtain⟨z,hd,xs,rel,dd⟩:=BK I.hok e;obtain⟨w',hw,Lz⟩:=wJ.some_of (v:=v) (o:=(atKey xs k).map (·.2)) (by rw[l];exact rel.val k);obtain⟨p,hp,hp2⟩:=Qq6.mp hw;refine wpAny_getItem_heap (tupleKind_room_in1 hu) (xN I.hok eb) dd hp ?_;rw[hp2];exact h w' _ (I.tok _) Lz
def ah3{Q:Value->Shared->Prop}(hu:A.units+1<cLine)(I:Inv X pins σ H s)(g:Dk H a y o)(ry:RelV y u)(h:∀s',Inv X pins σ H s'->Q (.bool o.isSome) s') :
  wpAny (model X.prog X.w) A (compareOp .In u (.ref a)) Q E s:=by
 rcases g with ⟨kvs,k,e,ey,l⟩|⟨kvs,k,b,e,ey,eb,l⟩
 ·subst ey;obtain⟨z,hd,vs,rel,dd⟩:=yt I.hok e;refine wpAny_in_of (yp ry) hd dd.mapOf ?_;rw[<-(rel.val k).lg,<-l];exact h _ (I.tok _)
 ·subst ey;cases(show u=Value.ref b from ry);obtain⟨z,hd,xs,rel,dd⟩:=BK I.hok e;refine wpAny_in_heap (tupleKind_room_in1 hu) (xN I.hok eb) hd dd ?_;have q:=(rel.val k).lg;rw[Qvk] at q;rw[<-q,<-l];exact h _ (I.tok _)
def Z2{Q:Value->Shared->Prop}(hu:A.units+1<cLine)(I:Inv X pins σ H s)(g:Dk H a y o)(ry:RelV y u)(h:∀s',Inv X pins σ H s'->Q (.bool (!o.isSome)) s') :
  wpAny (model X.prog X.w) A (compareOp .NotIn u (.ref a)) Q E s:=by
 rcases g with ⟨kvs,k,e,ey,l⟩|⟨kvs,k,b,e,ey,eb,l⟩
 ·subst ey;obtain⟨z,hd,vs,rel,dd⟩:=yt I.hok e;refine wpAny_notIn_of (yp ry) hd dd.mapOf ?_;rw[<-(rel.val k).lg,<-l];exact h _ (I.tok _)
 ·subst ey;cases(show u=Value.ref b from ry);obtain⟨z,hd,xs,rel,dd⟩:=BK I.hok e;refine wpAny_notIn_heap (tupleKind_room_in1 hu) (xN I.hok eb) hd dd ?_;have q:=(rel.val k).lg;rw[Qvk] at q;rw[<-q,<-l];exact h _ (I.tok _)
def wB{h':Heap}{t':Nat}{ob:HO}(I:Inv X pins σ H s)(mu:Mut (H a))(hs:Heap.SameBut a s.heap h')(he:∃q,h'.get? a=some q)(new:gH X.prog X.w (upd H a ob) h' a ob) :
  Inv X pins σ (upd H a ob) { s with heap:=h',toks:=t' }:=
 I.write (x:=a) (e:=a) mu (.inl rfl) (λb q hb z=>(hs.2 b hb).trans z) he new
def Wu{P:Program}{w:World}{H':Hp}{h':Heap}{kvs:List (Key×V)}{vs:List (Key×Value)}(z:kvs.length<=sizeLine)(hd:(a == sysModules)=false)(rel:KV kvs vs)(dd:h'.DictOf (dC P w) a vs) :
  gH P w H' h' a (.dK kvs):=⟨z,hd,vs,rel,dd⟩
def RL{H':Hp}{Q:Unit->Shared->Prop}(hu:A.units+1<cLine)(I:Inv X pins σ H s)(g:Xn H a y v H')(ry:RelV y u)(rv:RelV v r)(h:∀s',Inv X pins σ H' s'->Q () s') :
  wpAny (model X.prog X.w) A (setItem (.ref a) u r) Q E s:=by
 rcases g with ⟨kvs,k,e,ey,l,eH⟩|⟨kvs,k,b,e,ey,eb,l,eH⟩
 ·subst ey eH;obtain⟨z,hd,vs,rel,dd⟩:=aa6 I.hok e;have hz:vs.length<=sizeLine:=by rw[<-rel.length];exact z
  have hl:(putK kvs k v).length<=sizeLine:=by have:=n8 kvs k v;omega
  refine wpAny_setItem_pairs (hsz:=hz) (yp ry) dd λh' Wv hs=>h _ ?_;have he:∃q,h'.get? a=some q:=let ⟨q,_,_,hq,_⟩:=Wv;⟨q,hq⟩
  exact wB I (by rw[e];exact True.intro) hs he (Wu hl hd (rel.put k rv) Wv)
 ·subst ey eH;cases(show u=Value.ref b from ry);obtain⟨z,hd,xs,rel,dd⟩:=age I.hok e;have hz:xs.length<=sizeLine:=by rw[<-Paired.length rel];exact z
  have hl:(putK kvs k v).length<=sizeLine:=by have:=n8 kvs k v;omega
  refine wpAny_setItem_heap (hsz:=hz) (tupleKind_room_in1 hu) (xN I.hok eb) dd λh' Wv hs=>h _ ?_;obtain⟨q,es,ep,hq,h2,h3,h4,_,h5⟩:=Wv;refine wB I (by rw[e];exact True.intro) hs ⟨q,hq⟩ ⟨hl,hd,_,(rel.put k eb rv).keeps λc ys ec=>?_,q,es,ep,hq,h2,h3,h4,h5⟩;rw[bL (afE ec e (λz=>nomatch z))];exact ec
end
def Nk(i:Expr):Prop:=∀ov iv,subscripted i false ov iv=operate [ov,iv] (getItem ov iv)
def Nz{prog:Program}{w:World}{A:Around}{E:Value->Shared->Prop}{s:Shared}{env:Env}{value slice:Expr}{pos:Pos}{T id:String}{Q:Value->Shared->Prop}
  (hl:typeLookup (.type T) "__getitem__" = pure (some (.builtin id))) (hs:Nk slice)
  (h:wpAny (model prog w) A (eval value env) (λo s₁=>wpAny (model prog w) A (eval slice env) (λi s₂=>s₂.TypeIs o T/\wpAny (model prog w) A (getItem o i) Q E s₂) E s₁) E s) :
  wpAny (model prog w) A (eval (.Subscript value slice pos) env) Q E s:=by
 refine Subscript_ (Qjv h (λo s₁ h₁=>Qjv h₁ (λi s₂ h₂=>?_) λ_ _ x=>x) λ_ _ x=>x);obtain⟨hT,h₂⟩:=h₂;unfold subscriptTail;refine Qqq ?_;rw[getitemInPython_of_ne hT.not_modules];refine Qqq (wpAny_specialOf hT hl ?_);have fin:wpAny (model prog w) A (subscripted slice false o i) (λr s₃=>wpAny (model prog w) A (letTemporaryGo value o r >>= λ_=>pure r) Q E s₃) E s₂:=by rw[hs o i];exact wpAny_operating (Qjv h₂ (λr s₃ h₃=>Qqq (wpAny_letTemporaryGo (Qq2 h₃))) λ_ _ x=>x)
 first
  | exact Qq2 (Qqq fin)
  | exact Qqq (Qq2 (Qqq fin))
  | exact Qqq fin
def J5{X:Cx}{pins:List (Addr×Obj)}{σ:St}{H:Hp}{s:Shared}{a:Addr}{y:V}{o:Option V}(I:Inv X pins σ H s)(g:Dk H a y o):s.TypeIs (.ref a) "dict":=by
 rcases g with ⟨kvs,k,e,_,_⟩|⟨kvs,k,b,e,_,_,_⟩
 ·obtain⟨_,_,vs,_,dd⟩:=yt I.hok e;exact dd.typeIs
 ·obtain⟨_,_,xs,_,dd⟩:=BK I.hok e;exact dd.typeIs
def aeJ(td ty:TE):TE:=λσ H Q=>td σ H λx H1=>ty σ H1 λy H2=>∃a v,x = .ref a/\Dk H2 a y (some v)/\Q v H2
def aeP(td ty tv:TE):TS:=λD σ H=>tv σ H λv H1=>td σ H1 λx H2=>ty σ H2 λy H3=>∃a H4,x = .ref a/\Xn H3 a y v H4/\D.nx σ H4
section
variable{X:Cx}{o i e value:Expr}{pos pos' tpos:Pos}{td ty tv:TE}
def YQ(hu:X.A.units+1<cLine)(ho:PE X o td)(hi:PE X i ty)(hs:Nk i):PE X (.Subscript o i pos) (aeJ td ty):=by intro pins s σ H Q I h;refine Nz PySem.F.slot_dict_getitem.lookup hs (fL (ho pins s σ H _ I h) λu s1 ⟨x,H1,I1,rx,q1⟩=>fL (hi pins s1 σ H1 _ I1 q1) λiv s2 ⟨y,H2,I2,ry,a,v,ex,g,q2⟩=>?_);subst ex;obtain rfl:u=Value.ref a:=rx;exact⟨J5 I2 g,RM hu I2 g ry λw' s3 I3 Lz=>⟨v,H2,I3,Lz,q2⟩⟩
def Yx(hu:X.A.units+1<cLine)(ho:PE X o td)(hi:PE X i ty)(hv:PE X value tv)(hs:swapsWith value (some (.Subscript o i pos')) pos.line X.env=pure false) :
  PS X (.Assign [.Subscript o i pos'] value pos) (aeP td ty tv):=by
 intro pins s σ H D I h;refine wpAny_Assign_Subscript (fL (hv pins s σ H _ I h) λr s1 ⟨v,H1,I1,rv,q1⟩=>fL (ho pins s1 σ H1 _ I1 q1) λu s2 ⟨x,H2,I2,rx,q2⟩=>fL (hi pins s2 σ H2 _ I2 q2) λiv s3 ⟨y,H3,I3,ry,a,H4,ex,g,q3⟩=>?_) hs;subst ex;obtain rfl:u=Value.ref a:=rx;exact RL hu I3 g ry rv λs4 I4=>⟨σ,H4,I4,q3⟩
end
def J4{P:Program}{w:World}{H:Hp}(h:Heap)(hb:sysModules<h.objs.size):gH P w H (h.push { cls:=.type "dict",data:=.dict #[] }) h.objs.size (.dK []):=
 ⟨Qxy _,Qz1.mpr (Ne.symm (Qw9 hb)),[],.nil,Heap.DictOf.new h⟩
def abH:TE:=λ_ H Q=>∀p,H p=none->Q (.ref p) (upd H p (.dK []))
section
variable{X:Cx}{pos:Pos}
def Va:PE X (.Dict [] [] pos) abH:=λpins s σ H Q I h=>
 wpAny_Dict_empty ⟨.ref s.heap.objs.size,_,I.laid (a:=s.heap.objs.size) (o:=.dK []) (t':=s.toks) (λ_ _ q=>Qqz _ q) (Qq0 _) (J4 s.heap I.big),rfl,h _ (I.hok.fresh (Qq0 _))⟩
end
def Lh:List (TE×TE)->St->Hp->(List (V×V)->Hp->Prop)->Prop
 | [],_,H,Q=>Q [] H
 | (tk,tv)::r,σ,H,Q=>tk σ H λx H1=>tv σ H1 λy H2=>Lh r σ H2 λps H3=>Q ((x,y)::ps) H3
abbrev VV:List (V×V)->List (Value×Value)->Prop:=Paired λp q=>RelV p.1 q.1/\RelV p.2 q.2
def PPs(X:Cx)(pos:Pos)(keys:List (Option Expr))(values:List Expr)(XN:List (TE×TE)):Prop:=
 ∀(pins:List (Addr×Obj)) (s:Shared) (σ:St) (H:Hp) (Q:List (V×V)->Hp->Prop),Inv X pins σ H s->Lh XN σ H Q->
  wpAny (model X.prog X.w) X.A (evalPairs (pairTrees keys values X.env pos)) (λvs s'=>∃ps H',Inv X pins σ H' s'/\VV ps vs/\Q ps H') X.xe s
def Yy{X:Cx}{pos:Pos}:PPs X pos [] [] []:=λpins s σ H Q I h=>pairTrees_nil_walk ⟨[],H,I,.nil,h⟩
def UT{X:Cx}{pos:Pos}{k v:Expr}{ks:List (Option Expr)}{vs:List Expr}{tk tv:TE}{XN:List (TE×TE)}(hk:PE X k tk)(hv:PE X v tv)(hr:PPs X pos ks vs XN) :
  PPs X pos (some k::ks) (v::vs) ((tk,tv)::XN):=λpins s σ H Q I h=>
 pairTrees_cons_walk (fL (hk pins s σ H _ I h) λu s1 ⟨x,H1,I1,rx,q1⟩=>fL (hv pins s1 σ H1 _ I1 q1) λw2 s2 ⟨y,H2,I2,ry,q2⟩=>
  fL (hr pins s2 σ H2 _ I2 q2) λws s3 ⟨ps,H3,I3,rel,q3⟩=>⟨(x,y)::ps,H3,I3,.cons ⟨rx,ry⟩ rel,q3⟩)
def xF(kvs more:List (Key×V)):List (Key×V):=more.foldl (λacc kv=>putK acc kv.1 kv.2) kvs
def KV.merge:∀{more:List (Key×V)} {rs:List (Key×Value)} {kvs:List (Key×V)} {vs:List (Key×Value)},KV more rs->KV kvs vs->KV (xF kvs more) (merged vs rs):=by
 intro more rs kvs vs r;unfold KV at r
 induction r generalizing kvs vs with
 | nil=>intro q;exact q
 | @cons p q ps qs h t ih=>
  intro r0;have e:KV (putK kvs p.1 p.2) (stored vs q.1 q.2):=by have:=r0.put p.1 h.2;rw[<-h.1];exact this
  exact ih e
theorem tU:∀(more kvs:List (Key×V)),(xF kvs more).length<=kvs.length+more.length
 | [],kvs=>by show kvs.length<=kvs.length+0;omega
 | p::r,kvs=>by
  have h1:=tU r (putK kvs p.1 p.2);have h2:=n8 kvs p.1 p.2;show(xF (putK kvs p.1 p.2) r).length<=_;rw[Qqw];omega
theorem BX{P:Program}{w:World}:∀{kvs:List (Key×V)} {ws:List (Value×Value)},VV (kvs.map λkv=>(kV kv.1,kv.2)) ws->∃rs,Carries (dC P w) ws rs/\KV kvs rs
 | [],_,r=>by rw[Qv1] at r;cases r;exact⟨[],True.intro,.nil⟩
 | p::kvs,_,r=>by
  rw[Qq8] at r;cases r with
  | @cons a b as bs h t=>
   obtain⟨rs,c,q⟩:=BX (P:=P) (w:=w) t;obtain⟨b1,b2⟩:=b;exact⟨(p.1,b2)::rs,⟨yp h.1,rfl,c⟩,.cons ⟨rfl,h.2⟩ q⟩
def aaH(XN:List (TE×TE)):TE:=λσ H Q=>∀p,H p=none->Lh XN σ (upd H p (.dK [])) λps H2=>H2 p=some (.dK [])/\∃kvs:List (Key×V),ps=kvs.map (λkv=>(kV kv.1,kv.2))/\kvs.length<=15/\Q (.ref p) (upd H2 p (.dK (xF [] kvs)))
def YM{X:Cx}{pos:Pos}{keys:List (Option Expr)}{values:List Expr}{XN:List (TE×TE)}(h:PPs X pos keys values XN)(hall:keys.all (·.isSome)=true)(hl:keys.length=values.length)(h0:keys≠[])
  (h15:keys.length<=15):PE X (.Dict keys values pos) (aaH XN):=by
 intro pins s σ H Q I q;have hn:=I.hok.fresh (Qq0 s.heap.objs.size);have I1:=I.laid (a:=s.heap.objs.size) (o:=.dK []) (h':=s.heap.push { cls:=.type "dict",data:=.dict #[] }) (t':=s.toks) (λ_ _ q=>Qqz _ q) (Qq0 _) (J4 s.heap I.big);refine wpAny_Dict_walk (knd:=dC X.prog X.w) hall hl h0 h15 (fL (h pins _ σ _ _ I1 (q _ hn)) λws s2 ⟨ps,H2,I2,rel,e,kvs,ep,lk,q2⟩=>?_);subst ep;obtain⟨rs,c,rk⟩:=BX (P:=X.prog) (w:=X.w) rel;obtain⟨z,hd,vs0,r0,dd⟩:=aa6 I2.hok e;cases r0;refine⟨rs,c,dd,λh' Wv hs=>⟨.ref s.heap.objs.size,_,?_,rfl,q2⟩⟩;have hz:(xF [] kvs).length<=sizeLine:=by have h1:=tU kvs [];rw[Qx2] at h1;rw[sizeLine_eq];omega
 have he:∃q,h'.get? s.heap.objs.size=some q:=let ⟨q,_,_,hq,_⟩:=Wv;⟨q,hq⟩
 exact wB I2 (by rw[e];exact True.intro) hs he (Wu hz hd (rk.merge .nil) Wv)
structure M1(X:Cx)(o:Expr)(m:Str)(apos:Pos)(e:Expr)(cpos:Pos):Prop where
 base:attributeBase o m X.env (eval o X.env)=eval o X.env
 few:((backTo cpos (starEach [e] X.env)).all (λx=>!x.1)&&(backToKw cpos (keywordEach [] X.env)).all (λx=>x.1.isSome)
  && decide (([e]:List Expr).length+([]:List Keyword).length+(if ([]:List Keyword).isEmpty then 0 else 1)<30))=true
 line:(apos.endLine == cpos.line)=true
 trees:backTo cpos (starEach [e] X.env)=[(false,eval e X.env)]
structure M2(X:Cx)(o:Expr)(m:Str)(apos:Pos)(e f:Expr)(cpos:Pos):Prop where
 base:attributeBase o m X.env (eval o X.env)=eval o X.env
 few:((backTo cpos (starEach [e,f] X.env)).all (λx=>!x.1)&&(backToKw cpos (keywordEach [] X.env)).all (λx=>x.1.isSome)
  && decide (([e,f]:List Expr).length+([]:List Keyword).length+(if ([]:List Keyword).isEmpty then 0 else 1)<30))=true
 line:(apos.endLine == cpos.line)=true
 trees:backTo cpos (starEach [e,f] X.env)=[(false,eval e X.env),(false,eval f X.env)]
def IsD(H:Hp)(a:Addr):Prop:=(∃kvs,Rd H a (.dK kvs))\/∃kvs,Rd H a (.dT kvs)
def adi{X:Cx}{pins:List (Addr×Obj)}{σ:St}{H:Hp}{s:Shared}{a:Addr}(I:Inv X pins σ H s)(d:IsD H a) :
  s.TypeIs (.ref a) "dict"/\(∀b,Value.ref a = .ref b->∃ob,s.heap.get? b=some ob/\ob.dict=none)/\(a == sysModules)=false:=by
 rcases d with ⟨kvs,e⟩|⟨kvs,e⟩
 ·obtain⟨_,hd,vs,_,dd⟩:=yt I.hok e;refine⟨dd.typeIs,λb q=>?_,hd⟩;cases q;obtain⟨ob,_,_,h1,h2,_⟩:=dd;exact⟨ob,h1,h2.2.1⟩
 ·obtain⟨_,hd,xs,_,dd⟩:=BK I.hok e;refine⟨dd.typeIs,λb q=>?_,hd⟩;cases q;obtain⟨ob,_,_,h1,h2,_⟩:=dd;exact⟨ob,h1,h2.2.1⟩
section
variable{X:Cx}{pins:List (Addr×Obj)}{σ:St}{H:Hp}{s:Shared}{a:Addr}{y d:V}{u r:Value}{o:Option V}{A:Around}{E:Value->Shared->Prop}
def adP{Q:Value->Shared->Prop}(hu:A.units+1<cLine)(I:Inv X pins σ H s)(g:Dk H a y o)(ry:RelV y u)(rd:RelV d r)(h:∀w' s',Inv X pins σ H s'->RelV (o.getD d) w'->Q w' s') :
  wpAny (model X.prog X.w) A (call (.builtin "dict.get") [.ref a,u,r]) Q E s:=by
 rcases g with ⟨kvs,k,e,ey,l⟩|⟨kvs,k,b,e,ey,eb,l⟩
 ·subst ey;obtain⟨z,hd,vs,rel,dd⟩:=yt I.hok e;refine call_meetsIn PySem.F.slot_dict_get dd.typeIs PySem.F.entry_dict_get (PySem.F.args_dict_get_3 _ _ _) (meets_dict_get_default (dC X.prog X.w) a (yp ry) hd r) ⟨_,dd.mapOf,h _ _ (I.tok _) ?_⟩;rw[l];exact(rel.val k).getD rd
 ·subst ey;cases(show u=Value.ref b from ry);obtain⟨z,hd,xs,rel,dd⟩:=BK I.hok e;refine call_meetsIn PySem.F.slot_dict_get dd.typeIs PySem.F.entry_dict_get (PySem.F.args_dict_get_3 _ _ _) (meetsH_dict_get_default (tupleKind (dC X.prog X.w)) a b hd r) ⟨tupleKind_room_in1 hu,k,xs,xN I.hok eb,dd,h _ _ (I.tok _) ?_⟩;rw[l];exact(rel.val k).getD rd
end
def abI(td ty tx:TE):TE:=λσ H Q=>td σ H λx H1=>∃a,x = .ref a/\IsD H1 a/\ty σ H1 λy H2=>tx σ H2 λz H3=>∃o,Dk H3 a y o/\Q (o.getD z) H3
section
variable{X:Cx}{o e f:Expr}{apos cpos:Pos}{td ty tx:TE}
def Vc(hu:X.A.units+1<cLine)(ho:PE X o td)(he:PE X e ty)(hf:PE X f tx)(m:M2 X o "get" apos e f cpos):PE X (.Call (.Attribute o "get" apos) [e,f] [] cpos) (abI td ty tx):=by
 intro pins s σ H Q I h;refine wpAny_Call_method m.base m.few m.line PySem.F.plainAttrs_dict PySem.F.slot_dict_get PySem.F.type_dict_get (fL (ho pins s σ H _ I h) λu s1 ⟨x,H1,I1,rx,a,ex,d,q1⟩=>?_);subst ex;obtain rfl:u=Value.ref a:=rx;obtain⟨t1,t2,_⟩:=adi I1 d;refine⟨t1,t2,?_⟩;rw[m.trees];refine Calls.callWith_builtin rfl (Calls.evalArgs_plain (Calls.spliced_cons (fL (he pins s1 σ H1 _ I1 q1) λiv s2 ⟨y,H2,I2,ry,q2⟩=>
  Calls.spliced_cons (fL (hf pins s2 σ H2 _ I2 q2) λfv s3 ⟨z,H3,I3,rz,ov,g,q3⟩=>Calls.spliced_nil ?_))))
 exact adP hu I3 g ry rz λw' s4 I4 Lz=>⟨_,H3,I4,Lz,q3⟩
end
def nQ(env:Env):List (Str×NameKind)->List (Str×Addr)->List (Str×Addr)
 | [],acc=>acc
 | (n,k)::r,acc=>if k == .free then nQ env r ((n,(env.cells.lookup n).getD 0)::acc) else nQ env r acc
theorem BR{env:Env}(f:Str×NameKind->List (Str×Addr)->Sem (ForInStep (List (Str×Addr))))
  (hf:∀n k cs,f (n,k) cs=if k == .free then (do let a <-cellOf env n;pure (.yield ((n,a)::cs))) else pure (.yield cs)) :
  ∀(names:List (Str×NameKind)) (acc:List (Str×Addr)),(∀n,(n,NameKind.free)∈names->∃c,env.cells.lookup n=some c)->forIn names acc f=pure (nQ env names acc)
 | [],acc,_=>by rw[Qkv];rfl
 | (n,k)::r,acc,h=>by
  have ih:=BR f hf r;have hr:∀n,(n,NameKind.free)∈r->∃c,env.cells.lookup n=some c:=λm hm=>h m (Qqk _ hm);rw[Qvz,hf];cases hk:k == NameKind.free with
  | true=>
   have hk':k = .free:=by simpa using hk
   obtain⟨c,hc⟩:=h n (by rw[hk'];exact Qqv);rw[if_pos rfl];unfold cellOf;rw[hc];simp only[pure_bind];rw[ih _ hr]
   conv=>rhs;unfold nQ
   rw[if_pos hk,hc]
   rfl
  | false=>
   rw[if_neg (by simp)];simp only[pure_bind];rw[ih _ hr]
   conv=>rhs;unfold nQ
   rw[if_neg (by simp[hk])]
def BV{scope:Scope}{env:Env}(h:∀n,(n,NameKind.free)∈scope.names->∃c,env.cells.lookup n=some c):closureFor scope env=pure (nQ env scope.names []):=by
 simp only[closureFor];rw[BR (env:=env) _ (λn k cs=>by cases hk:k == NameKind.free<;>simp[hk]) _ _ h]
 rfl
theorem wD{env:Env}:∀(names:List (Str×NameKind)) (acc:List (Str×Addr)) (x:Str) (c:Addr),(∀n,(n,NameKind.free)∈names->∃c,env.cells.lookup n=some c)->
  (∀y d,acc.lookup y=some d->env.cells.lookup y=some d)->(nQ env names acc).lookup x=some c->env.cells.lookup x=some c
 | [],acc,x,c,_,ha,h=>ha x c h
 | (n,k)::r,acc,x,c,hn,ha,h=>by
  have hr:∀n,(n,NameKind.free)∈r->∃c,env.cells.lookup n=some c:=λm hm=>hn m (Qqk _ hm);unfold nQ at h;split at h
  ·rename_i hk;have hk':k = .free:=by simpa using hk
   obtain⟨d,hd⟩:=hn n (by rw[hk'];exact Qqv);refine wD r _ x c hr (λy e he=>?_) h;rw[Qzz] at he;cases hy:y == n with
   | true=>
    rw[hy] at he;have e1:y=n:=by simpa using hy
    rw[e1,hd];rw[hd] at he;exact he
   | false=>
    rw[hy] at he;exact ha y e he
  ·exact wD r acc x c hr ha h
theorem xV{env:Env}:∀(names:List (Str×NameKind)) (acc:List (Str×Addr)) (x:Str),(acc.lookup x).isSome=true->((nQ env names acc).lookup x).isSome=true
 | [],acc,x,h=>h
 | (n,k)::r,acc,x,h=>by
  unfold nQ;split
  ·refine xV r _ x ?_;rw[Qzz];split
   ·rfl
   ·exact h
  ·exact xV r acc x h
theorem wC{env:Env}:∀(names:List (Str×NameKind)) (acc:List (Str×Addr)) (x:Str),(x,NameKind.free)∈names->((nQ env names acc).lookup x).isSome=true
 | [],acc,x,h=>nomatch h
 | (n,k)::r,acc,x,h=>by
  unfold nQ;rcases Qq1.mp h with e|h
  ·obtain⟨e1,e2⟩:=Prod.mk.inj e;subst e1 e2;rw[if_pos (by rfl)];refine xV r _ x ?_;rw[Qzz];simp
  ·split
   ·exact wC r _ x h
   ·exact wC r acc x h
theorem gj:∀(names:List (Str×NameKind)) (n:Nat) (acc:List (Str×Addr)),cellsFrom n names acc=cellsFrom n names []++acc
 | [],n,acc=>rfl
 | (x,k)::r,n,acc=>by
  unfold cellsFrom;split
  ·rw[gj r (n+1) ((x,n)::acc),gj r (n+1) [(x,n)],Qxv]
   rfl
  ·exact gj r n acc
theorem o6:∀(names:List (Str×NameKind)) (n:Nat) (x:Str) (c:Addr),(x,c)∈cellsFrom n names []->(x,NameKind.cell)∈names
 | [],n,x,c,h=>nomatch h
 | (y,k)::r,n,x,c,h=>by
  unfold cellsFrom at h;split at h
  ·rename_i hk;have hk':k = .cell:=by simpa using hk
   rw[gj] at h;rcases Qw1.mp h with h|h
   ·exact Qqk _ (o6 r _ x c h)
   ·have e:=Qqy.mp h;cases e;rw[hk'];exact Qqv
  ·exact Qqk _ (o6 r _ x c h)
theorem pX{α:Type}:∀(l m:List (Str×α)) (x:Str),(l++m).lookup x=match l.lookup x with|some v=>some v|none=>m.lookup x
 | [],m,x=>rfl
 | (k,v)::r,m,x=>by
  rw[List.cons_append,Qzz,Qzz];cases h:x == k with
  | true=>rfl
  | false=>exact pX r m x
theorem rN{α:Type}:∀(l:List (Str×α)) (x:Str),(∀v,(x,v) ∉ l)->l.lookup x=none
 | [],x,_=>rfl
 | (k,v)::r,x,h=>by
  rw[Qzz];cases e:x == k with
  | true=>
   have e':x=k:=by simpa using e
   exact absurd (by rw[e'];exact Qqv) (h v)
  | false=>exact rN r x λw hw=>h w (Qqk _ hw)
theorem lookup_mem{α:Type}:∀(l:List (Str×α)) (x:Str) (v:α),l.lookup x=some v->(x,v)∈l
 | [],x,v,h=>nomatch h
 | (k,w)::r,x,v,h=>by
  rw[Qzz] at h;cases e:x == k with
  | true=>
   rw[e] at h;cases h;have e':x=k:=by simpa using e
   rw[e'];exact Qqv
  | false=>
   rw[e] at h;exact Qqk _ (lookup_mem r x v h)
theorem jm{α:Type}:∀(l:List (Str×α)) (x:Str) (v:α),(l.map (·.1)).Nodup->(x,v)∈l->l.lookup x=some v
 | [],x,v,_,h=>nomatch h
 | (k,w)::r,x,v,nd,h=>by
  rw[Qzz];have nd':=Qzq.mp nd;rcases Qq1.mp h with e|h
  ·cases e;simp
  ·have hne:¬x=k:=λe=>nd'.1 (by rw[<-e];exact Qwy.mpr ⟨(x,v),h,rfl⟩);have hb:(x == k)=false:=by simpa using hne
   rw[hb];exact jm r x v nd'.2 h
def Jp{M:Model}{A:Around}{E:Value->Shared->Prop}{s:Shared}{scope:Scope}{globals:Addr}{cl:List (Str×Addr)}{qual:Str}{outer:Env}{Q:Env->Shared->Prop}
  (hQ:∀h',h'.Ns s.heap.objs.size (λ_=>none)->(∀b o,s.heap.get? b=some o->h'.get? b=some o)->CellsOk h' (s.heap.objs.size+1) (cellsFrom (s.heap.objs.size+1) scope.names [])->
   Q { scope,locals:=s.heap.objs.size,globals,cells:=cellsFrom (s.heap.objs.size+1) scope.names cl,qual,func:=none,code:=outer.code,frame:=outer.frame,builtins:=outer.builtins } { s with heap:=h' }) :
  wpAny M A (newFunctionEnv scope globals cl [] qual none .none (some outer)) Q E s:=by
 simp only[newFunctionEnv,Option.isSome_some,if_true];refine Qqq (wpAny_alloc ?_);refine Qqq (wpAny_layCells _ (λname kind cells=>by cases hkc:kind == NameKind.cell<;>simp[hkc]) _ _ _ _ ?_);have ok:=cellsFrom_ok scope.names (s.heap.push { cls:=.type "dict",data:=.dict #[] }) (s.heap.objs.size+1) [] ⟨λ_ _ hm=>(nomatch hm),List.Pairwise.nil⟩ (by rw[Qx3];exact Qq0 _);rw[Qx3] at ok;rw[show({ s with heap:=s.heap.push { cls:=.type "dict",data:=.dict #[] } }:Shared).heap.objs.size=s.heap.objs.size+1 from Qx3 ..];refine Qqq ?_;rw[Qkv];refine Qq2 (Qq2 (hQ _ ?_ ?_ ?_))
 ·exact(Heap.Ns.new s.heap (.type "dict")).keeps (pushCells_keeps _ _)
 ·exact λb o e=>pushCells_keeps _ _ b o (Qqz _ e)
 ·exact ok
def cxC(X:Cx)(scope:Scope)(N':List Str)(cells:List (Str×Addr))(C:Addr)(s0:Shared)(H0:Hp)(fp:List Addr):Cx:=
 { X with N:=N',s₀:=s0,H₀:=H0,env:=compEnvC scope cells C X.env,outer:=X.stack,stack:=X.stack,ex:=fp,fn:=λx=>decide (scope.names.lookup x=some .cell),pn:=[],xe:=λ_ _=>False }
theorem rM{env:Env}:∀(names:List (Str×NameKind)) (x:Str),
  (names.map λ(n,k)=>if (k == NameKind.free&&env.scope.kind == .function&&env.kindOf n == some .cell) then (n,NameKind.cell) else (n,k)).lookup x =
   (names.lookup x).map λk=>if (k == NameKind.free&&env.scope.kind == .function&&env.kindOf x == some .cell) then NameKind.cell else k
 | [],x=>rfl
 | (n,k)::r,x=>by
  show List.lookup x ((if (k == NameKind.free&&env.scope.kind == .function&&env.kindOf n == some .cell)=true then (n,NameKind.cell) else (n,k))::_)=_;cases hx:x == n with
  | true=>
   have e:x=n:=by simpa using hx
   subst e;simp only[Qzz,hx,Option.map_some];split<;>simp[Qzz]
  | false=>
   simp only[Qzz,hx];rw[<-rM r x];split<;>simp only[Qzz,hx]
def WL(names:List (Str×NameKind)):List Str->List Str->Bool
 | _,[]=>true
 | [],_::_=>false
 | x'::N',x::N=>((names.lookup x').isNone||(x' == x&&names.lookup x' == some .free))&&WL names N' N
theorem J8{names:List (Str×NameKind)}:∀{N' N:List Str},WL names N' N=true->∀(i:Nat) (x:Str),i<N.length->N'[i]? = some x->(names.lookup x).isSome=true->N[i]? = some x/\names.lookup x=some .free
 | _,[],_,i,x,h,_,_=>absurd h (Qk1 _)
 | [],_::_,h,_,_,_,_,_=>by cases h
 | x'::N',y::N,h,i,x,hi,e,hs=>by
  unfold WL at h;have h1:=(Qj5.mp h).1;have h2:=(Qj5.mp h).2;cases i with
  | zero=>
   have e':x'=x:=by simpa using e
   subst e';rcases Bool.or_eq_true_iff.mp h1 with q|q
   ·cases z:names.lookup x' with
    | none=>rw[z] at hs;cases hs
    | some k=>rw[z] at q;cases q
   ·have q1:=(Qj5.mp q).1;have q2:=(Qj5.mp q).2;have e1:x'=y:=by simpa using q1
    have e2:names.lookup x'=some .free:=by simpa using q2
    exact⟨by rw[e1];rfl,e2⟩
  | succ i=>exact J8 h2 i x (by simpa using hi) (by simpa using e) hs
structure nM(X:Cx)(scope:Scope)(N':List Str):Prop where
 kind:scope.kind = .function
 nd:(scope.names.map (·.1)).Nodup
 free:∀x∈scope.names,x.2 = .free->X.env.kindOf x.1=some .cell\/X.env.kindOf x.1=some .free
 chk:WL scope.names N' X.N=true
 len:X.N.length<=N'.length
def PIf(X:Cx)(ifs:List Expr)(t:TT):Prop:=
 ∀(pins:List (Addr×Obj)) (s:Shared) (σ:St) (H:Hp) (Q:Bool->Hp->Prop),Inv X pins σ H s->t σ H Q->
  wpAny (model X.prog X.w) X.A (forIn ifs true λc r=>if r=true then do let ok <-isTrue c X.env (eval c X.env);pure (ForInStep.yield ok) else pure (ForInStep.yield r)) (TP X pins σ Q) X.xe s
def YF{X:Cx}:PIf X [] (λ_ H Q=>Q true H):=λpins s σ H Q I h=>by
 rw[Qkv];exact Qq2 ⟨H,I,h⟩
def YD{X:Cx}{c:Expr}{t:TT}(h:PT X c t):PIf X [c] t:=λpins s σ H Q I hw=>by
 rw[Qvz,if_pos rfl];refine Qqq (Qqq (fL (h pins s σ H Q I hw) λb s' q=>?_));refine Qq2 ?_;show wpAny _ _ (forIn [] b _) _ _ _;rw[Qkv];exact Qq2 q
def vB(n:Nat)(σ:St):St:=σ++List.replicate n none
def tLC(n:Nat)(wi:TI)(g:TG)(tc:TT)(te:TE):TE:=λσ H Q=>wi σ H λJ H1=>∀d,H1 d=none->∃W:Nat->Nat->St->Hp->Prop,(∃m,W 0 m (vB (n - σ.length) σ) (upd H1 d (.lst [])))/\∀i m σ' H',W i m σ' H'->
 (J.stop i H'/\Q (.ref d) H')\/(J.go i H'/\∃N:St->Hp->Prop,(∀σ2 H2,N σ2 H2->∃m',m'<m/\W (i+1) m' σ2 H2)/\∀x H2,J.yld i H' x H2->g x σ' H2 λσ3 H3=>tc σ3 H3 λb H4=>
  if b=true then te σ3 H4 λy H5=>∃ys,H5 d=some (.lst ys)/\ys.length<sizeLine/\N σ3 (upd H5 d (.lst (ys++[y]))) else N σ3 H4)
section
variable{prog:Program}{w:World}{A:Around}{R:Result->Shared->Prop}{s:Shared}
def G3{elt target iter:Expr}{ifs:List Expr}{scope:Scope}{pos:Pos}{it acc:Value}{env:Env}(I:Nat->Shared->Prop)
  (turn:∀n s,I n s->wpAny (model prog w) A (pyNext it) (λr s₁=>match r with
   | none=>R (.ok .next) s₁
   | some v=>wpAny (model prog w) A (letOwnedTupleGo target it v) (λ_ s₁'=>wpAny (model prog w) A (assign target env v) (λ_ s₂=>
     wpAny (model prog w) A (forIn ifs true λc r=>if r=true then do let ok <-isTrue c env (eval c env);pure (ForInStep.yield ok) else pure (ForInStep.yield r)) (λok s₃=>
      if ok=true then wpAny (model prog w) A (eval elt env) (λx s₄=>
       wpAny (model prog w) A (call (.builtin "list.append") [acc,x]) (λ_ s₅=>∃m,m<n/\I m s₅) (λ_ _=>False) s₄) (λ_ _=>False) s₃
      else ∃m,m<n/\I m s₃) (λ_ _=>False) s₂) (λ_ _=>False) s₁') (λ_ _=>False) s₁) (λ_ _=>False) s)
  (n:Nat) (h:I n s) :
  codeAny (model prog w) A (.compLoop (.ListComp elt [⟨target,iter,ifs,0⟩] scope pos) 0 it acc env) R s:=by
 refine codeAny_loop rfl I (λn s hI=>?_) n h;show wpAny _ A ((compTurn (.ListComp elt [⟨target,iter,ifs,0⟩] scope pos) 0 it acc env).onRaise (λx=>do noteFrame x env;theTreesLotGoes x)) _ _ s;refine wpAny_noted ?_;rw[compTurn_list];refine Qqq (wpAny_standAt (Qqq (Qjv (turn n s hI) (λr s₁ h₁=>?_) λ_ _ h'=>h'.elim)));cases r with
 | none=>exact Qq2 h₁
 | some v=>
  refine Qqq (Qjv h₁ (λ_ s₁' h₁'=>?_) λ_ _ h'=>h'.elim);refine Qqq (Qjv h₁' (λ_ s₂ h₂=>Qqq (Qjv h₂ (λok s₃ h₃=>?_) λ_ _ h'=>h'.elim)) λ_ _ h'=>h'.elim);cases ok with
  | false=>exact Qq2 ⟨rfl,h₃⟩
  | true=>
   exact Qqq (Qqq (Qjv h₃ (λx s₄ h₄=>Qqq (Qjv h₄ (λ_ s₅ h₅=>Qq2 (Qq2 ⟨rfl,h₅⟩)) λ_ _ h'=>h'.elim)) λ_ _ h'=>h'.elim))
end
def V3{X:Cx}{scope:Scope}{N':List Str}{pins:List (Addr×Obj)}{σ:St}{H:Hp}{s:Shared}{h':Heap}{fp:List Addr}(ok:nM X scope N')(I:Inv X pins σ H s)(hf:∀b∈fp,sO X pins H b)(hlt:∀b∈fp,b<s.heap.objs.size)
  (hn:h'.Ns s.heap.objs.size (λ_=>none)) (hk:∀b o,s.heap.get? b=some o->h'.get? b=some o) (co:CellsOk h' (s.heap.objs.size+1) (cellsFrom (s.heap.objs.size+1) scope.names [])) :
  Inv (cxC X scope N' (cellsFrom (s.heap.objs.size+1) scope.names (nQ X.env scope.names [])) s.heap.objs.size s H fp) [] (vB (N'.length - σ.length) σ) H { s with heap:=h' }:=by
 have hfree:∀n,(n,NameKind.free)∈scope.names->∃c,X.env.cells.lookup n=some c:=λn hm=>I.ok.has n (ok.free _ hm rfl)
 -- the cells by name
 have qi:∀x c,(cellsFrom (s.heap.objs.size+1) scope.names (nQ X.env scope.names [])).lookup x=some c->
   ((x,c)∈cellsFrom (s.heap.objs.size+1) scope.names []/\(cellsFrom (s.heap.objs.size+1) scope.names []).lookup x=some c)\/((cellsFrom (s.heap.objs.size+1) scope.names []).lookup x=none/\X.env.cells.lookup x=some c):=λx c e=>by
  rw[gj,pX] at e;cases q:(cellsFrom (s.heap.objs.size+1) scope.names []).lookup x with
  | some d=>rw[q] at e;cases e;exact .inl ⟨lookup_mem _ _ _ q,rfl⟩
  | none=>rw[q] at e;exact .inr ⟨rfl,wD _ _ x c hfree (λy d h=>by simp at h) e⟩
 have Av:∀x c,(x,c)∈cellsFrom (s.heap.objs.size+1) scope.names []->s.heap.objs.size+1<=c:=λx c h=>(co.empty x c h).2;have Vf:∀x c,X.env.cells.lookup x=some c->c<s.heap.objs.size:=λx c h=>let ⟨v,q⟩:=I.cell x c h;q.lt
 have Gs:∀x,(relabel scope X.env).names.lookup x=(scope.names.lookup x).map λk=>if (k == NameKind.free&&X.env.scope.kind == .function&&X.env.kindOf x == some .cell) then NameKind.cell else k:=λx=>rM _ _
 have JF:∀x,(x,NameKind.cell)∈scope.names->∃c,(cellsFrom (s.heap.objs.size+1) scope.names []).lookup x=some c:=λx hx=>by
  have q:=PySem.W.cellsFrom_some scope.names (s.heap.objs.size+1) [] (.inl (jm _ _ _ ok.nd hx));exact Qzy.mp q
 have fpC:∀b∈fp,∀x c,(cellsFrom (s.heap.objs.size+1) scope.names (nQ X.env scope.names [])).lookup x=some c->c≠b:=λb hb x c e=>by
  rcases qi x c e with ⟨h1,_⟩|⟨_,h2⟩
  ·have h3:=Av x c h1;have h4:=hlt b hb;rintro rfl;exact absurd (Qwx h4 (Qvw h3)) (Qzw _)
  ·exact(hf b hb).2.2.2.2.1 x c h2
 refine⟨⟨I.ok.mod,ok.kind,I.ok.glob,I.ok.blt,Qq0 _,λx y c h1 h2=>?_,λx hx=>?_,λx c hx e=>?_,I.ok.hd,I.ok.frames,.inl rfl,λb hb=>⟨Qw9 (hlt b hb),λx c e=>fpC b hb x c e⟩,I.bs,Qq3 I.ok.bsz I.sz,λb o e hb=>?_,λb hb=>?_,I.stack,I.NP⟩,
  rfl,I.bare,Un.kept hk,⟨_,hn,λi x v e1 e2 e3=>?_⟩,λx c e=>?_,I.hok.fresh (Qq0 _),λx c e=>?_,λp hp=>absurd (show p∈([]:List (Addr×Obj)) from hp) (by simp),I.hok.kept hk,?_⟩
 ·-- one name a cell
  rcases qi x c h1 with ⟨p1,_⟩|⟨_,p2⟩
  ·rcases qi y c h2 with ⟨q1,_⟩|⟨_,q2⟩
   ·exact name_of_addr co.apart p1 q1
   ·exact absurd (Qwx (Vf y c q2) (Qvw (Av x c p1))) (Qzw _)
  ·rcases qi y c h2 with ⟨q1,_⟩|⟨_,q2⟩
   ·exact absurd (Qwx (Vf x c p2) (Qvw (Av y c q1))) (Qzw _)
   ·exact I.ok.inj x y c p2 q2
 ·-- each cell name has one
  show ∃c,(cellsFrom (s.heap.objs.size+1) scope.names (nQ X.env scope.names [])).lookup x=some c;have hx:(relabel scope X.env).names.lookup x=some .cell\/(relabel scope X.env).names.lookup x=some .free:=hx;rw[Gs] at hx;cases q:scope.names.lookup x with
  | none=>rw[q] at hx;rcases hx with hx|hx<;>cases hx
  | some k=>
   rw[q] at hx;rw[gj,pX];cases z:(cellsFrom (s.heap.objs.size+1) scope.names []).lookup x with
   | some d=>exact⟨d,rfl⟩
   | none=>
    have hkf:k = .free:=by
     cases k with
     | free=>rfl
     | cell=>obtain⟨c,hc⟩:=JF x (lookup_mem _ _ _ q);rw[hc] at z;cases z
     | _=>rcases hx with hx|hx<;>simp at hx
    subst hkf;exact Qzy.mp (wC _ _ x (lookup_mem _ _ _ q))
 ·-- its own cells are new
  have hx':scope.names.lookup x=some .cell:=Qxk hx;rcases qi x c e with ⟨p1,_⟩|⟨p1,_⟩
  ·exact Qvw (Av x c p1)
  ·obtain⟨d,hd⟩:=JF x (lookup_mem _ _ _ hx');rw[hd] at p1;cases p1
 ·rcases(hf b hb).2.2.2.1 with z|z
  ·exact I.ok.Vq b o e z
  ·have h1:=Qwz e;have h2:=I.ok.bsz;exact absurd (Qwx h1 (Qq3 h2 z)) (Qzw _)
 ·intro hm;rcases Qq1.mp (I.Lj b hm) with z|z
  ·exact(hf b hb).2.1 z
  ·exact(hf b hb).2.2.1 z
 ·-- the names
  have hiσ:i<σ.length:=by
   by_cases hi:i<σ.length
   ·exact hi
   ·unfold vB at e2;rw[Qx4 (by omega),Qjq] at e2;split at e2<;>cases e2
  have e2':σ[i]? = some (some v):=by
   unfold vB at e2
   rwa [Qxx hiσ] at e2
  have vis:(scope.names.lookup x).isSome=true:=by
   have e3:(relabel scope X.env).names.lookup x=some .local\/(relabel scope X.env).names.lookup x=some .cell\/(relabel scope X.env).names.lookup x=some .free:=e3;rw[Gs] at e3;cases q:scope.names.lookup x with
   | none=>rw[q] at e3;rcases e3 with z|z|z<;>cases z
   | some k=>rfl
  obtain⟨hN,hfr⟩:=J8 ok.chk i x (by rw[<-I.len];exact hiσ) e1 vis;have hm:=lookup_mem _ _ _ hfr;have hkk:=ok.free _ hm rfl;obtain⟨m,hns,hl⟩:=I.loc;obtain⟨u,ru,lk⟩:=hl i x v hN e2' (hkk.elim (λz=>.inr (.inl z)) λz=>.inr (.inr z));refine⟨u,ru,.inr ⟨?_,?_⟩⟩
  ·show(relabel scope X.env).names.lookup x=some .cell\/(relabel scope X.env).names.lookup x=some .free;rw[Gs,hfr];by_cases hc:(NameKind.free == NameKind.free&&X.env.scope.kind == .function&&X.env.kindOf x == some .cell)=true
   ·left;rw[Option.map_some,if_pos hc]
   ·right;rw[Option.map_some,if_neg hc]
  ·rcases lk with ⟨hl1,_⟩|⟨_,c,hc,hcell⟩
   ·rcases hkk with z|z<;>(rw[z] at hl1;cases hl1)
   ·refine⟨c,?_,hcell.keeps hk⟩;show(cellsFrom (s.heap.objs.size+1) scope.names (nQ X.env scope.names [])).lookup x=some c;rw[gj,pX];have hno:(cellsFrom (s.heap.objs.size+1) scope.names []).lookup x=none:=rN _ _ λd hd=>by
     have h1:=jm _ _ _ ok.nd (o6 _ _ _ _ hd);rw[hfr] at h1;cases h1
    rw[hno];obtain⟨d,hd⟩:=Qzy.mp (wC (env:=X.env) scope.names [] x hm);have h2:=wD _ _ x d hfree (λy d h=>by simp at h) hd;rw[hc] at h2;show(nQ X.env scope.names []).lookup x=some c;rw[hd,h2]
 ·rcases qi x c e with ⟨p1,_⟩|⟨_,p2⟩
  ·exact⟨_,(co.empty x c p1).1⟩
  ·obtain⟨v,q⟩:=I.cell x c p2;exact⟨v,q.keeps hk⟩
 ·rcases qi x c e with ⟨p1,_⟩|⟨p0,p2⟩
  ·exact .inl (I.hok.fresh (Qvw (Av x c p1)))
  ·rcases I.vX x c p2 with z|⟨_,z⟩
   ·exact .inl z
   ·refine .inr ⟨?_,z⟩;show decide (scope.names.lookup x=some .cell)=false;refine Qw0 λq=>?_;obtain⟨d,hd⟩:=BW (n:=s.heap.objs.size+1) q;rw[p0] at hd;cases hd
 ·show(vB (N'.length - σ.length) σ).length=N'.length;unfold vB;rw[Qqj,Qz3];have h1:=ok.len;have h2:=I.len;omega
abbrev kj(X:Cx)(scope:Scope)(N':List Str)(X':Cx):Prop:=
 ∃(cells:List (Str×Addr)) (C:Addr) (s0:Shared) (H0:Hp) (fp:List Addr),X'=cxC X scope N' cells C s0 H0 fp
def Et{X:Cx}{elt tg iter:Expr}{ifs:List Expr}{scope:Scope}{N':List Str}{pos:Pos}{g:TG}{tc:TT}{te:TE}{use:Option (Value->Sem Unit)}{QQ:Value->Shared->Prop}
  (ok:nM X scope N') (hc:X.calm=true)
  (bg:∀X',kj X scope N' X'->PG X' tg g) (bc:∀X',kj X scope N' X'->PIf X' ifs tc) (be:∀X',kj X scope N' X'->PE X' elt te)
  {pins:List (Addr×Obj)} {s2:Shared} {σ:St} {H2:Hp} {Q:VK} {it:Addr} {fp:List Addr} {tn:Nat->Heap->Prop} {J:It} (I2:Inv X pins σ H2 s2) (T:Turn X.prog X.w X.K tg J fp it tn) (st2:tn 0 s2.heap) (f2:∀b∈fp,sO X pins H2 b)
  (q:∀d,H2 d=none->∃W:Nat->Nat->St->Hp->Prop,(∃m,W 0 m (vB (N'.length - σ.length) σ) (upd H2 d (.lst [])))/\∀i m σ' H',W i m σ' H'->
   (J.stop i H'/\Q (.ref d) H')\/(J.go i H'/\∃N:St->Hp->Prop,(∀σ2 H2,N σ2 H2->∃m',m'<m/\W (i+1) m' σ2 H2)/\∀x H2,J.yld i H' x H2->g x σ' H2 λσ3 H3=>tc σ3 H3 λb H4=>
    if b=true then te σ3 H4 λy H5=>∃ys,H5 d=some (.lst ys)/\ys.length<sizeLine/\N σ3 (upd H5 d (.lst (ys++[y]))) else N σ3 H4))
  (fin:∀d C m s' H',Inv X pins σ H' s'->Q (.ref d) H'->s'.heap.Ns C m->H' C=none->C≠X.env.locals->X.s₀.heap.objs.size<=C->(∀x c,X.env.cells.lookup x=some c->c≠C)->(∀p∈X.pn++pins,p.1≠C)->
   compPost (model X.prog X.w) X.A X.xe use QQ (.ref d) C (.ok .next) s') :
  wpAny (model X.prog X.w) X.A (newList []) (λacc s₃=>wpAny (model X.prog X.w) X.A (newFunctionEnv scope X.env.globals (nQ X.env scope.names []) [] X.env.qual none .none (some X.env)) (λcenv s₄=>
   codeAny (model X.prog X.w) X.A (.compStart (.ListComp elt [⟨tg,iter,ifs,0⟩] scope pos) 0 (.ref it) acc { cenv with scope:=relabel scope X.env }) (compPost (model X.prog X.w) X.A X.xe use QQ acc cenv.locals) s₄) X.xe s₃) X.xe s2:=by
 have hd2:H2 s2.heap.objs.size=none:=I2.fresh;refine Qj7 (Jp λh' hns hkeep hco=>?_)
 -- the state behind the list
 obtain⟨W,⟨m0,w0⟩,turn⟩:=q s2.heap.objs.size hd2;have I3:Inv X pins σ (upd H2 s2.heap.objs.size (.lst [])) { s2 with heap:=s2.heap.push { cls:=.type "list",data:=.seq ([]:List Value).toArray } }:=I2.afK (t':=s2.toks) .nil (Qxy _);have OJ:∀b∈fp,b<s2.heap.objs.size:=λb hb=>by
  obtain⟨o,e,_⟩:=T.obj _ _ st2 b hb;exact Qwz e
 have f3:∀b∈fp,sO X pins (upd H2 s2.heap.objs.size (.lst [])) b:=λb hb=>by
  refine⟨?_,(f2 b hb).2⟩;rw[bL (Qw9 (OJ b hb))];exact(f2 b hb).1
 have lt3:∀b∈fp,b<({ s2 with heap:=s2.heap.push { cls:=.type "list",data:=.seq ([]:List Value).toArray } }:Shared).heap.objs.size:=λb hb=>by
  show b<(s2.heap.push _).objs.size;rw[Qx3];exact Qvv (OJ b hb)
 have st3:tn 0 h':=T.keep _ _ _ st2 λb hb o e=>hkeep b o (Qqz _ e);have I4:=V3 (fp:=fp) ok I3 f3 lt3 hns hkeep hco;generalize hs3:({ s2 with heap:=s2.heap.push { cls:=.type "list",data:=.seq ([]:List Value).toArray } }:Shared)=s3 at *;have sz3:s3.heap.objs.size=s2.heap.objs.size+1:=by rw[<-hs3];exact Qx3 ..
 generalize hX':cxC X scope N' (cellsFrom (s3.heap.objs.size+1) scope.names (nQ X.env scope.names [])) s3.heap.objs.size s3 (upd H2 s2.heap.objs.size (.lst [])) fp=X' at I4;have at':kj X scope N' X':=⟨_,_,_,_,_,hX'.symm⟩;have hg:=bg X' at';have hif:=bc X' at';have he:=be X' at';have eP:X'.prog=X.prog:=by rw[<-hX'];rfl
 have eW:X'.w=X.w:=by rw[<-hX'];rfl
 have eK:X'.K=X.K:=by rw[<-hX'];rfl
 have eA:X'.A=X.A:=by rw[<-hX'];rfl
 have eC:X'.calm=true:=by rw[<-hX'];exact hc
 have eX:X'.xe=λ_ _=>False:=by rw[<-hX'];rfl
 have ePn:X'.pn=[]:=by rw[<-hX'];rfl
 have eEx:X'.ex=fp:=by rw[<-hX'];rfl
 have eL:X'.env.locals=s3.heap.objs.size:=by rw[<-hX'];rfl
 have eFs:X'.fs=frs X.stack:=by rw[<-hX'];rfl
 have ah2:compEnvC scope (cellsFrom (s3.heap.objs.size+1) scope.names (nQ X.env scope.names [])) s3.heap.objs.size X.env=X'.env:=by rw[<-hX'];rfl
 have eS0:X'.s₀=s3:=by rw[<-hX'];rfl
 have eH0:X'.H₀=upd H2 s2.heap.objs.size (.lst []):=by rw[<-hX'];rfl
 -- what is true of the iterator's objects in the block
 have stat:∀{H':Hp},(∀b∈fp,H' b=none)->∀b∈fp,sO X' [] H' b:=λ{H'} hn b hb=>by
  refine⟨hn b hb,?_,?_,.inl (by rw[eEx];exact hb),λx c e=>?_,λp hp=>?_⟩
  ·rw[eL];exact Qw9 (lt3 b hb)
  ·have:=I4.ok.Wm b (by rw[eEx];exact hb);exact this
  ·exact(I4.ok.exf b (by rw[eEx];exact hb)).2 x c e
  ·rw[ePn] at hp;exact absurd hp (by simp)
 -- the outer context again
 have back:∀σ' H' s',Inv X' [] σ' H' s'->Inv X pins σ H' s':=λσ' H' s' J'=>by
  have hb:=J'.base;rw[eFs,eEx,eS0,eH0] at hb;have hos:=J'.os;rw[eS0] at hos;have hok:=J'.hok;rw[eP,eW] at hok;exact I3.call' (ch:=fp) hos hb hok J'.bare λb hbm=>⟨(f3 b hbm).2.2.2.1,(f3 b hbm).2.1,(f3 b hbm).2.2.2.2.1,(f3 b hbm).2.2.2.2.2⟩
 have loop:∀s4:Shared,s4 = { s3 with heap:=h' }->codeAny (model X.prog X.w) X.A (.compLoop (.ListComp elt [⟨tg,iter,ifs,0⟩] scope pos) 0 (.ref it) (.ref s2.heap.objs.size) X'.env) (compPost (model X.prog X.w) X.A X.xe use QQ (.ref s2.heap.objs.size) s3.heap.objs.size) s4:=by
  rintro s4 rfl;refine G3 (λn s'=>∃i σ' H',Inv X' [] σ' H' s'/\tn i s'.heap/\(∀b∈fp,H' b=none)/\W i n σ' H') ?_ m0 ⟨0,_,_,I4,st3,λb hb=>(f3 b hb).1,w0⟩;rintro n s5 ⟨i,σ5,H5,I5,st5,fr5,w5⟩;rcases turn i n σ5 H5 w5 with ⟨stop,qn⟩|⟨go,N,hN,step⟩
  ·have td:=T.done X' eP eW eK eC i [] s5 σ5 H5 (λ_ _=>False) I5 (stat fr5) st5 stop;rw[eA] at td;refine fL td λr s6 ⟨hr,I6⟩=>?_;subst hr;obtain⟨mC,hnC,_⟩:=id I6.loc;rw[eL] at hnC;have lc:X.env.locals<s3.heap.objs.size:=by
    have:=I3.lt;exact this
   refine fin _ _ mC s6 H5 (back _ _ _ I6) qn hnC ?_ (Qz0 lc) I3.sz (λx c e=>?_) (λp hp=>?_)
   ·have:=I6.free;rw[eL] at this;exact this
   ·obtain⟨v,z⟩:=I3.cell x c e;exact Qw9 z.lt
   ·exact Qw9 (Qwz (I3.pin p hp).1)
  ·have ti:=T.item X' eP eW eK eC i [] s5 σ5 H5 (λ_ _=>False) I5 (stat fr5) st5 go;rw[eA] at ti;refine fL ti λr s6 ⟨u,hr,h6⟩=>?_;subst hr;refine fL h6 λ_ s7 ⟨x,H7,I7,r7,y7,st7,fr7⟩=>?_;have I7':=I7.pinned (stat fr7) (T.obj _ _ st7);have hg':=hg _ s7 σ5 H7 x u _ I7' r7 (step x H7 y7);rw[eP,eW,eA,eX] at hg';refine fL hg' λ_ s8 ⟨σ8,H8,I8,q8⟩=>?_;have af4:=hif _ s8 σ8 H8 _ I8 q8;rw[eP,eW,eA,eX] at af4;refine fL af4 λb s9 ⟨H9,I9,q9⟩=>?_;have again:∀{σz:St} {Hz:Hp} {sz:Shared},Inv X' ([]++Ao fp s7.heap) σz Hz sz->N σz Hz->∃m,m<n/\∃i σ' H',Inv X' [] σ' H' sz/\tn i sz.heap/\(∀b∈fp,H' b=none)/\W i m σ' H':=λ{σz Hz sz} Iz nz=>by
    obtain⟨m',hm,wz⟩:=hN σz Hz nz;refine⟨m',hm,i+1,σz,Hz,Iz.uW,T.keep _ _ _ st7 λb hb o e=>(Iz.pin (b,o) (Qx0 _ (Qx0 _ (pW hb e)))).1,λb hb=>?_,wz⟩;obtain⟨o,e,d⟩:=T.obj _ _ st7 b hb;exact(Iz.pin (b,o) (Qx0 _ (Qx0 _ (pW hb e)))).2.1
   cases b with
   | false=>
    rw[if_neg Qw5] at q9 ⊢;exact again I9 q9
   | true=>
    rw[if_pos rfl] at q9 ⊢;have he':=he _ s9 σ8 H9 _ I9 q9;rw[eP,eW,eA,eX] at he';refine fL he' λy sa ⟨yv,Ha,Ia,ra,ys,hys,hlen,qa⟩=>?_;have ap:=Ec (X:=X') _ sa σ8 Ha (.ref s2.heap.objs.size) [yv] (.ref s2.heap.objs.size) [y] (λv H'=>v = .non/\N σ8 H') Ia rfl (.cons ra .nil) ⟨_,ys,yv,rfl,rfl,hys,hlen,rfl,qa⟩;rw[eP,eW,eA,eX] at ap;refine fL ap λ_ sb ⟨vb,Hb,Ib,rb,_,nb⟩=>?_;exact again Ib nb
 show codeAny _ _ (.compStart _ 0 (.ref it) (.ref s2.heap.objs.size) (compEnvC scope (cellsFrom (s3.heap.objs.size+1) scope.names (nQ X.env scope.names [])) s3.heap.objs.size X.env)) (compPost (model X.prog X.w) X.A X.xe use QQ (.ref s2.heap.objs.size) s3.heap.objs.size) _;rw[ah2];exact codeAny_compStart_list (loop _ rfl) (T.self X.A 0 _ _ _ st3 (loop _ rfl))
def afn{X:Cx}{elt tg iter:Expr}{ifs:List Expr}{scope:Scope}{N':List Str}{pos:Pos}{wi:TI}{g:TG}{tc:TT}{te:TE}
  (ok:nM X scope N') (hc:X.calm=true) (hi:PI X tg iter wi)
  (bg:∀X',kj X scope N' X'->PG X' tg g) (bc:∀X',kj X scope N' X'->PIf X' ifs tc) (be:∀X',kj X scope N' X'->PE X' elt te)
  (hs:∀x,foldedSetIterable iter X.env x=pure x:=by intro _;rfl) :
  PE X (.ListComp elt [⟨tg,iter,ifs,0⟩] scope pos) (tLC N'.length wi g tc te):=by
 intro pins s σ H Q I h;rw[eval_ListComp];have hfree:∀n,(n,NameKind.free)∈scope.names->∃c,X.env.cells.lookup n=some c:=λn hm=>I.ok.has n (ok.free _ hm rfl);refine wpAny_comprehension_free (use:=none) rfl hs (BV hfree) ok.kind (λx hx hl=>jm _ _ _ ok.nd (by rw[<-hl];exact hx)) ?_;refine fL (hi pins s σ H _ I h) λv s1 h1=>fL h1 λitv s2 h2=>?_;obtain⟨it,fp,tn,J,H2,e,I2,T,st2,f2,q⟩:=h2;subst e;refine Et ok hc bg bc be I2 T st2 f2 q λd C m s' H' I' hq hn hC hL h0 hcell hpin=>?_;refine⟨m,hn,λh' hs'=>?_⟩;have I'':Inv X pins σ H' { s' with heap:=h',toks:=s'.toks }:=I'.turned (it:=C) (λb o hb e=>(hs'.2 b hb).trans e) hC hL (.inr h0) hcell hpin;exact⟨.ref d,H',I'',rfl,hq⟩
def Uz{X:Cx}{elt tg iter:Expr}{ifs:List Expr}{scope:Scope}{N':List Str}{pos spos py:Pos}{wi:TI}{g:TG}{tc:TT}{te:TE}{i:Nat}{y:Str}
  (ok:nM X scope N') (hc:X.calm=true) (hi:PI X tg iter wi)
  (bg:∀X',kj X scope N' X'->PG X' tg g) (bc:∀X',kj X scope N' X'->PIf X' ifs tc) (be:∀X',kj X scope N' X'->PE X' elt te)
  (hN:X.N.Nodup) (hy:X.N[i]? = some y) (hx:Loc X.env.scope y)
  (hsw:swapsWith (.ListComp elt [⟨tg,iter,ifs,0⟩] scope pos) (some (.Name y py)) spos.line X.env=pure true)
  (hf:X.fn y=true\/X.env.scope.names.lookup y=some .local:=by first|exact .inl rfl|exact .inr rfl|assumption)
  (hs:∀x,foldedSetIterable iter X.env x=pure x:=by intro _;rfl) :
  PS X (.Assign [.Name y py] (.ListComp elt [⟨tg,iter,ifs,0⟩] scope pos) spos) (XX (tLC N'.length wi g tc te) (JL i)):=by
 intro pins s σ H D I h;rw[exec_Assign_Name_used _ _ _ _ hsw];refine Qqq (wpAny_standAt (Qqq ?_));have hfree:∀n,(n,NameKind.free)∈scope.names->∃c,X.env.cells.lookup n=some c:=λn hm=>I.ok.has n (ok.free _ hm rfl);show wpAny _ X.A (do let _ <-comprehension (.ListComp elt [⟨tg,iter,ifs,0⟩] scope pos) scope X.env _ (newList []) false (eval iter X.env) (some (assign (.Name y py) X.env))) _ _ s;refine Qqq (Qjv (wpAny_comprehension_free (use:=some (assign (.Name y py) X.env)) (Q:=λ_ s'=>SP X pins D .next s') rfl hs (BV hfree) ok.kind (λx hx hl=>jm _ _ _ ok.nd (by rw[<-hl];exact hx)) ?_) (λ_ s' hq=>Qq2 (Qq2 hq)) λ_ _ e=>e);refine fL (hi pins s σ H _ I h) λv s1 h1=>fL h1 λitv s2 h2=>?_;obtain⟨it,fp,tn,J,H2,e,I2,T,st2,f2,q⟩:=h2;subst e;refine Et (Q:=λx H1=>JL i x σ H1 D.nx) ok hc bg bc be I2 T st2 f2 q λd C m s' H' I' hq hn hC hL h0 hcell hpin=>?_;refine wpAny_assign_Name (Ds (v:=.ref d) I' hN hy hx rfl (λs'' I'' sb=>?_) hf);obtain⟨a,hsb,ha⟩:=sb;have haC:C≠a:=by
  rcases ha with z|z
  ·rw[z];exact hL
  ·exact(hcell y a z).symm
 refine⟨m,hn.sameBut hsb haC,λh' hs'=>?_⟩;have I3:Inv X pins (σ.set i (some (.ref d))) H' { s'' with heap:=h',toks:=s''.toks }:=I''.turned (it:=C) (λb o hb e=>(hs'.2 b hb).trans e) hC hL (.inr h0) hcell hpin;exact⟨_,H',I3,hq⟩
end L2
namespace Ev
open PySem PySem.Spec PyProof.Rows L2
inductive D where
 | non
 | bl (b:Bool)
 | int (i:Int)
 | str (x:List Nat)
 | tup (xs:List D)
 | lst (xs:List D)
 | arr (xs:List D)
 | dct (kvs:List (D×D))
 | gC (kvs:List (D×D))
 | clo (st:Stmt) (ds:List D)
 deriving Inhabited
abbrev Fg:=PySem.W.Frag
def strOf(x:List Nat):Str:=⟨x.toArray⟩
def mD:D->Option Key
 | .int i=>some (.inl i)
 | .str x=>some (.inr (strOf x))
 | _=>none
mutual
def qP:D->Option NK
 | .int i=>some (.num i)
 | .bl b=>some (.num (if b then 1 else 0))
 | .str x=>some (.txt (strOf x))
 | .tup xs=>(qN xs).map .tup
 | _=>none
def qN:List D->Option (List NK)
 | []=>some []
 | d::ds=>match qP d,qN ds with
  | some k,some ks=>some (k::ks)
  | _,_=>none
end
def defName(s:Stmt):Str:=match s with
 | .FunctionDef n _ _ _ _ _ _ _ _ _=>n
 | _=>""
def freeOf(s:Stmt):List Str:=(((aN s).names.filter (·.2 == .free)).map (·.1)).reverse
def aei(F:Hp)(c:Addr)(v:V):Prop:=∃(o:Obj) (u:HO) (w:Value),F c=some (.JP o u)/\o.data = .cell (some w)/\RelV v w
def zQ(F:Hp):List (Str×Addr)->List V->Prop
 | [],vs=>vs=[]
 | (_,c)::r,vs=>∃v vs',vs=v::vs'/\aei F c v/\zQ F r vs'
def aeh(F:Hp)(c:Addr)(q:Str):Prop:=∃(o:Obj) (u:HO) (vs:Array Value) (t:Tok),F c=some (.JP o u)/\o.data = .fields vs/\vs[1]? = some (.str q t)
def Clo(F:Hp)(st:Stmt)(a:Addr)(vs:List V):Prop:=∃(u:HO) (q:Str) (cl:List (Str×Addr)) (doc pm ctv:Value) (c:Addr),
 F a=some (.JP (PySem.W.fnMade (defName st) q (j9 st) (fJ st) (aN st) cl doc pm c ctv) u)/\aeh F c q/\cl.map (·.1)=freeOf st/\(cl.map (·.2)).Nodup/\zQ F cl vs
theorem aR.cells{F F':Hp}(e:aR F F'):∀{cl:List (Str×Addr)} {vs:List V},zQ F cl vs->zQ F' cl vs
 | [],_,h=>h
 | (_,c)::r,_,⟨v,vs',h0,⟨o,u,w,h1,h2⟩,h3⟩=>⟨v,vs',h0,⟨o,u,w,e _ _ h1,h2⟩,aR.cells e h3⟩
def aR.clo{F F':Hp}{st:Stmt}{a:Addr}{vs:List V}(e:aR F F')(h:Clo F st a vs):Clo F' st a vs:=by obtain⟨u,q,cl,doc,pm,ctv,c,h1,⟨o,u2,ws,t,h2,h3⟩,h4,h5,h6⟩:=h;exact⟨u,q,cl,doc,pm,ctv,c,e _ _ h1,⟨o,u2,ws,t,e _ _ h2,h3⟩,h4,h5,aR.cells e h6⟩
mutual
def Rep(K:Fg)(F:Hp):D->V->Prop
 | .non,v=>v = .non
 | .bl b,v=>v = .bl b
 | .int i,v=>v = .int i
 | .str x,v=>v = .str (strOf x)/\x.length<=sizeLine
 | .tup xs,v=>xs.length<=sizeLine/\∃a vs,v = .ref a/\mK K F a vs/\bU K F xs vs
 | .lst xs,v=>xs.length<=sizeLine/\∃a vs,v = .ref a/\F a=some (.lst vs)/\bU K F xs vs
 | .arr xs,v=>xs.length<=sizeLine/\∃a vs,v = .ref a/\ju K F a vs/\bU K F xs vs
 | .dct kvs,v=>kvs.length<=sizeLine/\∃a ks,v = .ref a/\Rd F a (.dK ks)/\dR K F kvs ks
 | .gC kvs,v=>kvs.length<=sizeLine/\∃a ks,v = .ref a/\Rd F a (.dN ks)/\cW K F kvs ks
 | .clo st ds,v=>∃a vs,v = .ref a/\Clo F st a vs/\bU K F ds vs
def bU(K:Fg)(F:Hp):List D->List V->Prop
 | [],vs=>vs=[]
 | d::ds,vs=>∃v r,vs=v::r/\Rep K F d v/\bU K F ds r
def dR(K:Fg)(F:Hp):List (D×D)->List (Key×V)->Prop
 | [],vs=>vs=[]
 | (k,d)::ds,vs=>∃q v r,vs=(q,v)::r/\mD k=some q/\Rep K F d v/\dR K F ds r
def cW(K:Fg)(F:Hp):List (D×D)->List (NK×V×V)->Prop
 | [],vs=>vs=[]
 | (k,d)::ds,vs=>∃q u v r,vs=(q,u,v)::r/\qP k=some q/\q.dep<=8/\Rep K F k u/\Rep K F d v/\cW K F ds r
end
def aR.rd{F F':Hp}{a:Addr}{u:HO}(e:aR F F')(h:Rd F a u):Rd F' a u:=by
 rcases h with h|⟨o,h⟩
 ·exact .inl (e _ _ h)
 ·exact .inr ⟨o,e _ _ h⟩
def aR.tupK{K:Fg}{F F':Hp}{a:Addr}{xs:List V}(e:aR F F')(h:mK K F a xs):mK K F' a xs:=by
 rcases h with h|h
 ·exact .inl (aR.rd e h)
 ·exact .inr h
mutual
theorem Rep.mono{K:Fg}{F F':Hp}(e:aR F F'):∀(d:D) (v:V),Rep K F d v->Rep K F' d v
 | .non,_,h=>h
 | .bl _,_,h=>h
 | .int _,_,h=>h
 | .str _,_,h=>h
 | .tup xs,v,h=>by
  obtain⟨z,a,vs,rfl,h1,h2⟩:=h;exact⟨z,a,vs,rfl,aR.tupK e h1,bU.mono e xs vs h2⟩
 | .lst xs,v,h=>by
  obtain⟨z,a,vs,rfl,h1,h2⟩:=h;exact⟨z,a,vs,rfl,e _ _ h1,bU.mono e xs vs h2⟩
 | .arr xs,v,h=>by
  obtain⟨z,a,vs,rfl,h1,h2⟩:=h;exact⟨z,a,vs,rfl,e.seq h1,bU.mono e xs vs h2⟩
 | .dct kvs,v,h=>by
  obtain⟨z,a,ks,rfl,h1,h2⟩:=h;exact⟨z,a,ks,rfl,aR.rd e h1,dR.mono e kvs ks h2⟩
 | .gC kvs,v,h=>by
  obtain⟨z,a,ks,rfl,h1,h2⟩:=h;exact⟨z,a,ks,rfl,aR.rd e h1,cW.mono e kvs ks h2⟩
 | .clo st ds,v,h=>by
  obtain⟨a,vs,rfl,h1,h2⟩:=h;exact⟨a,vs,rfl,aR.clo e h1,bU.mono e ds vs h2⟩
theorem bU.mono{K:Fg}{F F':Hp}(e:aR F F'):∀(ds:List D) (vs:List V),bU K F ds vs->bU K F' ds vs
 | [],_,h=>h
 | d::ds,vs,h=>by
  obtain⟨v,r,rfl,h1,h2⟩:=h;exact⟨v,r,rfl,Rep.mono e d v h1,bU.mono e ds r h2⟩
theorem dR.mono{K:Fg}{F F':Hp}(e:aR F F'):∀(ds:List (D×D)) (vs:List (Key×V)),dR K F ds vs->dR K F' ds vs
 | [],_,h=>h
 | (k,d)::ds,vs,h=>by
  obtain⟨q,v,r,rfl,h0,h1,h2⟩:=h;exact⟨q,v,r,rfl,h0,Rep.mono e d v h1,dR.mono e ds r h2⟩
theorem cW.mono{K:Fg}{F F':Hp}(e:aR F F'):∀(ds:List (D×D)) (vs:List (NK×V×V)),cW K F ds vs->cW K F' ds vs
 | [],_,h=>h
 | (k,d)::ds,vs,h=>by
  obtain⟨q,u,v,r,rfl,h0,h3,h4,h1,h2⟩:=h;exact⟨q,u,v,r,rfl,h0,h3,Rep.mono e k u h4,Rep.mono e d v h1,cW.mono e ds r h2⟩
end
theorem bU.length{K:Fg}{F:Hp}:∀{ds:List D} {vs:List V},bU K F ds vs->vs.length=ds.length
 | [],_,h=>by cases h;rfl
 | d::ds,vs,h=>by
  obtain⟨v,r,rfl,_,h2⟩:=h;rw[Qqw,Qqw,h2.length]
theorem bU.get{K:Fg}{F:Hp}:∀{ds:List D} {vs:List V} {i:Nat} {d:D},bU K F ds vs->ds[i]? = some d->∃v,vs[i]? = some v/\Rep K F d v
 | [],_,_,_,_,e=>by simp at e
 | c::ds,vs,i,d,h,e=>by
  obtain⟨v,r,rfl,h1,h2⟩:=h;cases i with
  | zero=>simp at e;subst e;exact⟨v,rfl,h1⟩
  | succ i=>obtain⟨u,e1,e2⟩:=bU.get h2 (i:=i) (by simpa using e);exact⟨u,by simpa using e1,e2⟩
theorem bU.append{K:Fg}{F:Hp}:∀{ds es:List D} {vs ws:List V},bU K F ds vs->bU K F es ws->bU K F (ds++es) (vs++ws)
 | [],es,vs,ws,h,g=>by cases h;exact g
 | d::ds,es,vs,ws,h,g=>by
  obtain⟨v,r,rfl,h1,h2⟩:=h;exact⟨v,r++ws,rfl,h1,bU.append h2 g⟩
theorem bU.drop{K:Fg}{F:Hp}:∀(n:Nat) {ds:List D} {vs:List V},bU K F ds vs->bU K F (ds.drop n) (vs.drop n)
 | 0,_,_,h=>h
 | _+1,[],_,h=>by cases h;exact rfl
 | n+1,d::ds,vs,h=>by
  obtain⟨v,r,rfl,_,h2⟩:=h;exact bU.drop n h2
theorem bU.take{K:Fg}{F:Hp}:∀(n:Nat) {ds:List D} {vs:List V},bU K F ds vs->bU K F (ds.take n) (vs.take n)
 | 0,_,_,_=>rfl
 | _+1,[],_,h=>by cases h;exact rfl
 | n+1,d::ds,vs,h=>by
  obtain⟨v,r,rfl,h1,h2⟩:=h;exact⟨v,r.take n,rfl,h1,bU.take n h2⟩
theorem bU.set{K:Fg}{F:Hp}{d:D}{v:V}(hd:Rep K F d v):∀(i:Nat) {ds:List D} {vs:List V},bU K F ds vs->bU K F (ds.set i d) (vs.set i v)
 | _,[],_,h=>by cases h;exact rfl
 | 0,c::ds,vs,h=>by
  obtain⟨u,r,rfl,_,h2⟩:=h;exact⟨v,r,rfl,hd,h2⟩
 | i+1,c::ds,vs,h=>by
  obtain⟨u,r,rfl,h1,h2⟩:=h;exact⟨u,r.set i v,rfl,h1,bU.set hd i h2⟩
def bU.one{K:Fg}{F:Hp}{d:D}{v:V}(h:Rep K F d v):bU K F [d] [v]:=⟨v,[],rfl,h,rfl⟩
abbrev Env:=List (Option (Bool×D))
inductive R (α:Type) where
 | ok (a:α) (env:Env)
 | stuck
abbrev Ev:=Env->R D
abbrev fU:=Env->R Bool
abbrev dI:=Env->R (List D)
structure Cfg where
 K:Fg
 fx:Nat->Option Addr
def lU(K:Fg)(F H:Hp):D->Addr->Prop
 | .lst xs,a=>xs.length<=sizeLine/\∃vs,H a=some (.lst vs)/\bU K F xs vs
 | .dct kvs,a=>kvs.length<=sizeLine/\∃ks,H a=some (.dK ks)/\dR K F kvs ks
 | .gC kvs,a=>kvs.length<=sizeLine/\∃ks,H a=some (.dN ks)/\cW K F kvs ks
 | _,_=>False
def lU.mono{K:Fg}{F F' H H':Hp}(e:aR F F'){d:D}{a:Addr}(k:H' a=H a)(h:lU K F H d a):lU K F' H' d a:=by
 cases d with
 | lst xs=>obtain⟨z,vs,h1,h2⟩:=h;exact⟨z,vs,k.trans h1,bU.mono e _ _ h2⟩
 | dct kvs=>obtain⟨z,ks,h1,h2⟩:=h;exact⟨z,ks,k.trans h1,dR.mono e _ _ h2⟩
 | gC kvs=>obtain⟨z,ks,h1,h2⟩:=h;exact⟨z,ks,k.trans h1,cW.mono e _ _ h2⟩
 | _=>exact h
theorem lU.some{K:Fg}{F H:Hp}{d:D}{a:Addr}(h:lU K F H d a):∃o,H a=some o:=by
 cases d with
 | lst xs=>obtain⟨z,vs,h1,h2⟩:=h;exact⟨_,h1⟩
 | dct kvs=>obtain⟨z,ks,h1,h2⟩:=h;exact⟨_,h1⟩
 | gC kvs=>obtain⟨z,ks,h1,h2⟩:=h;exact⟨_,h1⟩
 | _=>exact h.elim
def gD(K:Fg)(F H:Hp)(d:D)(v:V):Prop:=Rep K F d v\/∃a,v = .ref a/\lU K F H d a
def gD.rep{K:Fg}{F H:Hp}{d:D}{v:V}(s:aR F H)(h:gD K F H d v):Rep K H d v:=by
 rcases h with h|⟨a,rfl,h⟩
 ·exact Rep.mono s d v h
 ·cases d with
  | lst xs=>obtain⟨z,vs,h1,h2⟩:=h;exact⟨z,a,vs,rfl,h1,bU.mono s _ _ h2⟩
  | dct kvs=>obtain⟨z,ks,h1,h2⟩:=h;exact⟨z,a,ks,rfl,.inl h1,dR.mono s _ _ h2⟩
  | gC kvs=>obtain⟨z,ks,h1,h2⟩:=h;exact⟨z,a,ks,rfl,.inl h1,cW.mono s _ _ h2⟩
  | _=>exact h.elim
def gD.lst{K:Fg}{F H:Hp}{xs:List D}{v:V}(s:aR F H)(h:gD K F H (.lst xs) v):xs.length<=sizeLine/\∃a vs,v = .ref a/\H a=some (.lst vs)/\bU K F xs vs:=by
 rcases h with ⟨z,a,vs,rfl,h1,h2⟩|⟨a,rfl,z,vs,h1,h2⟩
 ·exact⟨z,a,vs,rfl,s _ _ h1,h2⟩
 ·exact⟨z,a,vs,rfl,h1,h2⟩
def gD.arr{K:Fg}{F H:Hp}{xs:List D}{v:V}(s:aR F H)(h:gD K F H (.arr xs) v):xs.length<=sizeLine/\∃a vs,v = .ref a/\ju K H a vs/\bU K F xs vs:=by
 rcases h with ⟨z,a,vs,rfl,h1,h2⟩|⟨a,rfl,h⟩
 ·exact⟨z,a,vs,rfl,s.seq h1,h2⟩
 ·exact h.elim
def gD.tup{K:Fg}{F H:Hp}{xs:List D}{v:V}(s:aR F H)(h:gD K F H (.tup xs) v):xs.length<=sizeLine/\∃a vs,v = .ref a/\mK K H a vs/\mK K F a vs/\bU K F xs vs:=by
 rcases h with ⟨z,a,vs,rfl,h1,h2⟩|⟨a,rfl,h⟩
 ·exact⟨z,a,vs,rfl,aR.tupK s h1,h1,h2⟩
 ·exact h.elim
def gD.int{K:Fg}{F H:Hp}{i:Int}{v:V}(h:gD K F H (.int i) v):v = .int i:=by
 rcases h with h|⟨a,rfl,h⟩
 ·exact h
 ·exact h.elim
def gD.bl{K:Fg}{F H:Hp}{i:Bool}{v:V}(h:gD K F H (.bl i) v):v = .bl i:=by
 rcases h with h|⟨a,rfl,h⟩
 ·exact h
 ·exact h.elim
def gD.non{K:Fg}{F H:Hp}{v:V}(h:gD K F H .non v):v = .non:=by
 rcases h with h|⟨a,rfl,h⟩
 ·exact h
 ·exact h.elim
def gD.str{K:Fg}{F H:Hp}{x:List Nat}{v:V}(h:gD K F H (.str x) v):v = .str (strOf x)/\x.length<=sizeLine:=by
 rcases h with h|⟨a,rfl,h⟩
 ·exact h
 ·exact h.elim
structure Rel(C:Cfg)(Pr F:Hp)(env:Env)(σ:L2.St)(H:Hp):Prop where
 pr:aR Pr H
 fr:aR F H
 len:env.length=σ.length
 val:∀(i:Nat) (d:D),env[i]? = some (some (false,d))->∃v,σ[i]? = some (some v)/\Rep C.K F d v
 own:∀(i:Nat) (d:D),env[i]? = some (some (true,d))->∃a,σ[i]? = some (some (V.ref a))/\lU C.K F H d a/\F a=none/\Pr a=none
 apart:∀(i j:Nat) (d e:D) (a:Addr),env[i]? = some (some (true,d))->env[j]? = some (some (true,e))->σ[i]? = some (some (V.ref a))->σ[j]? = some (some (V.ref a))->i=j
 dj:∀b o,F b=some o->Pr b=none
 fix:∀i a,C.fx i=some a->σ[i]? = some (some (V.ref a))
def m6{H:Hp}{a:Addr}{o:HO}(h:H a=none):aR H (upd H a o):=λb u e=>by
 rw[bL (eF e h)];exact e
def Rel.new{C:Cfg}{Pr F:Hp}{env:Env}{σ:L2.St}{H:Hp}{a:Addr}{o:HO}(r:Rel C Pr F env σ H)(h:H a=none):Rel C Pr (upd F a o) env σ (upd H a o)/\aR F (upd F a o):=by
 have hF:F a=none:=r.fr.free h;have s1:aR F (upd F a o):=m6 hF;refine⟨⟨r.pr.trans (m6 h),λb u e=>?_,r.len,λi d e1=>?_,λi d e1=>?_,r.apart,λb u e=>?_,r.fix⟩,s1⟩
 ·by_cases hb:b=a
  ·subst hb;rw[bh] at e ⊢;exact e
  ·rw[bL hb] at e ⊢;exact r.fr b u e
 ·obtain⟨v,h1,h2⟩:=r.val i d e1;exact⟨v,h1,Rep.mono s1 d v h2⟩
 ·obtain⟨b,h1,h2,h3,h4⟩:=r.own i d e1;obtain⟨u,hu⟩:=h2.some;have hb:b≠a:=eF hu h;exact⟨b,h1,h2.mono s1 (bL hb),by rw[bL hb];exact h3,h4⟩
 ·by_cases hb:b=a
  ·subst hb;exact r.pr.free h
  ·rw[bL hb] at e;exact r.dj b u e
def Rel.fresh{C:Cfg}{Pr F:Hp}{env:Env}{σ:L2.St}{H:Hp}{a:Addr}{o:HO}(r:Rel C Pr F env σ H)(h:H a=none):Rel C Pr F env σ (upd H a o):=by refine⟨r.pr.trans (m6 h),r.fr.trans (m6 h),r.len,r.val,λi d e1=>?_,r.apart,r.dj,r.fix⟩;obtain⟨b,h1,h2,h3,h4⟩:=r.own i d e1;obtain⟨u,hu⟩:=h2.some;have hb:b≠a:=eF hu h;exact⟨b,h1,h2.mono (aR.refl F) (bL hb),h3,h4⟩
def Rel.aside{C:Cfg}{Pr F:Hp}{env:Env}{σ:L2.St}{H:Hp}{a:Addr}{o:HO}(r:Rel C Pr F env σ H)(h:H a=none):Rel C (upd Pr a o) F env σ (upd H a o):=by
 have r':=r.fresh (o:=o) h;have hF:F a=none:=r.fr.free h;refine⟨λb u e=>?_,r'.fr,r.len,r.val,λi d e1=>?_,r.apart,λb u e=>?_,r.fix⟩
 ·by_cases hb:b=a
  ·subst hb;rw[bh] at e ⊢;exact e
  ·rw[bL hb] at e ⊢;exact r.pr b u e
 ·obtain⟨b,h1,h2,h3,h4⟩:=r'.own i d e1;obtain⟨b',h1',h2',_⟩:=r.own i d e1;rw[h1] at h1';cases h1';obtain⟨u,hu⟩:=h2'.some;have hb:b≠a:=eF hu h;exact⟨b,h1,h2,h3,by rw[bL hb];exact h4⟩
 ·have hb:b≠a:=λz=>by rw[z,hF] at e;cases e
  rw[bL hb];exact r.dj b u e
def Rel.turn{C:Cfg}{Pr F:Hp}{env:Env}{σ:L2.St}{H:Hp}{a:Addr}{o u:HO}(r:Rel C Pr F env σ H)(h:Pr a=some o):Rel C (upd Pr a u) F env σ (upd H a u):=by
 have hF:F a=none:=by
  cases e:F a with
  | none=>rfl
  | some w=>have:=r.dj a w e;rw[h] at this;cases this
 refine⟨λb w e=>?_,λb w e=>?_,r.len,r.val,λi d e1=>?_,r.apart,λb w e=>?_,r.fix⟩
 ·by_cases hb:b=a
  ·subst hb;rw[bh] at e ⊢;exact e
  ·rw[bL hb] at e ⊢;exact r.pr b w e
 ·have hb:b≠a:=λz=>by rw[z,hF] at e;cases e
  rw[bL hb];exact r.fr b w e
 ·obtain⟨b,h1,h2,h3,h4⟩:=r.own i d e1;have hb:b≠a:=λz=>by rw[z,h] at h4;cases h4
  exact⟨b,h1,h2.mono (aR.refl F) (bL hb),h3,by rw[bL hb];exact h4⟩
 ·have hb:b≠a:=λz=>by rw[z,hF] at e;cases e
  rw[bL hb];exact r.dj b w e
def Rel.less{C:Cfg}{Pr Pr' F:Hp}{env:Env}{σ:L2.St}{H:Hp}(r:Rel C Pr F env σ H)(s:aR Pr' Pr):Rel C Pr' F env σ H:=
 ⟨s.trans r.pr,r.fr,r.len,r.val,λi d e=>let ⟨b,h1,h2,h3,h4⟩:=r.own i d e;⟨b,h1,h2,h3,s.free h4⟩,r.apart,λb o e=>s.free (r.dj b o e),r.fix⟩
def Rel.freeze{C:Cfg}{Pr F:Hp}{env:Env}{σ:L2.St}{H:Hp}(r:Rel C Pr F env σ H){i:Nat}{d:D}(h:env[i]? = some (some (true,d))) :
  ∃(F':Hp) (v:V),Rel C Pr F' (env.set i (some (false,d))) σ H/\aR F F'/\σ[i]? = some (some v)/\Rep C.K F' d v:=by
 obtain⟨a,h1,h2,h3,h4⟩:=r.own i d h;obtain⟨o,ho⟩:=h2.some;have s1:aR F (upd F a o):=m6 h3;have hi:i<env.length:=(Qq4.mp h).1;have rep:Rep C.K (upd F a o) d (.ref a):=by
  cases d with
  | lst xs=>obtain⟨z,vs,g1,g2⟩:=h2;rw[ho] at g1;cases g1;exact⟨z,a,vs,rfl,bh,bU.mono s1 _ _ g2⟩
  | dct kvs=>obtain⟨z,ks,g1,g2⟩:=h2;rw[ho] at g1;cases g1;exact⟨z,a,ks,rfl,.inl bh,dR.mono s1 _ _ g2⟩
  | gC kvs=>obtain⟨z,ks,g1,g2⟩:=h2;rw[ho] at g1;cases g1;exact⟨z,a,ks,rfl,.inl bh,cW.mono s1 _ _ g2⟩
  | _=>exact h2.elim
 refine⟨upd F a o,.ref a,⟨r.pr,λb u e=>?_,by rw[Qzx];exact r.len,λj e he=>?_,λj e he=>?_,λj k e f b hj hk g1 g2=>?_,λb u e=>?_,r.fix⟩,s1,h1,rep⟩
 ·by_cases hb:b=a
  ·subst hb;rw[bh] at e;cases e;exact ho
  ·rw[bL hb] at e;exact r.fr b u e
 ·by_cases hj:j=i
  ·subst hj;rw[Qw7 hi] at he;cases he;exact⟨_,h1,rep⟩
  ·rw[Qw3 (Ne.symm hj)] at he;obtain⟨v,g1,g2⟩:=r.val j e he;exact⟨v,g1,Rep.mono s1 e v g2⟩
 ·by_cases hj:j=i
  ·subst hj;rw[Qw7 hi] at he;cases he
  ·rw[Qw3 (Ne.symm hj)] at he;obtain⟨b,g1,g2,g3,g4⟩:=r.own j e he;have hb:b≠a:=λz=>hj (r.apart j i e d a he h (by rw[<-z];exact g1) h1);exact⟨b,g1,g2.mono s1 rfl,by rw[bL hb];exact g3,g4⟩
 ·have nj:j≠i:=λz=>by subst z;rw[Qw7 hi] at hj;cases hj
  have nk:k≠i:=λz=>by subst z;rw[Qw7 hi] at hk;cases hk
  rw[Qw3 (Ne.symm nj)] at hj;rw[Qw3 (Ne.symm nk)] at hk;exact r.apart j k e f b hj hk g1 g2
 ·by_cases hb:b=a
  ·subst hb;exact h4
  ·rw[bL hb] at e;exact r.dj b u e
def tE(C:Cfg)(ev:Ev):TE:=λσ H Q=>∃(Pr F:Hp) (env env':Env) (d:D),Rel C Pr F env σ H/\ev env = .ok d env'/\
 ∀v H' F',Rel C Pr F' env' σ H'->aR F F'->Rep C.K F' d v->Q v H'
def tRd(C:Cfg)(ev:Ev):TE:=λσ H Q=>∃(Pr F:Hp) (env env':Env) (d:D),Rel C Pr F env σ H/\ev env = .ok d env'/\
 ∀v H' F',Rel C Pr F' env' σ H'->aR F F'->gD C.K F' H' d v->Q v H'
def tT(C:Cfg)(ev:fU):TT:=λσ H Q=>∃(Pr F:Hp) (env env':Env) (b:Bool),Rel C Pr F env σ H/\ev env = .ok b env'/\
 ∀H' F',Rel C Pr F' env' σ H'->aR F F'->Q b H'
def tA(C:Cfg)(ev:dI):TA:=λσ H Q=>∃(Pr F:Hp) (env env':Env) (ds:List D),Rel C Pr F env σ H/\ev env = .ok ds env'/\
 ∀vs H' F',Rel C Pr F' env' σ H'->aR F F'->bU C.K F' ds vs->Q vs H'
def PX(X:Cx)(C:Cfg)(e:Expr)(ev:Ev):Prop:=PE X e (tE C ev)
def Nj(X:Cx)(C:Cfg)(e:Expr)(ev:Ev):Prop:=PE X e (tRd C ev)
def PXT(X:Cx)(C:Cfg)(e:Expr)(ev:fU):Prop:=PT X e (tT C ev)
def Kr(X:Cx)(C:Cfg)(es:List Expr)(ev:dI):Prop:=PA X es (tA C ev)
def _root_.L2.PE.imp{X:Cx}{e:Expr}{t t':TE}(h:PE X e t)(i:∀σ H Q,t' σ H Q->t σ H Q):PE X e t':=λpins s σ H Q I q=>h pins s σ H Q I (i σ H Q q)
def _root_.L2.PT.imp{X:Cx}{e:Expr}{t t':TT}(h:PT X e t)(i:∀σ H Q,t' σ H Q->t σ H Q):PT X e t':=λpins s σ H Q I q=>h pins s σ H Q I (i σ H Q q)
def _root_.L2.PW.imp{X:Cx}{e:Expr}{t t':TT}(h:PW X e t)(i:∀σ H Q,t' σ H Q->t σ H Q):PW X e t':=λwhole pins s σ H Q I q=>h whole pins s σ H Q I (i σ H Q q)
def _root_.L2.PA.imp{X:Cx}{e:List Expr}{t t':TA}(h:PA X e t)(i:∀σ H Q,t' σ H Q->t σ H Q):PA X e t':=λpos pins s σ H Q I q=>h pos pins s σ H Q I (i σ H Q q)
def _root_.L2.PS.imp{X:Cx}{e:Stmt}{t t':TS}(h:PS X e t)(i:∀D σ H,t' D σ H->t D σ H):PS X e t':=λpins s σ H D I q=>h pins s σ H D I (i D σ H q)
def _root_.L2.Ks.imp{X:Cx}{e:List Stmt}{t t':TS}(h:Ks X e t)(i:∀D σ H,t' D σ H->t D σ H):Ks X e t':=λpins s σ H D I q=>h pins s σ H D I (i D σ H q)
def bindR{α β:Type}(x:R α)(f:α->Env->R β):R β:=match x with
 | .ok a env=>f a env
 | .stuck=>.stuck
def jf{α:Type}(o:Option α)(env:Env):R α:=match o with
 | some a=>.ok a env
 | none=>.stuck
def bf{α β:Type}{x:R α}{f:α->Env->R β}{b:β}{env':Env}(h:bindR x f = .ok b env'):∃a aL,x = .ok a aL/\f a aL = .ok b env':=by
 cases x with
 | ok a aL=>exact⟨a,aL,rfl,h⟩
 | stuck=>cases h
def fD{α:Type}{o:Option α}{env env':Env}{a:α}(h:jf o env = .ok a env'):o=some a/\env'=env:=by
 cases o with
 | some b=>cases h;exact⟨rfl,rfl⟩
 | none=>cases h
section
variable{X:Cx}{C:Cfg}{pos:Pos}
def aM(i:Nat):Ev:=λenv=>match env[i]? with
 | some (some (false,d))=>.ok d env
 | some (some (true,d))=>.ok d (env.set i (some (false,d)))
 | _=>.stuck
def ab1(i:Nat){x:Str}(hN:X.N[i]? = some x)(hv:tR X.env.scope x)(hd:mU x:=by decide)(hcd:uG x:=by decide):PX X C (.Name x pos) (aM i):=by
 refine(jY hN hv hd hcd).imp λσ H Q h=>?_;obtain⟨Pr,F,env,env',d,r,e,q⟩:=h;unfold aM at e;split at e
 ·rename_i d' hd';cases e;obtain⟨v,h1,h2⟩:=r.val i d hd';exact⟨v,h1,q v H F r (aR.refl F) h2⟩
 ·rename_i d' hd';cases e;obtain⟨F',v,r',s',h1,h2⟩:=r.freeze hd';exact⟨v,h1,q v H F' r' s' h2⟩
 ·cases e
def PX.b{e:Expr}{ev:Ev}(h:PX X C e ev):Nj X C e ev:=PE.imp h λσ H Q hq=>by
 obtain⟨Pr,F,env,env',d,r,e,q⟩:=hq;exact⟨Pr,F,env,env',d,r,e,λv H' F' r' s' p'=>q v H' F' r' s' (.inl p')⟩
def aV(i:Nat):Ev:=λenv=>match env[i]? with
 | some (some (_,d))=>.ok d env
 | _=>.stuck
def Rel.rd{Pr F:Hp}{env:Env}{σ:L2.St}{H:Hp}(r:Rel C Pr F env σ H){i:Nat}{o:Bool}{d:D}(h:env[i]? = some (some (o,d))):∃v,σ[i]? = some (some v)/\gD C.K F H d v:=by
 cases o with
 | true=>obtain⟨a,h1,h2,_⟩:=r.own i d h;exact⟨_,h1,.inr ⟨a,rfl,h2⟩⟩
 | false=>obtain⟨v,h1,h2⟩:=r.val i d h;exact⟨v,h1,.inl h2⟩
def Yt(i:Nat){x:Str}(hN:X.N[i]? = some x)(hv:tR X.env.scope x)(hd:mU x:=by decide)(hcd:uG x:=by decide):Nj X C (.Name x pos) (aV i):=by
 refine(jY hN hv hd hcd).imp λσ H Q h=>?_;obtain⟨Pr,F,env,env',d,r,e,q⟩:=h;unfold aV at e;split at e
 ·rename_i o' d' hd';cases e;obtain⟨v,h1,h2⟩:=r.rd hd';exact⟨v,h1,q v H F r (aR.refl F) h2⟩
 ·cases e
def Ep(d:D):Ev:=λenv=>.ok d env
def ab7{i:Int}{j:Nat}:PX X C (.Constant (.int i) j pos) (Ep (.int i)):=U6.imp λσ H Q h=>by
 obtain⟨Pr,F,env,env',d,r,e,q⟩:=h;cases e;exact q _ _ F r (aR.refl F) rfl
def afi{b:Bool}{j:Nat}:PX X C (.Constant (.bool b) j pos) (Ep (.bl b)):=afo.imp λσ H Q h=>by
 obtain⟨Pr,F,env,env',d,r,e,q⟩:=h;cases e;exact q _ _ F r (aR.refl F) rfl
def ab5{j:Nat}:PX X C (.Constant .none j pos) (Ep .non):=acp.imp λσ H Q h=>by
 obtain⟨Pr,F,env,env',d,r,e,q⟩:=h;cases e;exact q _ _ F r (aR.refl F) rfl
def ab2(z:List Nat){x:Str}{j:Nat}(hz:x=strOf z)(hl:z.length<=sizeLine:=by decide):PX X C (.Constant (.str x) j pos) (Ep (.str z)):=by subst hz;refine acn.imp λσ H Q h=>?_;obtain⟨Pr,F,env,env',d,r,e,q⟩:=h;cases e;exact q _ _ F r (aR.refl F) ⟨rfl,hl⟩
def ak:dI:=λenv=>.ok [] env
def aa(a:Ev)(r:dI):dI:=λenv=>bindR (a env) λd aL=>bindR (r aL) λds dX=>.ok (d::ds) dX
def Og:Kr X C [] ak:=rG.imp λσ H Q h=>by
 obtain⟨Pr,F,env,env',d,r,e,q⟩:=h;cases e;exact q _ _ F r (aR.refl F) rfl
def Iw{e:Expr}{es:List Expr}{a:Ev}{r:dI}(ha:PX X C e a)(hr:Kr X C es r)(hs:starEach (e::es) X.env=(false,eval e X.env)::starEach es X.env:=by rfl):Kr X C (e::es) (aa a r):=
 (lF ha hr hs).imp λσ H Q h=>by
  obtain⟨Pr,F,env,env',ds,rl,e,q⟩:=h;obtain⟨d1,aL,e1,e2⟩:=bf e;obtain⟨ds2,dX,e3,e4⟩:=bf e2;cases e4;refine⟨Pr,F,env,aL,d1,rl,e1,λv H1 F1 r1 s1 p1=>?_⟩;refine⟨Pr,F1,aL,env',ds2,r1,e3,λvs H2 F2 r2 s2 p2=>?_⟩;exact q _ H2 F2 r2 (s1.trans s2) ⟨v,vs,rfl,Rep.mono s2 d1 v p1,p2⟩
def bY(r:dI):Ev:=λenv=>bindR (r env) λds aL=>if ds.length<=sizeLine then .ok (.tup ds) aL else .stuck
def cz(r:dI):Ev:=λenv=>bindR (r env) λds aL=>if ds.length<=sizeLine then .ok (.lst ds) aL else .stuck
def aO(g:D->D->Option D)(a b:Ev):Ev:=λenv=>bindR (a env) λx aL=>bindR (b aL) λy dX=>jf (g x y) dX
def wg(g:D->Option D)(a:Ev):Ev:=λenv=>bindR (a env) λx aL=>jf (g x) aL
def qM(C:Cfg)(r:R2)(g:D->D->Option D):Prop:=∀(Pr F:Hp) (env:Env) (σ:L2.St) (H:Hp) (x y d:D) (vx vy:V) (Q:VK),Rel C Pr F env σ H->gD C.K F H x vx->gD C.K F H y vy->g x y=some d->
 (∀v H' F',Rel C Pr F' env σ H'->aR F F'->Rep C.K F' d v->Q v H')->r vx vy H Q
def UnD(C:Cfg)(r:V->Hp->VK->Prop)(g:D->Option D):Prop:=∀(Pr F:Hp) (env:Env) (σ:L2.St) (H:Hp) (x d:D) (vx:V) (Q:VK),Rel C Pr F env σ H->gD C.K F H x vx->g x=some d->
 (∀v H' F',Rel C Pr F' env σ H'->aR F F'->Rep C.K F' d v->Q v H')->r vx H Q
def G6{r:R2}{g:D->D->Option D}{a b:Ev}(o:qM C r g)(σ:L2.St)(H:Hp)(Q:VK)(h:tE C (aO g a b) σ H Q):XQ r (tE C a) (tRd C b) σ H Q:=by obtain⟨Pr,F,env,env',d,rl,e,q⟩:=h;obtain⟨x,aL,e1,e2⟩:=bf e;obtain⟨y,dX,e3,e4⟩:=bf e2;obtain⟨e5,rfl⟩:=fD e4;refine⟨Pr,F,env,aL,x,rl,e1,λvx H1 F1 r1 s1 p1=>⟨Pr,F1,aL,env',y,r1,e3,λvy H2 F2 r2 s2 p2=>?_⟩⟩;exact o Pr F2 env' σ H2 x y d vx vy Q r2 (.inl (Rep.mono s2 x vx p1)) p2 e5 λv H3 F3 r3 s3 p3=>q v H3 F3 r3 ((s1.trans s2).trans s3) p3
def aB(g:D->D->Option D)(i:Nat)(b:Ev):Ev:=λenv=>match env[i]? with
 | some (some (_,_))=>bindR (b env) λy dX=>(match dX[i]? with
  | some (some (_,x))=>jf (g x y) dX
  | _=>.stuck)
 | _=>.stuck
def tK{r:R2}{g:D->D->Option D}{i:Nat}{b:Ev}(o:qM C r g)(σ:L2.St)(H:Hp)(Q:VK)(h:tE C (aB g i b) σ H Q):XQ r (aeD i) (tRd C b) σ H Q:=by
 obtain⟨Pr,F,env,env',d,rl,e,q⟩:=h;unfold aB at e;split at e
 ·rename_i o0 d0 h0;obtain⟨v,hv,_⟩:=rl.rd h0;obtain⟨y,dX,e1,e2⟩:=bf e;split at e2
  ·rename_i o2 x h2;obtain⟨e5,rfl⟩:=fD e2;refine⟨v,hv,Pr,F,env,env',y,rl,e1,λvy H2 F2 r2 s2 p2=>?_⟩;obtain⟨v',hv',p⟩:=r2.rd h2;rw[hv] at hv';cases hv';exact o Pr F2 env' σ H2 x y d v vy Q r2 p p2 e5 λv H3 F3 r3 s3 p3=>q v H3 F3 r3 (s2.trans s3) p3
  ·cases e2
 ·cases e
def afe{op:Operator}{r:R2}{g:D->D->Option D}{x y:Expr}{a b:Ev}(ho:ph X (binaryOp op) r)(o:qM C r g)(ha:PX X C x a)(hb:Nj X C y b):PX X C (.BinOp x op y pos) (aO g a b):=
 (aaR ho ha hb).imp (G6 o)
def ab4{op:Operator}{r:R2}{g:D->D->Option D}{y:Expr}{b:Ev}{px:Pos}(i:Nat){x:Str}(hN:X.N[i]? = some x)(hv:tR X.env.scope x)(ho:ph X (binaryOp op) r)(o:qM C r g)(hb:Nj X C y b)
  (hd:mU x:=by decide) (hcd:uG x:=by decide):PX X C (.BinOp (.Name x px) op y pos) (aB g i b):=
 (aaR ho (jY hN hv hd hcd) hb).imp (tK o)
def ab8{op:CmpOp}{r:R2}{g:D->D->Option D}{x y:Expr}{a b:Ev}(ho:ph X (compareOp op) r)(o:qM C r g)(ha:PX X C x a)(hb:Nj X C y b)(hm:behindInMarks op y=false):PX X C (.Compare x [op] [y] pos) (aO g a b):=
 (Oo ho ha hb hm).imp (G6 o)
def afc{op:UnaryOp}{r:V->Hp->VK->Prop}{g:D->Option D}{x:Expr}{a:Ev}(ho:UnR X (unaryOp op) r)(o:UnD C r g)(ha:PX X C x a):PX X C (.UnaryOp op x pos) (wg g a):=
 (aaQ ho ha).imp λσ H Q h=>by
  obtain⟨Pr,F,env,env',d,rl,e,q⟩:=h;obtain⟨x,aL,e1,e2⟩:=bf e;obtain⟨e3,rfl⟩:=fD e2;exact⟨Pr,F,env,env',x,rl,e1,λvx H1 F1 r1 s1 p1=>o Pr F1 env' σ H1 x d vx Q r1 (.inl p1) e3 λv H3 F3 r3 s3 p3=>q v H3 F3 r3 (s1.trans s3) p3⟩
def eO(a:Ev):fU:=λenv=>bindR (a env) λd aL=>match d with
 | .bl b=>.ok b aL
 | _=>.stuck
def Td{a:Ev}{σ:L2.St}{H:Hp}{Q:Bool->Hp->Prop}(h:tT C (eO a) σ H Q):tE C a σ H λx H'=>∃k,x = .bl k/\Q k H':=by
 obtain⟨Pr,F,env,env',b,rl,e,q⟩:=h;obtain⟨d,aL,e1,e2⟩:=bf e;refine⟨Pr,F,env,aL,d,rl,e1,λv H1 F1 r1 s1 p1=>?_⟩;cases d with
 | bl c=>cases e2;exact⟨_,p1,q H1 F1 r1 s1⟩
 | _=>cases e2
def Yk{op:CmpOp}{r:R2}{g:D->D->Option D}{x y:Expr}{a b:Ev}(ho:ph X (compareOp op) r)(o:qM C r g)(ha:PX X C x a)(hb:Nj X C y b)(hm:behindInMarks op y=false):PXT X C (.Compare x [op] [y] pos) (eO (aO g a b)):=
 (Oj ho ha hb hm).imp λσ H Q h=>by
  have h1:=Td h;exact G6 o σ H _ h1
def GF(a:fU):fU:=λenv=>bindR (a env) λb aL=>.ok (!b) aL
def eV(a b:fU):fU:=λenv=>bindR (a env) λc aL=>if c=true then b aL else .ok false aL
def JW(a b:fU):fU:=λenv=>bindR (a env) λc aL=>if c=true then .ok true aL else b aL
def PXW(X:Cx)(C:Cfg)(e:Expr)(ev:fU):Prop:=PW X e (tT C ev)
def PXW.pt{e:Expr}{a:fU}(h:PXW X C e a):PXT X C e a:=PW.pt h
def GD(a b:Ev):Ev:=λenv=>bindR (a env) λc aL=>match c with
 | .bl true=>.ok (.bl true) aL
 | .bl false=>b aL
 | _=>.stuck
def Wn(t:fU)(a b:Ev):Ev:=λenv=>bindR (t env) λc aL=>if c=true then a aL else b aL
end
def wk(f:D->D->Option Bool):List D->List D->Option Bool
 | [],[]=>some true
 | x::xs,y::ys=>match f x y,wk f xs ys with
  | some a,some b=>some (a&&b)
  | _,_=>none
 | [],_::_=>some false
 | _::_,[]=>some false
def bA:Nat->D->D->Option Bool
 | 0,_,_=>none
 | n+1,.tup xs,.tup ys=>wk (bA n) xs ys
 | n+1,.lst xs,.lst ys=>wk (bA n) xs ys
 | _+1,.dct _,_=>none
 | _+1,.gC _,_=>none
 | _+1,.clo _ _,_=>none
 | _+1,_,.dct _=>none
 | _+1,_,.gC _=>none
 | _+1,_,.clo _ _=>none
 | _+1,.arr _,_=>none
 | _+1,_,.arr _=>none
 | _+1,.non,.non=>some true
 | _+1,.bl a,.bl b=>some (a == b)
 | _+1,.bl a,.int b=>some ((if a then 1 else 0) == b)
 | _+1,.int a,.bl b=>some (a == (if b then 1 else 0))
 | _+1,.int a,.int b=>some (a == b)
 | _+1,.str a,.str b=>some (a == b)
 | _+1,_,_=>some false
mutual
def Sh(h:Heap):D->Value->Prop
 | .non,u=>u = .none
 | .bl b,u=>u = .bool b
 | .int i,u=>∃t,u = .int i t
 | .str x,u=>∃t,u = .str (strOf x) t
 | .tup xs,u=>∃a its,u = .ref a/\IsTup h a its.toArray/\Ff h xs its
 | .lst xs,u=>∃a its,u = .ref a/\PlainL h a its.toArray/\Ff h xs its
 | .arr xs,u=>∃a its,u = .ref a/\PlainL h a its.toArray/\Ff h xs its
 | .dct _,u=>∃a o,u = .ref a/\h.get? a=some o/\o.ExactDict
 | .gC _,u=>∃a o,u = .ref a/\h.get? a=some o/\o.ExactDict
 | .clo _ _,u=>∃a,u = .ref a
def Ff(h:Heap):List D->List Value->Prop
 | [],us=>us=[]
 | d::ds,us=>∃u r,us=u::r/\Sh h d u/\Ff h ds r
end
theorem Ff.length{h:Heap}:∀{ds:List D} {us:List Value},Ff h ds us->us.length=ds.length
 | [],_,e=>by cases e;rfl
 | d::ds,us,e=>by obtain⟨u,r,rfl,_,h2⟩:=e;rw[Qqw,Qqw,h2.length]
section
variable{X:Cx}{pins:List (Addr×Obj)}{σ:L2.St}{H:Hp}{s:Shared}
mutual
theorem Rep.sh(I:Inv X pins σ H s):∀(d:D) (v:V) (u:Value),Rep X.K H d v->RelV v u->Sh s.heap d u
 | .non,_,_,h,r=>by cases h;exact r
 | .bl _,_,_,h,r=>by cases h;exact r
 | .int _,_,_,h,r=>by cases h;exact r
 | .str _,_,_,h,r=>by obtain⟨h,_⟩:=h;cases h;exact r
 | .tup xs,v,u,h,r=>by
  obtain⟨z,a,vs,rfl,h1,h2⟩:=h;cases r;obtain⟨its,rv,p,_⟩:=I.tuple h1;exact⟨a,its,rfl,p,bU.sh I xs vs its h2 rv⟩
 | .lst xs,v,u,h,r=>by
  obtain⟨z,a,vs,rfl,h1,h2⟩:=h;cases r;obtain⟨its,rv,p,_⟩:=I.list (ju.of h1);exact⟨a,its,rfl,p,bU.sh I xs vs its h2 rv⟩
 | .arr xs,v,u,h,r=>by
  obtain⟨z,a,vs,rfl,h1,h2⟩:=h;cases r;obtain⟨its,rv,p,_⟩:=I.list h1;exact⟨a,its,rfl,p,bU.sh I xs vs its h2 rv⟩
 | .dct kvs,v,u,h,r=>by
  obtain⟨z,a,ks,rfl,h1,h2⟩:=h;cases r;obtain⟨_,_,vs,_,o,_,_,e,ex,_⟩:=h1.ok I.hok;exact⟨a,o,rfl,e,ex⟩
 | .gC kvs,v,u,h,r=>by
  obtain⟨z,a,ks,rfl,h1,h2⟩:=h;cases r;obtain⟨_,_,vs,_,o,_,_,e,ex,_⟩:=h1.ok I.hok;exact⟨a,o,rfl,e,ex⟩
 | .clo st ds,v,u,h,r=>by
  obtain⟨a,vs,rfl,h1,h2⟩:=h;cases r;exact⟨a,rfl⟩
theorem bU.sh(I:Inv X pins σ H s):∀(ds:List D) (vs:List V) (us:List Value),bU X.K H ds vs->Vals vs us->Ff s.heap ds us
 | [],_,_,h,r=>by cases h;cases r;exact rfl
 | d::ds,vs,us,h,r=>by
  obtain⟨v,rr,rfl,h1,h2⟩:=h;cases r with
  | cons q qs=>exact⟨_,_,rfl,Rep.sh I d v _ h1 q,bU.sh I ds rr _ h2 qs⟩
end
end
def Nx{h:Heap}{a:Addr}{xs ys:Array Value}(p:IsTup h a xs)(q:IsTup h a ys):xs=ys:=by obtain⟨o,e,_,n,d⟩:=p;obtain⟨o',e',_,n',d'⟩:=q;rw[e] at e';cases e';rw[d] at d';cases d';rfl
def O3{h:Heap}{a:Addr}{xs ys:Array Value}(p:PlainL h a xs)(q:PlainL h a ys):xs=ys:=by obtain⟨o,e,_,n,d⟩:=p.isList;obtain⟨o',e',_,n',d'⟩:=q.isList;rw[e] at e';cases e';rw[d] at d';cases d';rfl
def zg{h:Heap}{a:Addr}{xs ys:Array Value}(p:IsTup h a xs)(q:PlainL h a ys):False:=by obtain⟨o,e,c,n,d⟩:=p;obtain⟨o',e',c',n',d'⟩:=q.isList;rw[e] at e';cases e';rw[c] at c';simp at c'
theorem Bx{h:Heap}:∀(n:Nat) (d e:D) (u:Value) (b:Bool),Sh h d u->Sh h e u->bA n d e=some b->b=true
 | 0,_,_,_,_,_,_,hb=>by simp[bA] at hb
 | n+1,d,e,u,b,hd,he,hb=>by
  have all:∀(xs ys:List D) (us:List Value) (b:Bool),Ff h xs us->Ff h ys us->wk (bA n) xs ys=some b->b=true:=by
   intro xs
   induction xs with
   | nil=>
    intro ys us b h1 h2 hb;cases h1;cases ys with
    | nil=>simp[wk] at hb;exact hb
    | cons y ys=>obtain⟨u,r,q,_⟩:=h2;cases q
   | cons x xs ih=>
    intro ys us b h1 h2 hb;obtain⟨u,r,rfl,h3,h4⟩:=h1;cases ys with
    | nil=>cases h2
    | cons y ys=>
     obtain⟨u',r',q,h5,h6⟩:=h2;cases q;unfold wk at hb;cases q1:bA n x y with
     | none=>rw[q1] at hb;simp at hb
     | some c=>
      cases q2:wk (bA n) xs ys with
      | none=>rw[q1,q2] at hb;simp at hb
      | some c'=>
       rw[q1,q2] at hb;have e1:=Bx n x y u c h3 h5 q1;have e2:=ih ys r c' h4 h6 q2;subst e1 e2;simp at hb;exact hb
  cases d with
  | non=>cases hd;cases e<;>simp[Sh] at he;simp[bA] at hb;exact hb
  | bl c=>cases hd;cases e<;>simp[Sh] at he;subst he;simp[bA] at hb;exact hb
  | int i=>obtain⟨t,rfl⟩:=hd;cases e<;>simp[Sh] at he;subst he;simp[bA] at hb;exact hb
  | str x=>
   obtain⟨t,rfl⟩:=hd;cases e with
   | str y=>
    obtain⟨t',q⟩:=he;injection q with q1 _
    unfold strOf at q1;injection q1 with q2
    have q3:=Qx5 Array.toList q2;simp at q3;subst q3;simp[bA] at hb;exact hb
   | _=>simp[Sh] at he
  | tup xs=>
   obtain⟨a,its,rfl,p,hs⟩:=hd;cases e with
   | tup ys=>
    obtain⟨a',its',q,p',hs'⟩:=he;cases q;have e2:its=its':=by simpa using Nx p p'
    subst e2;exact all xs ys its b hs hs' (by simpa only[bA] using hb)
   | lst ys=>
    obtain⟨a',its',q,p',hs'⟩:=he;cases q;exact(zg p p').elim
   | dct kvs=>simp[bA] at hb
   | gC kvs=>simp[bA] at hb
   | clo _ _=>simp[bA] at hb
   | arr kvs=>simp[bA] at hb
   | _=>simp[Sh] at he
  | lst xs=>
   obtain⟨a,its,rfl,p,hs⟩:=hd;cases e with
   | lst ys=>
    obtain⟨a',its',q,p',hs'⟩:=he;cases q;have e2:its=its':=by simpa using O3 p p'
    subst e2;exact all xs ys its b hs hs' (by simpa only[bA] using hb)
   | tup ys=>
    obtain⟨a',its',q,p',hs'⟩:=he;cases q;exact(zg p' p).elim
   | dct kvs=>simp[bA] at hb
   | gC kvs=>simp[bA] at hb
   | clo _ _=>simp[bA] at hb
   | arr kvs=>simp[bA] at hb
   | _=>simp[Sh] at he
  | dct kvs=>cases e<;>simp[bA] at hb
  | gC kvs=>cases e<;>simp[bA] at hb
  | clo _ _=>cases e<;>simp[bA] at hb
  | arr kvs=>cases e<;>simp[bA] at hb
theorem PL{h:Heap}:∀(n:Nat) (d d' e:D) (u:Value) (b b':Bool),Sh h d u->Sh h d' u->bA n d e=some b->bA n d' e=some b'->b=b'
 | 0,_,_,_,_,_,_,_,_,hb,_=>by simp[bA] at hb
 | n+1,d,d',e,u,b,b',hd,hd',hb,hb'=>by
  have all:∀(xs xs' ys:List D) (us:List Value) (b b':Bool),Ff h xs us->Ff h xs' us->wk (bA n) xs ys=some b->wk (bA n) xs' ys=some b'->b=b':=by
   intro xs
   induction xs with
   | nil=>
    intro xs' ys us b b' h1 h2 hb hb';cases h1;cases xs' with
    | nil=>rw[hb] at hb';exact Qw2 hb'
    | cons y ys=>obtain⟨u,r,q,_⟩:=h2;cases q
   | cons x xs ih=>
    intro xs' ys us b b' h1 h2 hb hb';obtain⟨u,r,rfl,h3,h4⟩:=h1;cases xs' with
    | nil=>cases h2
    | cons x' xs'=>
     obtain⟨u',r',q,h5,h6⟩:=h2;cases q;cases ys with
     | nil=>simp[wk] at hb hb';rw[hb,hb']
     | cons y ys=>
      unfold wk at hb hb';cases q1:bA n x y with
      | none=>rw[q1] at hb;simp at hb
      | some c=>
       cases q2:wk (bA n) xs ys with
       | none=>rw[q1,q2] at hb;simp at hb
       | some c2=>
        cases q3:bA n x' y with
        | none=>rw[q3] at hb';simp at hb'
        | some c3=>
         cases q4:wk (bA n) xs' ys with
         | none=>rw[q3,q4] at hb';simp at hb'
         | some c4=>
          rw[q1,q2] at hb;rw[q3,q4] at hb';have e1:=PL n x x' y u c c3 h3 h5 q1 q3;have e2:=ih xs' ys r c2 c4 h4 h6 q2 q4;subst e1 e2;simp at hb hb';rw[<-hb,<-hb']
  cases d with
  | non=>cases hd;cases d'<;>simp[Sh] at hd';rw[hb] at hb';exact Qw2 hb'
  | bl c=>cases hd;cases d'<;>simp[Sh] at hd';subst hd';rw[hb] at hb';exact Qw2 hb'
  | int i=>obtain⟨t,rfl⟩:=hd;cases d'<;>simp[Sh] at hd';subst hd';rw[hb] at hb';exact Qw2 hb'
  | str x=>
   obtain⟨t,rfl⟩:=hd;cases d' with
   | str y=>
    obtain⟨t',q⟩:=hd';injection q with q1 _
    unfold strOf at q1;injection q1 with q2
    have q3:=Qx5 Array.toList q2;simp at q3;subst q3;rw[hb] at hb';exact Qw2 hb'
   | _=>simp[Sh] at hd'
  | tup xs=>
   obtain⟨a,its,rfl,p,hs⟩:=hd;cases d' with
   | tup xs'=>
    obtain⟨a',its',q,p',hs'⟩:=hd';cases q;have e2:its=its':=by simpa using Nx p p'
    subst e2;cases e with
    | tup ys=>exact all xs xs' ys its b b' hs hs' (by simpa only[bA] using hb) (by simpa only[bA] using hb')
    | _=>first|(simp[bA] at hb;done)|(simp only[bA,Qxz] at hb hb';rw[<-hb,<-hb'])
   | lst ys=>
    obtain⟨a',its',q,p',hs'⟩:=hd';cases q;exact(zg p p').elim
   | dct kvs=>cases e<;>simp[bA] at hb'
   | gC kvs=>cases e<;>simp[bA] at hb'
   | clo _ _=>cases e<;>simp[bA] at hb'
   | arr kvs=>cases e<;>simp[bA] at hb'
   | _=>simp[Sh] at hd'
  | lst xs=>
   obtain⟨a,its,rfl,p,hs⟩:=hd;cases d' with
   | lst xs'=>
    obtain⟨a',its',q,p',hs'⟩:=hd';cases q;have e2:its=its':=by simpa using O3 p p'
    subst e2;cases e with
    | lst ys=>exact all xs xs' ys its b b' hs hs' (by simpa only[bA] using hb) (by simpa only[bA] using hb')
    | _=>first|(simp[bA] at hb;done)|(simp only[bA,Qxz] at hb hb';rw[<-hb,<-hb'])
   | tup ys=>
    obtain⟨a',its',q,p',hs'⟩:=hd';cases q;exact(zg p' p).elim
   | dct kvs=>cases e<;>simp[bA] at hb'
   | gC kvs=>cases e<;>simp[bA] at hb'
   | clo _ _=>cases e<;>simp[bA] at hb'
   | arr kvs=>cases e<;>simp[bA] at hb'
   | _=>simp[Sh] at hd'
  | dct kvs=>cases e<;>simp[bA] at hb
  | gC kvs=>cases e<;>simp[bA] at hb
  | clo _ _=>cases e<;>simp[bA] at hb
  | arr kvs=>cases e<;>simp[bA] at hb
def wW(x y:List Nat):(strOf x == strOf y)=(x == y):=by
 rw[Qvj];simp only[beq_iff_eq];constructor
 ·intro e;unfold strOf at e;injection e with e
  simpa using Qx5 Array.toList e
 ·intro e;rw[e]
theorem zO:∀{f:D->D->Option Bool} {xs ys:List D},xs.length≠ys.length->∀b,wk f xs ys=some b->b=false
 | f,[],[],h,b,e=>absurd rfl h
 | f,[],_::_,_,b,e=>by simp[wk] at e;exact e
 | f,_::_,[],_,b,e=>by simp[wk] at e;exact e
 | f,x::xs,y::ys,h,b,e=>by
  unfold wk at e;cases h1:f x y with
  | none=>rw[h1] at e;simp at e
  | some c=>
   cases h2:wk f xs ys with
   | none=>rw[h1,h2] at e;simp at e
   | some d=>
    rw[h1,h2] at e;have:=zO (f:=f) (xs:=xs) (ys:=ys) (by simpa using h) d h2;subst this;simp at e;exact e
theorem uM:∀{f:D->D->Option Bool} (xs ys:List D) (b:Bool),wk f xs ys=some b->∃e:Nat->Bool,(∀(j:Nat) (x y:D),xs[j]? = some x->ys[j]? = some y->f x y=some (e j))/\b=((List.range (min xs.length ys.length)).all e&&xs.length == ys.length)
 | f,[],ys,b,h=>by
  refine⟨λ_=>true,λj x y hx=>by simp at hx,?_⟩;cases ys with
  | nil=>simp[wk] at h;simp[h.symm]
  | cons y ys=>simp[wk] at h;simp[h.symm]
 | f,x::xs,[],b,h=>by
  refine⟨λ_=>true,λj x y _ hy=>by simp at hy,?_⟩;simp[wk] at h;simp[h.symm]
 | f,x::xs,y::ys,b,h=>by
  unfold wk at h;cases h1:f x y with
  | none=>rw[h1] at h;simp at h
  | some c=>
   cases h2:wk f xs ys with
   | none=>rw[h1,h2] at h;simp at h
   | some d=>
    rw[h1,h2] at h;obtain⟨e,he,hd⟩:=uM xs ys d h2;refine⟨λj=>match j with|0=>c|j+1=>e j,λj x' y' hx hy=>?_,?_⟩
    ·cases j with
     | zero=>simp at hx hy;subst hx hy;exact h1
     | succ j=>exact he j x' y' (by simpa using hx) (by simpa using hy)
    ·have hb:b=(c&&d):=by simpa using h.symm
     have hm:min (x::xs).length (y::ys).length=min xs.length ys.length+1:=by simp only[Qqw];omega
     rw[hb,hd,hm,List.range_succ_eq_map,List.all_cons,List.all_map,Bool.and_assoc];have hl:((x::xs).length == (y::ys).length)=(xs.length == ys.length):=by simp
     rw[hl]
     rfl
theorem nZ{h:Heap}:∀{ds:List D} {us:List Value} {j:Nat} {u:Value},Ff h ds us->us[j]? = some u->∃d,ds[j]? = some d/\Sh h d u
 | [],_,_,_,e,g=>by cases e;simp at g
 | d::ds,us,j,u,e,g=>by
  obtain⟨v,r,rfl,h1,h2⟩:=e;cases j with
  | zero=>simp at g;subst g;exact⟨d,rfl,h1⟩
  | succ j=>obtain⟨c,e1,e2⟩:=nZ h2 (j:=j) (by simpa using g);exact⟨c,by simpa using e1,e2⟩
theorem GR:∀(n:Nat) (d e:D) (u v:Value) (b:Bool) (A:Around) (s:Shared),Sh s.heap d u->Sh s.heap e v->bA n d e=some b->A.units+n<cLine->SeqAt.EqAt A s u v b
 | 0,_,_,_,_,_,_,_,_,_,h,_=>by simp[bA] at h
 | n+1,d,e,u,v,b,A,s,hd,he,h,hu=>by
  have hu0:A.units<cLine:=by omega
  have hin:A.in1.units+n<cLine:=by show A.units+1+n<cLine;omega
  cases d with
  | non=>
   cases hd;cases e with
   | non=>cases he;simp[bA] at h;subst h;exact SeqAt.EqAt.same _
   | bl c=>cases he;simp[bA] at h;subst h;exact SeqAt.EqAt.none_bool c
   | int i=>obtain⟨t,rfl⟩:=he;simp[bA] at h;subst h;exact SeqAt.EqAt.none_int i t
   | str x=>obtain⟨t,rfl⟩:=he;simp[bA] at h;subst h;exact SeqAt.EqAt.none_str _ t
   | tup ys=>obtain⟨a,its,rfl,p,_⟩:=he;simp[bA] at h;subst h;exact SeqAt.EqAt.none_tuple p hu0
   | lst ys=>obtain⟨a,its,rfl,p,_⟩:=he;simp[bA] at h;subst h;exact SeqAt.EqAt.none_list p.isList hu0
   | dct kvs=>simp[bA] at h
   | gC kvs=>simp[bA] at h
   | clo _ _=>simp[bA] at h
   | arr kvs=>simp[bA] at h
  | bl c=>
   cases hd;cases e with
   | non=>cases he;simp[bA] at h;subst h;exact SeqAt.EqAt.bool_none c
   | bl c'=>cases he;simp only[bA,Qxz] at h;subst h;exact SeqAt.EqAt.bool_bool c c'
   | int i=>obtain⟨t,rfl⟩:=he;simp only[bA,Qxz] at h;subst h;exact SeqAt.EqAt.bool_int c i t
   | str x=>obtain⟨t,rfl⟩:=he;simp[bA] at h;subst h;exact SeqAt.EqAt.bool_str c _ t
   | tup ys=>obtain⟨a,its,rfl,p,_⟩:=he;simp[bA] at h;subst h;exact SeqAt.EqAt.bool_tuple c p hu0
   | lst ys=>obtain⟨a,its,rfl,p,_⟩:=he;simp[bA] at h;subst h;exact SeqAt.EqAt.bool_list c p.isList hu0
   | dct kvs=>simp[bA] at h
   | gC kvs=>simp[bA] at h
   | clo _ _=>simp[bA] at h
   | arr kvs=>simp[bA] at h
  | int i=>
   obtain⟨t',rfl⟩:=hd;cases e with
   | non=>cases he;simp[bA] at h;subst h;exact SeqAt.EqAt.int_none i t'
   | bl c'=>cases he;simp only[bA,Qxz] at h;subst h;exact SeqAt.EqAt.int_bool i t' c'
   | int j=>obtain⟨t,rfl⟩:=he;simp only[bA,Qxz] at h;subst h;exact SeqAt.EqAt.int_int i t' j t
   | str x=>obtain⟨t,rfl⟩:=he;simp[bA] at h;subst h;exact SeqAt.EqAt.int_str i t' _ t
   | tup ys=>obtain⟨a,its,rfl,p,_⟩:=he;simp[bA] at h;subst h;exact SeqAt.EqAt.int_tuple i t' p hu0
   | lst ys=>obtain⟨a,its,rfl,p,_⟩:=he;simp[bA] at h;subst h;exact SeqAt.EqAt.int_list i t' p.isList hu0
   | dct kvs=>simp[bA] at h
   | gC kvs=>simp[bA] at h
   | clo _ _=>simp[bA] at h
   | arr kvs=>simp[bA] at h
  | str x=>
   obtain⟨t',rfl⟩:=hd;cases e with
   | non=>cases he;simp[bA] at h;subst h;exact SeqAt.EqAt.str_none _ t'
   | bl c'=>cases he;simp[bA] at h;subst h;exact SeqAt.EqAt.str_bool _ t' c'
   | int j=>obtain⟨t,rfl⟩:=he;simp[bA] at h;subst h;exact SeqAt.EqAt.str_int _ t' j t
   | str y=>obtain⟨t,rfl⟩:=he;simp only[bA,Qxz] at h;subst h;rw[<-wW];exact SeqAt.EqAt.str_str _ t' _ t
   | tup ys=>obtain⟨a,its,rfl,p,_⟩:=he;simp[bA] at h;subst h;exact SeqAt.EqAt.str_tuple _ t' p hu0
   | lst ys=>obtain⟨a,its,rfl,p,_⟩:=he;simp[bA] at h;subst h;exact SeqAt.EqAt.str_list _ t' p.isList hu0
   | dct kvs=>simp[bA] at h
   | gC kvs=>simp[bA] at h
   | clo _ _=>simp[bA] at h
   | arr kvs=>simp[bA] at h
  | tup xs=>
   obtain⟨a,its,rfl,p,hs⟩:=hd;cases e with
   | non=>cases he;simp[bA] at h;subst h;exact SeqAt.EqAt.tuple_none p hu0
   | bl c'=>cases he;simp[bA] at h;subst h;exact SeqAt.EqAt.tuple_bool c' p hu0
   | int j=>obtain⟨t,rfl⟩:=he;simp[bA] at h;subst h;exact SeqAt.EqAt.tuple_int j t p hu0
   | str y=>obtain⟨t,rfl⟩:=he;simp[bA] at h;subst h;exact SeqAt.EqAt.tuple_str _ t p hu0
   | tup ys=>
    obtain⟨a',its',rfl,p',hs'⟩:=he;by_cases haa:a=a'
    ·subst haa;have:=Bx (n+1) (.tup xs) (.tup ys) (.ref a) b ⟨a,its,rfl,p,hs⟩ ⟨a,its',rfl,p',hs'⟩ h;subst this;exact SeqAt.EqAt.same _
    ·simp only[bA] at h;obtain⟨f,hf,hb⟩:=uM xs ys b h;have l1:=hs.length;have l2:=hs'.length;refine SeqAt.EqAt.of_refs haa ?_;have:=SeqAt.RcAt.tuples (e:=f) p p' hu0 λj h1 h2=>?_
     ·rw[hb];simp only[Qq5] at this;rw[l1,l2] at this;exact this
     ·have g1:its[j]? = some its.toArray[j]:=by simp at h1 ⊢
      have g2:its'[j]? = some its'.toArray[j]:=by simp at h2 ⊢
      obtain⟨x,q1,q2⟩:=nZ hs g1;obtain⟨y,q3,q4⟩:=nZ hs' g2;exact GR n x y _ _ _ A.in1 s q2 q4 (hf j x y q1 q3) hin
   | lst ys=>obtain⟨a',its',rfl,p',_⟩:=he;simp[bA] at h;subst h;exact SeqAt.EqAt.tuple_list p p'.isList hu0
   | dct kvs=>simp[bA] at h
   | gC kvs=>simp[bA] at h
   | clo _ _=>simp[bA] at h
   | arr kvs=>simp[bA] at h
  | lst xs=>
   obtain⟨a,its,rfl,p,hs⟩:=hd;cases e with
   | non=>cases he;simp[bA] at h;subst h;exact SeqAt.EqAt.list_none p.isList hu0
   | bl c'=>cases he;simp[bA] at h;subst h;exact SeqAt.EqAt.list_bool c' p.isList hu0
   | int j=>obtain⟨t,rfl⟩:=he;simp[bA] at h;subst h;exact SeqAt.EqAt.list_int j t p.isList hu0
   | str y=>obtain⟨t,rfl⟩:=he;simp[bA] at h;subst h;exact SeqAt.EqAt.list_str _ t p.isList hu0
   | lst ys=>
    obtain⟨a',its',rfl,p',hs'⟩:=he;have l1:=hs.length;have l2:=hs'.length;by_cases haa:a=a'
    ·subst haa;have:=Bx (n+1) (.lst xs) (.lst ys) (.ref a) b ⟨a,its,rfl,p,hs⟩ ⟨a,its',rfl,p',hs'⟩ h;subst this;exact SeqAt.EqAt.same _
    ·simp only[bA] at h;refine SeqAt.EqAt.of_refs haa ?_;by_cases hl:xs.length=ys.length
     ·obtain⟨f,hf,hb⟩:=uM xs ys b h;have:=SeqAt.RcAt.lists (e:=f) p.isList p'.isList (by simp only[Qq5];omega) hu0 λj h1 h2=>?_
      ·rw[hb,<-hl,Nat.min_self,Qk9,Bool.and_true,<-l1];simp only[Qq5] at this;exact this
      ·have g1:its[j]? = some its.toArray[j]:=by simp at h1 ⊢
       have g2:its'[j]? = some its'.toArray[j]:=by simp at h2 ⊢
       obtain⟨x,q1,q2⟩:=nZ hs g1;obtain⟨y,q3,q4⟩:=nZ hs' g2;exact GR n x y _ _ _ A.in1 s q2 q4 (hf j x y q1 q3) hin
     ·have:=zO hl b h;subst this;exact SeqAt.RcAt.lists_lengths p.isList p'.isList (by simp only[Qq5];rw[l1,l2];simpa using hl) hu0
   | tup ys=>obtain⟨a',its',rfl,p',_⟩:=he;simp[bA] at h;subst h;exact SeqAt.EqAt.list_tuple p.isList p' hu0
   | dct kvs=>simp[bA] at h
   | gC kvs=>simp[bA] at h
   | clo _ _=>simp[bA] at h
   | arr kvs=>simp[bA] at h
  | dct kvs=>cases e<;>simp[bA] at h
  | gC kvs=>cases e<;>simp[bA] at h
  | clo _ _=>cases e<;>simp[bA] at h
  | arr kvs=>cases e<;>simp[bA] at h
def vR(n:Nat)(its its':List Value)(xs ys:List D)(f:Nat->Bool)(A:Around)(s:Shared)(hs:Ff s.heap xs its)(hs':Ff s.heap ys its')(hf:∀(j:Nat) (x y:D),xs[j]? = some x->ys[j]? = some y->bA n x y=some (f j))(hin:A.in1.units+n<cLine)
  (j:Nat) (h1:j<its.toArray.size) (h2:j<its'.toArray.size):SeqAt.EqAt A.in1 s its.toArray[j] its'.toArray[j] (f j):=by
 have g1:its[j]? = some its.toArray[j]:=by simp at h1 ⊢
 have g2:its'[j]? = some its'.toArray[j]:=by simp at h2 ⊢
 obtain⟨x,q1,q2⟩:=nZ hs g1;obtain⟨y,q3,q4⟩:=nZ hs' g2;exact GR n x y _ _ _ A.in1 s q2 q4 (hf j x y q1 q3) hin
def aeU(n:Nat)(d e:D)(u v:Value)(b:Bool)(A:Around)(s:Shared)(hd:Sh s.heap d u)(he:Sh s.heap e v)(h:bA (n+1) d e=some b)(hu:A.units+(n+1)<cLine):SeqAt.RcAt A s u v b:=by
 have hu0:A.units<cLine:=by omega
 have hin:A.in1.units+n<cLine:=by show A.units+1+n<cLine;omega
 cases d with
 | non=>
  cases hd;cases e with
  | non=>
   cases he;simp[bA] at h;subst h;exact SeqAt.RcAt.none_none
  | bl c'=>
   cases he;simp[bA] at h;subst h;exact SeqAt.RcAt.none_bool c'
  | int j=>
   obtain⟨t,rfl⟩:=he;simp[bA] at h;subst h;exact SeqAt.RcAt.none_int j t
  | str y=>
   obtain⟨t,rfl⟩:=he;simp[bA] at h;subst h;exact SeqAt.RcAt.none_str _ t
  | tup ys=>
   obtain⟨a',its',rfl,p',hs'⟩:=he;simp[bA] at h;subst h;exact SeqAt.RcAt.none_tuple p' hu0
  | lst ys=>
   obtain⟨a',its',rfl,p',hs'⟩:=he;simp[bA] at h;subst h;exact SeqAt.RcAt.none_list p'.isList hu0
  | arr kvs=>
   simp[bA] at h
  | dct kvs=>
   simp[bA] at h
  | gC kvs=>
   simp[bA] at h
  | clo _ _=>
   simp[bA] at h
 | bl c=>
  cases hd;cases e with
  | non=>
   cases he;simp[bA] at h;subst h;exact SeqAt.RcAt.bool_none c
  | bl c'=>
   cases he;simp only[bA,Qxz] at h;subst h;exact SeqAt.RcAt.bool_bool c c'
  | int j=>
   obtain⟨t,rfl⟩:=he;simp only[bA,Qxz] at h;subst h;exact SeqAt.RcAt.bool_int c j t
  | str y=>
   obtain⟨t,rfl⟩:=he;simp[bA] at h;subst h;exact SeqAt.RcAt.bool_str c _ t
  | tup ys=>
   obtain⟨a',its',rfl,p',hs'⟩:=he;simp[bA] at h;subst h;exact SeqAt.RcAt.bool_tuple c p' hu0
  | lst ys=>
   obtain⟨a',its',rfl,p',hs'⟩:=he;simp[bA] at h;subst h;exact SeqAt.RcAt.bool_list c p'.isList hu0
  | arr kvs=>
   simp[bA] at h
  | dct kvs=>
   simp[bA] at h
  | gC kvs=>
   simp[bA] at h
  | clo _ _=>
   simp[bA] at h
 | int i=>
  obtain⟨t',rfl⟩:=hd;cases e with
  | non=>
   cases he;simp[bA] at h;subst h;exact SeqAt.RcAt.int_none i t'
  | bl c'=>
   cases he;simp only[bA,Qxz] at h;subst h;exact SeqAt.RcAt.int_bool i t' c'
  | int j=>
   obtain⟨t,rfl⟩:=he;simp only[bA,Qxz] at h;subst h;exact SeqAt.RcAt.int_int i t' j t
  | str y=>
   obtain⟨t,rfl⟩:=he;simp[bA] at h;subst h;exact SeqAt.RcAt.int_str i t' _ t
  | tup ys=>
   obtain⟨a',its',rfl,p',hs'⟩:=he;simp[bA] at h;subst h;exact SeqAt.RcAt.int_tuple i t' p' hu0
  | lst ys=>
   obtain⟨a',its',rfl,p',hs'⟩:=he;simp[bA] at h;subst h;exact SeqAt.RcAt.int_list i t' p'.isList hu0
  | arr kvs=>
   simp[bA] at h
  | dct kvs=>
   simp[bA] at h
  | gC kvs=>
   simp[bA] at h
  | clo _ _=>
   simp[bA] at h
 | str x=>
  obtain⟨t',rfl⟩:=hd;cases e with
  | non=>
   cases he;simp[bA] at h;subst h;exact SeqAt.RcAt.str_none _ t'
  | bl c'=>
   cases he;simp[bA] at h;subst h;exact SeqAt.RcAt.str_bool _ t' c'
  | int j=>
   obtain⟨t,rfl⟩:=he;simp[bA] at h;subst h;exact SeqAt.RcAt.str_int _ t' j t
  | str y=>
   obtain⟨t,rfl⟩:=he;simp only[bA,Qxz] at h;subst h;rw[<-wW];exact SeqAt.RcAt.str_str _ t' _ t
  | tup ys=>
   obtain⟨a',its',rfl,p',hs'⟩:=he;simp[bA] at h;subst h;exact SeqAt.RcAt.str_tuple _ t' p' hu0
  | lst ys=>
   obtain⟨a',its',rfl,p',hs'⟩:=he;simp[bA] at h;subst h;exact SeqAt.RcAt.str_list _ t' p'.isList hu0
  | arr kvs=>
   simp[bA] at h
  | dct kvs=>
   simp[bA] at h
  | gC kvs=>
   simp[bA] at h
  | clo _ _=>
   simp[bA] at h
 | tup xs=>
  obtain⟨a,its,rfl,p,hs⟩:=hd;cases e with
  | non=>
   cases he;simp[bA] at h;subst h;exact SeqAt.RcAt.tuple_none p hu0
  | bl c'=>
   cases he;simp[bA] at h;subst h;exact SeqAt.RcAt.tuple_bool c' p hu0
  | int j=>
   obtain⟨t,rfl⟩:=he;simp[bA] at h;subst h;exact SeqAt.RcAt.tuple_int j t p hu0
  | str y=>
   obtain⟨t,rfl⟩:=he;simp[bA] at h;subst h;exact SeqAt.RcAt.tuple_str _ t p hu0
  | tup ys=>
   obtain⟨a',its',rfl,p',hs'⟩:=he;simp only[bA] at h;have l1:=hs.length;have l2:=hs'.length;obtain⟨f,hf,hb⟩:=uM xs ys b h;have:=SeqAt.RcAt.tuples (e:=f) p p' hu0 λj h1 h2=>?_
   ·rw[hb];simp only[Qq5] at this;rw[l1,l2] at this;exact this
   ·exact vR n its its' xs ys f A s hs hs' hf hin j h1 h2
  | lst ys=>
   obtain⟨a',its',rfl,p',hs'⟩:=he;simp[bA] at h;subst h;exact SeqAt.RcAt.tuple_list p p'.isList hu0
  | arr kvs=>
   simp[bA] at h
  | dct kvs=>
   simp[bA] at h
  | gC kvs=>
   simp[bA] at h
  | clo _ _=>
   simp[bA] at h
 | lst xs=>
  obtain⟨a,its,rfl,p,hs⟩:=hd;cases e with
  | non=>
   cases he;simp[bA] at h;subst h;exact SeqAt.RcAt.list_none p.isList hu0
  | bl c'=>
   cases he;simp[bA] at h;subst h;exact SeqAt.RcAt.list_bool c' p.isList hu0
  | int j=>
   obtain⟨t,rfl⟩:=he;simp[bA] at h;subst h;exact SeqAt.RcAt.list_int j t p.isList hu0
  | str y=>
   obtain⟨t,rfl⟩:=he;simp[bA] at h;subst h;exact SeqAt.RcAt.list_str _ t p.isList hu0
  | tup ys=>
   obtain⟨a',its',rfl,p',hs'⟩:=he;simp[bA] at h;subst h;exact SeqAt.RcAt.list_tuple p.isList p' hu0
  | lst ys=>
   obtain⟨a',its',rfl,p',hs'⟩:=he;simp only[bA] at h;have l1:=hs.length;have l2:=hs'.length;by_cases hl:xs.length=ys.length
   ·obtain⟨f,hf,hb⟩:=uM xs ys b h;have:=SeqAt.RcAt.lists (e:=f) p.isList p'.isList (by simp only[Qq5];omega) hu0 λj h1 h2=>?_
    ·rw[hb,<-hl,Nat.min_self,Qk9,Bool.and_true,<-l1];simp only[Qq5] at this;exact this
    ·exact vR n its its' xs ys f A s hs hs' hf hin j h1 h2
   ·have:=zO hl b h;subst this;exact SeqAt.RcAt.lists_lengths p.isList p'.isList (by simp only[Qq5];rw[l1,l2];simpa using hl) hu0
  | arr kvs=>
   simp[bA] at h
  | dct kvs=>
   simp[bA] at h
  | gC kvs=>
   simp[bA] at h
  | clo _ _=>
   simp[bA] at h
 | arr kvs=>
  cases e<;>simp[bA] at h
 | dct kvs=>
  cases e<;>simp[bA] at h
 | gC kvs=>
  cases e<;>simp[bA] at h
 | clo _ _=>
  cases e<;>simp[bA] at h
def Ye(n:Nat)(d e:D)(u v:Value)(b:Bool)(A:Around)(s:Shared)(hd:Sh s.heap d u)(he:Sh s.heap e v)(h:bA (n+1) d e=some b)(hu:A.units+(n+1)<cLine):SeqAt.RcNeAt A s u v (!b):=by
 have hu0:A.units<cLine:=by omega
 have hin:A.in1.units+n<cLine:=by show A.units+1+n<cLine;omega
 cases d with
 | non=>
  cases hd;cases e with
  | non=>
   cases he;simp[bA] at h;subst h;exact SeqAt.RcNeAt.none_none
  | bl c'=>
   cases he;simp[bA] at h;subst h;exact SeqAt.RcNeAt.none_bool c'
  | int j=>
   obtain⟨t,rfl⟩:=he;simp[bA] at h;subst h;exact SeqAt.RcNeAt.none_int j t
  | str y=>
   obtain⟨t,rfl⟩:=he;simp[bA] at h;subst h;exact SeqAt.RcNeAt.none_str _ t
  | tup ys=>
   obtain⟨a',its',rfl,p',hs'⟩:=he;simp[bA] at h;subst h;exact SeqAt.RcNeAt.none_tuple p' hu0
  | lst ys=>
   obtain⟨a',its',rfl,p',hs'⟩:=he;simp[bA] at h;subst h;exact SeqAt.RcNeAt.none_list p'.isList hu0
  | arr kvs=>
   simp[bA] at h
  | dct kvs=>
   simp[bA] at h
  | gC kvs=>
   simp[bA] at h
  | clo _ _=>
   simp[bA] at h
 | bl c=>
  cases hd;cases e with
  | non=>
   cases he;simp[bA] at h;subst h;exact SeqAt.RcNeAt.bool_none c
  | bl c'=>
   cases he;simp only[bA,Qxz] at h;subst h;exact SeqAt.RcNeAt.bool_bool c c'
  | int j=>
   obtain⟨t,rfl⟩:=he;simp only[bA,Qxz] at h;subst h;exact SeqAt.RcNeAt.bool_int c j t
  | str y=>
   obtain⟨t,rfl⟩:=he;simp[bA] at h;subst h;exact SeqAt.RcNeAt.bool_str c _ t
  | tup ys=>
   obtain⟨a',its',rfl,p',hs'⟩:=he;simp[bA] at h;subst h;exact SeqAt.RcNeAt.bool_tuple c p' hu0
  | lst ys=>
   obtain⟨a',its',rfl,p',hs'⟩:=he;simp[bA] at h;subst h;exact SeqAt.RcNeAt.bool_list c p'.isList hu0
  | arr kvs=>
   simp[bA] at h
  | dct kvs=>
   simp[bA] at h
  | gC kvs=>
   simp[bA] at h
  | clo _ _=>
   simp[bA] at h
 | int i=>
  obtain⟨t',rfl⟩:=hd;cases e with
  | non=>
   cases he;simp[bA] at h;subst h;exact SeqAt.RcNeAt.int_none i t'
  | bl c'=>
   cases he;simp only[bA,Qxz] at h;subst h;exact SeqAt.RcNeAt.int_bool i t' c'
  | int j=>
   obtain⟨t,rfl⟩:=he;simp only[bA,Qxz] at h;subst h;exact SeqAt.RcNeAt.int_int i t' j t
  | str y=>
   obtain⟨t,rfl⟩:=he;simp[bA] at h;subst h;exact SeqAt.RcNeAt.int_str i t' _ t
  | tup ys=>
   obtain⟨a',its',rfl,p',hs'⟩:=he;simp[bA] at h;subst h;exact SeqAt.RcNeAt.int_tuple i t' p' hu0
  | lst ys=>
   obtain⟨a',its',rfl,p',hs'⟩:=he;simp[bA] at h;subst h;exact SeqAt.RcNeAt.int_list i t' p'.isList hu0
  | arr kvs=>
   simp[bA] at h
  | dct kvs=>
   simp[bA] at h
  | gC kvs=>
   simp[bA] at h
  | clo _ _=>
   simp[bA] at h
 | str x=>
  obtain⟨t',rfl⟩:=hd;cases e with
  | non=>
   cases he;simp[bA] at h;subst h;exact SeqAt.RcNeAt.str_none _ t'
  | bl c'=>
   cases he;simp[bA] at h;subst h;exact SeqAt.RcNeAt.str_bool _ t' c'
  | int j=>
   obtain⟨t,rfl⟩:=he;simp[bA] at h;subst h;exact SeqAt.RcNeAt.str_int _ t' j t
  | str y=>
   obtain⟨t,rfl⟩:=he;simp only[bA,Qxz] at h;subst h;rw[<-wW];exact SeqAt.RcNeAt.str_str _ t' _ t
  | tup ys=>
   obtain⟨a',its',rfl,p',hs'⟩:=he;simp[bA] at h;subst h;exact SeqAt.RcNeAt.str_tuple _ t' p' hu0
  | lst ys=>
   obtain⟨a',its',rfl,p',hs'⟩:=he;simp[bA] at h;subst h;exact SeqAt.RcNeAt.str_list _ t' p'.isList hu0
  | arr kvs=>
   simp[bA] at h
  | dct kvs=>
   simp[bA] at h
  | gC kvs=>
   simp[bA] at h
  | clo _ _=>
   simp[bA] at h
 | tup xs=>
  obtain⟨a,its,rfl,p,hs⟩:=hd;cases e with
  | non=>
   cases he;simp[bA] at h;subst h;exact SeqAt.RcNeAt.tuple_none p hu0
  | bl c'=>
   cases he;simp[bA] at h;subst h;exact SeqAt.RcNeAt.tuple_bool c' p hu0
  | int j=>
   obtain⟨t,rfl⟩:=he;simp[bA] at h;subst h;exact SeqAt.RcNeAt.tuple_int j t p hu0
  | str y=>
   obtain⟨t,rfl⟩:=he;simp[bA] at h;subst h;exact SeqAt.RcNeAt.tuple_str _ t p hu0
  | tup ys=>
   obtain⟨a',its',rfl,p',hs'⟩:=he;simp only[bA] at h;have l1:=hs.length;have l2:=hs'.length;obtain⟨f,hf,hb⟩:=uM xs ys b h;have:=SeqAt.RcNeAt.tuples (e:=f) p p' hu0 λj h1 h2=>?_
   ·rw[hb];simp only[Qq5] at this;rw[l1,l2] at this;exact this
   ·exact vR n its its' xs ys f A s hs hs' hf hin j h1 h2
  | lst ys=>
   obtain⟨a',its',rfl,p',hs'⟩:=he;simp[bA] at h;subst h;exact SeqAt.RcNeAt.tuple_list p p'.isList hu0
  | arr kvs=>
   simp[bA] at h
  | dct kvs=>
   simp[bA] at h
  | gC kvs=>
   simp[bA] at h
  | clo _ _=>
   simp[bA] at h
 | lst xs=>
  obtain⟨a,its,rfl,p,hs⟩:=hd;cases e with
  | non=>
   cases he;simp[bA] at h;subst h;exact SeqAt.RcNeAt.list_none p.isList hu0
  | bl c'=>
   cases he;simp[bA] at h;subst h;exact SeqAt.RcNeAt.list_bool c' p.isList hu0
  | int j=>
   obtain⟨t,rfl⟩:=he;simp[bA] at h;subst h;exact SeqAt.RcNeAt.list_int j t p.isList hu0
  | str y=>
   obtain⟨t,rfl⟩:=he;simp[bA] at h;subst h;exact SeqAt.RcNeAt.list_str _ t p.isList hu0
  | tup ys=>
   obtain⟨a',its',rfl,p',hs'⟩:=he;simp[bA] at h;subst h;exact SeqAt.RcNeAt.list_tuple p.isList p' hu0
  | lst ys=>
   obtain⟨a',its',rfl,p',hs'⟩:=he;simp only[bA] at h;have l1:=hs.length;have l2:=hs'.length;by_cases hl:xs.length=ys.length
   ·obtain⟨f,hf,hb⟩:=uM xs ys b h;have:=SeqAt.RcNeAt.lists (e:=f) p.isList p'.isList (by simp only[Qq5];omega) hu0 λj h1 h2=>?_
    ·rw[hb,<-hl,Nat.min_self,Qk9,Bool.and_true,<-l1];simp only[Qq5] at this;exact this
    ·exact vR n its its' xs ys f A s hs hs' hf hin j h1 h2
   ·have:=zO hl b h;subst this;exact SeqAt.RcNeAt.lists_lengths p.isList p'.isList (by simp only[Qq5];rw[l1,l2];simpa using hl) hu0
  | arr kvs=>
   simp[bA] at h
  | dct kvs=>
   simp[bA] at h
  | gC kvs=>
   simp[bA] at h
  | clo _ _=>
   simp[bA] at h
 | arr kvs=>
  cases e<;>simp[bA] at h
 | dct kvs=>
  cases e<;>simp[bA] at h
 | gC kvs=>
  cases e<;>simp[bA] at h
 | clo _ _=>
  cases e<;>simp[bA] at h
section
variable{X:Cx}{C:Cfg}
def ae8(K:Fg):R2:=λx y H Q=>∃dx dy b,Rep K H dx x/\Rep K H dy y/\bA 60 dx dy=some b/\Q (.bl b) H
def aeZ(K:Fg):R2:=λx y H Q=>∃dx dy b,Rep K H dx x/\Rep K H dy y/\bA 60 dx dy=some b/\Q (.bl (!b)) H
def acF(hu:X.A.units+60<cLine):ph X (compareOp .Eq) (ae8 X.K):=by intro pins s σ H x y v u Q I rx ry h;obtain⟨dx,dy,b,h1,h2,h3,q⟩:=h;exact aeU 59 dx dy v u b X.A s (Rep.sh I dx x v h1 rx) (Rep.sh I dy y u h2 ry) h3 hu X.prog X.w X.xe _ ⟨.bl b,H,I,rfl,q⟩
def acy(hu:X.A.units+60<cLine):ph X (compareOp .NotEq) (aeZ X.K):=by intro pins s σ H x y v u Q I rx ry h;obtain⟨dx,dy,b,h1,h2,h3,q⟩:=h;exact Ye 59 dx dy v u b X.A s (Rep.sh I dx x v h1 rx) (Rep.sh I dy y u h2 ry) h3 hu X.prog X.w X.xe _ ⟨.bl (!b),H,I,rfl,q⟩
def qz(x y:D):Option D:=(bA 60 x y).map .bl
def xP(x y:D):Option D:=(bA 60 x y).map λb=>.bl (!b)
def afy:qM C (ae8 C.K) qz:=by
 intro Pr F env σ H x y d vx vy Q r hx hy h q;unfold qz at h;cases e:bA 60 x y with
 | none=>rw[e] at h;cases h
 | some b=>
  rw[e] at h;cases h;exact⟨x,y,b,hx.rep r.fr,hy.rep r.fr,e,q _ H F r (aR.refl F) rfl⟩
def aft:qM C (aeZ C.K) xP:=by
 intro Pr F env σ H x y d vx vy Q r hx hy h q;unfold xP at h;cases e:bA 60 x y with
 | none=>rw[e] at h;cases h
 | some b=>
  rw[e] at h;cases h;exact⟨x,y,b,hx.rep r.fr,hy.rep r.fr,e,q _ H F r (aR.refl F) rfl⟩
def Zx(x:D):List D->Option Bool
 | []=>some false
 | y::ys=>match bA 59 y x,Zx x ys with
  | some a,some b=>some (a||b)
  | _,_=>none
theorem Pg(x:D):∀(ys:List D) (b:Bool),Zx x ys=some b->(∀y∈ys,∃c,bA 59 y x=some c)/\(b=true ↔ ∃y∈ys,bA 59 y x=some true)
 | [],b,h=>by simp[Zx] at h;subst h;simp
 | y::ys,b,h=>by
  unfold Zx at h;cases h1:bA 59 y x with
  | none=>rw[h1] at h;simp at h
  | some c=>
   cases h2:Zx x ys with
   | none=>rw[h1,h2] at h;simp at h
   | some d=>
    rw[h1,h2] at h;obtain⟨i1,i2⟩:=Pg x ys d h2;have hb:b=(c||d):=by simpa using h.symm
    refine⟨λz hz=>?_,?_⟩
    ·rcases Qq1.mp hz with rfl|hz
     ·exact⟨c,h1⟩
     ·exact i1 z hz
    ·rw[hb,Bool.or_eq_true];constructor
     ·rintro(hc|hd)
      ·exact⟨y,Qqv,by rw[h1,hc]⟩
      ·obtain⟨z,hz,e⟩:=i2.mp hd;exact⟨z,Qqk _ hz,e⟩
     ·rintro⟨z,hz,e⟩;rcases Qq1.mp hz with rfl|hz
      ·rw[h1] at e;left;simpa using e
      ·right;exact i2.mpr ⟨z,hz,e⟩
open Classical in
noncomputable def Nf(h:Heap)(x:D)(u:Value):Bool:=decide (∃y,Sh h y u/\bA 59 y x=some true)
open Classical in
def Hf{h:Heap}{x y:D}{u:Value}{c:Bool}(hy:Sh h y u)(e:bA 59 y x=some c):Nf h x u=c:=by
 unfold Nf;cases c with
 | true=>exact Qw8 ⟨y,hy,e⟩
 | false=>
  refine Qw0 ?_;rintro⟨z,hz,e'⟩;have:=PL 59 z y x u true false hz hy e' e;cases this
def Mz{s:Shared}{A:Around}{x:D}{v:Value}{ys:List D}{us:List Value}{b:Bool}(hx:Sh s.heap x v)(hs:Ff s.heap ys us)(h:Zx x ys=some b)(hu:A.units+59<cLine) :
  (∀w,w∈us.toArray->SeqAt.EqAt A s w v (Nf s.heap x w))/\us.toArray.any (Nf s.heap x)=b:=by
 obtain⟨h1,h2⟩:=Pg x ys b h;have item:∀w∈us,∃y∈ys,Sh s.heap y w:=λw hw=>by
  obtain⟨j,hj,e⟩:=List.mem_iff_getElem.mp hw;obtain⟨d,e1,e2⟩:=nZ hs (show us[j]? = some w by rw[Qq9 hj,e]);exact⟨d,Qww e1,e2⟩
 have back:∀{ys:List D} {us:List Value},Ff s.heap ys us->∀y∈ys,∃w∈us,Sh s.heap y w:=by
  intro ys
  induction ys with
  | nil=>intro us _ y hy;cases hy
  | cons z zs ih=>
   intro us hs y hy;obtain⟨w,r,rfl,g1,g2⟩:=hs;rcases Qq1.mp hy with rfl|hy
   ·exact⟨w,Qqv,g1⟩
   ·obtain⟨w',m,g⟩:=ih g2 y hy;exact⟨w',Qqk _ m,g⟩
 refine⟨λw hw=>?_,?_⟩
 ·obtain⟨y,hy,sy⟩:=item w (by simpa using hw);obtain⟨c,hc⟩:=h1 y hy;rw[Hf sy hc];exact GR 59 y x w v c A s sy hx hc hu
 ·rw[List.any_toArray,Qvj,h2,List.any_eq_true];constructor
  ·rintro⟨w,hw,e⟩;obtain⟨y,hy,sy⟩:=item w hw;obtain⟨c,hc⟩:=h1 y hy;rw[Hf sy hc] at e;subst e;exact⟨y,hy,hc⟩
  ·rintro⟨y,hy,e⟩;obtain⟨w,hw,sy⟩:=back hs y hy;exact⟨w,hw,Hf sy e⟩
def Tn:D->Option (List D)
 | .tup xs=>some xs
 | .lst xs=>some xs
 | .arr xs=>some xs
 | _=>none
def abY(K:Fg)(neg:Bool):R2:=λx y H Q=>∃dx dy ys b,Rep K H dx x/\Rep K H dy y/\Tn dy=some ys/\Zx dx ys=some b/\Q (.bl (if neg then !b else b)) H
def acD(hu:X.A.units+61<cLine):ph X (compareOp .In) (abY X.K false):=by
 intro pins s σ H x y v u Q I rx ry h;obtain⟨dx,dy,ys,b,h1,h2,h3,h4,q⟩:=h;have hx:=Rep.sh I dx x v h1 rx;have hy:=Rep.sh I dy y u h2 ry;have hin:X.A.in1.units+59<cLine:=by show X.A.units+1+59<cLine;omega
 cases dy with
 | tup zs=>
  cases h3;obtain⟨a,its,rfl,p,hs⟩:=hy;obtain⟨g1,g2⟩:=Mz (A:=X.A.in1) hx hs h4 hin;refine SeqAt.in_tupleAt (Nf s.heap dx) p g1 ⟨.bl _,H,I,rfl,?_⟩;rw[g2];exact q
 | lst zs=>
  cases h3;obtain⟨a,its,rfl,p,hs⟩:=hy;obtain⟨g1,g2⟩:=Mz (A:=X.A.in1) hx hs h4 hin;refine SeqAt.in_listAt (Nf s.heap dx) p.isList g1 ⟨.bl _,H,I,rfl,?_⟩;rw[g2];exact q
 | arr zs=>
  cases h3;obtain⟨a,its,rfl,p,hs⟩:=hy;obtain⟨g1,g2⟩:=Mz (A:=X.A.in1) hx hs h4 hin;refine SeqAt.in_listAt (Nf s.heap dx) p.isList g1 ⟨.bl _,H,I,rfl,?_⟩;rw[g2];exact q
 | _=>cases h3
end
def qM.or{C:Cfg}{r r':R2}{g g':D->D->Option D}(h:qM C r g)(h':qM C r' g'):qM C (λx y H Q=>r x y H Q\/r' x y H Q) (λx y=>(g x y).or (g' x y)):=by
 intro Pr F env σ H x y d vx vy Q rl hx hy e q;have e:(g x y).or (g' x y)=some d:=e;cases e1:g x y with
 | some c=>
  rw[e1] at e;cases e;exact .inl (h Pr F env σ H x y d vx vy Q rl hx hy e1 q)
 | none=>
  rw[e1] at e;exact .inr (h' Pr F env σ H x y d vx vy Q rl hx hy e q)
section
variable{X:Cx}{C:Cfg}
def adB(x y:D):Option D:=match Tn y with
 | some ys=>(Zx x ys).map .bl
 | none=>none
def acT:qM C (abY C.K false) adB:=by
 intro Pr F env σ H x y d vx vy Q r hx hy h q;unfold adB at h;cases e1:Tn y with
 | none=>rw[e1] at h;cases h
 | some ys=>
  rw[e1] at h;cases e:Zx x ys with
  | none=>simp only[e,Option.map_none] at h;cases h
  | some b=>
   simp only[e,Option.map_some] at h;cases h;exact⟨x,y,ys,b,hx.rep r.fr,hy.rep r.fr,e1,e,q _ H F r (aR.refl F) rfl⟩
def adA(x y:D):Option D:=match x,y with
 | .str [c],.str z=>some (.bl (decide (c∈z)))
 | _,_=>none
abbrev ae5:R2:=λx y H Q=>∃i j,x = .str i/\y = .str j/\Q (.bl (!(Builtin.Str.occurrences j i 0 j.length 1).isEmpty)) H
def one_sign(c:Nat)(z:List Nat):(!(Builtin.Str.occurrences (strOf z) (strOf [c]) 0 (strOf z).length 1).isEmpty)=decide (c∈z):=by
 have:=StrLaws.found_one (strOf z) c;unfold strOf at this ⊢
 simpa using this
def acS:qM C ae5 adA:=by
 intro Pr F env σ H x y d vx vy Q r hx hy h q;unfold adA at h;split at h
 ·rename_i c z;cases h;obtain⟨rfl,_⟩:=hx.str;obtain⟨rfl,_⟩:=hy.str;refine⟨_,_,rfl,rfl,?_⟩;rw[one_sign];exact q _ H F r (aR.refl F) rfl
 ·cases h
def gIn(x y:D):Option D:=(adB x y).or (adA x y)
abbrev ae7(K:Fg):R2:=λx y H Q=>abY K false x y H Q\/ae5 x y H Q
def acE(hu:X.A.units+61<cLine):ph X (compareOp .In) (ae7 X.K):=(acD hu).or Ra
def afw:qM C (ae7 C.K) gIn:=acT.or acS
def isPlain(x:V):Prop:=x = .non\/∃b,x = .bl b
def acC:ph X (compareOp .Is) (λx y H Q=>isPlain y/\Q (.bl (decide (x=y))) H):=by
 intro pins s σ H x y v u Q I rx ry h;obtain⟨hp,q⟩:=h;rcases hp with rfl|⟨b,rfl⟩
 ·exact acB pins s σ H x .non v u Q I rx ry ⟨rfl,q⟩
 ·cases ry;refine wpAny_is_plain ?_ (Gz I q ?_)
  ·cases x<;>first|(cases rx;rfl)|(obtain⟨t,rfl⟩:=rx;rfl)
  ·cases x with
   | bl c=>cases rx;cases b<;>cases c<;>rfl
   | _=>first|(cases rx;rfl)|(obtain⟨t,rfl⟩:=rx;rfl)
def isD:D->D->Option Bool
 | .non,.non=>some true
 | .bl a,.bl b=>some (a == b)
 | _,.non=>some false
 | _,.bl _=>some false
 | _,_=>none
def gIs(x y:D):Option D:=(isD x y).map .bl
def afW{F H:Hp}{x y:D}{vx vy:V}{b:Bool}(hx:gD C.K F H x vx)(hy:gD C.K F H y vy)(h:isD x y=some b):isPlain vy/\decide (vx=vy)=b:=by
 have aht:∀a,¬(V.ref a=V.non):=λa e=>by cases e
 cases y with
 | non=>
  obtain rfl:=hy.non;refine⟨.inl rfl,?_⟩;cases x with
  | non=>obtain rfl:=hx.non;simp[isD] at h;simp[h]
  | bl c=>obtain rfl:=hx.bl;simp[isD] at h;simp[h]
  | int i=>obtain rfl:=hx.int;simp[isD] at h;simp[h]
  | str z=>obtain⟨rfl,_⟩:=hx.str;simp[isD] at h;simp[h]
  | tup xs=>rcases hx with ⟨_,a,_,rfl,_⟩|⟨a,rfl,_⟩<;>(simp[isD] at h;simp[h])
  | lst xs=>rcases hx with ⟨_,a,_,rfl,_⟩|⟨a,rfl,_⟩<;>(simp[isD] at h;simp[h])
  | arr xs=>rcases hx with ⟨_,a,_,rfl,_⟩|⟨a,rfl,_⟩<;>(simp[isD] at h;simp[h])
  | dct xs=>rcases hx with ⟨_,a,_,rfl,_⟩|⟨a,rfl,_⟩<;>(simp[isD] at h;simp[h])
  | gC xs=>rcases hx with ⟨_,a,_,rfl,_⟩|⟨a,rfl,_⟩<;>(simp[isD] at h;simp[h])
  | clo st xs=>rcases hx with ⟨a,_,rfl,_⟩|⟨a,rfl,_⟩<;>(simp[isD] at h;simp[h])
 | bl k=>
  obtain rfl:=hy.bl;refine⟨.inr ⟨k,rfl⟩,?_⟩;cases x with
  | non=>obtain rfl:=hx.non;simp[isD] at h;simp[h]
  | bl c=>obtain rfl:=hx.bl;simp only[isD,Qxz] at h;rw[<-h,adM]
  | int i=>obtain rfl:=hx.int;simp[isD] at h;simp[h]
  | str z=>obtain⟨rfl,_⟩:=hx.str;simp[isD] at h;simp[h]
  | tup xs=>rcases hx with ⟨_,a,_,rfl,_⟩|⟨a,rfl,_⟩<;>(simp[isD] at h;simp[h])
  | lst xs=>rcases hx with ⟨_,a,_,rfl,_⟩|⟨a,rfl,_⟩<;>(simp[isD] at h;simp[h])
  | arr xs=>rcases hx with ⟨_,a,_,rfl,_⟩|⟨a,rfl,_⟩<;>(simp[isD] at h;simp[h])
  | dct xs=>rcases hx with ⟨_,a,_,rfl,_⟩|⟨a,rfl,_⟩<;>(simp[isD] at h;simp[h])
  | gC xs=>rcases hx with ⟨_,a,_,rfl,_⟩|⟨a,rfl,_⟩<;>(simp[isD] at h;simp[h])
  | clo st xs=>rcases hx with ⟨a,_,rfl,_⟩|⟨a,rfl,_⟩<;>(simp[isD] at h;simp[h])
 | _=>cases x<;>simp[isD] at h
def afv:qM C (λx y H Q=>isPlain y/\Q (.bl (decide (x=y))) H) gIs:=by
 intro Pr F env σ H x y d vx vy Q r hx hy h q;unfold gIs at h;cases e:isD x y with
 | none=>rw[e] at h;cases h
 | some b=>
  rw[e] at h;cases h;obtain⟨h1,h2⟩:=afW hx hy e;exact⟨h1,by rw[h2];exact q _ H F r (aR.refl F) rfl⟩
def gI(c:Int->Int->Bool)(f:Int->Int->D)(x y:D):Option D:=match x,y with
 | .int i,.int j=>if c i j=true then some (f i j) else none
 | _,_=>none
def Vk{Cd:Int->Int->Prop}{c:Int->Int->Bool}{f:Int->Int->D}{g:Int->Int->V}(hc:∀i j,c i j=true->Cd i j)(hf:∀i j F,Rep C.K F (f i j) (g i j)):qM C (rI Cd g) (gI c f):=by
 intro Pr F env σ H x y d vx vy Q r hx hy h q;unfold gI at h;split at h
 ·rename_i i j;split at h
  ·rename_i hcc;cases h;obtain rfl:=hx.int;obtain rfl:=hy.int;exact⟨i,j,rfl,rfl,hc i j hcc,q _ H F r (aR.refl F) (hf i j F)⟩
  ·cases h
 ·cases h
def Ou{f:Int->Int->D}{g:Int->Int->V}(hf:∀i j F,Rep C.K F (f i j) (g i j)):qM C (Oc g) (gI (λ_ _=>true) f):=by
 intro Pr F env σ H x y d vx vy Q r hx hy h q;unfold gI at h;split at h
 ·rename_i i j;rw[if_pos rfl] at h;cases h;obtain rfl:=hx.int;obtain rfl:=hy.int;exact⟨i,j,rfl,rfl,q _ H F r (aR.refl F) (hf i j F)⟩
 ·cases h
def lG(i j:Int):Bool:=decide (Builtin.Int.intBits i+Builtin.Int.intBits j<=134217728)
def Y0:ph X (binaryOp .Mult) (rI (λi j=>lG i j=true) λi j=>.int (i*j)):=
 opI λi j _ _ _ _ _ hc q=>mul_int q (mulOk_of_bits (Qq0 _) (Qq0 _) (Qxk hc))
def uK:D->D->Option D:=gI lG λi j=>.int (i*j)
def Rw:D->D->Option D:=gI (λ_ _=>true) λi j=>.int (i - j)
def ady:D->D->Option D:=gI (λ_ j=>decide (0<j)) λi j=>.int (i % j)
def MK:D->D->Option D:=gI (λi j=>decide (0<=j/\j<=1000000/\i.natAbs<2^64)) λi j=>.int (i^j.toNat)
def ZQ:D->D->Option D:=gI (λi j=>decide (0<=j/\j<=1000000/\i.natAbs<2^64)) λi j=>.int (i*2^j.toNat)
def JK:D->D->Option D:=gI (λ_ j=>decide (0<=j)) λi j=>.int (i / 2^j.toNat)
def JN:D->D->Option D:=gI (λ_ _=>true) λi j=>.int (Builtin.bitAnd i j)
def acO:qM C (rI (λi j=>lG i j=true) λi j=>.int (i*j)) uK:=Vk (λ_ _ h=>h) λ_ _ _=>rfl
def acK:qM C (Oc λi j=>.int (i - j)) Rw:=Ou λ_ _ _=>rfl
def acP:qM C (rI (λ_ j=>0<j) λi j=>.int (i % j)) ady:=Vk (λ_ _ h=>Qxk h) λ_ _ _=>rfl
def acN:qM C (rI aaw λi j=>.int (i^j.toNat)) MK:=Vk (λi j h=>(show 0<=j/\j<=1000000/\i.natAbs<2^64 from Qxk h)) λ_ _ _=>rfl
def acM:qM C (rI aaw λi j=>.int (i*2^j.toNat)) ZQ:=Vk (λi j h=>(show 0<=j/\j<=1000000/\i.natAbs<2^64 from Qxk h)) λ_ _ _=>rfl
def acL:qM C (rI (λ_ j=>0<=j) λi j=>.int (i / 2^j.toNat)) JK:=Vk (λ_ _ h=>Qxk h) λ_ _ _=>rfl
def acU:qM C (Oc λi j=>.int (Builtin.bitAnd i j)) JN:=Ou λ_ _ _=>rfl
abbrev ae0:R2:=λx y H Q=>∃i j,x = .str i/\y = .str j/\Q (.bl (decide (i.cps.toList<j.cps.toList))) H
def af9:D->D->Option D:=gI (λ_ _=>true) λi j=>.bl (decide (i<j))
def adz(x y:D):Option D:=match x,y with
 | .str a,.str b=>some (.bl (decide (a<b)))
 | _,_=>none
def Hl(x y:D):Option D:=(af9 x y).or (adz x y)
def gGt:D->D->Option D:=gI (λ_ _=>true) λi j=>.bl (decide (j<i))
def acQ:qM C ae0 adz:=by
 intro Pr F env σ H x y d vx vy Q r hx hy h q;unfold adz at h;split at h
 ·cases h;obtain⟨rfl,_⟩:=hx.str;obtain⟨rfl,_⟩:=hy.str;exact⟨_,_,rfl,rfl,q _ H F r (aR.refl F) (by show V.bl _=V.bl _;congr)⟩
 ·cases h
abbrev ae1:R2:=λx y H Q=>Oc (λi j=>.bl (decide (i<j))) x y H Q\/ae0 x y H Q
def acA:ph X (compareOp .Lt) ae1:=afp.or Q9
def acR:qM C (Oc λi j=>.bl (decide (i<j))) af9:=Ou λ_ _ _=>rfl
def afu:qM C ae1 Hl:=acR.or acQ
def afx:qM C (Oc λi j=>.bl (decide (j<i))) gGt:=Ou λ_ _ _=>rfl
def Ua(K:Fg):R2:=λx y H Q=>∃a b ys,x = .ref a/\y = .ref b/\mK K H a []/\mK K H b ys/\Q (.ref b) H
def Vi:ph X (binaryOp .Add) (Ua X.K):=by
 intro pins s σ H x y v u Q I rx ry h;obtain⟨a,b,ys,rfl,rfl,ha,hb,q⟩:=h;cases rx;cases ry;obtain⟨its,r1,p1,_⟩:=I.tuple ha;obtain⟨its2,r2,p2,_⟩:=I.tuple hb;cases r1;obtain⟨⟨cls,dd,data,sl⟩,ho,hc,n,hd⟩:=id p1;obtain⟨⟨cls2,dd2,data2,sl2⟩,ho2,hc2,n2,hd2⟩:=id p2;simp only at hc hd hc2 hd2;subst hc hd hc2 hd2;exact concat_meets ⟨_,ho,rfl⟩ ⟨_,ho2,rfl⟩ noFill_tuple_add seq_tuple_add PySem.F.slot_tuple_add PySem.F.entry_tuple_add (PySem.F.args_tuple_add_2 _ _)
  (tuple_addW0 a b ([]:List Value).toArray its2.toArray n n2 dd dd2 sl sl2 (by simp)) ⟨ho,ho2,⟨.ref b,H,I,rfl,q⟩⟩
abbrev afa:R2:=λx y H Q=>∃i j,x = .str i/\y = .str j/\i.length+j.length<=sizeLine/\Q (.str (i++j)) H
abbrev afb(K:Fg):R2:=λx y H Q=>Oc (λi j=>.int (i+j)) x y H Q\/afa x y H Q\/ae9 x y H Q\/aaO K x y H Q\/Ua K x y H Q
def Y5:ph X (binaryOp .Add) (afb X.K):=acI.or (Mp.or (acG.or (Y4.or Vi)))
def cL(x y:D):Option D:=match x,y with
 | .int i,.int j=>some (.int (i+j))
 | .str a,.str b=>if a.length+b.length<=sizeLine then some (.str (a++b)) else none
 | .lst a,.lst b=>if a.length+b.length<=sizeLine then some (.lst (a++b)) else none
 | .tup a,.tup b=>if a.length+b.length<=sizeLine then some (.tup (a++b)) else none
 | _,_=>none
def Fq(a b:List Nat):strOf a++strOf b=strOf (a++b):=by show(⟨(strOf a).cps++(strOf b).cps⟩:Str)=_;unfold strOf;simp
def fW(a:List Nat):(strOf a).length=a.length:=by show a.toArray.size=a.length;simp
def acV:qM C (afb C.K) cL:=by
 intro Pr F env σ H x y d vx vy Q r hx hy h q;unfold cL at h;split at h
 ·cases h;obtain rfl:=hx.int;obtain rfl:=hy.int;exact .inl ⟨_,_,rfl,rfl,q _ H F r (aR.refl F) rfl⟩
 ·split at h
  ·rename_i hz;cases h;obtain⟨rfl,_⟩:=hx.str;obtain⟨rfl,_⟩:=hy.str;refine .inr (.inl ⟨_,_,rfl,rfl,by rw[fW,fW];exact hz,?_⟩);rw[Fq];exact q _ H F r (aR.refl F) ⟨rfl,by rw[Qqj];exact hz⟩
  ·cases h
 ·split at h
  ·rename_i hz;cases h;obtain⟨_,a,vs,rfl,h1,h2⟩:=hx.lst r.fr;obtain⟨_,b,ws,rfl,h3,h4⟩:=hy.lst r.fr;refine .inr (.inr (.inl ⟨a,b,vs,ws,rfl,rfl,h1,h3,by rw[h2.length,h4.length];exact hz,λp hp=>?_⟩));obtain⟨r2,s2⟩:=r.new (o:=.lst (vs++ws)) hp;exact q _ _ _ r2 s2 ⟨by rw[Qqj];exact hz,p,_,rfl,bh,bU.mono s2 _ _ (h2.append h4)⟩
  ·cases h
 ·split at h
  ·rename_i hz;cases h;obtain⟨z1,a,vs,rfl,h1,f1,h2⟩:=hx.tup r.fr;obtain⟨z2,b,ws,rfl,h3,f3,h4⟩:=hy.tup r.fr;by_cases hv:vs=[]
   ·subst hv;have e1:_=0:=h2.length.symm;have e2:=Qj4 e1;subst e2;refine .inr (.inr (.inr (.inr ⟨a,b,ws,rfl,rfl,h1,h3,?_⟩)));exact q _ H F r (aR.refl F) ⟨z2,b,ws,rfl,f3,h4⟩
   ·refine .inr (.inr (.inr (.inl ⟨a,b,vs,ws,rfl,rfl,h1,h3,hv,by rw[h2.length,h4.length];exact hz,λhw=>?_,λhw p hp=>?_⟩)))
    ·subst hw;have e1:_=0:=h4.length.symm;have e2:=Qj4 e1;subst e2;rw[Qxq] at q;exact q _ H F r (aR.refl F) ⟨z1,a,vs,rfl,f1,h2⟩
    ·obtain⟨r2,s2⟩:=r.new (o:=.tup (vs++ws)) hp;exact q _ _ _ r2 s2 ⟨by rw[Qqj];exact hz,p,_,rfl,mK.of bh,bU.mono s2 _ _ (h2.append h4)⟩
  ·cases h
 ·cases h
def Ku(K:Fg)(F H:Hp):List D->List V->Prop
 | [],vs=>vs=[]
 | d::ds,vs=>∃v r,vs=v::r/\gD K F H d v/\Ku K F H ds r
def tAB(C:Cfg)(ev:dI):TA:=λσ H Q=>∃(Pr F:Hp) (env env':Env) (ds:List D),Rel C Pr F env σ H/\ev env = .ok ds env'/\
 ∀vs H' F',Rel C Pr F' env' σ H'->aR F F'->Ku C.K F' H' ds vs->Q vs H'
def aar(X:Cx)(C:Cfg)(es:List Expr)(ev:dI):Prop:=PA X es (tAB C ev)
def CallD(C:Cfg)(r:List V->Hp->VK->Prop)(g:List D->Option D):Prop:=∀(Pr F:Hp) (env:Env) (σ:L2.St) (H:Hp) (ds:List D) (d:D) (vs:List V) (Q:VK),Rel C Pr F env σ H->Ku C.K F H ds vs->g ds=some d->
 (∀v H' F',Rel C Pr F' env σ H'->aR F F'->Rep C.K F' d v->Q v H')->r vs H Q
def au(g:List D->Option D)(a:dI):Ev:=λenv=>bindR (a env) λds aL=>jf (g ds) aL
def Qd{r:List V->Hp->VK->Prop}{g:List D->Option D}{a:dI}(o:CallD C r g)(σ:L2.St)(H:Hp)(Q:VK)(h:tE C (au g a) σ H Q):tCB r (tAB C a) σ H Q:=by obtain⟨Pr,F,env,env',d,rl,e,q⟩:=h;obtain⟨ds,aL,e1,e2⟩:=bf e;obtain⟨e3,rfl⟩:=fD e2;exact⟨Pr,F,env,env',ds,rl,e1,λvs H1 F1 r1 s1 p1=>o Pr F1 env' σ H1 ds d vs Q r1 p1 e3 λv H2 F2 r2 s2 p2=>q v H2 F2 r2 (s1.trans s2) p2⟩
def nu{x:Str}{p pos:Pos}{e:Expr}{es:List Expr}{id:String}{r:List V->Hp->VK->Prop}{g:List D->Option D}{a:dI}(hc:jg X (.builtin id) r)(o:CallD C r g)(hg:Gl X x)(hm:X.mg x=none)(hv:bootBuiltins x=some (.builtin id))(ha:aar X C (e::es) a)
  (hn:x ≠ "__name__":=by decide) (hdb:mU x:=by decide) (he:starEach (e::es) X.env=(false,eval e X.env)::starEach es X.env:=by rfl) (hpl:(backTo pos (starEach es X.env)).any (·.1)=false:=by rfl) :
  PX X C (.Call (.Name x p) (e::es) [] pos) (au g a):=(Jc hc hg hm hv ha hn hdb he hpl).imp (Qd o)
def xA{x:Str}{p pos:Pos}{e:Expr}{es:List Expr}{T:String}{r:List V->Hp->VK->Prop}{g:List D->Option D}{a:dI}(hc:jg X (.type T) r)(o:CallD C r g)(hg:Gl X x)(hm:X.mg x=none)(hv:bootBuiltins x=some (.type T))(ha:aar X C (e::es) a)
  (hn:x ≠ "__name__":=by decide) (hdb:mU x:=by decide) (he:starEach (e::es) X.env=(false,eval e X.env)::starEach es X.env:=by rfl) (hpl:(backTo pos (starEach es X.env)).any (·.1)=false:=by rfl) :
  PX X C (.Call (.Name x p) (e::es) [] pos) (au g a):=(DR hc hg hm hv ha hn hdb he hpl).imp (Qd o)
def mJ{K:Fg}{F H:Hp}{d:D}{vs:List V}(h:Ku K F H [d] vs):∃v,vs=[v]/\gD K F H d v:=by obtain⟨v,r,rfl,h1,h2⟩:=h;cases h2;exact⟨v,rfl,h1⟩
def Nb{K:Fg}{F H:Hp}{d e:D}{vs:List V}(h:Ku K F H [d,e] vs):∃v w,vs=[v,w]/\gD K F H d v/\gD K F H e w:=by obtain⟨v,r,rfl,h1,h2⟩:=h;obtain⟨w,rfl,h3⟩:=mJ h2;exact⟨v,w,rfl,h1,h3⟩
def d8:List D->Option D
 | [.str x]=>some (.int x.length)
 | [.tup xs]=>some (.int xs.length)
 | [.lst xs]=>some (.int xs.length)
 | [.arr xs]=>some (.int xs.length)
 | _=>none
def adW:CallD C (λxs H Q=>∃x n,xs=[x]/\agu C.K x H n/\Q (.int n) H) d8:=by
 intro Pr F env σ H ds d vs Q r hs h q;unfold d8 at h;split at h
 ·cases h;obtain⟨v,rfl,hv⟩:=mJ hs;obtain⟨rfl,hz⟩:=hv.str;exact⟨_,_,rfl,⟨by rw[fW];exact hz,(fW _).symm⟩,q _ H F r (aR.refl F) rfl⟩
 ·cases h;obtain⟨v,rfl,hv⟩:=mJ hs;obtain⟨_,a,ws,rfl,h1,_,h2⟩:=hv.tup r.fr;exact⟨_,_,rfl,.inr ⟨ws,h1,h2.length.symm⟩,q _ H F r (aR.refl F) rfl⟩
 ·cases h;obtain⟨v,rfl,hv⟩:=mJ hs;obtain⟨_,a,ws,rfl,h1,h2⟩:=hv.lst r.fr;exact⟨_,_,rfl,.inl ⟨ws,ju.of h1,h2.length.symm⟩,q _ H F r (aR.refl F) rfl⟩
 ·cases h;obtain⟨v,rfl,hv⟩:=mJ hs;obtain⟨_,a,ws,rfl,h1,h2⟩:=hv.arr r.fr;exact⟨_,_,rfl,.inl ⟨ws,h1,h2.length.symm⟩,q _ H F r (aR.refl F) rfl⟩
 ·cases h
def cI:List D->Option D
 | [.tup xs]=>some (.tup xs)
 | [.lst xs]=>some (.tup xs)
 | _=>none
abbrev T3(K:Fg):List V->Hp->VK->Prop:=λxs H Q=>∃p ys,xs=[.ref p]/\((ju K H p ys/\∀l,H l=none->Q (.ref l) (upd H l (.tup ys)))\/(mK K H p ys/\Q (.ref p) H))
def WN:CallD C (T3 C.K) cI:=by
 intro Pr F env σ H ds d vs Q r hs h q;unfold cI at h;split at h
 ·cases h;obtain⟨v,rfl,hv⟩:=mJ hs;obtain⟨z,a,ws,rfl,h1,f1,h2⟩:=hv.tup r.fr;exact⟨a,ws,rfl,.inr ⟨h1,q _ H F r (aR.refl F) ⟨z,a,ws,rfl,f1,h2⟩⟩⟩
 ·cases h;obtain⟨v,rfl,hv⟩:=mJ hs;obtain⟨z,a,ws,rfl,h1,h2⟩:=hv.lst r.fr;refine⟨a,ws,rfl,.inl ⟨ju.of h1,λl hl=>?_⟩⟩;obtain⟨r2,s2⟩:=r.new (o:=.tup ws) hl;exact q _ _ _ r2 s2 ⟨z,l,ws,rfl,mK.of bh,bU.mono s2 _ _ h2⟩
 ·cases h
def signs(x:List Nat):List D:=x.map λc=>.str [c]
abbrev T4:List V->Hp->VK->Prop:=λxs H Q=>∃z,xs=[.str z]/\z.length<=sizeLine/\∀l,H l=none->Q (.ref l) (upd H l (.lst (z.cps.toList.map λc=>V.str ⟨#[c]⟩)))
def M7(hh:X.calm=true):jg X (.type "list") T4:=by
 intro pins s σ H xs us Q I r h;obtain⟨z,rfl,hz,q⟩:=h;obtain⟨u,rfl,⟨t,rfl⟩⟩:=vals1 r;refine call_list_str (I.ok.hd hh) z t (λh' tk acc' c' kp e hacc=>?_) hz;refine⟨.ref s.heap.objs.size,_,I.laid kp (Qq0 _) (show gH X.prog X.w _ h' _ (.lst (z.cps.toList.map λc=>V.str ⟨#[c]⟩)) from⟨?_,acc'.toList,c',?_,by simpa using e⟩),rfl,q _ (I.hok.fresh (Qq0 _))⟩
 ·simpa[Str.length] using hz
 ·obtain⟨hsz,hit⟩:=hacc;have go:∀(cs:List Nat) (vs:List Value),vs.length=cs.length->(∀(j:Nat) (v:Value),vs[j]? = some v->∃(c:Nat) (u:Tok),cs[j]? = some c/\v=Value.str ⟨#[c]⟩ u)->Vals (cs.map λc=>V.str ⟨#[c]⟩) vs:=by
   intro cs
   induction cs with
   | nil=>intro vs hl _;rw[Qj4 hl];exact .nil
   | cons c cs ih=>
    intro vs hl hv;cases vs with
    | nil=>simp at hl
    | cons v vs=>
     obtain⟨c',u,e1,e2⟩:=hv 0 v rfl;simp at e1;subst e1 e2;exact .cons ⟨u,rfl⟩ (ih vs (by simpa using hl) λj w hw=>by simpa using hv (j+1) w (by simpa using hw))
  refine go _ _ (by simpa using hsz) λj v hv=>?_;obtain⟨c,u,e1,e2⟩:=hit j v (by simpa using hv);exact⟨c,u,by simpa using e1,e2⟩
def El:List D->Option D
 | [.tup xs]=>some (.lst xs)
 | [.lst xs]=>some (.lst xs)
 | [.str x]=>some (.lst (signs x))
 | _=>none
abbrev T5(K:Fg):List V->Hp->VK->Prop:=λxs H Q=>(∃p ys,xs=[.ref p]/\(ju K H p ys\/mK K H p ys)/\∀l,H l=none->Q (.ref l) (upd H l (.lst ys)))\/T4 xs H Q
def M8(hh:X.calm=true):jg X (.type "list") (T5 X.K):=G5.or (M7 hh)
theorem Aj{K:Fg}{F:Hp}:∀x:List Nat,bU K F (signs x) (x.map λc=>V.str ⟨#[c]⟩)
 | []=>rfl
 | c::x=>⟨_,_,rfl,⟨rfl,by rw[sizeLine_eq];simp⟩,Aj x⟩
def Z9:CallD C (T5 C.K) El:=by
 intro Pr F env σ H ds d vs Q r hs h q;unfold El at h;split at h
 ·cases h;obtain⟨v,rfl,hv⟩:=mJ hs;obtain⟨z,a,ws,rfl,h1,f1,h2⟩:=hv.tup r.fr;refine .inl ⟨a,ws,rfl,.inr h1,λl hl=>?_⟩;obtain⟨r2,s2⟩:=r.new (o:=.lst ws) hl;exact q _ _ _ r2 s2 ⟨z,l,ws,rfl,bh,bU.mono s2 _ _ h2⟩
 ·cases h;obtain⟨v,rfl,hv⟩:=mJ hs;obtain⟨z,a,ws,rfl,h1,h2⟩:=hv.lst r.fr;refine .inl ⟨a,ws,rfl,.inl (ju.of h1),λl hl=>?_⟩;obtain⟨r2,s2⟩:=r.new (o:=.lst ws) hl;exact q _ _ _ r2 s2 ⟨z,l,ws,rfl,bh,bU.mono s2 _ _ h2⟩
 ·rename_i x;cases h;obtain⟨v,rfl,hv⟩:=mJ hs;obtain⟨rfl,hz⟩:=hv.str;refine .inr ⟨_,rfl,by rw[fW];exact hz,λl hl=>?_⟩;obtain⟨r2,s2⟩:=r.new (o:=.lst ((strOf x).cps.toList.map λc=>V.str ⟨#[c]⟩)) hl;refine q _ _ _ r2 s2 ⟨by simpa[signs] using hz,l,_,rfl,bh,?_⟩;have e:(strOf x).cps.toList=x:=by simp[strOf]
  rw[e];exact Aj x
 ·cases h
def Ry:List D->Option D
 | [.int i,.int j]=>some (.int (if j > i then j else i))
 | _=>none
def Rx:List D->Option D
 | [.int i,.int j]=>some (.int (if j<i then j else i))
 | _=>none
def adV:CallD C (λxs H Q=>∃i j,xs=[.int i,.int j]/\Q (.int (if j > i then j else i)) H) Ry:=by
 intro Pr F env σ H ds d vs Q r hs h q;unfold Ry at h;split at h
 ·cases h;obtain⟨v,w,rfl,hv,hw⟩:=Nb hs;obtain rfl:=hv.int;obtain rfl:=hw.int;exact⟨_,_,rfl,q _ H F r (aR.refl F) rfl⟩
 ·cases h
def adU:CallD C (λxs H Q=>∃i j,xs=[.int i,.int j]/\Q (.int (if j<i then j else i)) H) Rx:=by
 intro Pr F env σ H ds d vs Q r hs h q;unfold Rx at h;split at h
 ·cases h;obtain⟨v,w,rfl,hv,hw⟩:=Nb hs;obtain rfl:=hv.int;obtain rfl:=hw.int;exact⟨_,_,rfl,q _ H F r (aR.refl F) rfl⟩
 ·cases h
def tu:List D->Option D
 | [.int i,.int j]=>if 0<j/\j<1073741824 then some (.tup [.int (i / j),.int (i % j)]) else none
 | _=>none
def RQ:CallD C (λxs H Q=>∃i j,xs=[.int i,.int j]/\agv i j/\∀p,H p=none->Q (.ref p) (upd H p (.tup [.int (i / j),.int (i % j)]))) tu:=by
 intro Pr F env σ H ds d vs Q r hs h q;unfold tu at h;split at h
 ·split at h
  ·rename_i hj;cases h;obtain⟨v,w,rfl,hv,hw⟩:=Nb hs;obtain rfl:=hv.int;obtain rfl:=hw.int;refine⟨_,_,rfl,hj,λp hp=>?_⟩;obtain⟨r2,s2⟩:=r.new (o:=.tup [.int _,.int _]) hp;exact q _ _ _ r2 s2 ⟨by rw[sizeLine_eq];simp,p,_,rfl,mK.of bh,⟨_,_,rfl,rfl,_,_,rfl,rfl,rfl⟩⟩
  ·cases h
 ·cases h
def sE:List D->Option (List Bool)
 | []=>some []
 | .bl b::r=>(sE r).map (b :: ·)
 | _=>none
theorem Ip{K:Fg}{F:Hp}:∀{ds:List D} {bs:List Bool} {vs:List V},sE ds=some bs->bU K F ds vs->vs=bs.map V.bl
 | [],bs,vs,h,hr=>by simp[sE] at h;subst h;cases hr;rfl
 | d::ds,bs,vs,h,hr=>by
  obtain⟨v,r,rfl,h1,h2⟩:=hr;cases d with
  | bl b=>
   simp only[sE] at h;cases e:sE ds with
   | none=>rw[e] at h;cases h
   | some cs=>
    rw[e] at h;cases h;cases h1;rw[Ip e h2]
    rfl
  | _=>simp[sE] at h
theorem Hs:∀{bs:List Bool} {us:List Value},Vals (bs.map V.bl) us->us=bs.map Value.bool
 | [],_,.nil=>rfl
 | b::bs,_,.cons r t=>by
  cases r;rw[Hs t]
  rfl
def Dg(bs:List Bool):(List.range bs.length).all (λi=>bs.getD i true)=bs.all id:=by
 induction bs with
 | nil=>rfl
 | cons b bs ih=>
  rw[Qqw,List.range_succ_eq_map,List.all_cons,List.all_map,List.all_cons];simp only[List.getD_cons_zero,id]
  congr 1
def R3(hc:X.calm=true):jg X (.builtin "all") (λxs H Q=>∃(p:Addr) (bs:List Bool),xs=[.ref p]/\ju X.K H p (bs.map V.bl)/\Q (.bl (bs.all id)) H):=by
 intro pins s σ H xs us Q I r h;obtain⟨p,bs,rfl,hq,q⟩:=h;obtain⟨u,rfl,rx⟩:=vals1 r;cases rx;obtain⟨its,rv,pl,_⟩:=I.list hq;have e:=Hs rv;subst e;refine call_all_walk (wpAny_pyIter_list pl.isList ?_);have hlt:p<s.heap.objs.size:=by obtain⟨o,e,_⟩:=pl.isList;exact Qwz e
 refine⟨s.heap.objs.size,_,_,_,_,_,λi=>bs.getD i true,rfl,Walks.list (A:=X.A.in1) (show X.A.in1.handled=none from I.ok.hd hc) s.heap.objs.size p (Qw9 hlt) (bs.map Value.bool).toArray,⟨⟨_,Qwj _ rfl,rfl,rfl⟩,by obtain⟨o,e,rr⟩:=pl.isList;exact⟨o,Qqz _ e,rr⟩⟩,?_,λh' tk hk=>?_⟩
 ·intro i v s' Q' E' hv hq';have hv:(bs.map Value.bool).toArray[i]? = some v:=hv;rw[Qj1,Qwv] at hv;cases hb:bs[i]? with
  | none=>rw[hb] at hv;cases hv
  | some b=>
   rw[hb] at hv;cases hv;refine wpAny_truthy_bool ?_;have this:bs.getD i true=b:=by simp[Qq7,hb]
   have hq':Q' (bs.getD i true) s':=hq'
   rwa [this] at hq'
 ·have I1:Inv X pins σ H { s with heap:=h',toks:=tk }:=I.kept λb o e=>hk b o (by simp;exact Qw9 (Qwz e)) (Qqz _ e);refine⟨.bl _,H,I1,rfl,?_⟩;have e2:(bs.map Value.bool).toArray.size=bs.length:=by simp
  rw[e2,Dg];exact q
def Wg:List D->Option D
 | [.lst ds]=>(sE ds).map λbs=>.bl (bs.all id)
 | _=>none
def adX:CallD C (λxs H Q=>∃(p:Addr) (bs:List Bool),xs=[.ref p]/\ju C.K H p (bs.map V.bl)/\Q (.bl (bs.all id)) H) Wg:=by
 intro Pr F env σ H ds d vs Q r hs h q;unfold Wg at h;split at h
 ·rename_i es;cases e:sE es with
  | none=>rw[e] at h;cases h
  | some bs=>
   rw[e] at h;cases h;obtain⟨v,rfl,hv⟩:=mJ hs;obtain⟨z,a,ws,rfl,h1,h2⟩:=hv.lst r.fr;have e2:=Ip e h2;subst e2;exact⟨a,bs,rfl,ju.of h1,q _ H F r (aR.refl F) rfl⟩
 ·cases h
def iC:List D->Option (List (List Nat))
 | []=>some []
 | .str x::r=>(iC r).map (x :: ·)
 | _=>none
def vP(sep:List Nat):List (List Nat)->List Nat
 | []=>[]
 | x::r=>r.foldl (λacc y=>acc++sep++y) x
def VN(sep:List Nat)(xs:List (List Nat)):Txt.join (strOf sep) (xs.map strOf)=strOf (vP sep xs):=by
 unfold Txt.join;unfold Builtin.Str.glued;cases xs with
 | nil=>rfl
 | cons x r=>
  show(⟨(r.map strOf).foldl (λacc p=>acc++(strOf sep).cps++p.cps) (strOf x).cps⟩:Str)=strOf (r.foldl (λacc y=>acc++sep++y) x);have go:∀(r:List (List Nat)) (x:List Nat),(r.map strOf).foldl (λacc p=>acc++(strOf sep).cps++p.cps) (strOf x).cps=(strOf (r.foldl (λacc y=>acc++sep++y) x)).cps:=by
   intro r
   induction r with
   | nil=>intro x;rfl
   | cons y r ih=>
    intro x;rw[Qq8,Qj0,Qj0];rw[<-ih (x++sep++y)]
    congr 1
    simp[strOf]
  rw[go]
theorem sV{K:Fg}{F:Hp}:∀{ds:List D} {xs:List (List Nat)} {vs:List V},iC ds=some xs->bU K F ds vs->vs=xs.map λx=>V.str (strOf x)
 | [],bs,vs,h,hr=>by simp[iC] at h;subst h;cases hr;rfl
 | d::ds,bs,vs,h,hr=>by
  obtain⟨v,r,rfl,h1,h2⟩:=hr;cases d with
  | str b=>
   simp only[iC] at h;cases e:iC ds with
   | none=>rw[e] at h;cases h
   | some cs=>
    rw[e] at h;cases h;cases h1.1;rw[sV e h2]
    rfl
  | _=>simp[iC] at h
theorem wN:∀{xs:List (List Nat)} {us:List Value},Vals (xs.map λx=>V.str (strOf x)) us->StrsAre us (xs.map strOf)
 | [],_,.nil=>.nil
 | x::xs,_,.cons r t=>by
  obtain⟨k,rfl⟩:=r;exact .cons _ k (wN t)
def joinFits(sep:List Nat)(xs:List (List Nat)):Bool:=decide ((xs.map List.length).sum+xs.length*sep.length<=16777216)
def rJoin(K:Fg):V->List V->Hp->VK->Prop:=λx vs H Q=>∃sep xs p,x = .str (strOf sep)/\vs=[.ref p]/\ju K H p (xs.map λx=>V.str (strOf x))/\joinFits sep xs=true/\Q (.str (strOf (vP sep xs))) H
def Zd:MtR X "str.join" (rJoin X.K):=by
 intro pins s σ H x vs v us Q I rx rv h;obtain⟨sep,xs,p,rfl,rfl,hq,hf,q⟩:=h;obtain⟨t,rfl⟩:=rx;obtain⟨u,rfl,ru⟩:=vals1 rv;cases ru;obtain⟨its,r,pl,_⟩:=I.list hq;have hs:=wN r;refine join_list pl.isList (by simpa using hs) ?_ λt' k=>?_
 ·have hf':=Qxk hf;have e:((xs.map strOf).map (·.length))=xs.map List.length:=by
   rw[Qxj];apply Qx9;intro z _;exact fW z
  rw[e,fW,Qqx];exact hf'
 ·rw[VN];exact⟨.str _,H,I.tok k,⟨t',rfl⟩,q⟩
theorem HQ(sep:List Nat):∀(r:List (List Nat)) (x:List Nat),(r.foldl (λacc y=>acc++sep++y) x).length=x.length+(r.map List.length).sum+r.length*sep.length
 | [],x=>by simp
 | y::r,x=>by
  rw[Qj0,HQ sep r,Qqj,Qqj,Qq8,List.sum_cons,Qqw,Nat.add_mul];omega
def VR{sep:List Nat}{xs:List (List Nat)}(h:joinFits sep xs=true):(vP sep xs).length<=sizeLine:=by
 have h':=Qxk h;rw[sizeLine_eq];cases xs with
 | nil=>simp[vP]
 | cons x r=>
  show(r.foldl (λacc y=>acc++sep++y) x).length<=_;rw[HQ];rw[Qq8,List.sum_cons,Qqw,Nat.add_mul] at h';omega
def jN(x y:D):Option D:=match x,y with
 | .str sep,.lst ds=>(match iC ds with
  | some xs=>if joinFits sep xs=true then some (.str (vP sep xs)) else none
  | none=>none)
 | _,_=>none
def Yu{o e:Expr}{a b:Ev}{apos cpos:Pos}(hK:X.K=C.K)(ho:PX X C o a)(he:Nj X C e b)(hbase:attributeBase o "join" X.env (eval o X.env)=eval o X.env:=by rfl)
  (hs:Dy e X.env:=by rfl)
  (hfew:((backTo cpos (starEach [e] X.env)).all (λx=>!x.1)&&(backToKw cpos (keywordEach [] X.env)).all (λx=>x.1.isSome)
   && decide ([e].length+([]:List Keyword).length+(if ([]:List Keyword).isEmpty then 0 else 1)<30))=true:=by rfl)
  (hline:(apos.endLine == cpos.line)=true:=by rfl) (hplain:(backTo cpos (starEach [] X.env)).any (·.1)=false:=by rfl) :
  PX X C (.Call (.Attribute o "join" apos) [e] [] cpos) (aO jN a b):=by
 refine(Vd PySem.F.plainAttrs_str PySem.F.slot_str_join PySem.F.type_str_join Zd ho (lF he rG hs) hbase hfew hline hs hplain).imp λσ H Q h=>?_;obtain⟨Pr,F,env,env',d,rl,e0,q⟩:=h;obtain⟨x,aL,e1,e2⟩:=bf e0;obtain⟨y,dX,e3,e4⟩:=bf e2;obtain⟨e5,rfl⟩:=fD e4;unfold jN at e5;split at e5
 ·rename_i sep ds;split at e5
  ·rename_i xs hxs;split at e5
   ·rename_i hf;cases e5;refine⟨Pr,F,env,aL,_,rl,e1,λvx H1 F1 r1 s1 p1=>?_⟩;obtain⟨rfl,_⟩:=p1;refine⟨rfl,Pr,F1,aL,env',_,r1,e3,λvy H2 F2 r2 s2 p2=>?_⟩;obtain⟨z,l,ws,rfl,h1,h2⟩:=p2.lst r2.fr;have e6:=sV hxs h2;subst e6;exact⟨sep,xs,l,rfl,rfl,ju.of h1,hf,q _ H2 F2 r2 (s1.trans s2) ⟨rfl,VR hf⟩⟩
   ·cases e5
  ·cases e5
 ·cases e5
end
def Rel.put{C:Cfg}{Pr F:Hp}{env:Env}{σ:L2.St}{H:Hp}(r:Rel C Pr F env σ H){i:Nat}{d:D}{v:V}(hfx:C.fx i=none)(p:Rep C.K F d v):Rel C Pr F (env.set i (some (false,d))) (σ.set i (some v)) H:=by
 refine⟨r.pr,r.fr,by rw[Qzx,Qzx];exact r.len,λj e he=>?_,λj e he=>?_,λj k e f b hj hk g1 g2=>?_,r.dj,λj a hj=>?_⟩
 ·by_cases hji:j=i
  ·subst hji;have hl:j<env.length:=by
    have:=(Qq4.mp he).1
    rwa [Qzx] at this
   rw[Qw7 hl] at he;cases he;exact⟨v,Qw7 (by rw[<-r.len];exact hl),p⟩
  ·rw[Qw3 (Ne.symm hji)] at he ⊢;exact r.val j e he
 ·by_cases hji:j=i
  ·subst hji;have hl:j<env.length:=by
    have:=(Qq4.mp he).1
    rwa [Qzx] at this
   rw[Qw7 hl] at he;cases he
  ·rw[Qw3 (Ne.symm hji)] at he ⊢;exact r.own j e he
 ·have nn:∀(j:Nat) (e:D),(env.set i (some (false,d)))[j]? = some (some (true,e))->j≠i:=λj e he z=>by
   subst z;have hl:j<env.length:=by
    have:=(Qq4.mp he).1
    rwa [Qzx] at this
   rw[Qw7 hl] at he;cases he
  have nj:=nn j e hj;have nk:=nn k f hk;rw[Qw3 (Ne.symm nj)] at hj g1;rw[Qw3 (Ne.symm nk)] at hk g2;exact r.apart j k e f b hj hk g1 g2
 ·have hji:j≠i:=λz=>by rw[z,hfx] at hj;cases hj
  rw[Qw3 (Ne.symm hji)];exact r.fix j a hj
structure Xg(K:Fg)(Pr F:Hp)(env:Env)(σ:L2.St)(H:Hp)(d:D)(a:Addr):Prop where
 own:lU K F H d a
 nF:F a=none
 nP:Pr a=none
 ap:∀(j:Nat) (e:D),env[j]? = some (some (true,e))->σ[j]? = some (some (V.ref a))->False
def Xg.of{C:Cfg}{Pr F:Hp}{env:Env}{σ:L2.St}{H:Hp}{a:Addr}{o:HO}{d:D}(r:Rel C Pr F env σ H)(h:H a=none)(ho:lU C.K F (upd H a o) d a):Xg C.K Pr F env σ (upd H a o) d a:=
 ⟨ho,r.fr.free h,r.pr.free h,λj e he hs=>by
  obtain⟨b,h1,h2,_⟩:=r.own j e he;rw[hs] at h1;cases h1;obtain⟨u,hu⟩:=h2.some;rw[h] at hu;cases hu⟩
def Rel.Ut{C:Cfg}{Pr F:Hp}{env:Env}{σ:L2.St}{H:Hp}(r:Rel C Pr F env σ H){i:Nat}{d:D}{a:Addr}(hfx:C.fx i=none)(n:Xg C.K Pr F env σ H d a):Rel C Pr F (env.set i (some (true,d))) (σ.set i (some (.ref a))) H:=by
 have same:∀(j:Nat) (x:Bool×D),(env.set i (some (true,d)))[j]? = some (some x)->j=i->x=(true,d)/\j<env.length:=λj x he z=>by
  subst z;have hl:j<env.length:=by
   have:=(Qq4.mp he).1
   rwa [Qzx] at this
  rw[Qw7 hl] at he;cases he;exact⟨rfl,hl⟩
 refine⟨r.pr,r.fr,by rw[Qzx,Qzx];exact r.len,λj e he=>?_,λj e he=>?_,λj k e f b hj hk g1 g2=>?_,r.dj,λj a hj=>?_⟩
 ·by_cases hji:j=i
  ·have:=(same j _ he hji).1;cases this
  ·rw[Qw3 (Ne.symm hji)] at he ⊢;exact r.val j e he
 ·by_cases hji:j=i
  ·obtain⟨z,hl⟩:=same j _ he hji;cases z;subst hji;exact⟨a,Qw7 (by rw[<-r.len];exact hl),n.own,n.nF,n.nP⟩
  ·rw[Qw3 (Ne.symm hji)] at he ⊢;exact r.own j e he
 ·by_cases nj:j=i
  ·by_cases nk:k=i
   ·rw[nj,nk]
   ·obtain⟨z,hl⟩:=same j _ hj nj;subst nj;rw[Qw7 (by rw[<-r.len];exact hl)] at g1;cases g1;rw[Qw3 (Ne.symm nk)] at hk g2;exact(n.ap k f hk g2).elim
  ·rw[Qw3 (Ne.symm nj)] at hj g1;by_cases nk:k=i
   ·obtain⟨z,hl⟩:=same k _ hk nk;subst nk;rw[Qw7 (by rw[<-r.len];exact hl)] at g2;cases g2;exact(n.ap j e hj g1).elim
   ·rw[Qw3 (Ne.symm nk)] at hk g2;exact r.apart j k e f b hj hk g1 g2
 ·have hji:j≠i:=λz=>by rw[z,hfx] at hj;cases hj
  rw[Qw3 (Ne.symm hji)];exact r.fix j a hj
def Rel.keep{C:Cfg}{Pr F:Hp}{env:Env}{σ:L2.St}{H:Hp}{d:D}{a:Addr}(r:Rel C Pr F env σ H)(n:Xg C.K Pr F env σ H d a):∃F',Rel C Pr F' env σ H/\aR F F'/\Rep C.K F' d (.ref a):=by
 obtain⟨o,ho⟩:=n.own.some;have s1:aR F (upd F a o):=m6 n.nF;have rep:Rep C.K (upd F a o) d (.ref a):=by
  have h2:=n.own;cases d with
  | lst xs=>obtain⟨z,vs,g1,g2⟩:=h2;rw[ho] at g1;cases g1;exact⟨z,a,vs,rfl,bh,bU.mono s1 _ _ g2⟩
  | dct kvs=>obtain⟨z,ks,g1,g2⟩:=h2;rw[ho] at g1;cases g1;exact⟨z,a,ks,rfl,.inl bh,dR.mono s1 _ _ g2⟩
  | gC kvs=>obtain⟨z,ks,g1,g2⟩:=h2;rw[ho] at g1;cases g1;exact⟨z,a,ks,rfl,.inl bh,cW.mono s1 _ _ g2⟩
  | _=>exact h2.elim
 refine⟨upd F a o,⟨r.pr,λb u e=>?_,r.len,λj e he=>?_,λj e he=>?_,r.apart,λb u e=>?_,r.fix⟩,s1,rep⟩
 ·by_cases hb:b=a
  ·subst hb;rw[bh] at e;cases e;exact ho
  ·rw[bL hb] at e;exact r.fr b u e
 ·obtain⟨v,g1,g2⟩:=r.val j e he;exact⟨v,g1,Rep.mono s1 e v g2⟩
 ·obtain⟨b,g1,g2,g3,g4⟩:=r.own j e he;have hb:b≠a:=λz=>by subst z;exact n.ap j e he g1
  exact⟨b,g1,g2.mono s1 rfl,by rw[bL hb];exact g3,g4⟩
 ·by_cases hb:b=a
  ·subst hb;exact n.nP
  ·rw[bL hb] at e;exact r.dj b u e
def Rel.write{C:Cfg}{Pr F:Hp}{env:Env}{σ:L2.St}{H:Hp}{i:Nat}{d d':D}{a:Addr}{u:HO}(r:Rel C Pr F env σ H)(h:env[i]? = some (some (true,d)))(hs:σ[i]? = some (some (V.ref a)))(ho:lU C.K F (upd H a u) d' a) :
  Rel C Pr F (env.set i (some (true,d'))) σ (upd H a u):=by
 obtain⟨a',h1,h2,h3,h4⟩:=r.own i d h;rw[hs] at h1;cases h1;have hi:i<env.length:=(Qq4.mp h).1;have ne:∀(j:Nat) (e:D) (b:Addr),j≠i->env[j]? = some (some (true,e))->σ[j]? = some (some (V.ref b))->b≠a:=λj e b hj he g z=>hj (r.apart j i e d a he h (by rw[<-z];exact g) hs);refine⟨λb w e=>?_,λb w e=>?_,by rw[Qzx];exact r.len,λj e he=>?_,λj e he=>?_,λj k e f b hj hk g1 g2=>?_,r.dj,r.fix⟩
 ·have hb:b≠a:=λz=>by rw[z,h4] at e;cases e
  rw[bL hb];exact r.pr b w e
 ·have hb:b≠a:=λz=>by rw[z,h3] at e;cases e
  rw[bL hb];exact r.fr b w e
 ·by_cases hj:j=i
  ·subst hj;rw[Qw7 hi] at he;cases he
  ·rw[Qw3 (Ne.symm hj)] at he;exact r.val j e he
 ·by_cases hj:j=i
  ·subst hj;rw[Qw7 hi] at he;cases he;exact⟨a,hs,ho,h3,h4⟩
  ·rw[Qw3 (Ne.symm hj)] at he;obtain⟨b,g1,g2,g3,g4⟩:=r.own j e he;exact⟨b,g1,g2.mono (aR.refl F) (bL (ne j e b hj he g1)),g3,g4⟩
 ·have un:∀(j:Nat) (e:D),(env.set i (some (true,d')))[j]? = some (some (true,e))->∃e',env[j]? = some (some (true,e')):=λj e he=>by
   by_cases hj:j=i
   ·subst hj;exact⟨d,h⟩
   ·rw[Qw3 (Ne.symm hj)] at he;exact⟨e,he⟩
  obtain⟨e',hj'⟩:=un j e hj;obtain⟨f',hk'⟩:=un k f hk;exact r.apart j k e' f' b hj' hk' g1 g2
def tN(C:Cfg)(ev:Ev):TE:=λσ H Q=>∃(Pr F:Hp) (env env':Env) (d:D),Rel C Pr F env σ H/\ev env = .ok d env'/\
 ∀a H' F',Rel C Pr F' env' σ H'->aR F F'->Xg C.K Pr F' env' σ H' d a->Q (.ref a) H'
def R6(X:Cx)(C:Cfg)(e:Expr)(ev:Ev):Prop:=PE X e (tN C ev)
section
variable{X:Cx}{C:Cfg}{pos:Pos}
def R6.px{e:Expr}{ev:Ev}(h:R6 X C e ev):PX X C e ev:=PE.imp h λσ H Q hq=>by
 obtain⟨Pr,F,env,env',d,r,e,q⟩:=hq;refine⟨Pr,F,env,env',d,r,e,λa H' F' r' s' n'=>?_⟩;obtain⟨F2,r2,s2,p2⟩:=r'.keep n';exact q _ _ F2 r2 (s'.trans s2) p2
def Oe{es:List Expr}{r:dI}(h:Kr X C es r):R6 X C (.List es pos) (cz r):=(acq h).imp λσ H Q hq=>by
 obtain⟨Pr,F,env,env',d,rl,e,q⟩:=hq;obtain⟨ds,aL,e1,e2⟩:=bf e;split at e2
 ·rename_i hz;cases e2;refine⟨Pr,F,env,env',ds,rl,e1,λvs H1 F1 r1 s1 p1=>⟨by rw[p1.length];exact hz,λp hp=>?_⟩⟩;exact q _ _ F1 (r1.fresh hp) s1 (Xg.of r1 hp ⟨hz,vs,bh,p1⟩)
 ·cases e2
abbrev GV:=D->Env->Option Env
abbrev Xq:=List D->Env->Option Env
def tG(C:Cfg)(lo:Nat)(gv:GV):TG:=λv σ H Q=>∃(Pr F:Hp) (env env':Env) (d:D),Rel C Pr F env σ H/\Rep C.K F d v/\gv d env=some env'/\
 ∀σ' H' F',Rel C Pr F' env' σ' H'->aR F F'->σ'.take lo=σ.take lo->Q σ' H'
def tGs(C:Cfg)(lo:Nat)(gv:Xq):TGs:=λvs σ H Q=>∃(Pr F:Hp) (env env':Env) (ds:List D),Rel C Pr F env σ H/\bU C.K F ds vs/\gv ds env=some env'/\
 ∀σ' H' F',Rel C Pr F' env' σ' H'->aR F F'->σ'.take lo=σ.take lo->Q σ' H'
def PXG(X:Cx)(C:Cfg)(lo:Nat)(e:Expr)(gv:GV):Prop:=PG X e (tG C lo gv)
def aee(X:Cx)(C:Cfg)(lo:Nat)(es:List Expr)(gv:Xq):Prop:=PGs X es (tGs C lo gv)
def _root_.L2.PG.imp{X:Cx}{e:Expr}{t t':TG}(h:PG X e t)(i:∀v σ H Q,t' v σ H Q->t v σ H Q):PG X e t':=λpins s σ H v u Q I r q=>h pins s σ H v u Q I r (i v σ H Q q)
def _root_.L2.PGs.imp{X:Cx}{e:List Expr}{t t':TGs}(h:PGs X e t)(i:∀v σ H Q,t' v σ H Q->t v σ H Q):PGs X e t':=λpins s σ H v u Q I r q=>h pins s σ H v u Q I r (i v σ H Q q)
def aj(i:Nat):GV:=λd env=>some (env.set i (some (false,d)))
def Up{lo i:Nat}{x:Str}(hN:X.N.Nodup)(hi:X.N[i]? = some x)(hx:Loc X.env.scope x)(hlo:lo<=i)(hfx:C.fx i=none)(hf:X.fn x=true\/X.env.scope.names.lookup x=some .local:=by first|exact .inl rfl|exact .inr rfl|assumption):PXG X C lo (.Name x pos) (aj i):=
 (YJ hN hi hx hf).imp λv σ H Q h=>by
  obtain⟨Pr,F,env,env',d,r,p,e,q⟩:=h;cases e;exact q _ _ F (r.put hfx p) (aR.refl F) (by rw[List.take_set_of_le hlo])
def bN:Xq:=λds env=>if ds.isEmpty then some env else none
def aD(g:GV)(gs:Xq):Xq:=λds env=>match ds with
 | d::r=>(g d env).bind λe1=>gs r e1
 | []=>none
def Uo{lo:Nat}:aee X C lo [] bN:=YH.imp λv σ H Q h=>by
 obtain⟨Pr,F,env,env',ds,r,p,e,q⟩:=h;cases ds with
 | nil=>cases e;cases p;exact⟨rfl,q _ _ F r (aR.refl F) rfl⟩
 | cons d ds=>cases e
def bK(n:Nat)(gs:Xq):GV:=λd env=>match d with
 | .tup ds=>if ds.length=n then gs ds env else none
 | _=>none
def Ys{lo:Nat}{es:List Expr}{k:Nat}{gs:Xq}{n:Nat}(hc:X.calm=true)(hK:X.K=C.K)(h:aee X C lo es gs)
  (hn:(assignEach es X.env).length=n:=by rfl) (hst:(assignEach es X.env).findIdx? (·.1)=none:=by rfl):PXG X C lo (.Tuple es k pos) (bK n gs):=(aci hc h hn hst).imp λv σ H Q h=>by
 obtain⟨Pr,F,env,env',d,r,p,e,q⟩:=h;cases d with
 | tup ds=>
  obtain⟨z,a,vs,rfl,h1,h2⟩:=p;unfold bK at e;simp only at e;split at e
  ·rename_i hl;rw[hK];exact⟨a,vs,rfl,aR.tupK r.fr h1,by rw[h2.length];exact hl,Pr,F,env,env',ds,r,h2,e,q⟩
  ·cases e
 | _=>cases e
def ZL(i:Nat)(ix:Ev):GV:=λd env=>match env[i]? with
 | some (some (_,_))=>(match ix env with
  | .ok (.int k) aL=>(match aL[i]? with
   | some (some (true,.lst xs))=>(Zu xs.length k).map λj=>aL.set i (some (true,.lst (xs.set j d)))
   | _=>none)
  | _=>none)
 | _=>none
def ab0{lo i:Nat}{x:Str}{ix:Expr}{ev:Ev}{px:Pos}(hN:X.N[i]? = some x)(hv:tR X.env.scope x)(h:PX X C ix ev)
  (ha:∀v,assign (.Subscript (.Name x px) ix pos) X.env v=(do
   let ov <-holding [v] (eval (.Name x px) X.env)
   let iv <-holding [v,ov] (eval ix X.env)
   standAt pos
   holding [v,ov,iv] (setItem ov iv v)
   release [v,ov,iv] []):=by intro _;rfl)
  (hd:mU x:=by decide) (hcd:uG x:=by decide):PXG X C lo (.Subscript (.Name x px) ix pos) (ZL i ev):=
 (acj (jY hN hv hd hcd) h set_list ha).imp λv σ H Q hq=>by
  obtain⟨Pr,F,env,env',d,r,p,e,q⟩:=hq;unfold ZL at e;split at e
  ·rename_i o0 d0 h0;obtain⟨v0,hv0,_⟩:=r.rd h0;split at e
   ·rename_i k aL e1;split at e
    ·rename_i xs h2;obtain⟨j,hj,e3⟩:=Qq6.mp e;subst e3;refine⟨v0,hv0,Pr,F,env,aL,.int k,r,e1,λvi H1 F1 r1 s1 p1=>?_⟩;cases p1;obtain⟨a,g1,⟨z,vs,g2,g3⟩,g4,g5⟩:=r1.own i _ h2;rw[hv0] at g1;cases g1;refine⟨a,vs,k,j,rfl,rfl,g2,by rw[g3.length];exact hj,?_⟩;refine q σ _ F1 (r1.write h2 hv0 ⟨by rw[Qzx];exact z,vs.set j v,bh,bU.set (Rep.mono s1 d v p) j g3⟩) s1 rfl
    ·cases e
   ·cases e
  ·cases e
end
inductive Out where
 | nx (env:Env)
 | rt (o:Bool) (d:D) (env:Env)
 | bk (env:Env)
 | ct (env:Env)
 | stuck
abbrev cu:=Env->Out
def Fin(C:Cfg)(Pr F:Hp)(D:Ends):Out->Prop
 | .nx env'=>∀σ' H' F',Rel C Pr F' env' σ' H'->aR F F'->D.nx σ' H'
 | .rt false d env'=>∀v σ' H' F',Rel C Pr F' env' σ' H'->aR F F'->Rep C.K F' d v->D.rt v H'
 | .rt true d env'=>∀a σ' H' F',Rel C Pr F' env' σ' H'->aR F F'->Xg C.K Pr F' env' σ' H' d a->D.rt (.ref a) H'
 | .bk env'=>∀σ' H' F',Rel C Pr F' env' σ' H'->aR F F'->D.bk σ' H'
 | .ct env'=>∀σ' H' F',Rel C Pr F' env' σ' H'->aR F F'->D.ct σ' H'
 | .stuck=>False
theorem Fin.mono{C:Cfg}{Pr F F1:Hp}{D:Ends}(s:aR F F1):∀{o:Out},Fin C Pr F D o->Fin C Pr F1 D o
 | .nx _,h=>λσ' H' F' r t=>h σ' H' F' r (s.trans t)
 | .rt false _ _,h=>λv σ' H' F' r t=>h v σ' H' F' r (s.trans t)
 | .rt true _ _,h=>λv σ' H' F' r t=>h v σ' H' F' r (s.trans t)
 | .bk _,h=>λσ' H' F' r t=>h σ' H' F' r (s.trans t)
 | .ct _,h=>λσ' H' F' r t=>h σ' H' F' r (s.trans t)
 | .stuck,h=>h
def tS(C:Cfg)(ev:cu):TS:=λD σ H=>∃(Pr F:Hp) (env:Env),Rel C Pr F env σ H/\Fin C Pr F D (ev env)
def Xf(X:Cx)(C:Cfg)(st:Stmt)(ev:cu):Prop:=PS X st (tS C ev)
def Di(X:Cx)(C:Cfg)(st:List Stmt)(ev:cu):Prop:=Ks X st (tS C ev)
def iW{α:Type}(x:R α)(f:α->Env->Out):Out:=match x with
 | .ok a env=>f a env
 | .stuck=>.stuck
def dF{C:Cfg}{Pr F:Hp}{D:Ends}{α:Type}{x:R α}{f:α->Env->Out}(h:Fin C Pr F D (iW x f)):∃a aL,x = .ok a aL/\Fin C Pr F D (f a aL):=by
 cases x with
 | ok a aL=>exact⟨a,aL,rfl,h⟩
 | stuck=>exact h.elim
section
variable{X:Cx}{C:Cfg}{pos:Pos}
def dG:cu:=λenv=>.nx env
def aF(a b:cu):cu:=λenv=>match a env with
 | .nx e=>b e
 | .rt o d e=>.rt o d e
 | .bk e=>.bk e
 | .ct e=>.ct e
 | .stuck=>.stuck
def Ug:Di X C [] dG:=Yw.imp λD σ H h=>by
 obtain⟨Pr,F,env,r,f⟩:=h;exact f σ H F r (aR.refl F)
def iD(t:fU)(a b:cu):cu:=λenv=>iW (t env) λc aL=>if c=true then a aL else b aL
def bI(a:Ev):cu:=λenv=>iW (a env) λd aL=>.rt false d aL
def z9(a:Ev):cu:=λenv=>iW (a env) λd aL=>.rt true d aL
def VF(o:Option Env):Out:=match o with
 | some e=>.nx e
 | none=>.stuck
def aQ(a:Ev)(g:GV):cu:=λenv=>iW (a env) λd aL=>VF (g d aL)
def ad1{a:Ev}{g:GV}{D:Ends}{σ:L2.St}{H:Hp}(h:tS C (aQ a g) D σ H):XX (tE C a) (tG C 0 g) D σ H:=by
 obtain⟨Pr,F,env,r,f⟩:=h;obtain⟨d,aL,e1,f1⟩:=dF f;refine⟨Pr,F,env,aL,d,r,e1,λv H1 F1 r1 s1 p1=>?_⟩;cases e2:g d aL with
 | none=>rw[e2] at f1;exact f1.elim
 | some dX=>rw[e2] at f1;exact⟨Pr,F1,aL,dX,d,r1,p1,e2,λσ2 H2 F2 r2 s2 _=>f1 σ2 H2 F2 r2 (s1.trans s2)⟩
def Yl{i:Nat}{x:Str}{e:Expr}{a:Ev}{pos':Pos}(hN:X.N.Nodup)(hi:X.N[i]? = some x)(hx:Loc X.env.scope x)(hfx:C.fx i=none)(he:PX X C e a)(hs:swapsWith e (some (.Name x pos')) pos.line X.env=pure false:=by rfl)(hf:X.fn x=true\/X.env.scope.names.lookup x=some .local:=by first|exact .inl rfl|exact .inr rfl|assumption) :
  Xf X C (.Assign [.Name x pos'] e pos) (aQ a (aj i)):=(UG hN hi hx he hs hf).imp λD σ H h=>by
 obtain⟨Pr,F,env,r,f⟩:=h;obtain⟨d,aL,e1,f1⟩:=dF f;exact⟨Pr,F,env,aL,d,r,e1,λv H1 F1 r1 s1 p1=>f1 _ H1 F1 (r1.put hfx p1) s1⟩
def cP(i:Nat)(a:Ev):cu:=λenv=>iW (a env) λd aL=>.nx (aL.set i (some (true,d)))
def Ym{i:Nat}{x:Str}{e:Expr}{a:Ev}{pos':Pos}(hN:X.N.Nodup)(hi:X.N[i]? = some x)(hx:Loc X.env.scope x)(hfx:C.fx i=none)(he:R6 X C e a)(hs:swapsWith e (some (.Name x pos')) pos.line X.env=pure false:=by rfl)(hf:X.fn x=true\/X.env.scope.names.lookup x=some .local:=by first|exact .inl rfl|exact .inr rfl|assumption) :
  Xf X C (.Assign [.Name x pos'] e pos) (cP i a):=(UG hN hi hx he hs hf).imp λD σ H h=>by
 obtain⟨Pr,F,env,r,f⟩:=h;obtain⟨d,aL,e1,f1⟩:=dF f;exact⟨Pr,F,env,aL,d,r,e1,λv H1 F1 r1 s1 p1=>f1 _ H1 F1 (r1.Ut hfx p1) s1⟩
def dw(i:Nat)(a:Ev):cu:=λenv=>match env[i]? with
 | some (some (true,.lst _))=>iW (a env) λd aL=>(match aL[i]? with
  | some (some (true,.lst xs))=>if xs.length<sizeLine then .nx (aL.set i (some (true,.lst (xs++[d])))) else .stuck
  | _=>.stuck)
 | _=>.stuck
def Yo{i:Nat}{x:Str}{e:Expr}{a:Ev}{px apos cpos:Pos}(hN:X.N[i]? = some x)(hv:tR X.env.scope x)(he:PX X C e a)(hK:X.K=C.K)
  (hs:swapsWith (.Call (.Attribute (.Name x px) "append" apos) [e] [] cpos) none pos.line X.env=pure false:=by rfl)
  (hfew:((backTo cpos (starEach [e] X.env)).all (λx=>!x.1)&&(backToKw cpos (keywordEach [] X.env)).all (λx=>x.1.isSome)
   && decide (([e]:List Expr).length+([]:List Keyword).length+(if ([]:List Keyword).isEmpty then 0 else 1)<30))=true:=by rfl)
  (hbase:attributeBase (.Name x px) "append" X.env (eval (.Name x px) X.env)=eval (.Name x px) X.env:=by rfl)
  (hline:(apos.endLine == cpos.line)=true:=by rfl) (hst:Dy e X.env:=by rfl) (hplain:(backTo cpos (starEach [] X.env)).any (·.1)=false:=by rfl)
  (hd:mU x:=by decide) (hcd:uG x:=by decide):Xf X C (.Expr (.Call (.Attribute (.Name x px) "append" apos) [e] [] cpos) pos) (dw i a):=by
 refine PS.imp (Ol (Vd PySem.F.plainAttrs_list PySem.F.slot_list_append PySem.F.type_list_append Ec (jY hN hv hd hcd) (lF he rG hst) hbase hfew hline hst hplain) hs) λD σ H h=>?_;obtain⟨Pr,F,env,r,f⟩:=h;unfold dw at f;split at f
 ·rename_i xs0 h0;obtain⟨d,aL,e1,f1⟩:=dF f;obtain⟨a0,hv0,⟨z0,vs0,g0,_⟩,_⟩:=r.own i _ h0;refine⟨_,hv0,.inl ⟨rfl,vs0,ju.of g0⟩,Pr,F,env,aL,d,r,e1,λv H1 F1 r1 s1 p1=>?_⟩;split at f1
  ·rename_i xs h1;split at f1
   ·rename_i hz;obtain⟨a,g1,⟨z,vs,g2,g3⟩,g4,g5⟩:=r1.own i _ h1;rw[hv0] at g1;cases g1;refine⟨a0,vs,v,rfl,rfl,g2,by rw[g3.length];exact hz,?_⟩;exact f1 σ _ F1 (r1.write h1 hv0 ⟨by rw[Qqj];exact hz,vs++[v],bh,g3.append (bU.one p1)⟩) s1
   ·exact f1.elim
  ·exact f1.elim
 ·exact f.elim
def qt(K:Fg)(F:Hp)(ds:List D)(J:It):Prop:=∀(i:Nat) (H:Hp),aR F H->(ds[i]? = none->i=ds.length->J.stop i H)/\∀d,ds[i]? = some d->J.go i H/\∀x H',J.yld i H x H'->
 (H'=H/\Rep K F d x)\/∃p vs es,H p=none/\H'=upd H p (.tup vs)/\x = .ref p/\d = .tup es/\es.length<=sizeLine/\bU K F es vs
def tI(C:Cfg)(ev:dI):TI:=λσ H R=>∃(Pr F:Hp) (env env':Env) (ds:List D),Rel C Pr F env σ H/\ev env = .ok ds env'/\
 ∀J H' F',Rel C Pr F' env' σ H'->aR F F'->qt C.K F' ds J->R J H'
def Sg(X:Cx)(C:Cfg)(tg iter:Expr)(ev:dI):Prop:=PI X tg iter (tI C ev)
def _root_.L2.PI.imp{X:Cx}{tg e:Expr}{t t':TI}(h:PI X tg e t)(i:∀σ H R,t' σ H R->t σ H R):PI X tg e t':=λpins s σ H R I q=>h pins s σ H R I (i σ H R q)
def qt.item{Pr F F1:Hp}{env:Env}{σ:L2.St}{H:Hp}{ds:List D}{J:It}{i:Nat}{d:D}{x:V}{H':Hp}(r:Rel C Pr F1 env σ H)(s:aR F F1)(y:qt C.K F ds J)(hd:ds[i]? = some d)(hy:J.yld i H x H') :
  ∃F2,Rel C Pr F2 env σ H'/\aR F1 F2/\Rep C.K F2 d x:=by
 rcases((y i H (s.trans r.fr)).2 d hd).2 x H' hy with ⟨rfl,p⟩|⟨p,vs,es,hp,rfl,rfl,rfl,hz,q⟩
 ·exact⟨F1,r,aR.refl F1,Rep.mono s _ _ p⟩
 ·obtain⟨r2,s2⟩:=r.new (o:=.tup vs) hp;exact⟨_,r2,s2,hz,p,vs,rfl,mK.of bh,bU.mono (s.trans s2) _ _ q⟩
def je(g:GV)(b:cu):List D->cu
 | [],env=>.nx env
 | d::ds,env=>(match g d env with
  | none=>.stuck
  | some e1=>(match b e1 with
   | .nx e2=>je g b ds e2
   | .ct e2=>je g b ds e2
   | .bk e2=>.nx e2
   | .rt o d e2=>.rt o d e2
   | .stuck=>.stuck))
def eZ(it:dI)(g:GV)(b:cu):cu:=λenv=>iW (it env) λds aL=>je g b ds aL
def Yn{tg iter:Expr}{body:List Stmt}{it:dI}{g:GV}{b:cu}(hp:PassesOwn (model X.prog X.w) X.A X.env X.xe)(hc:X.calm=true)(hi:Sg X C tg iter it)(hg:PXG X C 0 tg g)(hb:Di X C body b)
  (hs:∀x,foldedSetIterable iter X.env x=pure x:=by intro _;rfl):Xf X C (.For tg iter body [] pos) (eZ it g b):=(acb hp hc hi hg hb hs).imp λD σ H h=>by
 obtain⟨Pr,F,env,r,f⟩:=h;obtain⟨ds,aL,e1,f1⟩:=dF f;refine⟨Pr,F,env,aL,ds,r,e1,λJ H1 F1 r1 s1 y1=>?_⟩;refine⟨λi m σ' H'=>m=ds.length - i/\i<=ds.length/\∃F' env',Rel C Pr F' env' σ' H'/\aR F1 F'/\Fin C Pr F' D (je g b (ds.drop i) env'),⟨ds.length,rfl,Qxy _,F1,aL,r1,aR.refl _,f1.mono s1⟩,?_⟩;rintro i m σ' H' ⟨rfl,hi,F',env',r',s',f'⟩;by_cases hl:i<ds.length
 ·have hd:ds[i]? = some ds[i]:=Qq9 hl;have hdr:ds.drop i=ds[i]::ds.drop (i+1):=Qkw hl;have yy:=y1 i H' (s'.trans r'.fr);refine .inr ⟨(yy.2 _ hd).1,λσ2 H2=>∃F' env',Rel C Pr F' env' σ2 H2/\aR F1 F'/\Fin C Pr F' D (je g b (ds.drop (i+1)) env'),λσ2 H2 h2=>⟨ds.length - (i+1),by omega,rfl,hl,h2⟩,λx H2 hy=>?_⟩;obtain⟨F2,r2,s2,p2⟩:=qt.item r' s' y1 hd hy;rw[hdr] at f';have f2:=f'.mono s2;unfold je at f2;cases eg:g ds[i] env' with
  | none=>rw[eg] at f2;exact f2.elim
  | some e2=>
   rw[eg] at f2;refine⟨Pr,F2,env',e2,ds[i],r2,p2,eg,λσ3 H3 F3 r3 s3 _=>⟨Pr,F3,e2,r3,?_⟩⟩;simp only at f2;have s13:aR F1 F3:=(s'.trans s2).trans s3;cases eb:b e2 with
   | nx e3=>rw[eb] at f2;exact λσ4 H4 F4 r4 s4=>⟨F4,e3,r4,s13.trans s4,f2.mono (s3.trans s4)⟩
   | ct e3=>rw[eb] at f2;exact λσ4 H4 F4 r4 s4=>⟨F4,e3,r4,s13.trans s4,f2.mono (s3.trans s4)⟩
   | bk e3=>rw[eb] at f2;exact λσ4 H4 F4 r4 s4=>f2 σ4 H4 F4 r4 (s3.trans s4)
   | rt o d e3=>rw[eb] at f2;cases o<;>exact λv σ4 H4 F4 r4 s4 p4=>f2 v σ4 H4 F4 r4 (s3.trans s4) p4
   | stuck=>rw[eb] at f2;exact f2.elim
 ·have e:i=ds.length:=by omega
  subst e;rw[List.drop_length] at f';exact .inl ⟨(y1 _ H' (s'.trans r'.fr)).1 (Qkz (Qq0 _)) rfl,f' σ' H' F' r' (aR.refl F')⟩
def fK(t:fU)(b:cu):Nat->cu
 | 0,_=>.stuck
 | n+1,env=>iW (t env) λc e1=>if c=true then (match b e1 with
   | .nx e2=>fK t b n e2
   | .ct e2=>fK t b n e2
   | .bk e2=>.nx e2
   | .rt o d e2=>.rt o d e2
   | .stuck=>.stuck) else .nx e1
def QS{c:Expr}{body:List Stmt}{t:fU}{b:cu}(n:Nat)(hp:PassesOwn (model X.prog X.w) X.A X.env X.xe)(hc:PXT X C c t)(hb:Di X C body b):Xf X C (.While c body [] pos) (fK t b n):=(Uy hp hc hb).imp λD σ H h=>by
 obtain⟨Pr,F,env,r,f⟩:=h;refine⟨λm σ' H'=>∃F' env',Rel C Pr F' env' σ' H'/\aR F F'/\Fin C Pr F' D (fK t b m env'),⟨n,F,env,r,aR.refl _,f⟩,?_⟩;rintro m σ' H' ⟨F',env',r',s',f'⟩;cases m with
 | zero=>exact f'.elim
 | succ m=>
  unfold fK at f';obtain⟨k,e1,e2,f1⟩:=dF f';refine⟨Pr,F',env',e1,k,r',e2,λH1 F1 r1 s1=>?_⟩;have f2:=f1.mono s1;show if k=true then _ else _
  split at f2
  ·rename_i hk;rw[if_pos hk];refine⟨λσ2 H2=>∃F' env',Rel C Pr F' env' σ2 H2/\aR F F'/\Fin C Pr F' D (fK t b m env'),λσ2 H2 h2=>⟨m,Nat.lt_succ_self _,h2⟩,Pr,F1,e1,r1,?_⟩;have s13:aR F F1:=s'.trans s1;cases eb:b e1 with
   | nx e3=>rw[eb] at f2;exact λσ4 H4 F4 r4 s4=>⟨F4,e3,r4,s13.trans s4,f2.mono s4⟩
   | ct e3=>rw[eb] at f2;exact λσ4 H4 F4 r4 s4=>⟨F4,e3,r4,s13.trans s4,f2.mono s4⟩
   | bk e3=>rw[eb] at f2;exact λσ4 H4 F4 r4 s4=>f2 σ4 H4 F4 r4 s4
   | rt o d e3=>rw[eb] at f2;cases o<;>exact λv σ4 H4 F4 r4 s4 p4=>f2 v σ4 H4 F4 r4 s4 p4
   | stuck=>rw[eb] at f2;exact f2.elim
  ·rename_i hk;rw[if_neg hk];exact f2 σ' H1 F1 r1 (aR.refl F1)
end
end Ev
namespace L2
open PySem PySem.Spec PyProof.Rows
def Its(z:Str):It:=⟨λi _=>i<z.cps.size,λi H x H'=>H'=H/\∃c,z.cps[i]? = some c/\x = .str ⟨#[c]⟩,λi _=>z.cps.size<=i⟩
theorem Qs{P:Program}{w:World}{K:PySem.W.Frag}{tg:Expr}(it:Addr)(z:Str)(t:Tok):Turn P w K tg (Its z) [it] it (λi h=>h.IsStrIter it "str_ascii_iterator" z t i/\i<=z.cps.size) where
 mem:=by simp
 obj:=λi h st b hb=>by
  have e:b=it:=by simpa using hb
  subst e;obtain⟨⟨o,ho,hc,hd⟩,_⟩:=st;exact⟨o,ho,λv z=>by rw[hd] at z;cases z⟩
 keep:=λi h h' st k=>let ⟨⟨o,ho,r⟩,l⟩:=st;⟨⟨o,k it (by simp) o ho,r⟩,l⟩
 item:=by intro X hP hw hK hc i pins s σ H E I hf st hg;subst hP hw hK;obtain⟨f0,f1,f2,f3,f4,f5⟩:=hf it (by simp);have hg':i<z.cps.size:=hg;refine wpAny_pyNext_ascii_item st.1 (c:=z.cps[i]) (by simp[hg']) λh' hit' hs'=>?_;have I1:Inv X pins σ H { s with heap:=h',toks:=s.toks+1 }:=I.turned (λb o hb e=>hs'.extBut b o hb e) f0 f1 f3 f4 f5;obtain⟨o,ho,hcl,hda⟩:=hit';refine⟨_,rfl,Ei (s:={ s with heap:=h',toks:=s.toks+1 }) (n:="str_ascii_iterator") ho hcl hda (by decide) ⟨.str ⟨#[z.cps[i]]⟩,H,I1,⟨_,rfl⟩,⟨rfl,_,by simp[hg'],rfl⟩,⟨⟨o,ho,hcl,hda⟩,hg'⟩,λb hb=>(hf b hb).1⟩⟩
 done:=by intro X hP hw hK hc i pins s σ H E I hf st hg;subst hP hw hK;obtain⟨f0,f1,f2,f3,f4,f5⟩:=hf it (by simp);have hg':z.cps.size<=i:=hg;exact wpAny_pyNext_ascii_end (I.ok.hd hc) st.1 (by simp;omega) λh' eb=>⟨rfl,I.turned (t':=s.toks) (λb o hb e=>eb b o hb e) f0 f1 f3 f4 f5⟩
 self:=λ_ _ _ _ _ st h=>wpAny_pyIter_striter_ascii st.1 h
theorem Qq{P:Program}{w:World}{K:PySem.W.Frag}{tg:Expr}(it:Addr)(z:Str)(t:Tok):Turn P w K tg (Its z) [it] it (λi h=>h.IsStrIter it "str_iterator" z t i/\i<=z.cps.size) where
 mem:=by simp
 obj:=λi h st b hb=>by
  have e:b=it:=by simpa using hb
  subst e;obtain⟨⟨o,ho,hc,hd⟩,_⟩:=st;exact⟨o,ho,λv z=>by rw[hd] at z;cases z⟩
 keep:=λi h h' st k=>let ⟨⟨o,ho,r⟩,l⟩:=st;⟨⟨o,k it (by simp) o ho,r⟩,l⟩
 item:=by intro X hP hw hK hc i pins s σ H E I hf st hg;subst hP hw hK;obtain⟨f0,f1,f2,f3,f4,f5⟩:=hf it (by simp);have hg':i<z.cps.size:=hg;refine wpAny_pyNext_wide_item st.1 (c:=z.cps[i]) (by simp[hg']) λh' hit' hs'=>?_;have I1:Inv X pins σ H { s with heap:=h',toks:=s.toks+1 }:=I.turned (λb o hb e=>hs'.extBut b o hb e) f0 f1 f3 f4 f5;obtain⟨o,ho,hcl,hda⟩:=hit';refine⟨_,rfl,Ei (s:={ s with heap:=h',toks:=s.toks+1 }) (n:="str_iterator") ho hcl hda (by decide) ⟨.str ⟨#[z.cps[i]]⟩,H,I1,⟨_,rfl⟩,⟨rfl,_,by simp[hg'],rfl⟩,⟨⟨o,ho,hcl,hda⟩,hg'⟩,λb hb=>(hf b hb).1⟩⟩
 done:=by intro X hP hw hK hc i pins s σ H E I hf st hg;subst hP hw hK;obtain⟨f0,f1,f2,f3,f4,f5⟩:=hf it (by simp);have hg':z.cps.size<=i:=hg;exact wpAny_pyNext_wide_end (I.ok.hd hc) st.1 (by simp;omega) λh' eb=>⟨rfl,I.turned (t':=s.toks) (λb o hb e=>eb b o hb e) f0 f1 f3 f4 f5⟩
 self:=λ_ _ _ _ _ st h=>wpAny_pyIter_striter_wide st.1 h
section
variable{X:Cx}{tg:Expr}
def ahK(K:PySem.W.Frag)(tl:TE):TI:=λσ H R=>tl σ H λx H1=>(∃a,x = .ref a/\(∃xs,ju K H1 a xs)/\R (Itl K a) H1)\/(∃a,x = .ref a/\(∃xs,mK K H1 a xs)/\R (Itt K a) H1)\/∃z,x = .str z/\R (Its z) H1
def ach{l:Expr}{tl:TE}(hl:PE X l tl):PI X tg l (ahK X.K tl):=by
 intro pins s σ H R I h;refine fL (hl pins s σ H _ I h) λv s1 ⟨x,H1,I1,r1,q1⟩=>?_;have own:∀b ∈ [s1.heap.objs.size],sO X pins H1 b:=λb hb=>by
  have e:b=s1.heap.objs.size:=by simpa using hb
  subst e;exact I1.Gy (Qq0 _) (I1.hok.fresh (Qq0 _))
 rcases q1 with ⟨a,e,⟨xs,hq⟩,q⟩|⟨a,e,⟨xs,hq⟩,q⟩|⟨z,e,q⟩
 ·subst e;cases r1;obtain⟨its,rv,p,hz⟩:=I1.list hq;refine wpAny_pyIter_list p.isList ?_;exact⟨s1.heap.objs.size,[s1.heap.objs.size],_,_,H1,rfl,I1.kept (t':=s1.toks) λb o e=>Qqz _ e,Qt a _,⟨_,Qwj _ rfl,rfl,rfl⟩,own,q⟩
 ·subst e;cases r1;obtain⟨its,rv,p,hz⟩:=I1.tuple hq;refine wpAny_pyIter_tuple (show s1.heap.IsTuple a its.toArray from p) ?_;exact⟨s1.heap.objs.size,[s1.heap.objs.size],_,_,H1,rfl,I1.kept (t':=s1.toks) λb o e=>Qqz _ e,K6 a _,⟨_,Qwj _ rfl,rfl,rfl⟩,own,q⟩
 ·subst e;obtain⟨t,rfl⟩:=r1;cases ha:z.cps.all (·< 128)
  ·exact wpAny_pyIter_wide ha ⟨s1.heap.objs.size,[s1.heap.objs.size],_,_,H1,rfl,I1.kept (t':=s1.toks) λb o e=>Qqz _ e,Qq _ z t,⟨⟨_,Qwj _ rfl,rfl,rfl⟩,Qxy _⟩,own,q⟩
  ·exact wpAny_pyIter_ascii ha ⟨s1.heap.objs.size,[s1.heap.objs.size],_,_,H1,rfl,I1.kept (t':=s1.toks) λb o e=>Qqz _ e,Qs _ z t,⟨⟨_,Qwj _ rfl,rfl,rfl⟩,Qxy _⟩,own,q⟩
def aeg(lo c:Int)(n:Nat):It:=⟨λi _=>i<n,λi H x H'=>H'=H/\x = .int (lo+i*c),λi _=>n<=i⟩
theorem Hu{P:Program}{w:World}{K:PySem.W.Frag}{tg:Expr}(it:Addr)(lo c:Int)(n:Nat):Turn P w K tg (aeg lo c n) [it] it (λi h=>IsRangeIter h it (lo+(i:Nat)*c) ((n:Int) - (i:Nat)) c) where
 mem:=by simp
 obj:=λi h st b hb=>by
  have e:b=it:=by simpa using hb
  subst e;exact⟨_,st,λv z=>by
   have z':Data.fields _=Data.cell v:=z;cases z'⟩
 keep:=λi h h' st k=>k it (by simp) _ st
 item:=by intro X hP hw hK hc i pins s σ H E I hf st hg;subst hP hw hK;obtain⟨f0,f1,f2,f3,f4,f5⟩:=hf it (by simp);have W:=Walks.range (prog:=X.prog) (w:=X.w) (I.ok.hd hc) it lo c n;refine W.item i s _ _ hg st λv h' tk hv st' kk=>?_;obtain⟨t,rfl⟩:=hv;have I1:Inv X pins σ H { s with heap:=h',toks:=tk }:=I.turned (λb o hb e=>kk b o (by simpa using hb) e) f0 f1 f3 f4 f5;exact⟨_,rfl,Ei (s:={ s with heap:=h',toks:=tk }) (n:="range_iterator") st' rfl rfl (by decide) ⟨.int (lo+i*c),H,I1,⟨t,rfl⟩,⟨rfl,rfl⟩,st',λb hb=>(hf b hb).1⟩⟩
 done:=by intro X hP hw hK hc i pins s σ H E I hf st hg;subst hP hw hK;obtain⟨f0,f1,f2,f3,f4,f5⟩:=hf it (by simp);exact wpAny_pyNext_range_end (I.ok.hd hc) st (by have:n<=i:=hg;omega) λh' eb=>⟨rfl,I.turned (t':=s.toks) (λb o hb e=>eb b o hb e) f0 f1 f3 f4 f5⟩
 self:=λ_ _ _ _ _ st h=>wpAny_pyIter_rangeiter st h
def afY(ta:TA):TI:=λσ H R=>ta σ H λvs H1=>∃i j c:Int,vs=[.int i,.int j,.int c]/\c≠0/\c.natAbs<1073741824/\Builtin.Range.small i j c=true/\R (aeg i c (Builtin.Range.rangeSize i j c).toNat) H1
def Q5{a b c:Expr}{ta:TA}{p pos:Pos}(hg:Gl X "range")(hm:X.mg "range" = none)(ha:PA X [a,b,c] ta)(hs:starEach [a,b,c] X.env=[(false,eval a X.env),(false,eval b X.env),(false,eval c X.env)]:=by rfl)(hs2:starEach [b,c] X.env=[(false,eval b X.env),(false,eval c X.env)]:=by rfl) :
  PI X tg (.Call (.Name "range" p) [a,b,c] [] pos) (afY ta):=by
 intro pins s σ H R I h;refine Call_ (rO I hg hm boot_range (Qx8 (fL (ha pos pins s σ H _ I h) λus s1 ⟨vs,H1,I1,r1,q1⟩=>?_) (by rw[hs,hs2]) (by rw[hs2];rfl)));obtain⟨i,j,c,e,hc,hcs,hsm,q⟩:=q1;subst e;cases r1 with
 | cons r rr=>
  cases rr with
  | cons r' rr=>
   cases rr with
   | cons r'' rr=>
    cases rr;obtain⟨t,rfl⟩:=r;obtain⟨t',rfl⟩:=r';obtain⟨t'',rfl⟩:=r'';refine call_range_3 hc ?_ (.inl (PyProof.noPylong_small hcs));refine wpAny_pyIter_range (IsRange.new ..) hsm ?_;generalize ho:({ cls:=.type "range",data:=.fields #[.int i t,.int j t',.int c t''] }:Obj)=o;have I2:Inv X pins σ H1 { s1 with heap:=s1.heap.push o,toks:=s1.toks }:=I1.kept λb o e=>Qqz _ e;refine⟨(s1.heap.push o).objs.size,[(s1.heap.push o).objs.size],_,_,H1,rfl,I2.kept (t':=s1.toks) λb o e=>Qqz _ e,Hu _ i c (Builtin.Range.rangeSize i j c).toNat,?_,λb hb=>?_,q⟩
    ·have e1:i+((0:Nat):Int)*c=i:=by simp
     have e2:(((Builtin.Range.rangeSize i j c).toNat:Nat):Int) - ((0:Nat):Int)=Builtin.Range.rangeSize i j c:=by have:=PyProof.Rows.rangeSize_toNat i j c;omega
     show IsRangeIter _ _ (i+((0:Nat):Int)*c) (((Builtin.Range.rangeSize i j c).toNat:Int) - ((0:Nat):Int)) c;rw[e1,e2];exact Qwj _ rfl
    ·have e:b=(s1.heap.push o).objs.size:=by simpa using hb
     subst e;exact I2.Gy (Qq0 _) (I2.hok.fresh (Qq0 _))
end
end L2
namespace Ev
open PySem PySem.Spec PyProof.Rows L2
section
variable{X:Cx}{C:Cfg}{pos:Pos}{tg:Expr}
def gB(x:List Nat):List D:=x.map λc=>.str [c]
def Kw{F:Hp}{a:Addr}{vs:List V}{ds:List D}(h:mK C.K F a vs)(p:bU C.K F ds vs):qt C.K F ds (Itt C.K a):=λi H s=>by
 refine⟨λ_ e=>⟨vs,aR.tupK s h,by rw[p.length,e];exact Qq0 _⟩,λd hd=>?_⟩;obtain⟨v,h1,h2⟩:=p.get hd;refine⟨⟨vs,v,aR.tupK s h,h1⟩,λx H' hy=>.inl ⟨hy.1,?_⟩⟩;have:=hy.2 vs (aR.tupK s h);rw[h1] at this;cases this;exact h2
def Ky{F:Hp}{x:List Nat}:qt C.K F (gB x) (Its (strOf x)):=λi H s=>by
 refine⟨λ_ e=>?_,λd hd=>?_⟩
 ·show x.toArray.size<=i;rw[e];simp[gB]
 ·unfold gB at hd;rw[Qwv] at hd;obtain⟨c,hc,rfl⟩:=Qq6.mp hd;refine⟨?_,λv H' hy=>.inl ⟨hy.1,?_⟩⟩
  ·show i<x.toArray.size;have:=(Qq4.mp hc).1
   simpa using this
  ·obtain⟨c',h1,rfl⟩:=hy.2;have h2:x[i]? = some c':=by simpa[strOf] using h1
   rw[hc] at h2;cases h2;exact⟨rfl,by show 1<=sizeLine;decide⟩
def itD:D->Option (List D)
 | .lst xs=>some xs
 | .arr xs=>some xs
 | .tup xs=>some xs
 | .str x=>some (gB x)
 | _=>none
def dW(a:Ev):dI:=λenv=>bindR (a env) λd aL=>jf (itD d) aL
def Yr{l:Expr}{a:Ev}(hK:X.K=C.K)(h:PX X C l a):Sg X C tg l (dW a):=(ach h).imp λσ H R hq=>by
 obtain⟨Pr,F,env,env',ds,r,e,q⟩:=hq;obtain⟨d,aL,e1,e2⟩:=bf e;obtain⟨e3,rfl⟩:=fD e2;refine⟨Pr,F,env,env',d,r,e1,λv H1 F1 r1 s1 p1=>?_⟩;rw[hK];cases d with
 | lst xs=>
  cases e3;obtain⟨z,a,vs,rfl,g1,g2⟩:=p1;refine .inl ⟨a,rfl,⟨vs,ju.of (r1.fr _ _ g1)⟩,q _ H1 F1 r1 s1 λi H s=>?_⟩;refine⟨λ_ e=>⟨vs,ju.of (s _ _ g1),by rw[g2.length,e];exact Qq0 _⟩,λd hd=>?_⟩;obtain⟨v,h1,h2⟩:=g2.get hd;refine⟨⟨vs,v,ju.of (s _ _ g1),h1⟩,λx H' hy=>.inl ⟨hy.1,?_⟩⟩;have:=hy.2 vs (ju.of (s _ _ g1));rw[h1] at this;cases this;exact h2
 | arr xs=>
  cases e3;obtain⟨z,a,vs,rfl,g1,g2⟩:=p1;refine .inl ⟨a,rfl,⟨vs,r1.fr.seq g1⟩,q _ H1 F1 r1 s1 λi H s=>?_⟩;refine⟨λ_ e=>⟨vs,s.seq g1,by rw[g2.length,e];exact Qq0 _⟩,λd hd=>?_⟩;obtain⟨v,h1,h2⟩:=g2.get hd;refine⟨⟨vs,v,s.seq g1,h1⟩,λx H' hy=>.inl ⟨hy.1,?_⟩⟩;have:=hy.2 vs (s.seq g1);rw[h1] at this;cases this;exact h2
 | tup xs=>
  cases e3;obtain⟨z,a,vs,rfl,g1,g2⟩:=p1;exact .inr (.inl ⟨a,rfl,⟨vs,aR.tupK r1.fr g1⟩,q _ H1 F1 r1 s1 (Kw g1 g2)⟩)
 | str x=>
  cases e3;obtain⟨rfl,z⟩:=p1;exact .inr (.inr ⟨_,rfl,q _ H1 F1 r1 s1 Ky⟩)
 | _=>cases e3
def gf(lo c:Int)(n:Nat):List D:=(List.range n).map λ(i:Nat)=>.int (lo+i*c)
def kJ(lo c:Int)(n:Nat):(gf lo c n).length=n:=by simp[gf]
def z6{lo c:Int}{n i:Nat}{d:D}(h:(gf lo c n)[i]? = some d):i<n/\d = .int (lo+i*c):=by
 have hi:i<n:=by
  have:=(Qq4.mp h).1
  rwa [kJ] at this
 refine⟨hi,?_⟩;unfold gf at h;rw[Qwv,List.getElem?_range hi] at h;cases h;rfl
def Kz{F:Hp}{lo:Int}{n:Nat}:qt C.K F (gf lo 1 n) (Itr lo n):=λi H s=>by
 refine⟨λ_ e=>by show n<=i;rw[e,kJ];exact Qq0 _,λd hd=>?_⟩;obtain⟨hi,rfl⟩:=z6 hd;refine⟨hi,λx H' hy=>.inl ⟨hy.1,?_⟩⟩;show x = .int _;rw[Int.mul_one];exact hy.2
def Ho{F:Hp}{lo c:Int}{n:Nat}:qt C.K F (gf lo c n) (aeg lo c n):=λi H s=>by
 refine⟨λ_ e=>by show n<=i;rw[e,kJ];exact Qq0 _,λd hd=>?_⟩;obtain⟨hi,rfl⟩:=z6 hd;exact⟨hi,λx H' hy=>.inl ⟨hy.1,hy.2⟩⟩
def lD(j:Int):Bool:=decide (-(2^62)<=j)&&decide (j<2^62)
def LQ{j:Int}(h:lD j=true) : -(2^62)<=j/\j<2^62:=by unfold lD at h;rw[Qjz] at h;exact⟨Qxk h.1,Qxk h.2⟩
def yS:List D->Option (List D)
 | [.int j]=>if lD j=true then some (gf 0 1 j.toNat) else none
 | [.int i,.int j]=>if lD i=true/\lD j=true then some (gf i 1 (j - i).toNat) else none
 | [.int i,.int j,.int c]=>if c≠0/\c.natAbs<1073741824/\Builtin.Range.small i j c=true then some (gf i c (Builtin.Range.rangeSize i j c).toNat) else none
 | _=>none
def iV(a:dI):dI:=λenv=>bindR (a env) λds aL=>jf (yS ds) aL
def bU.ahH{F:Hp}{i:Int}{vs:List V}(h:bU C.K F [.int i] vs):vs=[.int i]:=by obtain⟨v,r,rfl,h1,h2⟩:=h;cases h1;cases h2;rfl
def bU.ahG{F:Hp}{i j k:Int}{vs:List V}(h:bU C.K F [.int i,.int j,.int k] vs):vs=[.int i,.int j,.int k]:=by obtain⟨v,r,rfl,h1,v',r',rfl,h2,v'',r'',rfl,h3,h4⟩:=h;cases h1;cases h2;cases h3;cases h4;rfl
def Mi{a:Expr}{ea:dI}{p pos:Pos}(hg:Gl X "range")(hm:X.mg "range" = none)(ha:Kr X C [a] ea)(hl:∀env ds env',ea env = .ok ds env'->ds.length=1)(hs:starEach [a] X.env=[(false,eval a X.env)]:=by rfl):Sg X C tg (.Call (.Name "range" p) [a] [] pos) (iV ea):=
 (Q6 hg hm ha hs).imp λσ H R hq=>by
  obtain⟨Pr,F,env,env',ds,r,e,q⟩:=hq;obtain⟨as,aL,e1,e2⟩:=bf e;obtain⟨e3,rfl⟩:=fD e2;refine⟨Pr,F,env,env',as,r,e1,λvs H1 F1 r1 s1 p1=>?_⟩;have:=hl _ _ _ e1;unfold yS at e3;split at e3
  ·split at e3
   ·rename_i hf;cases e3;have hb:=LQ hf;exact⟨_,p1.ahH,hb.1,hb.2,q _ H1 F1 r1 s1 Kz⟩
   ·cases e3
  ·simp at this
  ·simp at this
  ·cases e3
def Mh{a b c:Expr}{ea:dI}{p pos:Pos}(hg:Gl X "range")(hm:X.mg "range" = none)(ha:Kr X C [a,b,c] ea)(hl:∀env ds env',ea env = .ok ds env'->ds.length=3)(hs:starEach [a,b,c] X.env=[(false,eval a X.env),(false,eval b X.env),(false,eval c X.env)]:=by rfl)(hs2:starEach [b,c] X.env=[(false,eval b X.env),(false,eval c X.env)]:=by rfl):Sg X C tg (.Call (.Name "range" p) [a,b,c] [] pos) (iV ea):=
 (Q5 hg hm ha hs hs2).imp λσ H R hq=>by
  obtain⟨Pr,F,env,env',ds,r,e,q⟩:=hq;obtain⟨as,aL,e1,e2⟩:=bf e;obtain⟨e3,rfl⟩:=fD e2;refine⟨Pr,F,env,env',as,r,e1,λvs H1 F1 r1 s1 p1=>?_⟩;have:=hl _ _ _ e1;unfold yS at e3;split at e3
  ·simp at this
  ·simp at this
  ·split at e3
   ·rename_i hf;cases e3;exact⟨_,_,_,p1.ahG,hf.1,hf.2.1,hf.2.2,q _ H1 F1 r1 s1 Ho⟩
   ·cases e3
  ·cases e3
def RC(env:Env)(ds:List D)(env':Env)(h:ak env = .ok ds env'):ds.length=0:=by cases h;rfl
def M4{a:Ev}{r:dI}{n:Nat}(hr:∀env ds env',r env = .ok ds env'->ds.length=n)(env:Env)(ds:List D)(env':Env)(h:aa a r env = .ok ds env'):ds.length=n+1:=by obtain⟨d,aL,e1,e2⟩:=bf h;obtain⟨ds2,dX,e3,e4⟩:=bf e2;cases e4;rw[Qqw,hr _ _ _ e3]
def bU.uf{F:Hp}{K:Fg}{ds:List D}{vs:List V}{k:Int}{d:D}(h:bU K F ds vs)(e:L2.uf ds k=some d):∃v,L2.uf vs k=some v/\Rep K F d v:=by unfold L2.uf at e ⊢;rw[h.length];obtain⟨j,h1,h2⟩:=Qx1.mp e;obtain⟨v,h3,h4⟩:=h.get h2;exact⟨v,by rw[h1];exact h3,h4⟩
def dH:D->D->Option D
 | .lst xs,.int k=>uf xs k
 | .arr xs,.int k=>uf xs k
 | .tup xs,.int k=>uf xs k
 | .str x,.int k=>(uf x k).map λc=>.str [c]
 | _,_=>none
def aaV:qM C (rIx C.K) dH:=by
 intro Pr F env σ H x y d vx vy Q r px py e q;unfold dH at e;split at e
 ·obtain⟨z,a,vs,rfl,h1,h2⟩:=px.lst r.fr;cases py.int;obtain⟨v,e1,p1⟩:=h2.uf e;exact .inl ⟨a,vs,_,v,rfl,rfl,ju.of h1,e1,q _ _ F r (aR.refl F) p1⟩
 ·obtain⟨z,a,vs,rfl,h1,h2⟩:=px.arr r.fr;cases py.int;obtain⟨v,e1,p1⟩:=h2.uf e;exact .inl ⟨a,vs,_,v,rfl,rfl,h1,e1,q _ _ F r (aR.refl F) p1⟩
 ·obtain⟨z,a,vs,rfl,h1,_,h2⟩:=px.tup r.fr;cases py.int;obtain⟨v,e1,p1⟩:=h2.uf e;exact .inr (.inl ⟨a,vs,_,v,rfl,rfl,h1,e1,q _ _ F r (aR.refl F) p1⟩)
 ·obtain⟨rfl,z⟩:=px.str;cases py.int;obtain⟨c,e1,rfl⟩:=Qq6.mp e;exact .inr (.inr ⟨_,_,c,rfl,rfl,by simpa[strOf,Str.length] using z,by simpa[strOf] using e1,q _ _ F r (aR.refl F) ⟨rfl,by show 1<=sizeLine;decide⟩⟩)
 ·cases e
def afg{x y:Expr}{a b:Ev}(hK:X.K=C.K)(ha:PX X C x a)(hb:Nj X C y b)(hs:wK y:=by intro _ _;rfl):PX X C (.Subscript x y pos) (aO dH a b):=by have h:=(aaS (pos:=pos) V1 ha hb hs);rw[hK] at h;exact h.imp (G6 aaV)
def ab6{y:Expr}{b:Ev}{px:Pos}(i:Nat){x:Str}(hK:X.K=C.K)(hN:X.N[i]? = some x)(hv:tR X.env.scope x)(hb:Nj X C y b)(hs:wK y:=by intro _ _;rfl)
  (hd:mU x:=by decide) (hcd:uG x:=by decide):PX X C (.Subscript (.Name x px) y pos) (aB dH i b):=by
 have h:=(aaS (pos:=pos) V1 (jY (pos:=px) hN hv hd hcd) hb hs);rw[hK] at h;exact h.imp (tK aaV)
def cutD{α:Type}(xs:List α)(lo hi:Option Int):List α:=(xs.drop (HT.fM xs.length 0 lo)).take (HT.fM xs.length xs.length hi - HT.fM xs.length 0 lo)
def su{α:Type}(xs:List α)(lo hi:Option Int):(cutD xs lo hi).length<=xs.length:=by unfold cutD;rw[Qzj,Qzk];omega
def bU.cut{F:Hp}{K:Fg}{ds:List D}{vs:List V}(h:bU K F ds vs)(lo hi:Option Int):bU K F (cutD ds lo hi) (za vs lo hi):=by unfold cutD za;rw[h.length];exact bU.take _ (bU.drop _ h)
abbrev Xm:=Env->R (Option Int)
def tP(C:Cfg)(ev:Xm):TO:=λσ H Q=>∃(Pr F:Hp) (env env':Env) (o:Option Int),Rel C Pr F env σ H/\ev env = .ok o env'/\∀H' F',Rel C Pr F' env' σ H'->aR F F'->Q o H'
def PXP(X:Cx)(C:Cfg)(e:Option Expr)(ev:Xm):Prop:=PO X e (tP C ev)
def _root_.L2.PO.imp{X:Cx}{e:Option Expr}{t t':TO}(h:PO X e t)(i:∀σ H Q,t' σ H Q->t σ H Q):PO X e t':=λpins s σ H Q I q=>h pins s σ H Q I (i σ H Q q)
def pI:Xm:=λenv=>.ok none env
def zK(a:Ev):Xm:=λenv=>bindR (a env) λd aL=>match d with
 | .int i=>.ok (some i) aL
 | _=>.stuck
def Ui:PXP X C none pI:=YB.imp λσ H Q h=>by
 obtain⟨Pr,F,env,env',d,r,e,q⟩:=h;cases e;exact q H F r (aR.refl F)
def gSl:D->Option Int->Option Int->Option D
 | .lst xs,lo,hi=>some (.lst (cutD xs lo hi))
 | .arr xs,lo,hi=>some (.lst (cutD xs lo hi))
 | .tup xs,lo,hi=>if HT.fM xs.length 0 lo=0/\HT.fM xs.length xs.length hi=xs.length then none else some (.tup (cutD xs lo hi))
 | _,_,_=>none
def xR(a:Ev)(lo hi:Xm):Ev:=λenv=>bindR (a env) λd aL=>bindR (lo aL) λl dX=>bindR (hi dX) λu RG=>jf (gSl d l u) RG
def Tj{Pr F:Hp}{env:Env}{σ:L2.St}{H:Hp}{x d:D}{v:V}{lo hi:Option Int}{Q:VK}(r:Rel C Pr F env σ H)(p:gD C.K F H x v)(e:gSl x lo hi=some d)(q:∀v H' F',Rel C Pr F' env σ H'->aR F F'->Rep C.K F' d v->Q v H') :
  aeY C.K v lo hi H Q\/abW C.K v lo hi H Q:=by
 unfold gSl at e;split at e
 ·cases e;obtain⟨z,a,vs,rfl,h1,h2⟩:=p.lst r.fr;refine .inl ⟨a,vs,rfl,ju.of h1,λb hb=>?_⟩;obtain⟨r2,s2⟩:=r.new (o:=.lst (za vs lo hi)) hb;exact q _ _ _ r2 s2 ⟨Qq3 (su _ _ _) z,b,_,rfl,bh,bU.mono s2 _ _ (h2.cut lo hi)⟩
 ·cases e;obtain⟨z,a,vs,rfl,h1,h2⟩:=p.arr r.fr;refine .inl ⟨a,vs,rfl,h1,λb hb=>?_⟩;obtain⟨r2,s2⟩:=r.new (o:=.lst (za vs lo hi)) hb;exact q _ _ _ r2 s2 ⟨Qq3 (su _ _ _) z,b,_,rfl,bh,bU.mono s2 _ _ (h2.cut lo hi)⟩
 ·obtain⟨z,a,vs,rfl,h1,_,h2⟩:=p.tup r.fr;split at e
  ·cases e
  ·rename_i hn;cases e;refine .inr ⟨a,vs,rfl,h1,by rw[h2.length];exact hn,λb hb=>?_⟩;obtain⟨r2,s2⟩:=r.new (o:=.tup (za vs lo hi)) hb;exact q _ _ _ r2 s2 ⟨Qq3 (su _ _ _) z,b,_,rfl,mK.of bh,bU.mono s2 _ _ (h2.cut lo hi)⟩
 ·cases e
def afd{x:Expr}{lo hi:Option Expr}{a:Ev}{el eh:Xm}{p2:Pos}(hK:X.K=C.K)(ha:PX X C x a)(hl:PXP X C lo el)(hh:PXP X C hi eh):PX X C (.Subscript x (.Slice lo hi none p2) pos) (xR a el eh):=by have h:=Jb (pos:=pos) (p2:=p2) (Qj.or NZ Ln) ha hl hh;rw[hK] at h;refine h.imp λσ H Q hq=>?_;obtain⟨Pr,F,env,env',d,r,e,q⟩:=hq;obtain⟨x,aL,e1,e2⟩:=bf e;obtain⟨l,dX,e3,e4⟩:=bf e2;obtain⟨u,RG,e5,e6⟩:=bf e4;obtain⟨e7,rfl⟩:=fD e6;refine⟨Pr,F,env,aL,x,r,e1,λv H1 F1 r1 s1 p1=>⟨Pr,F1,aL,dX,l,r1,e3,λH2 F2 r2 s2=>⟨Pr,F2,dX,env',u,r2,e5,λH3 F3 r3 s3=>?_⟩⟩⟩;exact Tj r3 (.inl (Rep.mono (s2.trans s3) _ _ p1)) e7 λv H' F' r' s' p'=>q v H' F' r' (((s1.trans s2).trans s3).trans s') p'
def jQ(kvs:List (D×D))(q:Key):Option D:=match kvs with
 | []=>none
 | (k,d)::r=>if mD k=some q then some d else jQ r q
def yP(kvs:List (D×D))(q:Key)(d:D):List (D×D):=match kvs with
 | []=>[]
 | (k,e)::r=>(if mD k=some q then (k,d) else (k,e))::yP r q d
def putD(kvs:List (D×D))(k:D)(q:Key)(d:D):List (D×D):=if (jQ kvs q).isSome then yP kvs q d else kvs++[(k,d)]
theorem dR.length{K:Fg}{F:Hp}:∀{ds:List (D×D)} {vs:List (Key×V)},dR K F ds vs->vs.length=ds.length
 | [],_,h=>by cases h;rfl
 | (k,d)::ds,vs,h=>by
  obtain⟨q,v,r,rfl,_,_,h2⟩:=h;rw[Qqw,Qqw,h2.length]
theorem dR.val{K:Fg}{F:Hp}(q:Key):∀{ds:List (D×D)} {vs:List (Key×V)},dR K F ds vs->(jQ ds q=none/\qR vs q=none)\/∃d v,jQ ds q=some d/\qR vs q=some v/\Rep K F d v
 | [],_,h=>by cases h;exact .inl ⟨rfl,rfl⟩
 | (k,d)::ds,vs,h=>by
  obtain⟨q',v,r,rfl,hk,h1,h2⟩:=h;unfold jQ;by_cases e:q'=q
  ·subst e;rw[if_pos hk];exact .inr ⟨d,v,rfl,uU rfl,h1⟩
  ·rw[if_neg (λz=>e (Qw2 (hk.symm.trans z))),uV (p:=(q',v)) e];exact dR.val q h2
theorem dR.set{K:Fg}{F:Hp}(q:Key){d:D}{v:V}(hd:Rep K F d v):∀{ds:List (D×D)} {vs:List (Key×V)},dR K F ds vs->dR K F (yP ds q d) (vs.map λkv=>if kv.1=q then (kv.1,v) else kv)
 | [],_,h=>by cases h;exact rfl
 | (k,e)::ds,vs,h=>by
  obtain⟨q',u,r,rfl,hk,h1,h2⟩:=h;unfold yP;by_cases e':q'=q
  ·subst e';rw[if_pos hk];refine⟨q',v,_,?_,hk,hd,dR.set q' hd h2⟩;rw[Qq8,if_pos rfl]
  ·rw[if_neg (λz=>e' (Qw2 (hk.symm.trans z)))];refine⟨q',u,_,?_,hk,h1,dR.set q hd h2⟩;rw[Qq8,if_neg e']
theorem dR.append{K:Fg}{F:Hp}:∀{ds es:List (D×D)} {vs ws:List (Key×V)},dR K F ds vs->dR K F es ws->dR K F (ds++es) (vs++ws)
 | [],es,vs,ws,h,g=>by cases h;exact g
 | (k,d)::ds,es,vs,ws,h,g=>by
  obtain⟨q,v,r,rfl,h0,h1,h2⟩:=h;exact⟨q,v,r++ws,rfl,h0,h1,dR.append h2 g⟩
theorem HY(q:Key)(d:D):∀kvs:List (D×D),(yP kvs q d).length=kvs.length
 | []=>rfl
 | (k,e)::r=>by unfold yP;rw[Qqw,Qqw,HY q d r]
def IV(kvs:List (D×D))(k:D)(q:Key)(d:D):(putD kvs k q d).length<=kvs.length+1:=by
 unfold putD;split
 ·rw[HY];omega
 ·rw[Qqj];exact Qq0 _
def dR.put{K:Fg}{F:Hp}{ds:List (D×D)}{vs:List (Key×V)}{k:D}{q:Key}{d:D}{v:V}(h:dR K F ds vs)(hk:mD k=some q)(hd:Rep K F d v):dR K F (putD ds k q d) (putK vs q v):=by
 unfold putD putK;rw[zV];rcases h.val q with ⟨e1,e2⟩|⟨d',v',e1,e2,_⟩
 ·rw[e1,e2];exact h.append ⟨q,v,[],rfl,hk,hd,rfl⟩
 ·rw[e1,e2];exact dR.set q hd h
def My{K:Fg}{F:Hp}{k:D}{q:Key}{v:V}(h:mD k=some q)(p:Rep K F k v):v=kV q:=by
 cases k with
 | int i=>cases h;exact p
 | str x=>cases h;exact p.1
 | _=>cases h
def Gv{K:Fg}{F H:Hp}{k:D}{q:Key}{v:V}(h:mD k=some q)(p:gD K F H k v):v=kV q:=by
 cases k with
 | int i=>cases h;exact p.int
 | str x=>cases h;exact p.str.1
 | _=>cases h
def gD.dct{K:Fg}{F H:Hp}{kvs:List (D×D)}{v:V}(s:aR F H)(h:gD K F H (.dct kvs) v):kvs.length<=sizeLine/\∃a ks,v = .ref a/\Rd H a (.dK ks)/\dR K F kvs ks:=by
 rcases h with ⟨z,a,vs,rfl,h1,h2⟩|⟨a,rfl,z,vs,h1,h2⟩
 ·exact⟨z,a,vs,rfl,aR.rd s h1,h2⟩
 ·exact⟨z,a,vs,rfl,.inl h1,h2⟩
def aaN:R2:=λx y H Q=>∃a v,x = .ref a/\Dk H a y (some v)/\Q v H
def jq:D->D->Option D
 | .dct kvs,k=>(mD k).bind λq=>jQ kvs q
 | _,_=>none
def Y8:qM C aaN jq:=by
 intro Pr F env σ H x y d vx vy Q r px py e q;unfold jq at e;split at e
 ·obtain⟨z,a,ks,rfl,h1,h2⟩:=px.dct r.fr;obtain⟨k,hk,hv⟩:=Qx1.mp e;cases Gv hk py;rcases h2.val k with ⟨e1,_⟩|⟨d',v',e1,e2,p2⟩
  ·rw[e1] at hv;cases hv
  ·rw[e1] at hv;cases hv;exact⟨a,v',rfl,.inl ⟨ks,k,h1,rfl,e2.symm⟩,q _ _ F r (aR.refl F) p2⟩
 ·cases e
def Us{y:Expr}{b:Ev}{px:Pos}(i:Nat){x:Str}(hu:X.A.units+1<cLine)(hN:X.N[i]? = some x)(hv:tR X.env.scope x)(hb:Nj X C y b)(hs:Nk y:=by intro _ _;rfl)
  (hd:mU x:=by decide) (hcd:uG x:=by decide):PX X C (.Subscript (.Name x px) y pos) (aB jq i b):=by
 have h:PE X (.Subscript (.Name x px) y pos) (XQ aaN _ _):=YQ (pos:=pos) hu (jY (pos:=px) hN hv hd hcd) hb hs;exact h.imp (tK Y8)
def GP:Ev:=λenv=>.ok (.dct []) env
def Uk:R6 X C (.Dict [] [] pos) GP:=Va.imp λσ H Q hq=>by
 obtain⟨Pr,F,env,env',d,r,e,q⟩:=hq;cases e;exact λp hp=>q _ _ F (r.fresh hp) (aR.refl F) (Xg.of r hp ⟨Qxy _,[],bh,rfl⟩)
def oV(i:Nat)(k a:Ev):cu:=λenv=>iW (a env) λd aL=>match aL[i]? with
 | some (some (_,_))=>iW (k aL) λkd dX=>(match dX[i]?,mD kd with
  | some (some (true,.dct kvs)),some q=>if kvs.length<sizeLine then .nx (dX.set i (some (true,.dct (putD kvs kd q d)))) else .stuck
  | _,_=>.stuck)
 | _=>.stuck
def Uh{i:Nat}{x:Str}{k e:Expr}{ek a:Ev}{px pos':Pos}(hu:X.A.units+1<cLine)(hN:X.N[i]? = some x)(hv:tR X.env.scope x)(hk:PX X C k ek)(he:PX X C e a)
  (hs:swapsWith e (some (.Subscript (.Name x px) k pos')) pos.line X.env=pure false:=by rfl)
  (hd:mU x:=by decide) (hcd:uG x:=by decide):Xf X C (.Assign [.Subscript (.Name x px) k pos'] e pos) (oV i ek a):=
 (Yx hu (jY hN hv hd hcd) hk he hs).imp λD σ H h=>by
  obtain⟨Pr,F,env,r,f⟩:=h;obtain⟨d,aL,e1,f1⟩:=dF f;refine⟨Pr,F,env,aL,d,r,e1,λv H1 F1 r1 s1 p1=>?_⟩;split at f1
  ·rename_i o0 d0 h0;obtain⟨v0,hv0,_⟩:=r1.rd h0;obtain⟨kd,dX,e2,f2⟩:=dF f1;refine⟨v0,hv0,Pr,F1,aL,dX,kd,r1,e2,λvk H2 F2 r2 s2 p2=>?_⟩;split at f2
   ·rename_i kvs q h2 hq;split at f2
    ·rename_i hz;obtain⟨b,g1,⟨z,ks,g2,g3⟩,g4,g5⟩:=r2.own i _ h2;rw[hv0] at g1;cases g1;have hz':ks.length<sizeLine:=by rw[g3.length];exact hz
     cases My hq p2;refine⟨b,_,rfl,Xn.k g2 hz',?_⟩;refine f2 σ _ F2 (r2.write h2 hv0 ⟨Qq3 (IV _ _ _ _) hz,_,bh,g3.put hq (Rep.mono s2 _ _ p1)⟩) (s1.trans s2)
    ·exact f2.elim
   ·exact f2.elim
  ·exact f1.elim
def Rr(x:List Nat):List (List Nat)->List (List Nat)
 | []=>[x]
 | y::r=>if y<x then y::Rr x r else x::y::r
def jl:List (List Nat)->List (List Nat)
 | []=>[]
 | x::r=>Rr x (jl r)
theorem xO(x:List Nat):∀l,(Rr x l).Perm (x::l)
 | []=>.refl _
 | y::r=>by
  unfold Rr;split
  ·exact((xO x r).cons y).trans (.swap x y r)
  ·exact .refl _
theorem iG:∀l,(jl l).Perm l
 | []=>.refl _
 | x::r=>(xO x (jl r)).trans ((iG r).cons x)
theorem yq(x:List Nat):∀l,l.Pairwise (λa b=>a<=b)->(Rr x l).Pairwise (λa b=>a<=b)
 | [],_=>List.pairwise_singleton _ _
 | y::r,h=>by
  unfold Rr;have h1:=Qvq.mp h;split
  ·rename_i hyx;refine Qvq.mpr ⟨λz hz=>?_,yq x r h1.2⟩;rcases Qq1.mp ((xO x r).mem_iff.mp hz) with rfl|hz
   ·exact List.le_of_lt hyx
   ·exact h1.1 z hz
  ·rename_i hyx;have hxy:x<=y:=List.not_lt.mp hyx;refine Qvq.mpr ⟨λz hz=>?_,h⟩;rcases Qq1.mp hz with rfl|hz
   ·exact hxy
   ·exact List.le_trans hxy (h1.1 z hz)
theorem vd:∀l,(jl l).Pairwise (λa b=>a<=b)
 | []=>.nil
 | x::r=>yq x _ (vd r)
theorem DG:∀(p:Str) (l:List Str),risingS p l=true->(p::l).Pairwise (λa b=>a.cps.toList<=b.cps.toList)
 | p,[],_=>List.pairwise_singleton _ _
 | p,x::r,h=>by
  have h':(!Spec.ltCps x.cps.toList p.cps.toList&&risingS x r)=true:=h;rw[Qjz,PyProof.Rows.ltCps_eq] at h';have hxp:¬x.cps.toList<p.cps.toList:=by
   have:=h'.1
   simpa using this
  have ih:=DG x r h'.2;refine Qvq.mpr ⟨λz hz=>?_,ih⟩;have hpx:p.cps.toList<=x.cps.toList:=List.not_lt.mp hxp;rcases Qq1.mp hz with rfl|hz
  ·exact hpx
  ·exact List.le_trans hpx ((Qvq.mp ih).1 z hz)
theorem QB:∀(l:List Str),sortedS l=true->l.Pairwise (λa b=>a.cps.toList<=b.cps.toList)
 | [],_=>.nil
 | x::r,h=>DG x r h
def Qx(s:Str):strOf s.cps.toList=s:=by obtain⟨c⟩:=s;simp[strOf]
def Ft{xs:List (List Nat)}{ss ss':List Str}(e:ss=xs.map strOf)(hp:ss'.Perm ss)(hs:sortedS ss'=true):ss'=(jl xs).map strOf:=by
 subst e;have h1:(ss'.map λs=>s.cps.toList).Perm xs:=by
  have:=hp.map (λs:Str=>s.cps.toList);rw[Qxj] at this;have e2:xs.map ((λs:Str=>s.cps.toList) ∘ strOf)=xs:=by rw[Qx9 (g:=id) (λx _=>by simp[strOf])];simp
  rwa [e2] at this
 have h2:(ss'.map λs=>s.cps.toList)=jl xs:=by refine List.Perm.eq_of_pairwise (le:=λa b=>a<=b) (λa b _ _=>List.le_antisymm) ?_ (vd xs) (h1.trans (iG xs).symm);exact List.pairwise_map.mpr (QB ss' hs)
 rw[<-h2,Qxj];have e3:∀l:List Str,l.map (strOf ∘ λs=>s.cps.toList)=l:=λl=>by
  induction l with
  | nil=>rfl
  | cons a r ih=>rw[Qq8,ih];show strOf a.cps.toList::r=a::r;rw[Qx]
 exact(e3 ss').symm
theorem uT:∀{us:List Value} {ss:List Str},StrsAre us ss->Vals (ss.map V.str) us
 | _,_,.nil=>.nil
 | _,_,.cons y t h=>.cons ⟨t,rfl⟩ (uT h)
theorem vq{K:Fg}{F:Hp}:∀(xs:List (List Nat)),(∀x∈xs,x.length<=sizeLine)->bU K F (xs.map D.str) (xs.map λz=>V.str (strOf z))
 | [],_=>rfl
 | x::xs,h=>⟨_,_,rfl,⟨rfl,h x (Qqv ..)⟩,vq xs λy hy=>h y (Qqk _ hy)⟩
def Gd(K:Fg):List V->Hp->VK->Prop:=λxs H Q=>∃p zs,xs=[.ref p]/\(ju K H p (zs.map λz=>V.str (strOf z))\/∃ks,Rd H p (.dK ks)/\ks.map (·.1)=zs.map λz=>Sum.inr (strOf z))/\zs.length<64/\∀l,H l=none->Q (.ref l) (upd H l (.lst ((jl zs).map λz=>V.str (strOf z))))
def HW{pins:List (Addr×Obj)}{s:Shared}{σ:L2.St}{H:Hp}{Q:VK}{zs:List (List Nat)}{out:Array Value}{ss':List Str}{a:Addr}{e:Nat}{h':Heap}{tk:Nat}(I:Inv X pins σ H s)(hz:zs.length<64)(q:∀l,H l=none->Q (.ref l) (upd H l (.lst ((jl zs).map λz=>V.str (strOf z)))))
  (a1:StrsAre out.toList ss') (a2:ss'.Perm (zs.map strOf)) (a3:sortedS ss'=true) (hk:∀b o,s.heap.get? b=some o->h'.get? b=some o) (ha:s.heap.objs.size<=a) (ho:h'.get? a=some (seqObj "list" out e)):EP X pins σ Q (.ref a) { s with heap:=h',toks:=tk }:=by
 have e1:=Ft rfl a2 a3;subst e1;have rv:=uT a1;rw[Qxj] at rv;have hl:((jl zs).map λz=>V.str (strOf z)).length<=sizeLine:=by rw[Qqx,(iG zs).length_eq];exact Qq3 (Qv0 hz) (by decide)
 exact⟨.ref a,_,I.laid (t':=tk) hk ha (show gH X.prog X.w _ h' a (.lst ((jl zs).map λz=>V.str (strOf z))) from⟨hl,out.toList,e,rv,by simpa[seqObj] using ho⟩),rfl,q a (I.hok.fresh ha)⟩
def J9(hc:X.calm=true):jg X (.builtin "sorted") (Gd X.K):=by
 intro pins s σ H xs us Q I r h;obtain⟨p,zs,rfl,hq,hz,q⟩:=h;obtain⟨u,rfl,rx⟩:=vals1 r;cases rx;rcases hq with hq|⟨ks,hq,hks⟩
 ·obtain⟨its,r',pl,hzz⟩:=I.list hq;have hS:StrsAre its (zs.map strOf):=wN r';refine sorted_strs pl.isList hS (by rw[<-r'.length,Qqx];exact hz) λout ss' a1 a2 a3=>?_;obtain⟨e,he⟩:=sortedAll_at s.heap its out;exact HW (tk:=s.toks) I hz q a1 a2 a3 (λb o e=>sortedAll_old e) (Qvx _) he
 ·obtain⟨hz2,hsys,vs,rkv,hD⟩:=yt I.hok hq;obtain⟨ep,hat⟩:=hD.dictAt;have hlen:vs.length=zs.length:=by
   have e1:=rkv.length;have e2:=Qx5 List.length hks;rw[Qqx,Qqx] at e2;omega
  refine Calls.call_function_entry kind_sorted plain_sorted entry_sorted (args_sorted1 _) ?_;unfold Builtin.«sorted»;refine Qqq (m:=checkCount "sorted" 1 1 _) (Qq2 ?_);refine Qqq (PySem.W.kdu_collect (A:=X.A.in1) (PySem.W.kdl_dict (knd:=dC X.prog X.w) (kvs:=vs) (ep:=ep) hsys) (I.ok.hd hc) hat (by rw[hlen];exact Qq3 (Qv0 hz) (by decide)) λh' tk acc hk hacc=>?_);have hl:acc.toList.length=vs.length:=by rw[Qz2];exact hacc.1
  have hS:StrsAre acc.toList (zs.map strOf):=by
   have keys:∀j:Nat,j<vs.length->∃v t,acc.toList[j]? = some v/\v=Value.str (strOf (zs.getD j [])) t:=λj hj=>by
    have hja:j<acc.size:=by rw[hacc.1];exact hj
    have e1:acc[j]? = some acc[j]:=by simp[hja]
    obtain⟨k,x,hx,hkx⟩:=hacc.2 j _ e1;have e2:(vs.map (·.1))[j]? = some k:=by rw[Qwv,hx];rfl
    rw[<-rkv.keys,hks,Qwv] at e2;obtain⟨z,hzj,rfl⟩:=Qq6.mp e2;rcases fc (k:=Sum.inr (strOf z)) (v:=acc[j]) hkx with ⟨i,t,z1,_⟩|⟨y,t,z1,z2⟩
    ·cases z1
    ·cases z1;exact⟨_,t,by rw[Qkj];exact e1,by rw[z2,Qq7,hzj];rfl⟩
   have build:∀(us:List Value) (ys:List (List Nat)),us.length=ys.length->(∀j:Nat,j<us.length->∃v t,us[j]? = some v/\v=Value.str (strOf (ys.getD j [])) t)->StrsAre us (ys.map strOf):=λus=>by
    induction us with
    | nil=>intro ys hl _;cases ys with
     | nil=>exact .nil
     | cons _ _=>cases hl
    | cons u us ih=>intro ys hl hk;cases ys with
     | nil=>cases hl
     | cons y ys=>
      obtain⟨v,t,e1,e2⟩:=hk 0 (Nat.succ_pos _);cases e1;rw[e2];exact .cons _ t (ih ys (by simpa using hl) λj hj=>by
       obtain⟨v,t,e1,e2⟩:=hk (j+1) (by simpa using hj);exact⟨v,t,by simpa using e1,by simpa using e2⟩)
   exact build _ _ (by rw[hl,hlen]) λj hj=>keys j (by rw[<-hl];exact hj)
  refine Qqq (wpAny_newList ?_ (by rw[hl,hlen];exact Qq3 (Qv0 hz) (by decide)));have hoL:(h'.push (seqObj "list" acc.toList.toArray 0)).get? h'.objs.size=some (seqObj "list" acc.toList.toArray 0):=Qwj _ rfl;show wpAny _ _ _ _ _ { s with heap:=h'.push (seqObj "list" acc.toList.toArray 0),toks:=tk };refine Qqq (Qz4 (Qz7 slot_list_sort ⟨_,hoL,rfl⟩ entry_list_sort (list_sort_treeK strKind_oneLt hoL hS.keysOf (λv₁ v₂ rest e=>keyKind_strs (by rw[<-e];exact hS)) (by rw[hl,hlen];exact hz) λst' b1 b2=>⟨_,rfl,?_⟩) (args_list_sort _)));obtain⟨ss',a1,a2,a3⟩:=sorted_out_str hS b1 b2;obtain⟨e,he⟩:=sortedHeap_at (out:=(arrOf st').map (·.2)) hoL;refine Qq2 ⟨_,rfl,?_⟩;have I1:L2.Inv X pins σ H { s with heap:=h',toks:=tk }:=I.kept hk;refine HW (s:={ s with heap:=h',toks:=tk }) (tk:=tk) I1 hz q a1 a2 a3 (λb o e=>?_) (Qq0 _) he;have lt':=Qwz e;rw[sortedHeap_old (Qw9 lt') (by rw[size_push'];exact Qvv lt')];exact Qqz _ e
def jd:List D->Option D
 | [.lst ds]=>(iC ds).bind λzs=>if zs.length<64/\(∀z∈zs,z.length<=sizeLine) then some (.lst ((jl zs).map .str)) else none
 | [.dct kvs]=>(iC (kvs.map (·.1))).bind λzs=>if zs.length<64/\(∀z∈zs,z.length<=sizeLine) then some (.lst ((jl zs).map .str)) else none
 | _=>none
theorem dR.keys{K:Fg}{F:Hp}:∀{kvs:List (D×D)} {ks:List (Key×V)} {zs:List (List Nat)},dR K F kvs ks->iC (kvs.map (·.1))=some zs->ks.map (·.1)=zs.map λz=>Sum.inr (strOf z)
 | [],ks,zs,h,e=>by cases h;simp[iC] at e;subst e;rfl
 | (k,d)::kvs,ks,zs,h,e=>by
  obtain⟨q,v,r,rfl,h0,h1,h2⟩:=h;cases k with
  | str x=>
   cases h0;have e':(iC (kvs.map (·.1))).map (x :: ·)=some zs:=by simpa[iC] using e
   obtain⟨zs',e1,rfl⟩:=Qq6.mp e';rw[Qq8,Qq8,dR.keys h2 e1]
  | _=>simp[iC] at e
def Lk{Pr F:Hp}{env:Env}{σ:L2.St}{H:Hp}{l:Addr}{zs:List (List Nat)}(r:Rel C Pr F env σ H)(hl:H l=none)(hz:zs.length<64/\∀z∈zs,z.length<=sizeLine) :
  lU C.K F (upd H l (.lst ((jl zs).map λz=>V.str (strOf z)))) (.lst ((jl zs).map .str)) l:=by
 refine⟨by rw[Qqx,(iG zs).length_eq];exact Qq3 (Qv0 hz.1) (by decide),_,bh,vq _ λz h=>hz.2 z ((iG zs).mem_iff.mp h)⟩
def RP:CallD C (Gd C.K) jd:=by
 intro Pr F env σ H ds d vs Q r p e q;have fin:∀(zs:List (List Nat)) (l:Addr),(zs.length<64/\∀z∈zs,z.length<=sizeLine)->d = .lst ((jl zs).map .str)->H l=none->Q (.ref l) (upd H l (.lst ((jl zs).map λz=>V.str (strOf z)))):=λzs l hz hd hl=>by
  subst hd;obtain⟨F2,r2,s2,p2⟩:=(r.fresh (o:=.lst ((jl zs).map λz=>V.str (strOf z))) hl).keep (Xg.of r hl (Lk r hl hz));exact q _ _ F2 r2 s2 p2
 unfold jd at e;split at e
 ·obtain⟨v,w,rfl,p1,p2⟩:=p;cases p2;obtain⟨zs,e1,e2⟩:=Qx1.mp e;split at e2
  ·rename_i hz;cases e2;obtain⟨z,a,ws,rfl,h1,h2⟩:=p1.lst r.fr;have e6:=sV e1 h2;subst e6;exact⟨a,zs,rfl,.inl (ju.of h1),hz.1,λl hl=>fin zs l hz rfl hl⟩
  ·cases e2
 ·obtain⟨v,w,rfl,p1,p2⟩:=p;cases p2;obtain⟨zs,e1,e2⟩:=Qx1.mp e;split at e2
  ·rename_i hz;cases e2;obtain⟨z,a,ks,rfl,h1,h2⟩:=p1.dct r.fr;exact⟨a,zs,rfl,.inr ⟨ks,h1,h2.keys e1⟩,hz.1,λl hl=>fin zs l hz rfl hl⟩
  ·cases e2
 ·cases e
def QZ{p:Pos}{e:Expr}{a:dI}(hK:X.K=C.K)(hc:X.calm=true)(hg:Gl X "sorted")(hm:X.mg "sorted" = none)(ha:aar X C [e] a)(he:Dy e X.env:=by rfl)(hpl:(backTo pos (starEach [] X.env)).any (·.1)=false:=by rfl) :
  PX X C (.Call (.Name "sorted" p) [e] [] pos) (au jd a):=
 nu (X:=X) (r:=Gd C.K) (by rw[<-hK];exact J9 hc) RP hg hm PyProof.Rows.boot_sorted ha (by decide) (by decide) he hpl
end
def Rel.pad{C:Cfg}{Pr F:Hp}{env:Env}{σ:L2.St}{H:Hp}(m:Nat)(r:Rel C Pr F env σ H):Rel C Pr F (env++List.replicate m none) (vB m σ) H:=by
 have un:∀(j:Nat) (x:Bool×D),(env++List.replicate m none)[j]? = some (some x)->env[j]? = some (some x):=λj x he=>by
  by_cases hj:j<env.length
  ·rwa [Qxx hj] at he
  ·rw[Qx4 (by omega),Qjq] at he;split at he<;>cases he
 have up:∀(j:Nat) (v:V),σ[j]? = some (some v)->(vB m σ)[j]? = some (some v):=λj v h=>by
  unfold vB;rw[Qxx (Qq4.mp h).1];exact h
 have dn:∀(j:Nat) (v:V),(vB m σ)[j]? = some (some v)->σ[j]? = some (some v):=λj v he=>by
  unfold vB at he;by_cases hj:j<σ.length
  ·rwa [Qxx hj] at he
  ·rw[Qx4 (by omega),Qjq] at he;split at he<;>cases he
 refine⟨r.pr,r.fr,by unfold vB;rw[Qqj,Qqj,Qz3,Qz3,r.len],λj e he=>?_,λj e he=>?_,λj k e f b hj hk g1 g2=>r.apart j k e f b (un _ _ hj) (un _ _ hk) (dn _ _ g1) (dn _ _ g2),r.dj,λj a h=>up _ _ (r.fix j a h)⟩
 ·obtain⟨v,h1,h2⟩:=r.val j e (un _ _ he);exact⟨v,up _ _ h1,h2⟩
 ·obtain⟨a,h1,h2⟩:=r.own j e (un _ _ he);exact⟨a,up _ _ h1,h2⟩
def Rel.cut{C:Cfg}{Pr F:Hp}{env:Env}{σ σ0:L2.St}{H:Hp}(r:Rel C Pr F env σ H)(h:σ.take σ0.length=σ0)(fix:∀i a,C.fx i=some a->σ0[i]? = some (some (V.ref a))):Rel C Pr F (env.take σ0.length) σ0 H:=by
 have hl:σ0.length<=σ.length:=by have:=Qx5 List.length h;rw[Qzj] at this;omega
 have un:∀(j:Nat) (x:Bool×D),(env.take σ0.length)[j]? = some (some x)->env[j]? = some (some x)/\j<σ0.length:=λj x he=>by
  have hj:j<σ0.length:=by have:=(Qq4.mp he).1;rw[Qzj] at this;omega
  rw[Qz8 hj] at he;exact⟨he,hj⟩
 have dn:∀(j:Nat),j<σ0.length->σ[j]? = σ0[j]?:=λj hj=>by
  have:=Qz8 (l:=σ) hj;rw[h] at this;exact this.symm
 refine⟨r.pr,r.fr,by rw[Qzj,r.len];omega,λj e he=>?_,λj e he=>?_,λj k e f b hj hk g1 g2=>r.apart j k e f b (un _ _ hj).1 (un _ _ hk).1 (by rw[dn _ (un _ _ hj).2];exact g1) (by rw[dn _ (un _ _ hk).2];exact g2),r.dj,fix⟩
 ·obtain⟨e1,e2⟩:=un _ _ he;rw[<-dn j e2];exact r.val j e e1
 ·obtain⟨e1,e2⟩:=un _ _ he;rw[<-dn j e2];exact r.own j e e1
def Hk(g:GV)(c:fU)(e:Ev):List D->Env->R (List D)
 | [],env=>.ok [] env
 | d::ds,env=>(match g d env with
  | none=>.stuck
  | some e1=>bindR (c e1) λb e2=>if b=true then bindR (e e2) λy e3=>bindR (Hk g c e ds e3) λys e4=>.ok (y::ys) e4 else Hk g c e ds e2)
def d9(lo n:Nat)(it:dI)(g:GV)(c:fU)(e:Ev):Ev:=λenv=>bindR (it env) λds aL=>if aL.length=lo then bindR (Hk g c e ds (aL++List.replicate (n - lo) none)) λys dX=>(if ys.length<=sizeLine then .ok (.lst ys) (dX.take lo) else .stuck) else .stuck
def R7(X:Cx)(C:Cfg)(ifs:List Expr)(ev:fU):Prop:=PIf X ifs (tT C ev)
def bZ:fU:=λenv=>.ok true env
def Um{X:Cx}{C:Cfg}:R7 X C [] bZ:=λpins s σ H Q I h=>by
 obtain⟨Pr,F,env,env',b,r,e,q⟩:=h;cases e;exact YF pins s σ H Q I (q H F r (aR.refl F))
def aa0{C:Cfg}{lo n:Nat}{it:dI}{g:GV}{c:fU}{e:Ev}{σ:L2.St}{H:Hp}{Q:VK}(h:tN C (d9 lo n it g c e) σ H Q):tLC n (tI C it) (tG C lo g) (tT C c) (tE C e) σ H Q:=by
 obtain⟨Pr,F,env,env',d,r,ev,q⟩:=h;obtain⟨ds,aL,e1,e2⟩:=bf ev;split at e2
 ·rename_i hlo;obtain⟨ys,dX,e3,e4⟩:=bf e2;split at e4
  ·rename_i hz;cases e4;refine⟨Pr,F,env,aL,ds,r,e1,λJ H1 F1 r1 s1 y1 a ha=>?_⟩;have hσ:σ.length=lo:=r1.len.symm.trans hlo;have hPa:Pr a=none:=r1.pr.free ha;refine⟨λi m σ' H'=>m=ds.length - i/\i<=ds.length/\∃F' J0 acc ws rest,Rel C (upd Pr a (.lst ws)) F' J0 σ' H'/\aR F1 F'/\bU C.K F' acc ws/\σ'.take lo=σ/\Hk g c e (ds.drop i) J0 = .ok rest dX/\acc++rest=ys,
    ⟨ds.length,rfl,Qxy _,F1,aL++List.replicate (n - lo) none,[],[],ys,?_,aR.refl _,rfl,?_,e3,rfl⟩,?_⟩
   ·rw[hσ];exact(r1.aside (o:=.lst []) ha).pad _
   ·unfold vB;rw[<-hσ,List.take_left]
   rintro i m σ' H' ⟨rfl,hi,F',J0,acc,ws,rest,r',s',p',t',l',hacc⟩;have hFa:F' a=none:=by
    cases ez:F' a with
    | none=>rfl
    | some w=>have:=r'.dj a w ez;rw[bh] at this;cases this
   by_cases hl:i<ds.length
   ·have hd:ds[i]? = some ds[i]:=Qq9 hl;have hdr:ds.drop i=ds[i]::ds.drop (i+1):=Qkw hl;have yy:=y1 i H' (s'.trans r'.fr);refine .inr ⟨(yy.2 _ hd).1,λσ2 H2=>∃F' J0 acc ws rest,Rel C (upd Pr a (.lst ws)) F' J0 σ2 H2/\aR F1 F'/\bU C.K F' acc ws/\σ2.take lo=σ/\Hk g c e (ds.drop (i+1)) J0 = .ok rest dX/\acc++rest=ys,
     λσ2 H2 h2=>⟨ds.length - (i+1),by omega,rfl,hl,h2⟩,λx H2 hy=>?_⟩
    obtain⟨F2,r2,s2,p2⟩:=qt.item r' s' y1 hd hy;rw[hdr] at l';unfold Hk at l';cases eg:g ds[i] J0 with
    | none=>rw[eg] at l';cases l'
    | some e5=>
     rw[eg] at l';obtain⟨b,e6,c1,l2⟩:=bf l';refine⟨_,F2,J0,e5,ds[i],r2,p2,eg,λσ3 H3 F3 r3 s3 t3=>⟨_,F3,e5,e6,b,r3,c1,λH4 F4 r4 s4=>?_⟩⟩;have t3':σ3.take lo=σ:=t3.trans t';have s24:aR F' F4:=(s2.trans s3).trans s4;cases b with
     | false=>
      show if false=true then _ else _
      rw[if_neg Qw5];rw[if_neg Qw5] at l2;exact⟨F4,e6,acc,ws,rest,r4,s'.trans s24,bU.mono s24 _ _ p',t3',l2,hacc⟩
     | true=>
      show if true=true then _ else _
      rw[if_pos rfl];rw[if_pos rfl] at l2;obtain⟨y,e7,c2,l3⟩:=bf l2;obtain⟨ys2,e8,c3,l4⟩:=bf l3;cases l4;refine⟨_,F4,e6,e7,y,r4,c2,λv H5 F5 r5 s5 p5=>?_⟩;have hlen:acc.length+(ys2.length+1)=ys.length:=by rw[<-hacc,Qqj,Qqw]
      refine⟨ws,r5.pr _ _ bh,by rw[p'.length];omega,F5,e7,acc++[y],ws++[v],ys2,?_,s'.trans (s24.trans s5),(bU.mono (s24.trans s5) _ _ p').append (bU.one p5),t3',c3,by rw[Qxv];exact hacc⟩;have r6:=r5.turn (u:=.lst (ws++[v])) bh
      rwa [XM] at r6
   ·have ei:i=ds.length:=by omega
    subst ei;rw[List.drop_length] at l';cases l';rw[Qxq] at hacc;subst hacc;refine .inl ⟨(y1 _ H' (s'.trans r'.fr)).1 (Qkz (Qq0 _)) rfl,?_⟩;have sP:aR Pr (upd Pr a (.lst ws)):=m6 hPa;have r7:Rel C Pr F' (dX.take lo) σ H':=by
     have:=(r'.less sP).cut (σ0:=σ) (by rw[hσ];exact t') r1.fix
     rwa [hσ] at this
    refine q a H' F' r7 (s1.trans s') ⟨⟨hz,ws,r'.pr _ _ bh,p'⟩,hFa,hPa,λj e he hs=>?_⟩;have hj:j<σ.length:=(Qq4.mp hs).1;have he':dX[j]? = some (some (true,e)):=by rw[Qz8 (by rw[<-hσ];exact hj)] at he;exact he
    obtain⟨b,g1,_,_,g4⟩:=r'.own j e he';have:σ'[j]? = some (some (V.ref a)):=by rw[<-t',Qz8 (by rw[<-hσ];exact hj)] at hs;exact hs
    rw[this] at g1;cases g1;rw[bh] at g4;cases g4
  ·cases e4
 ·cases e2
section
variable{X:Cx}{C:Cfg}{pos:Pos}
def abZ{elt tg iter:Expr}{ifs:List Expr}{scope:Scope}(N':List Str){it:dI}{g:GV}{c:fU}{e:Ev}(lo:Nat)(ok:nM X scope N')(hc:X.calm=true)(hi:Sg X C tg iter it)
  (bg:∀X',kj X scope N' X'->PXG X' C lo tg g) (bc:∀X',kj X scope N' X'->R7 X' C ifs c) (be:∀X',kj X scope N' X'->PX X' C elt e)
  (hs:∀x,foldedSetIterable iter X.env x=pure x:=by intro _;rfl):R6 X C (.ListComp elt [⟨tg,iter,ifs,0⟩] scope pos) (d9 lo N'.length it g c e):=
 (afn ok hc hi bg bc be hs).imp λσ H Q h=>aa0 h
def QT{elt tg iter:Expr}{ifs:List Expr}{scope:Scope}(N':List Str){spos py:Pos}{it:dI}{g:GV}{c:fU}{e:Ev}(lo:Nat){i:Nat}{y:Str}(ok:nM X scope N')(hc:X.calm=true)(hi:Sg X C tg iter it)
  (bg:∀X',kj X scope N' X'->PXG X' C lo tg g) (bc:∀X',kj X scope N' X'->R7 X' C ifs c) (be:∀X',kj X scope N' X'->PX X' C elt e)
  (hN:X.N.Nodup) (hy:X.N[i]? = some y) (hx:Loc X.env.scope y) (hfx:C.fx i=none)
  (hsw:swapsWith (.ListComp elt [⟨tg,iter,ifs,0⟩] scope pos) (some (.Name y py)) spos.line X.env=pure true)
  (hf:X.fn y=true\/X.env.scope.names.lookup y=some .local:=by first|exact .inl rfl|exact .inr rfl|assumption)
  (hs:∀x,foldedSetIterable iter X.env x=pure x:=by intro _;rfl):Xf X C (.Assign [.Name y py] (.ListComp elt [⟨tg,iter,ifs,0⟩] scope pos) spos) (cP i (d9 lo N'.length it g c e)):=
 (Uz ok hc hi bg bc be hN hy hx hsw hf hs).imp λD σ H h=>by
  obtain⟨Pr,F,env,r,f⟩:=h;obtain⟨d,aL,e1,f1⟩:=dF f;have:tN C (d9 lo N'.length it g c e) σ H λv H1=>JL i v σ H1 D.nx:=⟨Pr,F,env,aL,d,r,e1,λv H1 F1 r1 s1 p1=>f1 _ H1 F1 (r1.Ut hfx p1) s1⟩;exact aa0 this
end
def nY(K:Fg)(n:Nat)(f:List D->Option D):Sp:=λvs H Q _=>∃(F:Hp) (ds:List D) (d:D),ds.length=n/\aR F H/\bU K F ds vs/\f ds=some d/\
 ∀v H' F',aR H H'->aR F' H'->aR F F'->(∀b o,F' b=some o->F b=some o\/H b=none)->Rep K F' d v->Q v H'
def spN(K:Fg)(n:Nat)(f:List D->Option D):Sp:=λvs H Q _=>∃(F:Hp) (ds:List D) (d:D),ds.length=n/\aR F H/\bU K F ds vs/\f ds=some d/\
 ∀a H' F',aR H H'->aR F' H'->aR F F'->(∀b o,F' b=some o->F b=some o\/H b=none)->lU K F' H' d a->F' a=none->H a=none->Q (.ref a) H'
def ur(K:Fg)(n:Nat)(f:List D->Option (D×D)):Sp:=λvs H Q _=>∃(F:Hp) (a:Addr) (r:List V) (x:D) (ds:List D) (d x':D),vs = .ref a::r/\ds.length+1=n/\aR F H/\F a=none/\lU K F H x a/\bU K F ds r/\f (x::ds)=some (d,x')/\
 ∀v H' F',(∀b o,b≠a->H b=some o->H' b=some o)->aR F' H'->aR F F'->(∀b o,F' b=some o->F b=some o\/H b=none)->lU K F' H' x' a->Rep K F' d v->Q v H'
def Rel.after{C:Cfg}{Pr F F':Hp}{env:Env}{σ:L2.St}{H H':Hp}(r:Rel C Pr F env σ H)(s:aR H H')(sF:aR F' H')(sF':aR F F')(nw:∀b o,F' b=some o->F b=some o\/H b=none):Rel C Pr F' env σ H':=by
 refine⟨r.pr.trans s,sF,r.len,λj e he=>?_,λj e he=>?_,r.apart,λb o e=>?_,r.fix⟩
 ·obtain⟨v,h1,h2⟩:=r.val j e he;exact⟨v,h1,Rep.mono sF' _ _ h2⟩
 ·obtain⟨a,h1,h2,h3,h4⟩:=r.own j e he;obtain⟨o,ho⟩:=h2.some;refine⟨a,h1,h2.mono sF' (by rw[ho,s _ _ ho]),?_,h4⟩;cases e:F' a with
  | none=>rfl
  | some u=>
   rcases nw a u e with z|z
   ·rw[h3] at z;cases z
   ·rw[ho] at z;cases z
 ·rcases nw b o e with z|z
  ·exact r.dj b o z
  ·exact r.pr.free z
def Rel.aag{C:Cfg}{Pr F F':Hp}{env:Env}{σ:L2.St}{H H':Hp}{i:Nat}{a:Addr}{d d':D}(r:Rel C Pr F env σ H)(h:env[i]? = some (some (true,d)))(hs:σ[i]? = some (some (V.ref a)))(s:∀b o,b≠a->H b=some o->H' b=some o)(sF:aR F' H')(sF':aR F F')(nw:∀b o,F' b=some o->F b=some o\/H b=none)(ho:lU C.K F' H' d' a):Rel C Pr F' (env.set i (some (true,d'))) σ H':=by
 obtain⟨a',h1,h2,h3,h4⟩:=r.own i d h;rw[hs] at h1;cases h1;have hi:i<env.length:=(Qq4.mp h).1;obtain⟨oa,hoa⟩:=h2.some;have ne:∀(j:Nat) (e:D) (b:Addr),j≠i->env[j]? = some (some (true,e))->σ[j]? = some (some (V.ref b))->b≠a:=λj e b hj he g z=>hj (r.apart j i e d a he h (by rw[<-z];exact g) hs);have nF:∀b u,F b=none->H b=some u->F' b=none:=λb u e1 e2=>by
  cases e:F' b with
  | none=>rfl
  | some w=>
   rcases nw b w e with z|z
   ·rw[e1] at z;cases z
   ·rw[e2] at z;cases z
 refine⟨λb w e=>?_,sF,by rw[Qzx];exact r.len,λj e he=>?_,λj e he=>?_,λj k e f b hj hk g1 g2=>?_,λb o e=>?_,r.fix⟩
 ·have hb:b≠a:=λz=>by rw[z,h4] at e;cases e
  exact s b w hb (r.pr b w e)
 ·by_cases hj:j=i
  ·subst hj;rw[Qw7 hi] at he;cases he
  ·rw[Qw3 (Ne.symm hj)] at he;obtain⟨v,g1,g2⟩:=r.val j e he;exact⟨v,g1,Rep.mono sF' _ _ g2⟩
 ·by_cases hj:j=i
  ·subst hj;rw[Qw7 hi] at he;cases he;exact⟨a,hs,ho,nF a oa h3 hoa,h4⟩
  ·rw[Qw3 (Ne.symm hj)] at he;obtain⟨b,g1,g2,g3,g4⟩:=r.own j e he;obtain⟨ob,hob⟩:=g2.some;exact⟨b,g1,g2.mono sF' (by rw[hob,s b ob (ne j e b hj he g1) hob]),nF b ob g3 hob,g4⟩
 ·have un:∀(j:Nat) (e:D),(env.set i (some (true,d')))[j]? = some (some (true,e))->∃e',env[j]? = some (some (true,e')):=λj e he=>by
   by_cases hj:j=i
   ·subst hj;exact⟨d,h⟩
   ·rw[Qw3 (Ne.symm hj)] at he;exact⟨e,he⟩
  obtain⟨e',hj'⟩:=un j e hj;obtain⟨f',hk'⟩:=un k f hk;exact r.apart j k e' f' b hj' hk' g1 g2
 ·rcases nw b o e with z|z
  ·exact r.dj b o z
  ·exact r.pr.free z
section
variable{X:Cx}{C:Cfg}{pos p:Pos}{k n:Nat}{f:Addr}{fd:FuncData}{ps:List Str}{x:Str}{e:Expr}{es:List Expr}
def Bv{g:List D->Option D}{a:dI}{env env':Env}{d:D}(h:au g a env = .ok d env'):∃ds,a env = .ok ds env'/\g ds=some d:=by obtain⟨ds,aL,e1,e2⟩:=bf h;obtain⟨e3,rfl⟩:=fD e2;exact⟨ds,e1,e3⟩
def ab3{g:List D->Option D}{a:dI}(G:pP X.prog X.w X.K X.mg X.base Hj k f fd ps (nY C.K n g))(hr:ji k X.A)(hg:Gl X x)(hm:X.mg x=some (.ref f))(hk:PySem.W.keepIn X.K (.ref f)=true)(hb:Binds X.K fd ps [])
  (ha:Kr X C (e::es) a) (hn:∀env ds env',a env = .ok ds env'->ds.length=n) (hdb:mU x:=by decide) (he:starEach (e::es) X.env=(false,eval e X.env)::starEach es X.env:=by rfl) (hpl:(backTo pos (starEach es X.env)).any (·.1)=false:=by rfl) :
  PX X C (.Call (.Name x p) (e::es) [] pos) (au g a):=(Gg G hr hg hm hk hb .nil Ve ha hdb he hpl).imp λσ H Q hq=>by
 obtain⟨Pr,F,env,env',d,r,e,q⟩:=hq;obtain⟨ds,e1,e2⟩:=Bv e;refine⟨Pr,F,env,env',ds,r,e1,λvs H1 F1 r1 s1 p1=>?_⟩;show nY C.K n g (vs++[]) H1 Q E0;rw[Qxq];exact⟨F1,ds,d,hn _ _ _ e1,r1.fr,p1,e2,λv H2 F2 t1 t2 t3 t4 p2=>q v H2 F2 (r1.after t1 t2 t3 t4) (s1.trans t3) p2⟩
def Yp{g:List D->Option D}{a:dI}(G:pP X.prog X.w X.K X.mg X.base Hj k f fd ps (spN C.K n g))(hr:ji k X.A)(hg:Gl X x)(hm:X.mg x=some (.ref f))(hk:PySem.W.keepIn X.K (.ref f)=true)(hb:Binds X.K fd ps [])
  (ha:Kr X C (e::es) a) (hn:∀env ds env',a env = .ok ds env'->ds.length=n) (hdb:mU x:=by decide) (he:starEach (e::es) X.env=(false,eval e X.env)::starEach es X.env:=by rfl) (hpl:(backTo pos (starEach es X.env)).any (·.1)=false:=by rfl) :
  R6 X C (.Call (.Name x p) (e::es) [] pos) (au g a):=(Gg G hr hg hm hk hb .nil Ve ha hdb he hpl).imp λσ H Q hq=>by
 obtain⟨Pr,F,env,env',d,r,e,q⟩:=hq;obtain⟨ds,e1,e2⟩:=Bv e;refine⟨Pr,F,env,env',ds,r,e1,λvs H1 F1 r1 s1 p1=>?_⟩;show spN C.K n g (vs++[]) H1 Q E0;rw[Qxq];refine⟨F1,ds,d,hn _ _ _ e1,r1.fr,p1,e2,λb H2 F2 t1 t2 t3 t4 ho hF hH=>q b H2 F2 (r1.after t1 t2 t3 t4) (s1.trans t3) ⟨ho,hF,r1.pr.free hH,λj e he hs=>?_⟩⟩;obtain⟨c,h1,h2,_⟩:=r1.own j e he;rw[hs] at h1;cases h1;obtain⟨u,hu⟩:=h2.some;rw[hH] at hu;cases hu
def di(f:List D->Option (D×D))(i:Nat)(a:dI):Ev:=λenv=>match env[i]? with
 | some (some (true,_))=>bindR (a env) λds aL=>(match aL[i]? with
  | some (some (true,x))=>(match f (x::ds) with
   | some (d,x')=>.ok d (aL.set i (some (true,x')))
   | none=>.stuck)
  | _=>.stuck)
 | _=>.stuck
def afh{g:List D->Option (D×D)}{a:dI}{i:Nat}{y:Str}{py:Pos}(hN:X.N[i]? = some y)(hv:tR X.env.scope y)(G:pP X.prog X.w X.K X.mg X.base Hj k f fd ps (ur C.K n g))(hr:ji k X.A)(hg:Gl X x)(hm:X.mg x=some (.ref f))(hk:PySem.W.keepIn X.K (.ref f)=true)(hb:Binds X.K fd ps [])
  (ha:Kr X C es a) (hn:∀env ds env',a env = .ok ds env'->ds.length+1=n) (hdb:mU x:=by decide) (he:starEach (.Name y py::es) X.env=(false,eval (.Name y py) X.env)::starEach es X.env:=by rfl) (hpl:(backTo pos (starEach es X.env)).any (·.1)=false:=by rfl)
  (hd:mU y:=by decide) (hcd:uG y:=by decide) :
  PX X C (.Call (.Name x p) (.Name y py::es) [] pos) (di g i a):=(Gg G hr hg hm hk hb .nil Ve (lF (jY hN hv hd hcd) ha he) hdb he hpl).imp λσ H Q hq=>by
 obtain⟨Pr,F,env,env',d,r,e,q⟩:=hq;unfold di at e;split at e
 ·rename_i d0 h0;obtain⟨ds,aL,e1,e2⟩:=bf e;split at e2
  ·rename_i z hz;split at e2
   ·rename_i d1 z' hg;cases e2;obtain⟨a0,hs0,_⟩:=r.own i _ h0;refine⟨_,hs0,Pr,F,env,aL,ds,r,e1,λvs H1 F1 r1 s1 p1=>?_⟩;obtain⟨a1,hs1,ho1,hF1,hP1⟩:=r1.own i _ hz;rw[hs0] at hs1;cases hs1;show ur C.K n g (_::vs++[]) H1 Q E0;rw[Qxq];exact⟨F1,a0,vs,z,ds,d,z',rfl,hn _ _ _ e1,r1.fr,hF1,ho1,p1,hg,λv H2 F2 t1 t2 t3 t4 t5 p2=>q v H2 F2 (r1.aag hz hs0 t1 t2 t3 t4 t5) (s1.trans t3) p2⟩
   ·cases e2
  ·cases e2
 ·cases e
end
def envOf(n:Nat)(ds:List D):Env:=ds.map (λd=>some (false,d))++List.replicate (n - ds.length) none
def BJ(n:Nat)(x:D)(ds:List D):Env:=some (true,x)::(ds.map (λd=>some (false,d))++List.replicate (n - (ds.length+1)) none)
def cN(n:Nat)(ev:cu)(ds:List D):Option D:=match ev (envOf n ds) with
 | .rt false d _=>some d
 | .nx _=>some .non
 | _=>none
def runN(n:Nat)(ev:cu)(ds:List D):Option D:=match ev (envOf n ds) with
 | .rt true d _=>some d
 | _=>none
def gV(n:Nat)(ev:cu)(ds:List D):Option (D×D):=match ds with
 | []=>none
 | x::r=>(match ev (BJ n x r) with
  | .rt false d env=>(match env[0]? with
   | some (some (true,x'))=>some (d,x')
   | _=>none)
  | .nx env=>(match env[0]? with
   | some (some (true,x'))=>some (.non,x')
   | _=>none)
  | _=>none)
def C0(K:Fg):Cfg:=⟨K,λ_=>none⟩
def C1(K:Fg)(a:Addr):Cfg:=⟨K,λi=>if i=0 then some a else none⟩
def Gp(H F:Hp):Hp:=λb=>if (F b).isSome then none else H b
def Js{H F:Hp}{b:Addr}{o:HO}(h:Gp H F b=some o):H b=some o/\F b=none:=by
 unfold Gp at h;split at h
 ·cases h
 ·rename_i z;exact⟨h,by cases e:F b with|none=>rfl|some w=>rw[e] at z;exact absurd rfl z⟩
def Bc{H F:Hp}{b:Addr}(h:Gp H F b=none):H b=none\/∃o,F b=some o:=by
 unfold Gp at h;split at h
 ·rename_i z;exact .inr (Qzy.mp z)
 ·exact .inl h
def DK{K:Fg}{F H:Hp}{ds:List D}{vs:List V}{N:List Str}(s:aR F H)(p:bU K F ds vs):Rel (C0 K) (Gp H F) F (envOf N.length ds) (start N vs) H:=by
 have un:∀(j:Nat) (x:Bool×D),(envOf N.length ds)[j]? = some (some x)->∃d,x=(false,d)/\ds[j]? = some d:=λj x he=>by
  unfold envOf at he;by_cases hj:j<(ds.map λd=>some (false,d)).length
  ·rw[Qxx hj,Qwv] at he;obtain⟨d,h1,h2⟩:=Qq6.mp he;cases h2;exact⟨d,rfl,h1⟩
  ·rw[Qx4 (by omega),Qjq] at he;split at he<;>cases he
 refine⟨λb o e=>(Js e).1,s,?_,λj d he=>?_,λj d he=>?_,λj k d e a hj hk=>?_,λb o e=>?_,λi a h=>by cases h⟩
 ·unfold envOf L2.start;rw[Qqj,Qqj,Qqx,Qqx,Qz3,Qz3,p.length]
 ·obtain⟨d',z,hd⟩:=un j _ he;cases z;obtain⟨v,h1,h2⟩:=p.get hd;refine⟨v,?_,h2⟩;unfold L2.start;rw[Qxx (by rw[Qqx];exact(Qq4.mp h1).1),Qwv,h1]
  rfl
 ·obtain⟨d',z,_⟩:=un j _ he;cases z
 ·obtain⟨d',z,_⟩:=un j _ hj;cases z
 ·unfold Gp;rw[e];rfl
def aR.Mq{H F F' H':Hp}(s1:aR (Gp H F) H')(s2:aR F F')(s3:aR F' H')(sF:aR F H):aR H H':=λb o e=>by
 cases z:F b with
 | none=>exact s1 b o (by unfold Gp;rw[z];exact e)
 | some w=>
  have:=sF b w z;rw[e] at this;cases this;exact s3 b o (s2 b o z)
def Mv{H F F':Hp}(s2:aR F F')(dj:∀b o,F' b=some o->Gp H F b=none)(b:Addr)(o:HO)(h:F' b=some o):F b=some o\/H b=none:=by
 rcases Bc (dj b o h) with z|⟨w,z⟩
 ·exact .inr z
 ·have:=s2 b w z;rw[h] at this;cases this;exact .inl z
section
variable{P:Program}{w:World}{K:Fg}{mg:Str->Option Value}{base:Heap}{x qual:Str}{st:Stmt}{f:Addr}{fd:FuncData}{N ps:List Str}{k:Nat}{ev:cu}
abbrev bx(P:Program)(w:World)(K:Fg)(mg:Str->Option Value)(base:Heap)(N:List Str)(qual:Str)(st:Stmt)(f:Addr)(cdv:Value)(A:Around)(outer:List PySem.Env)(s:Shared)(H:Hp)(E:XK):Cx:=(M5 Hj P w K mg base N qual (aN st) f cdv A outer s H E).nox
def J6(F:Xk K x qual st f fd)(S:bB N ps (aN st))
  (hb:∀(cdv:Value) (A:Around) (outer:List PySem.Env) (s:Shared) (H:Hp) (E:XK),ji k (A.deeper (envOfC qual (aN st) s.heap.objs.size f cdv))->Di (bx P w K mg base N qual st f cdv A outer s H E) (C0 K) (fJ st) ev) :
  pP P w K mg base Hj (k+1) f fd ps (nY K ps.length (cN N.length ev)):=by
 refine F.ok S (λvs H Q E h=>?_) (λcdv A outer s H vs Q E hr h=>?_)
 ·obtain⟨F0,ds,d,hl,_,p,_⟩:=h;rw[p.length,hl]
 ·obtain⟨F0,ds,d,hl,sF,p,e,q⟩:=h;refine⟨_,hb cdv A outer s H E hr,Gp H F0,F0,envOf N.length ds,DK sF p,?_⟩;unfold cN at e;split at e
  ·rename_i d' env' h1;cases e;rw[h1];exact λv σ' H' F' r' s' p'=>q v H' F' (aR.Mq r'.pr s' r'.fr sF) r'.fr s' (Mv s' r'.dj) p'
  ·rename_i env' h1;cases e;rw[h1];exact λσ' H' F' r' s'=>q .non H' F' (aR.Mq r'.pr s' r'.fr sF) r'.fr s' (Mv s' r'.dj) rfl
  ·cases e
def Z1(F:Xk K x qual st f fd)(S:bB N ps (aN st))
  (hb:∀(cdv:Value) (A:Around) (outer:List PySem.Env) (s:Shared) (H:Hp) (E:XK),ji k (A.deeper (envOfC qual (aN st) s.heap.objs.size f cdv))->Di (bx P w K mg base N qual st f cdv A outer s H E) (C0 K) (fJ st) ev) :
  pP P w K mg base Hj (k+1) f fd ps (spN K ps.length (runN N.length ev)):=by
 refine F.ok S (λvs H Q E h=>?_) (λcdv A outer s H vs Q E hr h=>?_)
 ·obtain⟨F0,ds,d,hl,_,p,_⟩:=h;rw[p.length,hl]
 ·obtain⟨F0,ds,d,hl,sF,p,e,q⟩:=h;refine⟨_,hb cdv A outer s H E hr,Gp H F0,F0,envOf N.length ds,DK sF p,?_⟩;unfold runN at e;split at e
  ·rename_i d' env' h1;cases e;rw[h1];refine λa σ' H' F' r' s' n'=>q a H' F' (aR.Mq r'.pr s' r'.fr sF) r'.fr s' (Mv s' r'.dj) n'.own n'.nF ?_;rcases Bc n'.nP with z|⟨u,z⟩
   ·exact z
   ·have:=s' a u z;rw[n'.nF] at this;cases this
  ·cases e
def Ir{K:Fg}{F H:Hp}{y:D}{a:Addr}{ds:List D}{vs:List V}{N:List Str}(s:aR F H)(hF:F a=none)(ho:lU K F H y a)(p:bU K F ds vs):Rel (C1 K a) (λb=>if b=a then none else Gp H F b) F (BJ N.length y ds) (start N (.ref a::vs)) H:=by
 have un:∀(j:Nat) (x:Bool×D),(BJ N.length y ds)[j]? = some (some x)->(j=0/\x=(true,y))\/∃i d,j=i+1/\x=(false,d)/\ds[i]? = some d:=λj x he=>by
  unfold BJ at he;cases j with
  | zero=>cases he;exact .inl ⟨rfl,rfl⟩
  | succ i=>
   rw[List.getElem?_cons_succ] at he;by_cases hj:i<(ds.map λd=>some (false,d)).length
   ·rw[Qxx hj,Qwv] at he;obtain⟨d,h1,h2⟩:=Qq6.mp he;cases h2;exact .inr ⟨i,d,rfl,rfl,h1⟩
   ·rw[Qx4 (by omega),Qjq] at he;split at he<;>cases he
 have z0:(start N (.ref a::vs))[0]? = some (some (V.ref a)):=rfl;refine⟨λb o e=>?_,s,?_,λj d he=>?_,λj d he=>?_,λj k d e b hj hk _ _=>?_,λb o e=>?_,λi b h=>?_⟩
 ·have e':(if b=a then none else Gp H F b)=some o:=e;split at e'
  ·cases e'
  ·exact(Js e').1
 ·unfold BJ L2.start;simp only[Qqw,Qqj,Qqx,Qz3,p.length,Qq8];omega
 ·rcases un j _ he with ⟨_,z⟩|⟨i,d',rfl,z,hd⟩
  ·cases z
  ·cases z;obtain⟨v,h1,h2⟩:=p.get hd;refine⟨v,?_,h2⟩;unfold L2.start;rw[Qq8,List.cons_append,List.getElem?_cons_succ,Qxx (by rw[Qqx];exact(Qq4.mp h1).1),Qwv,h1]
   rfl
 ·rcases un j _ he with ⟨rfl,z⟩|⟨i,d',rfl,z,hd⟩
  ·cases z;exact⟨a,z0,ho,hF,if_pos rfl⟩
  ·cases z
 ·rcases un j _ hj with ⟨rfl,_⟩|⟨i,d',rfl,z,_⟩
  ·rcases un k _ hk with ⟨rfl,_⟩|⟨i,d',rfl,z,_⟩
   ·rfl
   ·cases z
  ·cases z
 ·show(if b=a then none else Gp H F b)=none;split
  ·rfl
  ·unfold Gp;rw[e];rfl
 ·have h':(if i=0 then some a else none)=some b:=h;split at h'
  ·rename_i hi;cases h';rw[hi];exact z0
  ·cases h'
def adL{y:Str}{qs:List Str}(F:Xk K x qual st f fd)(S:bB N (y::qs) (aN st))
  (hb:∀(cdv:Value) (A:Around) (outer:List PySem.Env) (s:Shared) (H:Hp) (E:XK) (a:Addr),ji k (A.deeper (envOfC qual (aN st) s.heap.objs.size f cdv))->Di (bx P w K mg base N qual st f cdv A outer s H E) (C1 K a) (fJ st) ev) :
  pP P w K mg base Hj (k+1) f fd (y::qs) (ur K (qs.length+1) (gV N.length ev)):=by
 refine F.ok S (λvs H Q E h=>?_) (λcdv A outer s H vs Q E hr h=>?_)
 ·obtain⟨F0,a,r,z,ds,d,z',rfl,hl,_,_,_,p,_⟩:=h;rw[Qqw,Qqw,p.length];exact hl
 ·obtain⟨F0,a,r,z,ds,d,z',rfl,hl,sF,hFa,ho,p,e,q⟩:=h;refine⟨_,hb cdv A outer s H E a hr,_,F0,BJ N.length z ds,Ir sF hFa ho p,?_⟩;have fin:∀(env':Env) (σ':L2.St) (H' F':Hp) (v:V) (d:D) (z':D),env'[0]? = some (some (true,z'))->Rel (C1 K a) (λb=>if b=a then none else Gp H F0 b) F' env' σ' H'->aR F0 F'->Rep K F' d v->(∀v H' F',(∀b o,b≠a->H b=some o->H' b=some o)->aR F' H'->aR F0 F'->(∀b o,F' b=some o->F0 b=some o\/H b=none)->lU K F' H' z' a->Rep K F' d v->Q v H')->Q v H':=λenv' σ' H' F' v d z' h0 r' s' p' q=>by
   obtain⟨b,g1,g2,g3,g4⟩:=r'.own 0 z' h0;have g5:=r'.fix 0 a rfl;rw[g1] at g5;cases g5;refine q v H' F' (λc o hc e=>?_) r'.fr s' (λc o e=>?_) g2 p'
   ·cases u:F0 c with
    | none=>exact r'.pr c o (by show(if c=a then none else Gp H F0 c)=some o;rw[if_neg hc];unfold Gp;rw[u];exact e)
    | some w=>
     have:=sF c w u;rw[e] at this;cases this;exact r'.fr c o (s' c o u)
   ·by_cases hc:c=a
    ·subst hc;rw[g3] at e;cases e
    ·have h1:=r'.dj c o e;have h1':(if c=a then none else Gp H F0 c)=none:=h1;rw[if_neg hc] at h1';rcases Bc h1' with u|⟨w,u⟩
     ·exact .inr u
     ·have:=s' c w u;rw[e] at this;cases this;exact .inl u
  unfold gV at e;simp only at e;split at e
  ·rename_i d' env' h1;split at e
   ·rename_i z1 h0;cases e;rw[h1];exact λv σ' H' F' r' s' p'=>fin env' σ' H' F' v _ _ h0 r' s' p' q
   ·cases e
  ·rename_i env' h1;split at e
   ·rename_i z1 h0;cases e;rw[h1];exact λσ' H' F' r' s'=>fin env' σ' H' F' .non .non _ h0 r' s' rfl q
   ·cases e
  ·cases e
end
structure Good(X:Cx)(C:Cfg):Prop where
 K:X.K=C.K
 calm:X.calm=true
 un:X.A.units+64<cLine
def Good.u1{X:Cx}{C:Cfg}(G:Good X C):X.A.units+1<cLine:=Qw4 (Nat.add_le_add_left (by decide:1<=64) _) G.un
def Good.u60{X:Cx}{C:Cfg}(G:Good X C):X.A.units+60<cLine:=Qw4 (Nat.add_le_add_left (by decide:60<=64) _) G.un
def Good.u61{X:Cx}{C:Cfg}(G:Good X C):X.A.units+61<cLine:=Qw4 (Nat.add_le_add_left (by decide:61<=64) _) G.un
def Good.at{X X':Cx}{C:Cfg}{scope:Scope}{N':List Str}(G:Good X C)(h:kj X scope N' X'):Good X' C:=by obtain⟨_,_,_,_,_,rfl⟩:=h;exact⟨G.K,G.calm,G.un⟩
def Own(P:Program)(w:World)(K:Fg)(mg:Str->Option Value)(base:Heap)(x:Str)(k:Nat)(ps:List Str)(sp:Sp):Prop:=
 ∃f fd,pP P w K mg base Hj k f fd ps sp/\mg x=some (.ref f)/\PySem.W.keepIn K (.ref f)=true/\Binds K fd ps []
def Glb(K:Fg)(mg:Str->Option Value)(x:Str)(d:D):Prop:=∃v u,mg x=some u/\RelV v u/\∀F,Rep K F d v
def cO(K:Fg)(mg:Str->Option Value)(x:Str)(st:Stmt)(ps:List Str):Prop:=∃f fd,Xk K x x st f fd/\mg x=some (.ref f)/\Binds K fd ps []
def nC:List Str->Bool
 | []=>true
 | x::r=>!(r.contains x)&&nC r
theorem jK:∀{l:List Str},nC l=true->l.Nodup
 | [],_=>.nil
 | x::r,h=>by
  have h':(!(r.contains x)&&nC r)=true:=h;rw[Qjz] at h';refine Qzq.mpr ⟨λhm=>?_,jK h'.2⟩;have:r.contains x=true:=List.contains_iff_mem.mpr hm;rw[this] at h';exact absurd h'.1 (by decide)
def Pu(outer:List (Str×NameKind)):List (Str×NameKind)->Bool
 | []=>true
 | (n,k)::r=>(!decide (k = .free)||decide (outer.lookup n=some .cell)||decide (outer.lookup n=some .free))&&Pu outer r
theorem JQ{outer:List (Str×NameKind)}:∀{l:List (Str×NameKind)},Pu outer l=true->∀x∈l,x.2 = .free->outer.lookup x.1=some .cell\/outer.lookup x.1=some .free
 | [],_,x,hx,_=>by simp at hx
 | (n,k)::r,h,x,hx,hf=>by
  have h':((!decide (k = .free)||decide (outer.lookup n=some .cell)||decide (outer.lookup n=some .free))&&Pu outer r)=true:=h;rw[Qjz,Bool.or_eq_true,Bool.or_eq_true] at h';rcases Qq1.mp hx with rfl|hx
  ·rcases h'.1 with (z|z)|z
   ·have hf':k = .free:=hf;rw[Qw8 hf'] at z;exact absurd z (by decide)
   ·exact .inl (Qxk z)
   ·exact .inr (Qxk z)
  ·exact JQ h'.2 x hx hf
def eY{X:Cx}{scope:Scope}{N':List Str}(h1:scope.kind = .function:=by rfl)(h2:nC (scope.names.map (·.1))=true:=by rfl)(h3:Pu X.env.scope.names scope.names=true:=by rfl)(h4:WL scope.names N' X.N=true:=by rfl)(h5:Nat.ble X.N.length N'.length=true:=by rfl):nM X scope N':=
 ⟨h1,jK h2,JQ h3,h4,Qkx h5⟩
section
variable{X:Cx}{C:Cfg}{pos p px:Pos}{x y z:Expr}{a b c:Ev}{t u:fU}{i:Nat}{n:Str}
structure Bi(X:Cx)(C:Cfg)(op:Operator)(g:D->D->Option D):Prop where
 ex:∃r,ph X (binaryOp op) r/\qM C r g
structure Cm(X:Cx)(C:Cfg)(op:CmpOp)(g:D->D->Option D):Prop where
 ex:∃r,ph X (compareOp op) r/\qM C r g
def gY(G:Good X C):Bi X C .Add cL:=⟨_,Y5,by rw[G.K];exact acV⟩
def agj:Bi X C .Sub Rw:=⟨_,acu,acK⟩
def WW:Bi X C .Mult uK:=⟨_,Y0,acO⟩
def agl:Bi X C .Mod ady:=⟨_,acz,acP⟩
def abb:Bi X C .Pow MK:=⟨_,acx,acN⟩
def agk:Bi X C .LShift ZQ:=⟨_,acw,acM⟩
def aa9:Bi X C .RShift JK:=⟨_,acv,acL⟩
def abe:Bi X C .BitAnd JN:=⟨_,acH,acU⟩
def uO(G:Good X C):Cm X C .Eq qz:=⟨_,acF G.u60,by rw[G.K];exact afy⟩
def Kd(G:Good X C):Cm X C .NotEq xP:=⟨_,acy G.u60,by rw[G.K];exact aft⟩
def ah6(G:Good X C):Cm X C .In gIn:=⟨_,acE G.u61,by rw[G.K];exact afw⟩
def ah5:Cm X C .Is gIs:=⟨_,acC,afv⟩
def WT:Cm X C .Lt Hl:=⟨_,acA,afu⟩
def ah7:Cm X C .Gt gGt:=⟨_,afq,afx⟩
def abq{op:CmpOp}{g:D->D->Option D}(i:Nat)(o:Cm X C op g)(hb:Nj X C y b)(hN:X.N[i]? = some n:=by rfl)(hv:tR X.env.scope n:=by first|exact Or.inl rfl|exact Or.inr (Or.inl rfl)|exact Or.inr (Or.inr rfl))(hm:behindInMarks op y=false:=by rfl)(hd:mU n:=by decide)(hcd:uG n:=by decide):PX X C (.Compare (.Name n px) [op] [y] pos) (aB g i b):=by obtain⟨r,h1,h2⟩:=o.ex;exact(Oo h1 (jY hN hv hd hcd) hb hm).imp (tK h2)
def abC{op:CmpOp}{g:D->D->Option D}(i:Nat)(o:Cm X C op g)(hb:Nj X C y b)(hN:X.N[i]? = some n:=by rfl)(hv:tR X.env.scope n:=by first|exact Or.inl rfl|exact Or.inr (Or.inl rfl)|exact Or.inr (Or.inr rfl))(hm:behindInMarks op y=false:=by rfl)(hd:mU n:=by decide)(hcd:uG n:=by decide):PXT X C (.Compare (.Name n px) [op] [y] pos) (eO (aB g i b)):=by obtain⟨r,h1,h2⟩:=o.ex;exact(Oj h1 (jY hN hv hd hcd) hb hm).imp λσ H Q h=>tK h2 σ H _ (Td h)
variable{e:Expr}{es:List Expr}{ea:dI}
def aey{k k':Nat}{m:Nat}{ps:List Str}{g:List D->Option D}(O:Own X.prog X.w X.K X.mg X.base n k ps (nY X.K m g))(G:Good X C)(hr:ji k' X.A)(hk:Nat.ble k k'=true)(ha:Kr X C (e::es) ea)(hn:∀env ds env',ea env = .ok ds env'->ds.length=m)
  (hg:Gl X n:=by rfl) (hdb:mU n:=by decide) (he:starEach (e::es) X.env=(false,eval e X.env)::starEach es X.env:=by rfl) (hpl:(backTo pos (starEach es X.env)).any (·.1)=false:=by rfl):PX X C (.Call (.Name n p) (e::es) [] pos) (au g ea):=by
 obtain⟨f,fd,h1,h2,h3,h4⟩:=O;rw[G.K] at h1;have h1':pP X.prog X.w X.K X.mg X.base Hj k f fd ps (nY C.K m g):=by rw[G.K];exact h1
 exact ab3 h1' (hr.mono (Qkx hk)) hg h2 h3 h4 ha hn hdb he hpl
def afG{k k':Nat}{m:Nat}{ps:List Str}{g:List D->Option D}(O:Own X.prog X.w X.K X.mg X.base n k ps (spN X.K m g))(G:Good X C)(hr:ji k' X.A)(hk:Nat.ble k k'=true)(ha:Kr X C (e::es) ea)(hn:∀env ds env',ea env = .ok ds env'->ds.length=m)
  (hg:Gl X n:=by rfl) (hdb:mU n:=by decide) (he:starEach (e::es) X.env=(false,eval e X.env)::starEach es X.env:=by rfl) (hpl:(backTo pos (starEach es X.env)).any (·.1)=false:=by rfl):R6 X C (.Call (.Name n p) (e::es) [] pos) (au g ea):=by
 obtain⟨f,fd,h1,h2,h3,h4⟩:=O;rw[G.K] at h1;have h1':pP X.prog X.w X.K X.mg X.base Hj k f fd ps (spN C.K m g):=by rw[G.K];exact h1
 exact Yp h1' (hr.mono (Qkx hk)) hg h2 h3 h4 ha hn hdb he hpl
def ag2{k k':Nat}{m:Nat}{ps:List Str}{g:List D->Option (D×D)}{v:Str}{pv:Pos}(i:Nat)(O:Own X.prog X.w X.K X.mg X.base n k ps (ur X.K m g))(G:Good X C)(hr:ji k' X.A)(hk:Nat.ble k k'=true)(ha:Kr X C es ea)(hn:∀env ds env',ea env = .ok ds env'->ds.length+1=m)
  (hN:X.N[i]? = some v:=by rfl) (hv:tR X.env.scope v:=by first|exact Or.inl rfl|exact Or.inr (Or.inl rfl)|exact Or.inr (Or.inr rfl))
  (hg:Gl X n:=by rfl) (hdb:mU n:=by decide) (he:starEach (.Name v pv::es) X.env=(false,eval (.Name v pv) X.env)::starEach es X.env:=by rfl) (hpl:(backTo pos (starEach es X.env)).any (·.1)=false:=by rfl)
  (hd:mU v:=by decide) (hcd:uG v:=by decide):PX X C (.Call (.Name n p) (.Name v pv::es) [] pos) (di g i ea):=by
 obtain⟨f,fd,h1,h2,h3,h4⟩:=O;rw[G.K] at h1;have h1':pP X.prog X.w X.K X.mg X.base Hj k f fd ps (ur C.K m g):=by rw[G.K];exact h1
 exact afh hN hv h1' (hr.mono (Qkx hk)) hg h2 h3 h4 ha hn hdb he hpl hd hcd
def len0:∀(env:Env) (ds:List D) (env':Env),ak env = .ok ds env'->ds.length=0:=RC
def bu{a:Ev}{r:dI}{m:Nat}(hr:∀env ds env',r env = .ok ds env'->ds.length=m):∀(env:Env) (ds:List D) (env':Env),aa a r env = .ok ds env'->ds.length=m+1:=M4 hr
def iJ{r:dI}{m:Nat}(hr:∀env ds env',r env = .ok ds env'->ds.length=m):∀(env:Env) (ds:List D) (env':Env),r env = .ok ds env'->ds.length+1=m+1:=λenv ds env' h=>by rw[hr env ds env' h]
def ahz{elt tg iter:Expr}{ifs:List Expr}{scope:Scope}(N':List Str){it:dI}{g:GV}{cc:fU}{ee:Ev}(lo:Nat)(ok:nM X scope N')(G:Good X C)(hi:Sg X C tg iter it)
  (bg:∀X',kj X scope N' X'->PXG X' C lo tg g) (bc:∀X',kj X scope N' X'->R7 X' C ifs cc) (be:∀X',kj X scope N' X'->PX X' C elt ee)
  (hs:∀x,foldedSetIterable iter X.env x=pure x:=by intro _;rfl):R6 X C (.ListComp elt [⟨tg,iter,ifs,0⟩] scope pos) (d9 lo N'.length it g cc ee):=abZ N' lo ok G.calm hi bg bc be hs
def ahn{elt tg iter:Expr}{ifs:List Expr}{scope:Scope}(N':List Str){spos py:Pos}{it:dI}{g:GV}{cc:fU}{ee:Ev}(lo:Nat)(i:Nat)(ok:nM X scope N')(G:Good X C)(hi:Sg X C tg iter it)
  (bg:∀X',kj X scope N' X'->PXG X' C lo tg g) (bc:∀X',kj X scope N' X'->R7 X' C ifs cc) (be:∀X',kj X scope N' X'->PX X' C elt ee)
  (hnd:nC X.N=true:=by rfl) (hfx:C.fx i=none:=by rfl) (hy:X.N[i]? = some n:=by rfl) (hx:Loc X.env.scope n:=by first|exact Or.inl rfl|exact Or.inr rfl)
  (hsw:swapsWith (.ListComp elt [⟨tg,iter,ifs,0⟩] scope pos) (some (.Name n py)) spos.line X.env=pure true:=by rfl)
  (hf:X.fn n=true\/X.env.scope.names.lookup n=some .local:=by first|exact .inl rfl|exact .inr rfl)
  (hs:∀x,foldedSetIterable iter X.env x=pure x:=by intro _;rfl):Xf X C (.Assign [.Name n py] (.ListComp elt [⟨tg,iter,ifs,0⟩] scope pos) spos) (cP i (d9 lo N'.length it g cc ee)):=QT N' lo ok G.calm hi bg bc be (jK hnd) hy hx hfx hsw hf hs
end
section
variable{P:Program}{w:World}{K:Fg}{mg:Str->Option Value}{base:Heap}{x:Str}{st:Stmt}{N ps:List Str}{k:Nat}{ev:cu}
def zH{x:Str}{f:Addr}{cdv:Value}{A:Around}{outer:List PySem.Env}{s:Shared}{H:Hp}{E:XK}{C:Cfg}(hC:C.K=K)(hr:ji k (A.deeper (envOfC x (aN st) s.heap.objs.size f cdv))):Good (bx P w K mg base N x st f cdv A outer s H E) C:=⟨hC.symm,rfl,hr.units⟩
def bT(F:cO K mg x st ps)(S:bB N ps (aN st))
  (hb:∀(f:Addr) (cdv:Value) (A:Around) (outer:List PySem.Env) (s:Shared) (H:Hp) (E:XK),ji k (A.deeper (envOfC x (aN st) s.heap.objs.size f cdv))->Good (bx P w K mg base N x st f cdv A outer s H E) (C0 K)->Di (bx P w K mg base N x st f cdv A outer s H E) (C0 K) (fJ st) ev) :
  Own P w K mg base x (k+1) ps (nY K ps.length (cN N.length ev)):=by
 obtain⟨f,fd,h1,h2,h3⟩:=F;exact⟨f,fd,J6 h1 S λcdv A outer s H E hr=>hb f cdv A outer s H E hr (zH rfl hr),h2,h1.kp,h3⟩
def YW(F:cO K mg x st ps)(S:bB N ps (aN st))
  (hb:∀(f:Addr) (cdv:Value) (A:Around) (outer:List PySem.Env) (s:Shared) (H:Hp) (E:XK),ji k (A.deeper (envOfC x (aN st) s.heap.objs.size f cdv))->Good (bx P w K mg base N x st f cdv A outer s H E) (C0 K)->Di (bx P w K mg base N x st f cdv A outer s H E) (C0 K) (fJ st) ev) :
  Own P w K mg base x (k+1) ps (spN K ps.length (runN N.length ev)):=by
 obtain⟨f,fd,h1,h2,h3⟩:=F;exact⟨f,fd,Z1 h1 S λcdv A outer s H E hr=>hb f cdv A outer s H E hr (zH rfl hr),h2,h1.kp,h3⟩
def rH{y:Str}{qs:List Str}(F:cO K mg x st (y::qs))(S:bB N (y::qs) (aN st))
  (hb:∀(f:Addr) (cdv:Value) (A:Around) (outer:List PySem.Env) (s:Shared) (H:Hp) (E:XK) (a:Addr),ji k (A.deeper (envOfC x (aN st) s.heap.objs.size f cdv))->Good (bx P w K mg base N x st f cdv A outer s H E) (C1 K a)->Di (bx P w K mg base N x st f cdv A outer s H E) (C1 K a) (fJ st) ev) :
  Own P w K mg base x (k+1) (y::qs) (ur K (qs.length+1) (gV N.length ev)):=by
 obtain⟨f,fd,h1,h2,h3⟩:=F;exact⟨f,fd,adL h1 S λcdv A outer s H E a hr=>hb f cdv A outer s H E a hr (zH rfl hr),h2,h1.kp,h3⟩
def gm{sc:Scope}(h1:sc.kind = .function:=by rfl)(h2:sc.isCoroutine=false:=by rfl)(h3:sc.isGenerator=false:=by rfl)(h4:nC N=true:=by rfl)(h5:N.take ps.length=ps:=by rfl)
  (h6:(ps.all λx=>decide (sc.names.lookup x=some .local)||decide (sc.names.lookup x=some .cell))=true:=by rfl) (h7:(sc.names.all λy=>!decide (y.2 = .free))=true:=by rfl):bB N ps sc:=by
 refine⟨h1,h2,h3,jK h4,h5,λx hx=>?_,λy hy z=>?_⟩
 ·have:=Qxw.mp h6 x hx;rw[Bool.or_eq_true] at this;rcases this with z|z
  ·exact .inl (Qxk z)
  ·exact .inr (Qxk z)
 ·have:=Qxw.mp h7 y hy;rw[Qw8 z] at this;exact absurd this (by decide)
end
open PySem PySem.Spec PySem.W PySem.Calls PyProof.Rows L2
theorem yd:∀(ns:List Int) (i:Int),i∈ns->Builtin.Int.intBits i<=WData.weightAll (ns.map WData.int)
 | [],_,h=>by simp at h
 | n::ns,i,h=>by
  rw[Qq8,WData.weightAll];rcases Qq1.mp h with rfl|h
  ·have e:WData.weight (.int i)=Builtin.Int.intBits i:=by rw[WData.weight];rfl
   rw[e];omega
  ·have:=yd ns i h;omega
def Np(ns:List Int):Prop:=∀i∈ns,Builtin.Int.intBits i<=2^20
def G9{l:OpenLaw}{n:Nat}{q:Program}{loose:List Str}{XP:(Str->Option Value)->Heap->Prop}{YP:World->Heap->Prop}{d:DefRec}
  (hn:l.most=some n) (hdf:d.params.defaults=[])
  (call:∀(w:World) (s₀ s₁:Shared) (mg mb:Str->Option Value) (fa:Addr) (o:Obj) (pm cd doc:Value) (a:Addr) (vs:List Value) (ns:List Int),
   Ground q loose [] XP w s₀ mg mb s₁.heap->YP w s₁.heap->
   s₁.heap.get? fa=some o->o.data = .func (docDef d.name d.params d.body d.scope pm cd doc)->s₁.heap.CodeRec cd d.name->mg d.name=some (.ref fa)->
   s₁.heap.get? a=some { cls:=.type "list",data:=.seq vs.toArray }->IntsAre vs ns->ns.length<=n->Np ns->s₁.gens = #[]->
   codeAny (model l.prog w) callerA (.call (.ref fa) ⟨[.ref a],[]⟩) (λr s'=>r = .ok (.ret (.bool true))/\OldK s₁.heap s'.heap/\s'.os=s₁.os/\AllBare s'.gens) s₁) :
  WalkO q loose XP YP l.row.toRowW d [] (λf vs=>PySem.call f vs):=by
 intro w s₀ s₁ mg mb G Y fa o pm cd doc dV kV ho hd hcd hD hmg hg args vals as hpre hlay hrd hwl hlo;obtain rfl:dV = .none:=Dflts.none hD hdf;obtain rfl:kV = .none:=Dflts.noKw hD;obtain⟨a,vs,ns,rfl,rfl,hobj,hints,hlen⟩:=Att.QF hn hpre hwl;have Pj:Np ns:=λi hi=>by
  have h1:=(layableW_iff.mp (layableW_arg hlay _ (Qqy.mpr rfl))).2.2;rw[WData.weight] at h1;exact Qq3 (yd ns i hi) h1
 refine enter_call (codeAny_mono (call w s₀ s₁ mg mb fa o pm cd doc a vs ns G Y ho (fd_plain hd) hcd hmg hobj hints hlen Pj hg) λr s' hq=>?_);obtain⟨rfl,h2,h3,h4⟩:=hq;exact⟨.inl ⟨.bool true,.bool true,[],rfl,λ_=>rfl,.bool true,Att.Q3 l _,λ_=>⟨List.Pairwise.nil,λ_ hm=>(nomatch hm)⟩⟩,h2,h3,h4⟩
theorem aeA{l:PySem.W.OpenLaw}{n k:Nat}{q:Program}{loose:List Str}{XP:(Str->Option Value)->Heap->Prop}{YP:World->Heap->Prop}{d:DefRec}{K:Params->PySem.W.Frag}{x:Str}{f:List D->Option D}
  (hn:l.most=some n) (hn2:n<=sizeLine) (hdf:d.params.defaults=[]) (hr:ji k callerA)
  (hY:∀(w:World) (h:Heap),YP w h->(K w.params).In h)
  (hf:∀ns:List Int,ns.length<=n->Np ns->f [.arr (ns.map .int)]=some (.bl true))
  (F:∀(w:World) (mg:Str->Option Value) (fa:Addr) (h:Heap),(K w.params).In h->h.Ns mainGlobals mg->mg d.name=some (.ref fa)->
   ∃fd:FuncData,(∀(s:Shared) (u:Value),BindsTo s fd ⟨[u],[]⟩ [(x,u)])/\
    ∀base:Heap,(K w.params).In base->base.Ns mainGlobals mg->pP l.prog w (K w.params) mg base Hj k fa fd [x] (nY (K w.params) 1 f)) :
  PySem.W.WalkO q loose XP YP l.row.toRowW d [] (λf vs=>PySem.call f vs):=by
 refine G9 hn hdf λw s₀ s₁ mg mb fa o pm cd doc a vs ns G Y ho hd hcd hmg hobj hints hlen Pj hg=>?_;have KX:=hY w _ Y;obtain⟨fd,hb,hF⟩:=F w mg fa _ KX G.T.g hmg;refine VJ KX G.T.g G.T.b G.T.builtins G.T.nolimit hg hobj hints (Qq3 hlen hn2) hr hF hb (λH hO hS=>?_) λH e s' z=>z;refine⟨H,[.arr (ns.map .int)],.bl true,rfl,aR.refl H,⟨_,_,rfl,⟨by rw[Qqx];exact Qq3 hlen hn2,a,_,rfl,hS,?_⟩,rfl⟩,hf ns hlen Pj,λv H' F' _ _ _ _ p=>p⟩;clear hints hlen Pj hS
 induction ns with
 | nil=>exact rfl
 | cons m ns ih=>exact⟨_,_,rfl,rfl,ih⟩
section
variable{K:Fg}{h:Heap}{mg:Str->Option Value}
def funAt{x:Str}{st:Stmt}{ps:List Str}{f:Addr}{oc:Value}{od an:Option Addr}{osl:Array (Option Value)}{kV doc pm cdv ct:Value}(X:K.In h)(G:h.Ns mainGlobals mg)
  (a:PySem.W.nsIn K mainGlobals x=some (some (.ref f))) (l:K.lookup f=some ⟨oc,od,.func (PySem.W.fnOf x x (j9 st) (fJ st) (aN st) .none kV doc pm an cdv ct),osl⟩)
  (c:PySem.W.codeIn K cdv x=true) (k:PySem.W.keepIn K (.ref f)=true)
  (b:∀(kV doc pm:Value) (an:Option Addr) (cdv ct:Value) (us:List Value),us.length=ps.length->bindArgs (PySem.W.fnOf x x (j9 st) (fJ st) (aN st) .none kV doc pm an cdv ct) ⟨us,[]⟩=pure (ps.zip us)):cO K mg x st ps:=
 ⟨f,_,MP l c k,PySem.W.mg_of X G a,(MP (st:=st) l c k).binds b⟩
def ZM{x s:Str}{z:List Nat}{t:Tok}(X:K.In h)(G:h.Ns mainGlobals mg)(a:PySem.W.nsIn K mainGlobals x=some (some (.str s t)))(hs:s=strOf z)(hz:z.length<=sizeLine):Glb K mg x (.str z):=
 ⟨.str s,_,PySem.W.mg_of X G a,⟨t,rfl⟩,λF=>⟨by rw[hs],hz⟩⟩
theorem xE{x:Str}(X:K.In h)(G:h.Ns mainGlobals mg)(e:PySem.W.nsIn K mainGlobals x=some none):mg x=none:=PySem.W.mg_none_of X G e
end
open PySem L2
theorem Br{g:GV}{b:cu}(P:Env->Prop):∀(ds:List D),(∀d∈ds,∀env,P env->∃e1 e2,g d env=some e1/\b e1 = .nx e2/\P e2)->∀env,P env->∃e',je g b ds env = .nx e'/\P e'
 | [],_,env,hp=>⟨env,rfl,hp⟩
 | d::ds,h,env,hp=>by
  obtain⟨e1,e2,h1,h2,h3⟩:=h d (Qqv ..) env hp;obtain⟨e',h4,h5⟩:=Br P ds (λd' hd=>h d' (Qqk _ hd)) e2 h3;refine⟨e',?_,h5⟩;unfold je;rw[h1];simp only;rw[h2];exact h4
theorem Px{g:GV}{b:cu}{all:List D}(P:List D->Env->Prop)(h:∀done d rest,all=done++d::rest->∀env,P done env->∃e1 e2,g d env=some e1/\b e1 = .nx e2/\P (done++[d]) e2):∀(ds done:List D),all=done++ds->∀env,P done env->∃e',je g b ds env = .nx e'/\P all e'
 | [],done,ha,env,hp=>⟨env,rfl,by rw[ha,Qxq];exact hp⟩
 | d::ds,done,ha,env,hp=>by
  obtain⟨e1,e2,h1,h2,h3⟩:=h done d ds ha env hp;obtain⟨e',h4,h5⟩:=Px P h ds (done++[d]) (by rw[Qxv];exact ha) e2 h3;refine⟨e',?_,h5⟩;unfold je;rw[h1];simp only;rw[h2];exact h4
def lr{g:GV}{b:cu}(all:List D)(P:List D->Env->Prop)(h:∀done d rest,all=done++d::rest->∀env,P done env->∃e1 e2,g d env=some e1/\b e1 = .nx e2/\P (done++[d]) e2)(env:Env)(h0:P [] env):∃e',je g b all env = .nx e'/\P all e':=Px P h all [] rfl env h0
def az{a b:cu}{env e:Env}(h:a env = .nx e):aF a b env=b e:=by unfold aF;rw[h]
def lM{a b:cu}{env e:Env}{o:Bool}{d:D}(h:a env = .rt o d e):aF a b env = .rt o d e:=by unfold aF;rw[h]
def dq{it:dI}{g:GV}{b:cu}{env e:Env}{ds:List D}(h:it env = .ok ds e):eZ it g b env=je g b ds e:=by unfold eZ;rw[h];rfl
def bC{a:Ev}{g:GV}{env e e':Env}{d:D}(h:a env = .ok d e)(h':g d e=some e'):aQ a g env = .nx e':=by unfold aQ;rw[h];show VF (g d e)=_;rw[h'];rfl
def ik{t:fU}{a b:cu}{env e:Env}(h:t env = .ok true e):iD t a b env=a e:=by unfold iD;rw[h];rfl
def fB{t:fU}{a b:cu}{env e:Env}(h:t env = .ok false e):iD t a b env=b e:=by unfold iD;rw[h];rfl
def bH{a:Ev}{env e:Env}{d:D}(h:a env = .ok d e):bI a env = .rt false d e:=by unfold bI;rw[h];rfl
def aJ{g:List D->Option D}{a:dI}{env e:Env}{ds:List D}{d:D}(h:a env = .ok ds e)(h':g ds=some d):au g a env = .ok d e:=by unfold au;rw[h];show jf (g ds) e=_;rw[h'];rfl
def bF{g:D->D->Option D}{a b:Ev}{env e1 e2:Env}{x y d:D}(h1:a env = .ok x e1)(h2:b e1 = .ok y e2)(h3:g x y=some d):aO g a b env = .ok d e2:=by
 unfold aO;rw[h1];show bindR (b e1) _=_;rw[h2];show jf (g x y) e2=_;rw[h3]
 rfl
def xT{g:D->D->Option D}{i:Nat}{b:Ev}{env e2:Env}{x y d:D}{o o':Bool}{x0:D}(h1:env[i]? = some (some (o',x0)))(h2:b env = .ok y e2)(h4:e2[i]? = some (some (o,x)))(h3:g x y=some d):aB g i b env = .ok d e2:=by
 unfold aB;rw[h1];show bindR (b env) _=_;rw[h2];show(match e2[i]? with|some (some (_,x))=>jf (g x y) e2|_=>.stuck)=_;rw[h4];show jf (g x y) e2=_;rw[h3]
 rfl
def aH{a:Ev}{r:dI}{env e1 e2:Env}{d:D}{ds:List D}(h1:a env = .ok d e1)(h2:r e1 = .ok ds e2):aa a r env = .ok (d::ds) e2:=by
 unfold aa;rw[h1];show bindR (r e1) _=_;rw[h2]
 rfl
def bz{env:Env}:ak env = .ok [] env:=rfl
def JX{r:dI}{env e:Env}{ds:List D}(h:r env = .ok ds e)(hz:ds.length<=sizeLine):cz r env = .ok (.lst ds) e:=by unfold cz;rw[h];show(if ds.length<=sizeLine then _ else _)=_;rw[if_pos hz]
def cA{r:dI}{env e:Env}{ds:List D}(h:r env = .ok ds e)(hz:ds.length<=sizeLine):bY r env = .ok (.tup ds) e:=by unfold bY;rw[h];show(if ds.length<=sizeLine then _ else _)=_;rw[if_pos hz]
def qe{f:List D->Option (D×D)}{i:Nat}{a:dI}{env e1:Env}{ds:List D}{x0 x d x':D}(h0:env[i]? = some (some (true,x0)))(h1:a env = .ok ds e1)(h2:e1[i]? = some (some (true,x)))(h3:f (x::ds)=some (d,x')):di f i a env = .ok d (e1.set i (some (true,x'))):=by unfold di;rw[h0];show bindR (a env) _=_;rw[h1];show(match e1[i]? with|some (some (true,x))=>(match f (x::ds) with|some (d,x')=>R.ok d (e1.set i (some (true,x')))|none=>R.stuck)|_=>R.stuck)=_;rw[h2];show(match f (x::ds) with|some (d,x')=>R.ok d (e1.set i (some (true,x')))|none=>.stuck)=_;rw[h3]
def Pq{i j:Int}(h:lG i j=true):uK (.int i) (.int j)=some (.int (i*j)):=by show gI lG (λi j=>D.int (i*j)) (.int i) (.int j)=_;unfold gI;simp only;rw[if_pos h]
def Wh{a b:List D}(h:a.length+b.length<=sizeLine):cL (.lst a) (.lst b)=some (.lst (a++b)):=by show(if a.length+b.length<=sizeLine then _ else _)=_;rw[if_pos h]
def dh{a:Ev}{env e:Env}{b:Bool}(h:a env = .ok (.bl b) e):eO a env = .ok b e:=by unfold eO;rw[h];rfl
def lN{i:Nat}{a:Ev}{env e:Env}{d:D}(h:a env = .ok d e):cP i a env = .nx (e.set i (some (true,d))):=by unfold cP;rw[h];rfl
def zL{a:Ev}{env e:Env}{d:D}{ds:List D}(h:a env = .ok d e)(h':itD d=some ds):dW a env = .ok ds e:=by unfold dW;rw[h];show jf (itD d) e=_;rw[h'];rfl
def iH{n:Nat}{ev:cu}{x d x':D}{r:List D}{env:Env}(h:ev (BJ n x r) = .rt false d env)(h0:env[0]? = some (some (true,x'))):gV n ev (x::r)=some (d,x'):=by unfold gV;simp only;rw[h];simp only;rw[h0]
def bV{n:Nat}{ev:cu}{d:D}{ds:List D}{env:Env}(h:ev (envOf n ds) = .rt false d env):cN n ev ds=some d:=by unfold cN;rw[h]
def adF{a b:Ev}{env e:Env}(h:a env = .ok (.bl true) e):GD a b env = .ok (.bl true) e:=by unfold GD;rw[h];rfl
def adG{a b:Ev}{env e:Env}(h:a env = .ok (.bl false) e):GD a b env=b e:=by unfold GD;rw[h];rfl
def PJ{a b:fU}{env e:Env}(h:a env = .ok false e):JW a b env=b e:=by unfold JW;rw[h];rfl
def RB{a:fU}{env e:Env}{b:Bool}(h:a env = .ok b e):GF a env = .ok (!b) e:=by unfold GF;rw[h];rfl
theorem zz{g:GV}{e:Ev}(P:Env->Prop)(f:D->D):∀(ds:List D) (env:Env),P env->(∀d∈ds,∀env,P env->∃e1 e2,g d env=some e1/\e e1 = .ok (f d) e2/\P e2)->∃env',Hk g bZ e ds env = .ok (ds.map f) env'/\P env'
 | [],env,hp,_=>⟨env,rfl,hp⟩
 | d::ds,env,hp,h=>by
  obtain⟨e1,e2,h1,h2,h3⟩:=h d (Qqv ..) env hp;obtain⟨e3,h4,h5⟩:=zz P f ds e2 h3 λd' hd=>h d' (Qqk _ hd);refine⟨e3,?_,h5⟩;unfold Hk;rw[h1];show bindR (e e1) _=_;rw[h2];show bindR (Hk g bZ e ds e2) _=_;rw[h4]
  rfl
def oG{lo n:Nat}{it:dI}{g:GV}{c:fU}{e:Ev}{env aL dX:Env}{ds ys:List D}(h1:it env = .ok ds aL)(hl:aL.length=lo)(h2:Hk g c e ds (aL++List.replicate (n - lo) none) = .ok ys dX)(hz:ys.length<=sizeLine):d9 lo n it g c e env = .ok (.lst ys) (dX.take lo):=by unfold d9;rw[h1];show(if aL.length=lo then _ else _)=_;rw[if_pos hl,h2];show(if ys.length<=sizeLine then _ else _)=_;rw[if_pos hz]
def dig(n:Int)(m:Nat)(hm:0<m):∃d:Nat,d<m/\n % (m:Int)=(d:Int):=by have h1:0<=n % (m:Int):=Int.emod_nonneg n (by omega);have h2:n % (m:Int)<m:=Int.emod_lt_of_pos n (by omega);exact⟨(n % (m:Int)).toNat,by omega,by omega⟩
def Hc{α:Type}{xs:List α}{d:Nat}(h:d<xs.length):uf xs (d:Int)=some xs[d]:=mW (Qq9 h)
def okN:Nat->D->Bool
 | 0,_=>false
 | n+1,.tup xs=>xs.all (okN n)
 | n+1,.lst xs=>xs.all (okN n)
 | _+1,.dct _=>false
 | _+1,.gC _=>false
 | _+1,.clo _ _=>false
 | _+1,.arr _=>false
 | _+1,_=>true
theorem By{f:D->D->Option Bool}:∀(xs:List D),(∀x∈xs,f x x=some true)->wk f xs xs=some true
 | [],_=>rfl
 | x::r,h=>by
  unfold wk;rw[h x (Qqv ..),By r λy hy=>h y (Qqk _ hy)]
  rfl
theorem Bw:∀(n:Nat) (d:D),okN n d=true->bA n d d=some true
 | 0,_,h=>by cases h
 | n+1,d,h=>by
  cases d with
  | tup xs=>exact By xs λx hx=>Bw n x (Qxw.mp h x hx)
  | lst xs=>exact By xs λx hx=>Bw n x (Qxw.mp h x hx)
  | dct _=>cases h
  | gC _=>cases h
  | clo _ _=>cases h
  | arr _=>cases h
  | non=>rfl
  | bl b=>show some (b == b)=_;simp
  | int i=>show some (i == i)=_;simp
  | str x=>show some (x == x)=_;simp
open PySem PySem.Spec PyProof.Rows L2 PySem.Builtin
def zW{prog:Program}{w:World}{A:Around}{E:Value->Shared->Prop}{s:Shared}{a:Addr}{items:Array Value}{x:Value}{Q:PySem.Fin->Shared->Prop}(ht:IsTup s.heap a items)(e:Value->Bool)(j:Nat)(hj:j<items.size)(hit:e items[j]=true)(hno:∀m (hm:m<items.size),m<j->e items[m]=false)
  (he:∀y∈items,SeqAt.EqAt A s y x (e y)) (h:Q (.done (.ret (.int j s.toks))) { s with toks:=s.toks+1 }):wpAny (model prog w) A (Builtin.«tuple.index» ⟨[.ref a,x],[]⟩) Q E s:=by
 unfold Builtin.«tuple.index»;refine Qqq (m:=selfAndSome "tuple.index" "index" 1 3 ⟨[Value.ref a,x],[]⟩) (Qq2 ?_);refine Qqq (tupleItemsOf_ ht ?_);refine Qqq (Qq2 (Qqq (Qq2 ?_)));dsimp only;rw[Std.Legacy.Range.forIn_eq_forIn_range',Nat.min_self];refine Qqq (wpAny_forIn_list _ (λrest b s'=>b=(none,())/\s'=s/\∃k,k<=j/\rest=List.range' k (items.size - k)) (λb s'=>∃r,b=(some r,())/\Q r s') ?_ ?_ _ _ ⟨rfl,rfl,0,Qxy _,by simp[Std.Legacy.Range.size]⟩ |> λz=>Qjv z (λb s' ⟨r,hb,hq⟩=>by subst hb;exact Qq2 hq) λ_ _ h=>h)
 ·rintro i rest b s' ⟨rfl,rfl,k,hk,hr⟩;have hlt:k<items.size:=Qw4 hk hj;obtain⟨m,hm⟩:∃m,items.size - k=m+1:=⟨items.size - k - 1,by omega⟩;rw[hm,List.range'_succ] at hr;cases hr;have hi:items[i]? = some items[i]:=by simp[hlt]
  rw[hi];refine Qqq (he _ (Array.getElem_mem hlt) prog w _ _ ?_);by_cases hij:i=j
  ·subst hij;rw[hit,if_pos rfl];unfold retInt;refine Qqq (Qqq (wpAny_mkInt ?_));exact Qq2 (Qq2 ⟨_,rfl,h⟩)
  ·rw[hno i hlt (by omega),if_neg Qw5];exact Qq2 ⟨rfl,rfl,i+1,by omega,by congr 1;omega⟩
 ·rintro b s' ⟨rfl,rfl,k,hk,hr⟩;exfalso;have:=Qx5 List.length hr;simp at this;omega
end Ev
namespace L2
open PySem PySem.Spec PyProof.Rows
section
variable{X:Cx}{pins:List (Addr×Obj)}{σ:St}{H:Hp}{s:Shared}{h':Heap}
def Inv.drawn{t':Nat}{ch:List Addr}{T:Addr}{o:HO}(I:Inv X pins σ H s)(hch:∀b∈ch,sO X pins H b)(k:∀b u,b ∉ ch->s.heap.get? b=some u->h'.get? b=some u)(hT:s.heap.objs.size<=T)
  (new:gH X.prog X.w (upd H T o) h' T o):Inv X pins σ (upd H T o) { s with heap:=h',toks:=t' }:=by
 have nT:H T=none:=I.hok.fresh hT;have nit:∀b u,H b=some u->b ∉ ch:=λb u e z=>by rw[(hch b z).1] at e;cases e
 have up:∀b u,H b=some u->upd H T o b=some u:=λb u e=>by rw[bL (eF e nT)];exact e
 refine I.step (g':=s.gens) (d':=s.drawn) (ch:=ch) (λb hb=>?_) (λb u _ _ hc e _=>k b u hc e) (λb u _ _ hc e _=>⟨u.slots,k b u hc e⟩) (λb u hc e n=>?_)
  (λb u hc e=>⟨u,k b u hc e⟩) (λb xs e=>up b _ e) (λb u v e=>up b _ e) (λb ps e=>⟨#[],by rw[up b _ e];simp⟩) (λm hm=>?_) (λb u e=>?_) I.bare (λb qs e=>up b _ e)
 ·obtain⟨h0,h1,h2,h3,h4,h5⟩:=hch b hb;exact⟨h3,h1,h4,h5⟩
 ·have hb:b≠T:=λz=>by
   subst z;exact absurd (Qwz e) (Nat.not_lt.mpr hT)
  rw[bL hb];exact n
 ·obtain⟨u,es,ep,ho,r⟩:=hm;have hL:X.env.locals ∉ ch:=λz=>(hch _ z).2.1 rfl;exact⟨u,es,ep,k _ u hL ho,r⟩
 ·by_cases hb:b=T
  ·subst hb;rw[bh] at e;cases e;exact new
  ·rw[bL hb] at e;refine(I.hok b u e).stay (λc v hc q=>k c v ?_ q) (λc q=>up _ _ q) (λc xs q=>up _ _ q) λc _ _ _ _ q=>up _ _ q;rcases hc with z|z
   ·rw[z];exact nit b u e
   ·exact nit c _ z
def Inv.zf{t':Nat}{ch:List Addr}(I:Inv X pins σ H s)(hch:∀b∈ch,sO X pins H b)(k:∀b u,b ∉ ch->s.heap.get? b=some u->h'.get? b=some u):Inv X pins σ H { s with heap:=h',toks:=t' }:=by
 have nit:∀b u,H b=some u->b ∉ ch:=λb u e z=>by rw[(hch b z).1] at e;cases e
 refine I.step (g':=s.gens) (d':=s.drawn) (ch:=ch) (λb hb=>?_) (λb u _ _ hc e _=>k b u hc e) (λb u _ _ hc e _=>⟨u.slots,k b u hc e⟩) (λb u hc e n=>n)
  (λb u hc e=>⟨u,k b u hc e⟩) (λb xs e=>e) (λb u v e=>e) (λb ps e=>⟨#[],by rw[e];simp⟩) (λm hm=>?_) (λb u e=>?_) I.bare
 ·obtain⟨h0,h1,h2,h3,h4,h5⟩:=hch b hb;exact⟨h3,h1,h4,h5⟩
 ·obtain⟨u,es,ep,ho,r⟩:=hm;have hL:X.env.locals ∉ ch:=λz=>(hch _ z).2.1 rfl;exact⟨u,es,ep,k _ u hL ho,r⟩
 ·refine(I.hok b u e).stay (λc v hc q=>k c v ?_ q) (λ_ q=>q) λ_ _ q=>q;rcases hc with z|z
  ·rw[z];exact nit b u e
  ·exact nit c _ z
end
def Ite(z:Str):It:=⟨λi _=>i<z.cps.size,λi H x H'=>∃p c,z.cps[i]? = some c/\H p=none/\H'=upd H p (.tup [.int i,.str ⟨#[c]⟩])/\x = .ref p,λi _=>i=z.cps.size⟩
theorem Dr{P:Program}{w:World}{K:PySem.W.Frag}{elts:List Expr}{k:Nat}{pos:Pos}(e it:Addr)(z:Str)(t:Tok)(ty:String)(hei:e≠it)
  (D:∀A:Around,A.handled=none->Draws P w A it [it] z.cps.size (λi v=>∃c u,z.cps[i]? = some c/\v = .str ⟨#[c]⟩ u) (λi h=>h.IsStrIter it ty z t i)) :
  Turn P w K (.Tuple elts k pos) (Ite z) [e,it] e (λi h=>(∃old,IsEnum h e it i old)/\h.IsStrIter it ty z t i) where
 mem:=by simp
 obj:=λi h st b hb=>by
  obtain⟨⟨old,he⟩,o,ho,hc,hd⟩:=st;rcases Qq1.mp hb with rfl|hb
  ·exact⟨_,he,λv z=>by cases z⟩
  ·rw[Qqy.mp hb];exact⟨o,ho,λv z=>by rw[hd] at z;cases z⟩
 keep:=λi h h' st kk=>by
  obtain⟨⟨old,he⟩,o,ho,r⟩:=st;exact⟨⟨old,kk e (by simp) _ he⟩,o,kk it (by simp) o ho,r⟩
 item:=by
  intro X hP hw hK hc i pins s σ H E I hf st hg;subst hP hw hK;obtain⟨⟨old,he⟩,hit⟩:=st;refine wpAny_pyNext_enum_itemD (A:=X.A) (D X.A.in1 (I.ok.hd hc)) he hit hg hei (by simp[hei]) λx h' tk hv ho hSt adu hsz hk=>?_;obtain⟨c,u,hcz,rfl⟩:=hv;have hT:s.heap.objs.size<=s.heap.objs.size:=Qq0 _;have helt:e<s.heap.objs.size:=Qwz he;have hilt:it<s.heap.objs.size:=by obtain⟨_,x,_⟩:=hit;exact Qwz x
  have nT:H s.heap.objs.size=none:=I.hok.fresh hT;refine⟨_,rfl,?_⟩;refine wpAny_letOwnedTupleGo_enum (s:={ s with heap:=h',toks:=tk+1 }) ho λh'' adp hs''=>?_;have jo:∀b o,b≠e->h'.get? b=some o->h''.get? b=some o:=λb o hb q=>(hs''.2 b hb).trans q;have hnT:s.heap.objs.size ∉ [e,it]:=λhb=>by
   rcases Qq1.mp hb with z|hb
   ·exact Qz0 helt z
   ·exact Qz0 hilt (Qqy.mp hb)
  refine⟨.ref s.heap.objs.size,upd H s.heap.objs.size (.tup [.int i,.str ⟨#[c]⟩]),I.drawn (t':=tk+1) (ch:=[e,it]) hf (λb o hb q=>jo b o (λz=>hb (by simp[z])) (hk b o (λz=>hb (by simp[z])) (λz=>hb (by simp[z])) q)) hT ?_,rfl,⟨_,c,hcz,nT,rfl,rfl⟩,⟨⟨_,by simpa using adp⟩,?_⟩,λb hb=>?_⟩
  ·exact⟨by show 2<=sizeLine;decide,[.int i tk,.str ⟨#[c]⟩ u],.cons ⟨_,rfl⟩ (.cons ⟨_,rfl⟩ .nil),_,jo _ _ (Qz0 helt) adu,rfl,⟨_,rfl⟩,rfl⟩
  ·obtain⟨o,q,r⟩:=hSt;exact⟨o,jo it o hei.symm q,r⟩
  ·have hne:b≠s.heap.objs.size:=λz=>by
    subst z;exact hnT hb
   rw[bL hne];exact(hf b hb).1
 done:=by intro X hP hw hK hc i pins s σ H E I hf st hg;subst hP hw hK;have W:=WalksT.enumerateD (A:=X.A) (D X.A.in1 (I.ok.hd hc)) e hei (by simp[hei]) (by simp);have hg':i=z.cps.size:=hg;subst hg';exact W.done s _ _ st λh' tk hk=>⟨rfl,I.zf (t':=tk) (ch:=[e,it]) hf λb o hb e=>hk b o hb e⟩
 self:=λA i s Q E st h=>by
  obtain⟨⟨old,he⟩,_⟩:=st;exact wpAny_pyIter_enum he h
section
variable{X:Cx}{tg:Expr}
def af0(ta:TA):TI:=λσ H R=>ta σ H λvs H1=>∃z,vs=[.str z]/\R (Ite z) H1
def YG{elts:List Expr}{k:Nat}{tp:Pos}{a:Expr}{ta:TA}{p pos:Pos}(hg:Gl X "enumerate")(hm:X.mg "enumerate" = none)(ha:PA X [a] ta)(hs:starEach [a] X.env=[(false,eval a X.env)]:=by rfl):PI X (.Tuple elts k tp) (.Call (.Name "enumerate" p) [a] [] pos) (af0 ta):=by
 intro pins s σ H R I h;refine Call_ (rO I hg hm PyProof.Rows.boot_enumerate (Qx8 (fL (ha pos pins s σ H _ I h) λus s1 ⟨vs,H1,I1,r1,q1⟩=>?_) hs rfl));obtain⟨z,e,q⟩:=q1;subst e;cases r1 with
 | cons r rr=>
  cases rr;obtain⟨t,rfl⟩:=r;refine call_enumerate_str λh' he hit hsz hk=>?_;refine wpAny_pyIter_enum he ?_;have I2:Inv X pins σ H1 { s1 with heap:=h' }:=I1.kept (t':=s1.toks) hk;have own:∀b ∈ [s1.heap.objs.size+1,s1.heap.objs.size],sO X pins H1 b:=λb hb=>by
   rcases Qq1.mp hb with rfl|hb
   ·exact I1.Gy (Qvx _) (I1.hok.fresh (Qvx _))
   ·rw[Qqy.mp hb];exact I1.Gy (Qq0 _) (I1.hok.fresh (Qq0 _))
  cases hz:z.cps.all (·< 128)
  ·have hit':h'.IsStrIter s1.heap.objs.size "str_iterator" z t 0:=by simpa[strIterType,hz] using hit
   exact⟨s1.heap.objs.size+1,[s1.heap.objs.size+1,s1.heap.objs.size],_,_,H1,rfl,I2,Dr _ _ z t "str_iterator" (Nat.succ_ne_self _) (λA hA=>Draws.strWide hA _ z t),⟨⟨_,he⟩,hit'⟩,own,q⟩
  ·have hit':h'.IsStrIter s1.heap.objs.size "str_ascii_iterator" z t 0:=by simpa[strIterType,hz] using hit
   exact⟨s1.heap.objs.size+1,[s1.heap.objs.size+1,s1.heap.objs.size],_,_,H1,rfl,I2,Dr _ _ z t "str_ascii_iterator" (Nat.succ_ne_self _) (λA hA=>Draws.strAscii hA _ z t),⟨⟨_,he⟩,hit'⟩,own,q⟩
end
end L2
namespace Ev
open PySem PySem.Spec PyProof.Rows L2 PySem.Builtin
def xB(z:List Nat):List (List Nat)->Option Nat
 | []=>none
 | y::r=>if y=z then some 0 else (xB z r).map (·+ 1)
theorem DQ{z:List Nat}:∀{ys:List (List Nat)} {j:Nat},xB z ys=some j->∃hj:j<ys.length,ys[j]=z/\∀m (hm:m<ys.length),m<j->ys[m]≠z
 | [],j,h=>by cases h
 | y::r,j,h=>by
  unfold xB at h;split at h
  ·rename_i e;cases h;exact⟨by simp,e,λm _ hm=>absurd hm (Qk1 _)⟩
  ·rename_i e;obtain⟨i,hi,rfl⟩:=Qq6.mp h;obtain⟨h1,h2,h3⟩:=DQ hi;refine⟨by simpa using h1,by simpa using h2,λm hm hmi=>?_⟩;cases m with
   | zero=>simpa using e
   | succ m=>simpa using h3 m (by simpa using hm) (by omega)
section
variable{X:Cx}{C:Cfg}{pos:Pos}
def abX(K:Fg):V->List V->Hp->VK->Prop:=λx vs H Q=>∃a zs z j,x = .ref a/\vs=[.str (strOf z)]/\mK K H a (zs.map λy=>V.str (strOf y))/\xB z zs=some j/\Q (.int j) H
def Jr:MtM X "tuple.index" (abX X.K):=by
 intro pins s σ H x vs v us Q I rx rv h;obtain⟨a,zs,z,j,rfl,rfl,hq,hp,q⟩:=h;cases rx;obtain⟨u,rfl,ru⟩:=rv.one;obtain⟨t,rfl⟩:=ru;obtain⟨its,r,ht,hz⟩:=I.tuple hq;obtain⟨hj,h1,h2⟩:=DQ hp;have hlen:its.length=zs.length:=by rw[<-r.length,Qqx]
 have key:∀m (hm:m<zs.length),∃tk,its[m]? = some (.str (strOf zs[m]) tk):=λm hm=>by
  obtain⟨w,e1,e2⟩:=r.get (i:=m) (x:=V.str (strOf zs[m])) (by simp[hm]);obtain⟨tk,rfl⟩:=e2;exact⟨tk,e1⟩
 have at':∀m (hm:m<zs.length) (hm':m<its.toArray.size),∃tk,its.toArray[m] = .str (strOf zs[m]) tk:=λm hm hm'=>by
  obtain⟨tk,e⟩:=key m hm;exact⟨tk,by simpa[Qq4] using (Qq4.mp e).2⟩
 let e:Value->Bool:=λy=>match y with|.str y _=>y == strOf z|_=>false
 refine Qz7 F.slot_tuple_index ht.typeIs F.entry_tuple_index (zW ht e j (by simpa[hlen] using hj) ?_ ?_ ?_ ⟨_,rfl,.int j,H,I.tok _,⟨_,rfl⟩,q⟩) (F.args_tuple_index_2 _ _)
 ·obtain⟨tk,e1⟩:=at' j hj (by simpa[hlen] using hj);rw[e1,h1];show(strOf z == strOf z)=true;simp
 ·intro m hm hmj;have hm':m<zs.length:=by simpa[hlen] using hm
  obtain⟨tk,e1⟩:=at' m hm' hm;rw[e1];show(strOf zs[m] == strOf z)=false;rw[Qz1];intro e2;refine h2 m hm' hmj ?_;have:=Qx5 (λs:Str=>s.cps.toList) e2
  simpa[strOf] using this
 ·intro y hy;obtain⟨m,hm,rfl⟩:=Array.mem_iff_getElem.mp hy;have hm':m<zs.length:=by simpa[hlen] using hm
  obtain⟨tk,e1⟩:=at' m hm' hm;rw[e1];have:=adH (A:=X.A.in1) (s:=s) (y:=.str (strOf zs[m])) (x:=.str (strOf z)) (u:=.str (strOf zs[m]) tk) (v:=.str (strOf z) t) ⟨_,rfl⟩ ⟨_,rfl⟩ rfl rfl;exact this
end
end Ev
namespace L2
open PySem PySem.Spec PyProof.Rows PySem.Builtin PySem.Builtin.Str
section
variable{X:Cx}{pins:List (Addr×Obj)}{σ:St}{H:Hp}{s:Shared}{a:Addr}{xs:List V}
def Inv.SN(I:Inv X pins σ H s)(h:mK X.K H a xs):∃its:List Value,Vals xs its/\Dh s.heap a its.toArray:=by
 rcases h with h|⟨o,its,n,hk,hc,hdn,hs,hz,r⟩
 ·obtain⟨z,its,r,p⟩:=h.ok I.hok;exact⟨its,r,p⟩
 ·exact⟨its.toList,r,⟨o,I.kIn a o hk,hc,⟨n,by simpa using hs⟩,hdn⟩⟩
end
section
variable{X:Cx}{o e:Expr}{to te:TE}{name:Str}{apos cpos:Pos}{id:String}{r:V->List V->Hp->VK->Prop}{t:TA}
def ahj(K:PySem.W.Frag)(r:V->List V->Hp->VK->Prop)(to:TE)(t:TA):TE:=λσ H Q=>to σ H λx H1=>(∃p ys,x = .ref p/\mK K H1 p ys)/\t σ H1 λxs H2=>r x xs H2 Q
def acr(slot:Slot "tuple" name id)(hty:typeOf (.builtin id)=pure (.type "method_descriptor"))(hm:MtR X id r)(ho:PE X o to)(ha:PA X [e] t)
  (hbase:attributeBase o name X.env (eval o X.env)=eval o X.env:=by rfl)
  (hfew:((backTo cpos (starEach [e] X.env)).all (λx=>!x.1)&&(backToKw cpos (keywordEach [] X.env)).all (λx=>x.1.isSome)
   && decide ([e].length+([]:List Keyword).length+(if ([]:List Keyword).isEmpty then 0 else 1)<30))=true:=by rfl)
  (hline:(apos.endLine == cpos.line)=true:=by rfl) (hs:Dy e X.env:=by rfl) (hplain:(backTo cpos (starEach [] X.env)).any (·.1)=false:=by rfl) :
  PE X (.Call (.Attribute o name apos) [e] [] cpos) (ahj X.K r to t):=by
 intro pins s σ H Q I h;refine wpAny_Call_method_late hbase hfew hline rfl (fL (ho pins s σ H _ I h) λv s1 ⟨x,H1,I1,r1,⟨p,ys,ex,hq⟩,q1⟩=>?_);subst ex;cases r1;obtain⟨its,rv,ob,h1,h2,h3,h4⟩:=I1.SN hq;refine⟨"tuple",id,PySem.F.plainAttrs_tuple,slot,hty,⟨ob,h1,h2⟩,(λa ea=>by cases ea;exact⟨ob,h1,h4⟩),?_⟩;have hA:=ha cpos pins s1 σ H1 _ I1 q1;rw[hs] at hA ⊢;refine Calls.callWith_builtin (by show(false||(backTo cpos (starEach [] X.env)).any (·.1))=false;rw[hplain]<;>rfl) (Calls.evalArgs_plain ?_);exact fL hA λus s2 ⟨vs,H2,I2,r2,q2⟩=>hm pins s2 σ H2 (.ref p) vs (.ref p) us Q I2 rfl r2 q2
def ag8(te ts:TE):TE:=λσ H Q=>te σ H λx H1=>ts σ H1 λy H2=>∃z,x = .str z/\z.length<=sizeLine/\y = .int (-1)/\Q (.str ⟨z.cps.toList.reverse.toArray⟩) H2
def LR(z:Str)(u:Tok):(⟨((slicePicked z none none (some (-1,u))).filterMap (z.cps[·]?)).toArray⟩:Str)=⟨z.cps.toList.reverse.toArray⟩:=by
 have h:=PyProof.Rows.step_rev_list z u;unfold Txt.sliceBy at h;have h1:¬(((((some ((-1:Int),u)).map (·.1)).getD 1 == 1)&&((slicePicked z none none (some (-1,u))).length == z.length))=true):=by have:((((some ((-1:Int),u)).map (·.1)).getD 1 == 1))=false:=rfl;rw[this];simp
 rw[if_neg h1] at h;have h2:((slicePicked z none none (some (-1,u))).filterMap (z.cps[·]?))=z.cps.toList.reverse:=by
  have h3:((slicePicked z none none (some (-1,u))).filterMap (z.cps[·]?))=(List.range z.length).map λk=>z.cps.getD (z.length - 1 - k) 0:=by simpa using h
  rw[h3];apply List.ext_getElem
  ·simp[Str.length]
  ·intro i h4 h5;have hi:i<z.cps.size:=by simpa[Str.length] using h4
   simp[Str.length,Array.getD,List.getElem_reverse];rw[dif_pos (by omega)]
 rw[h2]
def aco{st:Expr}{ts:TE}{p2 pos:Pos}(he:PE X e te)(hst:PE X st ts):PE X (.Subscript e (.Slice none none (some st) p2) pos) (ag8 te ts):=by
 intro pins s σ H Q I h;refine Subscript_ (fL (he pins s σ H _ I h) λv s1 ⟨x,H1,I1,r1,q1⟩=>?_);refine wpAny_Slice ?_;rw[evalPart_none,evalPart_some];refine Qq2 (Qq2 (fL (hst pins s1 σ H1 _ I1 q1) λw s2 ⟨y,H2,I2,r2,q2⟩=>?_));obtain⟨z,ex,hz,ey,q⟩:=q2;subst ex;subst ey;obtain⟨t,rfl⟩:=r1;obtain⟨t',rfl⟩:=r2;have I4:Inv X pins σ H2 { s2 with heap:=s2.heap.push { cls:=.type "slice",data:=.fields #[.none,.none,.int (-1) t'] } }:=I2.kept (t':=s2.toks) λb ob q=>Qqz _ q;show wpAny (model X.prog X.w) X.A (subscriptTail e (.Slice none none (some st) p2) (.str z t) (.ref s2.heap.objs.size)) (EP X pins σ Q) X.xe { s2 with heap:=s2.heap.push { cls:=.type "slice",data:=.fields #[.none,.none,.int (-1) t'] } };refine tail_any (ops:=[.ref s2.heap.objs.size,.str z t]) (typeIs_str _ z t) PySem.F.slot_str_getitem.lookup ?_ (by with_unfolding_all rfl);refine wpAny_getItem_str_slice (l:=none) (u:=none) (st:=some (-1,t')) ⟨_,Qwj _ rfl,rfl,rfl⟩ rfl ?_;unfold sliceMade;have h1:¬(((((some ((-1:Int),t')).map (·.1)).getD 1 == 1)&&((slicePicked z none none (some (-1,t'))).length == z.length))=true):=by have:((((some ((-1:Int),t')).map (·.1)).getD 1 == 1))=false:=rfl;rw[this];simp
 rw[if_neg h1,LR];refine⟨?_,⟨.str ⟨z.cps.toList.reverse.toArray⟩,H2,I4.tok _,⟨_,rfl⟩,q⟩⟩;show z.cps.toList.reverse.toArray.size<=sizeLine
 simpa[Str.length] using hz
end
end L2
namespace Ev
open PySem PySem.Spec PyProof.Rows L2 PySem.Builtin
section
variable{X:Cx}{C:Cfg}{pos:Pos}{e x y:Expr}{a b:Ev}
def MN:D->Option D
 | .int i=>some (.int (-i))
 | _=>none
def abw:UnD C (rU λi=>.int (-i)) MN:=by
 intro Pr F env σ H x d vx Q r px e q;cases x with
 | int i=>cases e;exact⟨i,px.int,q _ H F r (aR.refl F) rfl⟩
 | _=>cases e
def ahY:D->Option D
 | .str z=>some (.str z.reverse)
 | _=>none
def pH(a:Ev):Ev:=λenv=>bindR (a env) λd aL=>jf (ahY d) aL
def aex{p2 p3 p4:Pos}{k:Nat}(ha:PX X C x a):PX X C (.Subscript x (.Slice none none (some (.UnaryOp .USub (.Constant (.int 1) k p4) p3)) p2) pos) (pH a):=by
 refine(aco (p2:=p2) (pos:=pos) ha (aaQ (pos:=p3) SJ (U6 (i:=1) (j:=k) (pos:=p4)))).imp λσ H Q hq=>?_;obtain⟨Pr,F,env,env',d,r,e,q⟩:=hq;obtain⟨z,aL,e1,e2⟩:=bf e;obtain⟨e3,rfl⟩:=fD e2;cases z with
 | str z=>
  cases e3;refine⟨Pr,F,env,env',.str z,r,e1,λv H1 F1 r1 s1 p1=>?_⟩;obtain⟨rfl,hz⟩:=p1;refine⟨1,rfl,strOf z,rfl,by rw[fW];exact hz,rfl,q _ H1 F1 r1 s1 ⟨by simp[strOf],by rw[Qk6];exact hz⟩⟩
 | _=>cases e3
def sZ:D->D->Option D
 | .tup ds,.str z=>(iC ds).bind λzs=>(xB z zs).map λj=>.int (j:Nat)
 | _,_=>none
def Pn:D->D->Option D
 | .str z,.str y=>(match Builtin.Str.occurrences (strOf z) (strOf y) 0 z.length 1 with|i::_=>some (.int (i:Nat))|[]=>none)
 | _,_=>none
def Sv{o:Expr}{apos cpos:Pos}(G:Good X C)(ho:PX X C o a)(he:Nj X C e b)(hbase:attributeBase o "index" X.env (eval o X.env)=eval o X.env:=by rfl)
  (hs:Dy e X.env:=by rfl)
  (hfew:((backTo cpos (starEach [e] X.env)).all (λx=>!x.1)&&(backToKw cpos (keywordEach [] X.env)).all (λx=>x.1.isSome)
   && decide ([e].length+([]:List Keyword).length+(if ([]:List Keyword).isEmpty then 0 else 1)<30))=true:=by rfl)
  (hline:(apos.endLine == cpos.line)=true:=by rfl) (hplain:(backTo cpos (starEach [] X.env)).any (·.1)=false:=by rfl) :
  PX X C (.Call (.Attribute o "index" apos) [e] [] cpos) (aO sZ a b):=by
 have h:=acr (cpos:=cpos) PySem.F.slot_tuple_index PySem.F.type_tuple_index Jr ho (lF he rG hs) hbase hfew hline hs hplain;rw[G.K] at h;refine h.imp λσ H Q hq=>?_;obtain⟨Pr,F,env,env',d,r,e0,q⟩:=hq;obtain⟨x,aL,e1,e2⟩:=bf e0;obtain⟨y,dX,e3,e4⟩:=bf e2;obtain⟨e5,rfl⟩:=fD e4;unfold sZ at e5;split at e5
 ·rename_i ds z;obtain⟨zs,h1,h2⟩:=Qx1.mp e5;obtain⟨j,h3,rfl⟩:=Qq6.mp h2;refine⟨Pr,F,env,aL,_,r,e1,λvx H1 F1 r1 s1 p1=>?_⟩;obtain⟨hz,p,vs,rfl,h4,h5⟩:=p1;refine⟨⟨p,vs,rfl,aR.tupK r1.fr h4⟩,Pr,F1,aL,env',_,r1,e3,λvy H2 F2 r2 s2 p2=>?_⟩;obtain⟨rfl,_⟩:=p2.str;have e6:=sV h1 h5;subst e6;exact⟨p,zs,z,j,rfl,rfl,aR.tupK (s2.trans r2.fr) h4,h3,q _ H2 F2 r2 (s1.trans s2) rfl⟩
 ·cases e5
def wu(x:List Nat):List D:=x.zipIdx.map λp=>.tup [.int (p.2:Nat),.str [p.1]]
def MT(a:dI):dI:=λenv=>bindR (a env) λds aL=>match ds with
 | [.str x]=>.ok (wu x) aL
 | _=>.stuck
end
def Rk{prog:Program}{w:World}{A:Around}{E:Value->Shared->Prop}{s:Shared}{a:Addr}{o:Obj}{xs:Array Value}{k:Nat}{Q:Option Value->Shared->Prop}
  (hx:s.heap.get? a=some o) (hc:o.cls = .type "tuple") (hdat:o.data = .seq xs k) (hd:o.dict=none) (hA:A.handled=none)
  (h:∀h' tk,(∀b u,s.heap.get? b=some u->h'.get? b=some u)->Q none { s with heap:=h',toks:=tk }):wpAny (model prog w) A (getAttr? (.ref a) "keys") Q E s:=by
 obtain⟨hp,g,d,tk,os⟩:=s;obtain⟨oc,od,dt,sl⟩:=o;cases hc;cases hdat;cases hd;have hT:∀tk',(⟨hp,g,d,tk',os⟩:Shared).TypeIs (.ref a) "tuple":=λ_=>⟨_,hx,rfl⟩;have f1:=sub_AttributeError;have f3:=F.slot_tuple_getattribute.lookup;have f4:=F.slot_tuple_getattribute.bind (.ref a);have f5:=am_tuple_getattr_none;have hmiss:typeLookup (.type "tuple") "keys" = pure none:=by rw[typeLookup_type,builtinLookup_eq_fast];kernel_rfl
 unfold getAttr? getAttrBy? getAttrBy
 repeat (any_goals (first|assumption|exact hT _|((with_reducible show wpAny _ _ (call (Value.builtin "tuple.__getattribute__") _ _) _ _ _);refine call_meets F.slot_tuple_getattribute (hT _) am_entry_tuple_getattribute (F.args_tuple_getattribute_2 _ _) (meets_getattribute_miss_tuple a xs k sl "keys" _ hmiss (by decide +kernel) (by decide +kernel)) ⟨hx,hA,λh' tk' e hx'=>?_⟩)|wp_step))
 obtain⟨t',u',he⟩:=hx'.there;show wpAny _ _ (getattributeRaised _ _ _ _ _ _ _) _ _ _;unfold getattributeRaised
 repeat (any_goals (first|assumption|wp_step))
 exact h _ _ hx'.keeps
structure Pr where
 p:Addr
 k:Key
 kv:Value
 v:Value
def Xe(h:Heap)(r:Pr):Prop:=h.IsTuple r.p #[r.kv,r.v]/\Bk r.k r.kv=true
def Xe.keep{h h':Heap}{r:Pr}{c d:Addr}(x:Xe h r)(n1:r.p≠c)(n2:r.p≠d)(k:∀b o,b≠c->b≠d->h.get? b=some o->h'.get? b=some o):Xe h' r:=
 let ⟨⟨o,ho,q⟩,y⟩:=x;⟨⟨o,k _ o n1 n2 ho,q⟩,y⟩
def putAll(kvs:List (Key×Value))(rs:List Pr):List (Key×Value):=rs.foldl (λacc r=>stored acc r.k r.v) kvs
def jX:plainId "dict.update.loop" = true:=by decide +kernel
def rY:entryFor table "dict.update.loop" = some Builtin.«dict.update.loop»:=entryFor_of_tree (by kernel_rfl)
theorem Ht{prog:Program}{w:World}{d it a:Addr}{its:List Value}(hdi:d≠it)(hda:d≠a)(hia:it≠a):∀(rs:List Pr) (i:Nat) (kvs:List (Key×Value)) (A:Around) (R:Result->Shared->Prop) (s:Shared),
  A.handled=none->its.drop i=rs.map (λr=>Value.ref r.p)->s.heap.IsTuple a its.toArray->s.heap.IsTupleIter it a i->s.heap.DictOf (dC prog w) d kvs->(∀r∈rs,Xe s.heap r/\r.p≠d/\r.p≠it)->kvs.length+rs.length<=sizeLine->
  (∀h' tk,h'.DictOf (dC prog w) d (putAll kvs rs)->(∀b o,b≠d->b≠it->s.heap.get? b=some o->h'.get? b=some o)->R (.ok (.ret .none)) { s with heap:=h',toks:=tk })->
  wpAny (model prog w) A.in1 (Builtin.«dict.update.loop» ⟨[.ref d,.ref it,rawInt i,.none],[]⟩) (λfin s'=>match fin with|.done f=>R (.ok f) s'|.again c'=>c'.quiet=true/\codeAny (model prog w) A c' R s') (λe s'=>R (.error e) s') s
 | [],i,kvs,A,R,s,hh,hdr,ht,hit,hD,_,_,h=>by
  unfold Builtin.«dict.update.loop»;have hx:its.toArray[i]? = none:=by
   have:its.length<=i:=by have:=Qx5 List.length hdr;rw[Qzk] at this;simp at this;omega
   simp;omega
  refine Qqq (wpAny_pyNext_tuple_end hh hit ht hx λh' hex=>?_);show wpAny _ _ (Builtin.Dict.addKeywords d [] >>= _) _ _ _;refine Qqq (Qq2 (Qq2 ?_));exact h h' s.toks (hD.extBut hex hdi) λb o _ h2 e=>hex b o h2 e
 | r::rs,i,kvs,A,R,s,hh,hdr,ht,hit,hD,hrs,hz,h=>by
  unfold Builtin.«dict.update.loop»;obtain⟨⟨sY,hkey⟩,n1,n2⟩:=hrs r (Qqv ..);have hlt:i<its.length:=by have:=Qx5 List.length hdr;rw[Qzk,Qq8,Qqw] at this;omega
  have hx0:its[i]? = some (.ref r.p):=by
   have:=Qx5 (λl=>l[0]?) hdr
   simpa using this
  have hx:its.toArray[i]? = some (.ref r.p):=by simpa using hx0
  have ahP:its.drop (i+1)=rs.map (λr=>Value.ref r.p):=by
   have:=Qx5 List.tail hdr;rw[List.tail_drop] at this
   simpa using this
  refine Qqq (wpAny_pyNext_tuple_item hit ht hx λh' hit' hs'=>?_);have k1:∀b o,b≠it->s.heap.get? b=some o->h'.get? b=some o:=λb o hb e=>(hs'.2 b hb).trans e;obtain⟨op,hop,hcp,np,hdp⟩:=sY;have hop':h'.get? r.p=some op:=k1 _ _ n2 hop;dsimp only;refine Qqq (Qz4 (Qqq (wpAny_tryCatch ?_)));unfold Builtin.Dict.pairItems;refine Qqq (wpAny_typeOf (T:="tuple") ⟨op,hop',hcp⟩ ?_);rw[if_pos (by decide)];unfold seqItems?;refine Qqq (Qqq (wpAny_load hop' ?_));rw[hdp];refine Qq2 (Qq2 ?_);show wpAny _ _ (holding [r.kv,r.v] (dictSet d r.kv r.v)) _ _ _;have hzk:kvs.length<=sizeLine:=by rw[Qqw] at hz;omega
  refine Qz4 (wpAny_dictSet_pairs (knd:=dC prog w) (kvs:=kvs) (k:=r.k) (hsz:=hzk) hkey (hD.sameBut hs' hdi) λh'' ahT hs''=>?_);have k2:∀b o,b≠d->b≠it->s.heap.get? b=some o->h''.get? b=some o:=λb o hb1 hb2 e=>(hs''.2 b hb1).trans (k1 b o hb2 e);have hc:((i:Int)+1)=((i+1:Nat):Int):=by push_cast;rfl
  rw[hc];refine Qq2 ⟨plainId_quiet jX _,codeAny_builtin rY ?_⟩;rw[Around.under_plainId jX _];have hln:(stored kvs r.k r.v).length<=kvs.length+1:=by have:=stored_length_le kvs r.k r.v;exact this
  refine Ht hdi hda hia rs (i+1) (stored kvs r.k r.v) A R _ hh ahP ?_ ?_ ahT (λq hq=>?_) (by rw[Qqw] at hz;omega) λh3 tk hD3 k3=>?_
  ·obtain⟨o,ho,q⟩:=ht;exact⟨o,k2 a o hda.symm hia.symm ho,q⟩
  ·obtain⟨o,ho,q⟩:=hit';exact⟨o,(hs''.2 it hdi.symm).trans ho,q⟩
  ·obtain⟨p1,p2,p3⟩:=hrs q (Qqk _ hq);exact⟨p1.keep p2 p3 k2,p2,p3⟩
  ·exact h h3 tk hD3 λb o hb1 hb2 e=>k3 b o hb1 hb2 (k2 b o hb1 hb2 e)
section
variable{X:Cx}{C:Cfg}{pos:Pos}
abbrev Pv:=Addr×Key×V
def n6(kvs:List (Key×V))(rs:List Pv):List (Key×V):=rs.foldl (λacc r=>putK acc r.2.1 r.2.2) kvs
def T9(K:Fg):List V->Hp->VK->Prop:=λxs H Q=>∃(a:Addr) (rs:List Pv),xs=[.ref a]/\mK K H a (rs.map λr=>V.ref r.1)/\(∀r∈rs,mK K H r.1 [kV r.2.1,r.2.2])/\rs.length<=sizeLine/\∀l,H l=none->Q (.ref l) (upd H l (.dK (n6 [] rs)))
theorem Jd{pins:List (Addr×Obj)}{σ:L2.St}{H:Hp}{s:Shared}(I:L2.Inv X pins σ H s):∀(rs:List Pv) (us:List Value),Vals (rs.map λr=>V.ref r.1) us->(∀r∈rs,mK X.K H r.1 [kV r.2.1,r.2.2])->∃ps:List Pr,us=ps.map (λr=>Value.ref r.p)/\(∀r∈ps,Xe s.heap r)/\Paired (λ(r:Pv) (q:Pr)=>r.2.1=q.k/\RelV r.2.2 q.v) rs ps
 | [],us,h,_=>by cases h;exact⟨[],rfl,λr hr=>by simp at hr,.nil⟩
 | r::rs,us,h,hp=>by
  cases h with
  | cons h1 h2=>
   cases h1;obtain⟨ps,rfl,q1,q2⟩:=Jd I rs _ h2 λr' hr=>hp r' (Qqk _ hr);obtain⟨its,rv,ht,_⟩:=I.tuple (hp r (Qqv ..));obtain⟨u1,u2,rfl,r1,r2⟩:=rv.two;refine⟨⟨r.1,r.2.1,u1,u2⟩::ps,rfl,λq hq=>?_,.cons ⟨rfl,r2⟩ q2⟩;rcases Qq1.mp hq with rfl|hq
   ·exact⟨ht,yp (P:=X.prog) (w:=X.w) r1⟩
   ·exact q1 q hq
theorem DP:∀{rs:List Pv} {ps:List Pr} {kvs:List (Key×V)} {vs:List (Key×Value)},Paired (λ(r:Pv) (q:Pr)=>r.2.1=q.k/\RelV r.2.2 q.v) rs ps->KV kvs vs->KV (n6 kvs rs) (putAll vs ps)
 | _,_,_,_,.nil,h=>h
 | _,_,kvs,vs,.cons (a:=r) (b:=q) ⟨h1,h2⟩ hr,h=>by
  show KV (n6 (putK kvs r.2.1 r.2.2) _) (putAll (stored vs q.k q.v) _);refine DP hr ?_;rw[h1];exact h.put q.k h2
theorem yh:∀(rs:List Pv) (kvs:List (Key×V)),(n6 kvs rs).length<=kvs.length+rs.length
 | [],kvs=>Qq0 _
 | r::rs,kvs=>by
  have h1:=yh rs (putK kvs r.2.1 r.2.2);have h2:=n8 kvs r.2.1 r.2.2;show(n6 (putK kvs r.2.1 r.2.2) rs).length<=_;rw[Qqw];omega
def R0(hc:X.calm=true):jg X (.type "dict") (T9 X.K):=by
 intro pins s σ H xs us Q I r h;obtain⟨a,rs,rfl,hq,hp,hz,q⟩:=h;obtain⟨u,rfl,rx⟩:=vals1 r;cases rx;obtain⟨its,rv,ob,h1,h2,⟨n,h3⟩,h4⟩:=I.SN hq;obtain⟨ps,rfl,hps,hpr⟩:=Jd I rs its rv hp;have hA:=I.ok.hd hc;have hlt:a<s.heap.objs.size:=Qwz h1;refine callType_codes (Q₁:=λobj s₁=>obj = .ref s.heap.objs.size/\s₁ = { s with heap:=s.heap.push { cls:=.type "dict",data:=.dict #[] } }) F.kt_called_dict (F.kt_typeCall_dict_1 _) F.entry_dict_init (kt_code_dict_new _ ⟨rfl,rfl⟩) ?_;rintro obj s₁ ⟨rfl,rfl⟩;have hnew:(s.heap.push { cls:=.type "dict",data:=.dict #[] }).DictOf (dC X.prog X.w) s.heap.objs.size []:=Heap.DictOf.new s.heap;have k0:∀b o,s.heap.get? b=some o->(s.heap.push { cls:=.type "dict",data:=.dict #[] }).get? b=some o:=λb o e=>Qqz _ e;refine⟨hnew.typeIs,F.args_dict_init_2 _ _,?_⟩;unfold Builtin.«dict.__init__»;refine Qqq ?_;unfold Builtin.Dict.selfAndRest;refine Qqq (wpAny_notOrdered_dict hnew.typeIs ?_);show wpAny _ _ (pure (s.heap.objs.size,[Value.ref a])) _ _ _;refine Qq2 ?_;show wpAny _ _ (Builtin.Dict.updateFrom "dict.__init__" s.heap.objs.size (.ref a) [] .none) _ _ _;unfold Builtin.Dict.updateFrom;refine Qqq (wpAny_typeOf (T:="tuple") ⟨ob,k0 _ _ h1,h2⟩ ?_);rw[if_pos (by decide)];refine Qqq (Rk (k0 _ _ h1) h2 h3 h4 hA λh' tk hk=>?_);simp only[Option.isNone_none,if_true];refine Qqq (wpAny_rule (Qqq ?_));have hT:h'.IsTuple a (ps.map λr=>Value.ref r.p).toArray:=⟨ob,hk _ _ (k0 _ _ h1),h2,n,h3⟩;refine wpAny_pyIter_tuple hT ?_;refine Qq2 ⟨plainId_quiet jX _,codeAny_builtin rY ?_⟩;rw[Around.under_plainId jX _];have hD0:h'.DictOf (dC X.prog X.w) s.heap.objs.size []:=hnew.keep hk;have adq:s.heap.objs.size<h'.objs.size:=by obtain⟨o,_,_,ho,_⟩:=hD0;exact Qwz ho
 have halt:a<h'.objs.size:=Qwz (hk _ _ (k0 _ _ h1));have hda:s.heap.objs.size≠a:=Qz0 hlt;refine Ht (Qw9 adq) hda (Qz0 halt) ps 0 [] X.A.in1 _ _ hA rfl ?_ ⟨_,Qwj _ rfl,rfl,rfl⟩ (hD0.push _) (λq hq=>?_) ?_ λh3 tk' hD3 k3=>?_
 ·obtain⟨o,ho,r⟩:=hT;exact⟨o,Qqz _ ho,r⟩
 ·obtain⟨⟨o,ho,r⟩,y⟩:=hps q hq;have af1:q.p<s.heap.objs.size:=Qwz ho;refine⟨⟨⟨o,Qqz _ (hk _ _ (k0 _ _ ho)),r⟩,y⟩,Qw9 af1,Qw9 (Nat.lt_trans af1 adq)⟩
 ·rw[<-Paired.length hpr]
  simpa using hz
 ·refine⟨rfl,?_⟩;have kk:∀b u,s.heap.get? b=some u->h3.get? b=some u:=λb u e=>by
   have hb:b<s.heap.objs.size:=Qwz e;exact k3 b u (Qw9 hb) (Qw9 (Nat.lt_trans hb adq)) (Qqz _ (hk _ _ (k0 _ _ e)))
  have hsys:(s.heap.objs.size == sysModules)=false:=by rw[Qz1];exact Qz0 I.big
  refine⟨.ref s.heap.objs.size,upd H s.heap.objs.size (.dK (n6 [] rs)),I.laid (t':=tk') kk (Qq0 _) ⟨?_,hsys,_,DP hpr .nil,hD3⟩,rfl,q _ (I.hok.fresh (Qq0 _))⟩;have:=yh rs [];exact Qq3 this (by simpa using hz)
def O9:D->Option (D×D)
 | .tup [k,v]=>(mD k).map λ_=>(k,v)
 | _=>none
def pU:List D->Option (List (D×D))
 | []=>some []
 | d::ds=>match O9 d,pU ds with
  | some p,some r=>some (p::r)
  | _,_=>none
def lE(kvs : List (D × D)) : List (D × D) → List (D × D)
  | [] => kvs
  | (k, v) :: r => (match mD k with
    | some q => lE (putD kvs k q v) r
    | none => lE kvs r)
def tX:List D->Option D
 | [.tup ds]=>(pU ds).map λps=>.dct (lE [] ps)
 | _=>none
theorem rF:∀(ps:List (D×D)) (kvs:List (D×D)),(lE kvs ps).length<=kvs.length+ps.length
 | [],kvs=>Qq0 _
 | (k,v)::r,kvs=>by
  unfold lE;split
  ·rename_i q hq;have h1:=rF r (putD kvs k q v);have h2:=IV kvs k q v;rw[Qqw];omega
  ·have h1:=rF r kvs;rw[Qqw];omega
theorem Ar:∀{ds:List D} {ps:List (D×D)},pU ds=some ps->ps.length=ds.length
 | [],ps,h=>by cases h;rfl
 | d::ds,ps,h=>by
  unfold pU at h;split at h
  ·rename_i p r h1 h2;cases h;rw[Qqw,Qqw,Ar h2]
  ·cases h
theorem DW{K:Fg}{F:Hp}:∀{ds:List D} {ps:List (D×D)} {vs:List V} {kvs:List (D×D)} {ks:List (Key×V)},pU ds=some ps->bU K F ds vs->dR K F kvs ks->
  ∃rs:List Pv,vs=rs.map (λr=>V.ref r.1)/\(∀r∈rs,mK K F r.1 [kV r.2.1,r.2.2])/\dR K F (lE kvs ps) (n6 ks rs)
 | [],ps,vs,kvs,ks,h,hr,hk=>by cases h;cases hr;exact⟨[],rfl,λr hr=>by simp at hr,hk⟩
 | d::ds,ps,vs,kvs,ks,h,hr,hk=>by
  unfold pU at h;split at h
  ·rename_i p r h1 h2;cases h;obtain⟨v,w,rfl,p1,p2⟩:=hr;unfold O9 at h1;split at h1
   ·rename_i k x;obtain⟨q,hq,rfl⟩:=Qq6.mp h1;obtain⟨_,a,us,rfl,h3,h4⟩:=p1;obtain⟨u1,w1,rfl,q1,u2,w2,rfl,q2,q3⟩:=h4;cases q3;cases My hq q1;obtain⟨rs,rfl,g1,g2⟩:=DW (kvs:=putD kvs k q x) (ks:=putK ks q u2) h2 p2 (hk.put hq q2);refine⟨(a,q,u2)::rs,rfl,λr hr=>?_,?_⟩
    ·rcases Qq1.mp hr with rfl|hr
     ·exact h3
     ·exact g1 r hr
    ·unfold lE;rw[hq];exact g2
   ·cases h1
  ·cases h
def aab:CallD C (T9 C.K) tX:=by
 intro Pr F env σ H ds d vs Q r p e q;unfold tX at e;split at e
 ·rename_i ds;obtain⟨v,w,rfl,p1,p2⟩:=p;cases p2;obtain⟨ps,e1,rfl⟩:=Qq6.mp e;obtain⟨z,a,us,rfl,h1,h1F,h2⟩:=p1.tup r.fr;obtain⟨rs,rfl,g1,g2⟩:=DW (kvs:=[]) (ks:=[]) e1 h2 rfl;have hl:rs.length=ds.length:=by
   have:=h2.length
   rwa [Qqx] at this
  refine⟨a,rs,rfl,h1,λr' hr=>aR.tupK r.fr (g1 r' hr),by rw[hl];exact z,λl hlf=>?_⟩;obtain⟨F2,r2,s2,p2⟩:=(r.fresh (o:=.dK (n6 [] rs)) hlf).keep (Xg.of (d:=.dct (lE [] ps)) r hlf ⟨by
   have h5:=rF ps [];rw[Ar e1] at h5;exact Qq3 h5 (by simpa using z),_,bh,g2⟩)
  exact q _ _ F2 r2 s2 p2
 ·cases e
end
end Ev
namespace L2
open PySem PySem.Spec PyProof.Rows PySem.Builtin PySem.Builtin.Str
section
variable{X:Cx}
def T7:R2:=λx y H Q=>∃a o,y = .ref a/\Dk H a x o/\Q (.bl o.isSome) H
def Vh(hu:X.A.units+1<cLine):ph X (compareOp .In) T7:=by intro pins s σ H x y v u Q I rx ry h;obtain⟨a,o,rfl,g,q⟩:=h;cases ry;exact ah3 hu I g rx λs' I'=>⟨.bl o.isSome,H,I',rfl,q⟩
def J7(v:Int)(n d:Nat):max 0 (min (if v<0 then v+(n:Int) else v) (n:Int))=((HT.fM n d (some v):Nat):Int):=by
 show _=(((if v<0 then (v+(n:Int)).toNat else min v.toNat n):Nat):Int);by_cases hv:v<0
 ·simp only[if_pos hv];omega
 ·simp only[if_neg hv];omega
def range_one(a b:Nat):sliceRange (a:Int) (b:Int) 1=List.range' a (b - a):=by
 unfold sliceRange;have h1:(1:Int) > 0:=by decide
 simp only[if_pos h1];have hc:(if (a:Int)<(b:Int) then ((b:Int) - (a:Int)+1 - 1) / 1 else 0).toNat=b - a:=by
  by_cases h:(a:Int)<(b:Int)
  ·rw[if_pos h,Int.ediv_one];omega
  ·rw[if_neg h];omega
 rw[hc,List.range'_eq_map_range];apply Qx9;intro k _;omega
def U0(lo hi:Option Int)(n:Nat):strSliceIndices lo hi 1 n=List.range' (HT.fM n 0 lo) (HT.fM n n hi - HT.fM n 0 lo):=by
 have h1:(1:Int) > 0:=by decide
 unfold strSliceIndices;simp only[if_pos h1];rw[<-range_one]
 congr 1
 ·cases lo with
  | none=>rfl
  | some v=>exact J7 v n 0
 ·cases hi with
  | none=>rfl
  | some v=>exact J7 v n n
theorem JS(c:List Nat):∀(m a:Nat),a+m<=c.length->(List.range' a m).filterMap (c.toArray[·]?)=(c.drop a).take m
 | 0,a,_=>by simp
 | m+1,a,h=>by
  rw[List.range'_succ,Qk8];have e:c.toArray[a]? = some c[a]:=by simp
  rw[e,JS c m (a+1) (by omega),Qkw (l:=c) (i:=a) (by omega),List.take_succ_cons]
def De(z:List Nat)(lo hi:Option Int):List Nat:=(z.drop (HT.fM z.length 0 lo)).take (HT.fM z.length z.length hi - HT.fM z.length 0 lo)
def ahu:V->Option Int->Option Int->Hp->VK->Prop:=λx lo hi H Q=>∃z:List Nat,x = .str ⟨z.toArray⟩/\z.length<=sizeLine/\Q (.str ⟨(De z lo hi).toArray⟩) H
def part_of{v:Value}{o:Option Int}(p:IsPart v o):∃l:Option (Int×Tok),v=partValue l/\l.map (·.1)=o:=by
 cases p with
 | none=>exact⟨none,rfl,rfl⟩
 | int i t=>exact⟨some (i,t),rfl,rfl⟩
def abL:Qj X ahu:=by
 intro pins s σ H x v vl vu lo hi sl Q I rx hs pl pu h;obtain⟨z,rfl,hz,q⟩:=h;obtain⟨t,rfl⟩:=rx;obtain⟨l,rfl,el⟩:=part_of pl;obtain⟨u,rfl,eu⟩:=part_of pu;refine⟨"str",_,PySem.F.slot_str_getitem.lookup,typeIs_str s _ t,?_⟩;obtain⟨o,h1,h2,h3⟩:=hs;refine wpAny_getItem_str_slice (l:=l) (u:=u) (st:=none) ⟨o,h1,h2,h3⟩ rfl ?_;have hp:slicePicked ⟨z.toArray⟩ l u none=List.range' (HT.fM z.length 0 lo) (HT.fM z.length z.length hi - HT.fM z.length 0 lo):=by unfold slicePicked;rw[el,eu];show strSliceIndices lo hi 1 z.toArray.size=_;rw[Qq5,U0]
 have hle:HT.fM z.length 0 lo+(HT.fM z.length z.length hi - HT.fM z.length 0 lo)<=z.length\/HT.fM z.length z.length hi - HT.fM z.length 0 lo=0:=by have a1:=HT.FW z.length 0 (Qxy _) lo;have a2:=HT.FW z.length z.length (Qq0 _) hi;omega
 have ahR:((slicePicked ⟨z.toArray⟩ l u none).filterMap ((⟨z.toArray⟩:Str).cps[·]?))=De z lo hi:=by
  rw[hp];unfold De;rcases hle with hle|hle
  ·exact JS z _ _ hle
  ·rw[hle];simp
 unfold sliceMade;split
 ·rename_i hc;have hlen:(slicePicked ⟨z.toArray⟩ l u none).length=z.length:=by
   have:=(Qj5.mp hc).2;have:=eq_of_beq this
   simpa[Str.length] using this
  have hw:De z lo hi=z:=by
   rw[hp,List.length_range'] at hlen;unfold De;have a2:=HT.FW z.length z.length (Qq0 _) hi;have a0:HT.fM z.length 0 lo=0\/z.length=0:=by omega
   rcases a0 with a0|a0
   ·rw[a0,List.drop_zero,Qjj (by omega)]
   ·have:z=[]:=Qj4 a0;subst this;simp
  rw[hw] at q;exact⟨.str ⟨z.toArray⟩,H,I,⟨t,rfl⟩,q⟩
 ·rw[ahR];refine⟨?_,⟨.str ⟨(De z lo hi).toArray⟩,H,I.tok _,⟨_,rfl⟩,q⟩⟩;show(De z lo hi).toArray.size<=sizeLine;rw[Qq5];unfold De;rw[Qzj,Qzk];omega
end
end L2
namespace Ev
open PySem PySem.Spec PyProof.Rows L2 PySem.Builtin
section
variable{X:Cx}{C:Cfg}{pos:Pos}{x y:Expr}{a b:Ev}
def xQ(k y:D):Option D:=match y with
 | .dct kvs=>(mD k).map λq=>.bl (jQ kvs q).isSome
 | _=>none
def Vj:qM C T7 xQ:=by
 intro Pr F env σ H x y d vx vy Q r px py e q;cases y with
 | dct kvs=>
  obtain⟨k,hk,rfl⟩:=Qq6.mp (show(mD x).map (λq=>D.bl (jQ kvs q).isSome)=some d from e);obtain⟨z,p,ks,rfl,h1,h2⟩:=py.dct r.fr;cases Gv hk px;refine⟨p,qR ks k,rfl,.inl ⟨ks,k,h1,rfl,rfl⟩,?_⟩;have e2:(qR ks k).isSome=(jQ kvs k).isSome:=by rcases h2.val k with ⟨g1,g2⟩|⟨d',v',g1,g2,_⟩<;>rw[g1,g2]<;>rfl
  rw[e2];exact q _ H F r (aR.refl F) rfl
 | _=>cases e
def aae(G:Good X C):Cm X C .In xQ:=⟨_,Vh G.u1,Vj⟩
def Wy(z:List Nat)(lo hi:Option Int):(De z lo hi).length<=z.length:=by unfold De;rw[Qzj,Qzk];omega
end
end Ev
namespace HT
open PySem PySem.Spec PyProof PyProof.Rows PySem.Builtin
section
variable{prog:Program}{w:World}{A:Around}{E:Value->Shared->Prop}{s:Shared}
def tQ{t sl:Addr}{items:Array Value}{vl vu:Value}{lo hi:Option Int}{Q:Value->Shared->Prop}(ht:IsTup s.heap t items)(hs:s.heap.IsSliceOf sl vl vu .none)(pl:IsPart vl lo)(pu:IsPart vu hi)
  (hw:fM items.size 0 lo=0/\fM items.size items.size hi=items.size)
  (h:Q (.ref t) s):wpAny (model prog w) A (getItem (.ref t) (.ref sl)) Q E s:=by
 obtain⟨os,hos,hcs,hds⟩:=id hs;have hTs:s.TypeIs (.ref sl) "slice":=⟨os,hos,hcs⟩;unfold getItem
 try with_reducible refine Qz4 ?_
 first|refine Qqq (Qq2 ?_)|skip
 refine Qqq (wpAny_sequenceKey ht.typeIs (by decide) ?_);refine Qqq (Qz5 (name:=Str.ofString "__getitem__") ht.typeIs Qjy
  (Qz7 Qjy ht.typeIs entry_tuple_getitem ?_ (args_tuple_getitem _ _)))
 show wpAny _ _ (Builtin.Tuple.tupleItemsOf (.ref t) >>= _) _ _ s;refine Qqq (tupleItemsOf_ ht ?_);refine Qqq (wpAny_typeOf hTs ?_);rw[if_pos (by decide)];refine Qqq (pB hs pl pu ?_);have ahM:(((fM items.size 0 lo:Nat):Int) == 0&&(1:Int) == 1&&(fM items.size items.size hi - fM items.size 0 lo) == items.size)=true:=by rw[hw.1,hw.2];simp
 show wpAny _ _ (if (((fM items.size 0 lo:Nat):Int) == 0&&(1:Int) == 1&&(fM items.size items.size hi - fM items.size 0 lo) == items.size)=true then _ else _) _ _ s;rw[if_pos ahM];refine Qqq (m:=Builtin.Tuple.tupleIsExact (.ref t)) ?_;unfold Builtin.Tuple.tupleIsExact;refine Qqq (wpAny_typeOf ht.typeIs ?_);refine Qq2 ?_;rw[if_pos (by decide)];exact Qqq (wpAny_rule (Qq2 ⟨_,rfl,Qq2 h⟩))
end
end HT
namespace L2
open PySem PySem.Spec PyProof.Rows
section
variable{X:Cx}
def aeX(K:PySem.W.Frag):V->Option Int->Option Int->Hp->VK->Prop:=λx lo hi H Q=>∃a xs,x = .ref a/\mK K H a xs/\(HT.fM xs.length 0 lo=0/\HT.fM xs.length xs.length hi=xs.length)/\Q (.ref a) H
def Ti:Qj X (aeX X.K):=by
 intro pins s σ H x v vl vu lo hi sl Q I rx hs pl pu h;obtain⟨a,xs,rfl,hx,hw,q⟩:=h;cases rx;obtain⟨its,r,ht,hz⟩:=I.tuple hx;have hlen:its.toArray.size=xs.length:=by rw[Qq5];exact r.length.symm
 refine⟨"tuple",_,PyProof.Rows.slot_tuple_getitem.lookup,ht.typeIs,?_⟩;refine HT.tQ ht hs pl pu (by rw[hlen];exact hw) ?_;exact⟨.ref a,H,I,rfl,q⟩
end
end L2
namespace Ev
open PySem PySem.Spec PyProof.Rows L2
section
variable{X:Cx}{C:Cfg}{pos:Pos}{x:Expr}{a:Ev}{apos:Pos}{y z:Expr}{b c:Ev}
def adx:D->Option Int->Option Int->Option D
 | .tup xs,lo,hi=>if HT.fM xs.length 0 lo=0/\HT.fM xs.length xs.length hi=xs.length then some (.tup xs) else some (.tup (cutD xs lo hi))
 | _,_,_=>none
def abM{Pr F:Hp}{env:Env}{σ:L2.St}{H:Hp}{x d:D}{v:V}{lo hi:Option Int}{Q:VK}(r:Rel C Pr F env σ H)(p:Rep C.K F x v)(e:adx x lo hi=some d)(q:∀v H' F',Rel C Pr F' env σ H'->aR F F'->Rep C.K F' d v->Q v H') :
  abW C.K v lo hi H Q\/aeX C.K v lo hi H Q:=by
 unfold adx at e;split at e
 ·obtain⟨z,a,vs,rfl,h1,_,h2⟩:=gD.tup r.fr (.inl p);split at e
  ·rename_i hn;cases e;exact .inr ⟨a,vs,rfl,h1,by rw[h2.length];exact hn,q _ H F r (aR.refl F) p⟩
  ·rename_i hn;cases e;refine .inl ⟨a,vs,rfl,h1,by rw[h2.length];exact hn,λb hb=>?_⟩;obtain⟨r2,s2⟩:=r.new (o:=.tup (za vs lo hi)) hb;exact q _ _ _ r2 s2 ⟨Qq3 (su _ _ _) z,b,_,rfl,mK.of bh,bU.mono s2 _ _ (h2.cut lo hi)⟩
 ·cases e
def We:D->D->D->Option D
 | .dct kvs,k,t=>(mD k).map λq=>(jQ kvs q).getD t
 | _,_,_=>none
def Bu(a b c:Ev):Ev:=λenv=>bindR (a env) λd e1=>bindR (b e1) λk e2=>bindR (c e2) λt e3=>match d with
 | .dct kvs=>jf (We (.dct kvs) k t) e3
 | _=>.stuck
def abp(G:Good X C)(ha:PX X C x a)(hb:PX X C y b)(hc:PX X C z c)(m:M2 X x "get" apos y z pos:=by exact⟨by rfl,by rfl,by rfl,by rfl⟩):PX X C (.Call (.Attribute x "get" apos) [y,z] [] pos) (Bu a b c):=by
 refine(Vc G.u1 ha hb hc m).imp λσ H Q hq=>?_;obtain⟨Pr,F,env,env',d,rl,e,q⟩:=hq;obtain⟨u,aL,e1,e2⟩:=bf e;obtain⟨k,dX,e3,e4⟩:=bf e2;obtain⟨t,RG,e5,e6⟩:=bf e4;split at e6
 ·rename_i kvs;obtain⟨e7,rfl⟩:=fD e6;obtain⟨kk,hk,rfl⟩:=Qq6.mp (show(mD k).map (λq=>(jQ kvs q).getD t)=some d from e7);refine⟨Pr,F,env,aL,.dct kvs,rl,e1,λvu H1 F1 r1 s1 p1=>?_⟩;obtain⟨z1,a1,ks,rfl,h1,h2⟩:=gD.dct r1.fr (.inl p1);refine⟨a1,rfl,.inl ⟨ks,h1⟩,Pr,F1,aL,dX,k,r1,e3,λvk H2 F2 r2 s2 p2=>⟨Pr,F2,dX,env',t,r2,e5,λvt H3 F3 r3 s3 p3=>?_⟩⟩;obtain⟨z2,a2,ks2,ea,h3,h4⟩:=gD.dct r3.fr (.inl (Rep.mono (s2.trans s3) _ _ p1));cases ea;cases Gv hk (.inl (Rep.mono s3 _ _ p2):gD C.K F3 H3 k vk);refine⟨qR ks2 kk,.inl ⟨ks2,kk,h3,rfl,rfl⟩,?_⟩;rcases h4.val kk with ⟨g1,g2⟩|⟨d',v',g1,g2,g3⟩
  ·rw[g2];rw[g1] at q;exact q _ H3 F3 r3 ((s1.trans s2).trans s3) p3
  ·rw[g2];rw[g1] at q;exact q _ H3 F3 r3 ((s1.trans s2).trans s3) g3
 ·cases e6
end
end Ev
namespace ZT
open PySem PySem.Spec PyProof.Rows L2 PySem.Builtin
section
variable{prog:Program}{w:World}{A:Around}{E:Value->Shared->Prop}{s:Shared}
def Vs{j t:Addr}{n:Nat}{its:Array Value}{x:Value}{Q:Value->Shared->Prop}(hj:s.heap.IsTupleIter j t n)(ht:s.heap.IsTuple t its)(hx:its[n]? = some x)
  (q:∀g,g.IsTupleIter j t (n+1)->Heap.SameBut j s.heap g->Q x { s with heap:=g }):wpAny (model prog w) A (Builtin.SmallTypes.nextOf (.ref j)) Q E s:=by
 obtain⟨u,hu,uc,ud⟩:=id hj;obtain⟨ut,hut,_,m,mt⟩:=ht;unfold Builtin.SmallTypes.nextOf;refine Qqq (Qz5 (name:=Str.ofString "__next__") hj.typeIs F.slot_tuple_iterator_next (Qz7 F.slot_tuple_iterator_next hj.typeIs F.entry_tuple_iterator_next ?_ (F.args_tuple_iterator_next_1 _)));show wpAny _ _ (field (.ref j) 0 >>= _) _ _ s;refine Qqq (Qz9 hu ud (x:=.ref t) rfl ?_);show wpAny _ _ (if (Value.ref t == Value.none)=true then _ else _) _ _ s;rw[if_neg (show ¬((Value.ref t == Value.none)=true) from Qw5)];show wpAny _ _ (field (.ref j) 1 >>= _) _ _ s;refine Qqq (Qz9 hu ud (x:=.int n 0) rfl ?_);show wpAny _ _ (seqItems? (.ref t) >>= _) _ _ s;refine Qqq (Qj6 hut mt ?_);simp only[Qk3,hx];refine Qqq (wpAny_setField hu ud (by simp) (Qq2 ⟨x,rfl,Qq2 (q _ ?_ (Heap.SameBut.update ..))⟩));exact⟨_,Heap.get?_update_self _ hu (Obj.isFreed_of_fields (Obj.data_mapFields ud _)),(Obj.cls_mapFields ..).trans uc,by rw[Obj.data_mapFields ud];simp[rawInt]⟩
def Gm{j t:Addr}{n:Nat}{its:Array Value}{Q:Value->Shared->Prop}(hh:A.handled=none)(hj:s.heap.IsTupleIter j t n)(ht:s.heap.IsTuple t its)(hx:its[n]? = none)
  (q:∀g e,Heap.ExtBut j s.heap g->(∃o,g.get? e=some o/\o.cls = .type "StopIteration")->E (.ref e) { s with heap:=g }):wpAny (model prog w) A (Builtin.SmallTypes.nextOf (.ref j)) Q E s:=by
 obtain⟨u,hu,uc,ud⟩:=id hj;obtain⟨ut,hut,_,m,mt⟩:=ht;unfold Builtin.SmallTypes.nextOf;refine Qqq (Qz5 (name:=Str.ofString "__next__") hj.typeIs F.slot_tuple_iterator_next (Qz7 F.slot_tuple_iterator_next hj.typeIs F.entry_tuple_iterator_next ?_ (F.args_tuple_iterator_next_1 _)));show wpAny _ _ (field (.ref j) 0 >>= _) _ _ s;refine Qqq (Qz9 hu ud (x:=.ref t) rfl ?_);show wpAny _ _ (if (Value.ref t == Value.none)=true then _ else _) _ _ s;rw[if_neg (show ¬((Value.ref t == Value.none)=true) from Qw5)];show wpAny _ _ (field (.ref j) 1 >>= _) _ _ s;refine Qqq (Qz9 hu ud (x:=.int n 0) rfl ?_);show wpAny _ _ (seqItems? (.ref t) >>= _) _ _ s;refine Qqq (Qj6 hut mt ?_);simp only[Qk3,hx];refine Qqq (wpAny_rule (Qqq (wpAny_setField hu ud (by simp) ?_)));show wpAny _ _ (newExc (.type "StopIteration") [] >>= _) _ _ _;refine Qqq ?_;simp only[newExc,newTuple];refine Qqq (Qj7 ?_ (by size_fits));refine Qqq (m:=firstArgMember _ _) (wpAny_of_eq (a:=Value.none) (by first|rfl|(simp only[firstArgMember];rfl)) ?_);refine Qj7 ?_ (by size_fits);simp only[raiseNew];refine Qqq (wpAny_handled ?_)
 first|rw[show A.in1.handled=none from hh]|rw[hh]
 refine Qqq (Qq2 (wpAny_throw ?_));exact q _ _ (((Heap.SameBut.update ..).extBut.push _).push _) ⟨_,Qwj _ rfl,rfl⟩
end
def tD{prog:Program}{w:World}{A:Around}(hh:A.handled=none)(j t:Addr)(hne:t≠j)(its:Array Value) :
  Draws prog w A j [j,t] its.size (λi v=>its[i]? = some v) (λi h=>h.IsTupleIter j t i/\h.IsTuple t its) where
 live:=λ_ _ st=>let ⟨o,ho,_⟩:=st.1;⟨o,ho⟩
 frame:=λ_ _ _ st hk=>by
  obtain⟨⟨o,ho,r⟩,o2,ho2,r2⟩:=st;exact⟨⟨o,hk j (by simp) o ho,r⟩,o2,hk t (by simp) o2 ho2,r2⟩
 item:=λi s Q E hi st hQ=>by
  refine Vs st.1 st.2 (x:=its[i]) (by simp[hi]) λh' hit' hs'=>?_;exact hQ _ h' s.toks (by simp[hi]) ⟨hit',st.2.extBut hs'.extBut hne⟩ hs'
 done:=λs Q E st hE=>Gm hh st.1 st.2 (by simp) hE
structure Ap(z TI TO j1 j2:Addr)(f1 f2:List Addr):Prop where
 a1:TI≠z
 a2:TO≠z
 a3:TI≠TO
 a4:j1≠j2
 b1:j1∈f1
 b2:j2∈f2
 c1:z ∉ f1
 c2:z ∉ f2
 c3:TO ∉ f1
 c4:TO ∉ f2
 c5:TI ∉ f1
 c6:TI ∉ f2
 c7:j2 ∉ f1
 c8:j1 ∉ f2
section
variable{prog:Program}{w:World}{A:Around}{E:Value->Shared->Prop}{s:Shared}{z TI TO j1 j2:Addr}{f1 f2:List Addr}{n1 n2 k:Nat}{P1 P2:Nat->Value->Prop}{S1 S2:Nat->Heap->Prop}{a b:Value}
def fP{c d:Addr}{f:List Addr}(h:c∈f)(h':d ∉ f):c≠d:=λe=>h' (e ▸ h)
def Sq{Q:Value->Shared->Prop}(D:Ap z TI TO j1 j2 f1 f2)(D1:Draws prog w A j1 f1 n1 P1 S1)(D2:Draws prog w A j2 f2 n2 P2 S2)(k1:k<n1)(k2:k<n2)
  (hz:IsZip s.heap z TI TO .none) (hTI:IsPair s.heap TI (.ref j1) (.ref j2)) (hTO:IsPair s.heap TO a b) (s1:S1 k s.heap) (s2:S2 k s.heap)
  (q:∀x y g tk,P1 k x->P2 k y->IsZip g z TI TO (rawInt s.heap.objs.size)->IsPair g TO x y->S1 (k+1) g->S2 (k+1) g->IsPair g s.heap.objs.size x y->g.objs.size=s.heap.objs.size+1->
   (∀c o,c≠z->c≠TO->c≠j1->c≠j2->s.heap.get? c=some o->g.get? c=some o)->Q (.ref s.heap.objs.size) { s with heap:=g,toks:=tk }) :
  wpAny (model prog w) A (Builtin.«zip.__next__» ⟨[.ref z],[]⟩) (λfin s'=>∃v,fin = .done (.ret v)/\Q v s') E s:=by
 have Z0:j1≠z:=fP D.b1 D.c1;have adJ:j2≠z:=fP D.b2 D.c2;have adK:j1≠TO:=fP D.b1 D.c3;have agf:j2≠TO:=fP D.b2 D.c4;show wpAny _ _ (field (.ref z) 2 >>= _) _ _ _;refine Qqq (Qz9 hz rfl (x:=.bool false) rfl ?_);show wpAny _ _ (field (.ref z) 3 >>= _) _ _ _;refine Qqq (Qz9 hz rfl (x:=.ref TI) rfl ?_);refine Qqq (Qj6 hTI rfl ?_);show wpAny _ _ (Builtin.SmallTypes.ownedTupleIsFree (.ref z) >>= _) _ _ _;refine Qqq ?_;unfold Builtin.SmallTypes.ownedTupleIsFree;refine Qqq (Qz9 hz rfl (x:=.none) rfl (Qq2 ?_));simp only[if_true];refine Qqq (wpAny_rule ?_);refine Qqq (Qz9 hz rfl (x:=.ref TO) rfl ?_);refine Qqq (Qkq hz (by simp) λg1 hz1 e1=>?_)
 replace hz1:IsZip g1 z TI TO .ellipsis:=hz1
 refine Qqq ?_;simp only[List.zipIdx_cons,List.zipIdx_nil,Qvz,Qkv];refine Qqq (Qqq (wpAny_onRaise ?_));show wpAny _ _ (Builtin.SmallTypes.nextOf (.ref j1) >>= _) _ _ _;have s1':S1 k g1:=D1.frame k _ _ s1 λc hc o e=>e1.extBut _ _ (fP hc D.c1) e;refine Qqq (D1.item k { s with heap:=g1 } _ _ k1 s1' λx g2 tk2 px sx e2=>Qq2 ?_);have t2:IsPair g2 TO a b:=e2.extBut _ _ adK.symm (e1.extBut _ _ D.a2 hTO);refine Qqq (Qj6 t2 rfl ?_);refine Qqq (wpAny_updateSeq_pair t2 λg3 t3 e3=>?_)
 replace t3:IsPair g3 TO x b:=t3
 refine Qqq (wpAny_letGo (Qq2 ?_));refine Qqq (Qqq (wpAny_onRaise ?_));show wpAny _ _ (Builtin.SmallTypes.nextOf (.ref j2) >>= _) _ _ _;have s2':S2 k g3:=D2.frame k _ _ s2 λc hc o e=>e3.extBut _ _ (fP hc D.c4) (e2.extBut _ _ (fP hc D.c8) (e1.extBut _ _ (fP hc D.c2) e));refine Qqq (D2.item k { s with heap:=g3,toks:=tk2 } _ _ k2 s2' λy g4 tk4 py sy e4=>Qq2 ?_);have t4:IsPair g4 TO x b:=e4.extBut _ _ agf.symm t3;refine Qqq (Qj6 t4 rfl ?_);refine Qqq (wpAny_updateSeq_pair t4 λg5 t5 e5=>?_)
 replace t5:IsPair g5 TO x y:=t5
 refine Qqq (wpAny_letGo (Qq2 (Qq2 ?_)));refine Qqq (Qj6 t5 rfl ?_);refine Qqq (wpAny_newTuple ?_);have hsz:g5.objs.size=s.heap.objs.size:=by rw[e5.1,e4.1,e3.1,e2.1,e1.1]
 have hz5:IsZip g5 z TI TO .ellipsis:=e5.extBut _ _ D.a2.symm (e4.extBut _ _ adJ.symm (e3.extBut _ _ D.a2.symm (e2.extBut _ _ Z0.symm hz1)));have afQ:∀c o,c≠z->c≠TO->c≠j1->c≠j2->s.heap.get? c=some o->g5.get? c=some o:=λc o c1 c2 c3 c4 e=>
  e5.extBut _ _ c2 (e4.extBut _ _ c4 (e3.extBut _ _ c2 (e2.extBut _ _ c3 (e1.extBut _ _ c1 e))))
 have s15:S1 (k+1) g5:=D1.frame _ _ _ sx λc hc o e=>e5.extBut _ _ (fP hc D.c3) (e4.extBut _ _ (fP hc D.c7) (e3.extBut _ _ (fP hc D.c3) e));have s25:S2 (k+1) g5:=D2.frame _ _ _ sy λc hc o e=>e5.extBut _ _ (fP hc D.c4) e;have zlt:z<g5.objs.size:=Qwz hz5;show wpAny _ _ (Builtin.SmallTypes.ownedTupleHandOut (.ref z) (.ref g5.objs.size) >>= _) _ _ _;refine Qqq ?_;unfold Builtin.SmallTypes.ownedTupleHandOut;have hz6:IsZip (g5.push { cls:=.type "tuple",data:=.seq #[x,y] }) z TI TO .ellipsis:=Qqz _ hz5;refine Qqq (Qkq hz6 (by simp) λg7 hz7 e7=>?_)
 replace hz7:IsZip g7 z TI TO (rawInt g5.objs.size):=hz7
 refine Qkq hz7 (by simp) λg8 hz8 e8=>?_
 replace hz8:IsZip g8 z TI TO (rawInt g5.objs.size):=hz8
 have up:∀c o,c≠z->g5.get? c=some o->g8.get? c=some o:=λc o c1 e=>e8.extBut _ _ c1 (e7.extBut _ _ c1 (Qqz _ e));have t8:IsPair g8 g5.objs.size x y:=e8.extBut _ _ (Qz0 zlt) (e7.extBut _ _ (Qz0 zlt) (Qwj _ rfl));have l8:g8.objs.size=g5.objs.size+1:=by rw[e8.1,e7.1,Qx3]
 rw[hsz] at hz8 t8 l8;refine Qq2 ⟨_,rfl,?_⟩;show Q (.ref g5.objs.size) _;rw[hsz];exact q x y g8 _ px py hz8 (up _ _ D.a2 t5) (D1.frame _ _ _ s15 λc hc o e=>up c o (fP hc D.c1) e) (D2.frame _ _ _ s25 λc hc o e=>up c o (fP hc D.c2) e) t8 l8 λc o c1 c2 c3 c4 e=>up c o c1 (afQ c o c1 c2 c3 c4 e)
def Xr{Q:Fin->Shared->Prop}(D:Ap z TI TO j1 j2 f1 f2)(D1:Draws prog w A j1 f1 n1 P1 S1)(D2:Draws prog w A j2 f2 n2 P2 S2)(hk:k=n1\/(k<n1/\k=n2))
  (hz:IsZip s.heap z TI TO .none) (hTI:IsPair s.heap TI (.ref j1) (.ref j2)) (hTO:IsPair s.heap TO a b) (s1:S1 k s.heap) (s2:S2 k s.heap)
  (q:∀g e tk,(∀c o,c≠z->c≠TO->c≠j1->c≠j2->s.heap.get? c=some o->g.get? c=some o)->(∃o,g.get? e=some o/\o.cls = .type "StopIteration")->E (.ref e) { s with heap:=g,toks:=tk }) :
  wpAny (model prog w) A (Builtin.«zip.__next__» ⟨[.ref z],[]⟩) Q E s:=by
 have Z0:j1≠z:=fP D.b1 D.c1;have adJ:j2≠z:=fP D.b2 D.c2;have adK:j1≠TO:=fP D.b1 D.c3;have agf:j2≠TO:=fP D.b2 D.c4;show wpAny _ _ (field (.ref z) 2 >>= _) _ _ _;refine Qqq (Qz9 hz rfl (x:=.bool false) rfl ?_);show wpAny _ _ (field (.ref z) 3 >>= _) _ _ _;refine Qqq (Qz9 hz rfl (x:=.ref TI) rfl ?_);refine Qqq (Qj6 hTI rfl ?_);show wpAny _ _ (Builtin.SmallTypes.ownedTupleIsFree (.ref z) >>= _) _ _ _;refine Qqq ?_;unfold Builtin.SmallTypes.ownedTupleIsFree;refine Qqq (Qz9 hz rfl (x:=.none) rfl (Qq2 ?_));simp only[if_true];refine Qqq (wpAny_rule ?_);refine Qqq (Qz9 hz rfl (x:=.ref TO) rfl ?_);refine Qqq (Qkq hz (by simp) λg1 hz1 e1=>?_)
 replace hz1:IsZip g1 z TI TO .ellipsis:=hz1
 refine Qqq ?_;simp only[List.zipIdx_cons,List.zipIdx_nil,Qvz,Qkv];refine Qqq (Qqq (wpAny_onRaise ?_));show wpAny _ _ (Builtin.SmallTypes.nextOf (.ref j1) >>= _) _ _ _;have s1':S1 k g1:=D1.frame k _ _ s1 λc hc o e=>e1.extBut _ _ (fP hc D.c1) e;rcases hk with rfl|⟨k1,rfl⟩
 ·refine Qqq (D1.done { s with heap:=g1 } _ _ s1' λg2 e x2 he=>?_);obtain⟨oe,hoe,hce⟩:=he;have hz2:IsZip g2 z TI TO .ellipsis:=x2 _ _ Z0.symm hz1;have hez:e≠z:=λx=>by subst x;rw[hz2] at hoe;cases hoe;simp at hce
  exact Qkq hz2 (by simp) λg3 _ e3=>q g3 e s.toks (λc o c1 _ c3 _ x=>e3.extBut _ _ c1 (x2 _ _ c3 (e1.extBut _ _ c1 x))) ⟨oe,e3.extBut _ _ hez hoe,hce⟩
 ·refine Qqq (D1.item k { s with heap:=g1 } _ _ k1 s1' λx g2 tk2 px sx e2=>Qq2 ?_);have t2:IsPair g2 TO a b:=e2.extBut _ _ adK.symm (e1.extBut _ _ D.a2 hTO);refine Qqq (Qj6 t2 rfl ?_);refine Qqq (wpAny_updateSeq_pair t2 λg3 t3 e3=>?_);refine Qqq (wpAny_letGo (Qq2 ?_));refine Qqq (Qqq (wpAny_onRaise ?_));show wpAny _ _ (Builtin.SmallTypes.nextOf (.ref j2) >>= _) _ _ _;have s2':S2 k g3:=D2.frame k _ _ s2 λc hc o e=>e3.extBut _ _ (fP hc D.c4) (e2.extBut _ _ (fP hc D.c8) (e1.extBut _ _ (fP hc D.c2) e));refine Qqq (D2.done { s with heap:=g3,toks:=tk2 } _ _ s2' λg4 e x4 he=>?_);obtain⟨oe,hoe,hce⟩:=he;have hz4:IsZip g4 z TI TO .ellipsis:=x4 _ _ adJ.symm (e3.extBut _ _ D.a2.symm (e2.extBut _ _ Z0.symm hz1));have hez:e≠z:=λx=>by subst x;rw[hz4] at hoe;cases hoe;simp at hce
  exact Qkq hz4 (by simp) λg5 _ e5=>q g5 e tk2 (λc o c1 c2 c3 c4 x=>e5.extBut _ _ c1 (x4 _ _ c4 (e3.extBut _ _ c2 (e2.extBut _ _ c3 (e1.extBut _ _ c1 x))))) ⟨oe,e5.extBut _ _ hez hoe,hce⟩
def qw{Q:Option Value->Shared->Prop}(D:Ap z TI TO j1 j2 f1 f2)(D1:Draws prog w A.in1 j1 f1 n1 P1 S1)(D2:Draws prog w A.in1 j2 f2 n2 P2 S2)(k1:k<n1)(k2:k<n2)
  (hz:IsZip s.heap z TI TO .none) (hTI:IsPair s.heap TI (.ref j1) (.ref j2)) (hTO:IsPair s.heap TO a b) (s1:S1 k s.heap) (s2:S2 k s.heap)
  (q:∀x y g tk,P1 k x->P2 k y->IsZip g z TI TO (rawInt s.heap.objs.size)->IsPair g TO x y->S1 (k+1) g->S2 (k+1) g->IsPair g s.heap.objs.size x y->g.objs.size=s.heap.objs.size+1->
   (∀c o,c≠z->c≠TO->c≠j1->c≠j2->s.heap.get? c=some o->g.get? c=some o)->Q (some (.ref s.heap.objs.size)) { s with heap:=g,toks:=tk }) :
  wpAny (model prog w) A (pyNext (.ref z)) Q E s:=by
 have hT:s.TypeIs (.ref z) "zip":=⟨_,hz,rfl⟩;unfold pyNext;exact Qqq (wpAny_attempt (Qz5 (name:=Str.ofString "__next__") hT F.slot_zip_next (Qz7 F.slot_zip_next hT F.entry_zip_next
  (Sq D D1 D2 k1 k2 hz hTI hTO s1 s2 λx y g tk u1 u2 u3 u4 u5 u6 u7 u8 u9=>Qq2 (q x y g tk u1 u2 u3 u4 u5 u6 u7 u8 u9)) (F.args_zip_next_1 _))))
def rE{Q:Option Value->Shared->Prop}(D:Ap z TI TO j1 j2 f1 f2)(D1:Draws prog w A.in1 j1 f1 n1 P1 S1)(D2:Draws prog w A.in1 j2 f2 n2 P2 S2)(hk:k=n1\/(k<n1/\k=n2))
  (hz:IsZip s.heap z TI TO .none) (hTI:IsPair s.heap TI (.ref j1) (.ref j2)) (hTO:IsPair s.heap TO a b) (s1:S1 k s.heap) (s2:S2 k s.heap)
  (q:∀g tk,(∀c o,c≠z->c≠TO->c≠j1->c≠j2->s.heap.get? c=some o->g.get? c=some o)->Q none { s with heap:=g,toks:=tk }):wpAny (model prog w) A (pyNext (.ref z)) Q E s:=by
 have hT:s.TypeIs (.ref z) "zip":=⟨_,hz,rfl⟩;unfold pyNext;refine Qqq (wpAny_attempt (Qz5 (name:=Str.ofString "__next__") hT F.slot_zip_next (Qz7 F.slot_zip_next hT F.entry_zip_next
  (Xr D D1 D2 hk hz hTI hTO s1 s2 λg e tk hkp he=>?_) (F.args_zip_next_1 _))))
 obtain⟨o,ho,hc⟩:=he;refine Qqq (wpAny_isInstance (T:="StopIteration") (b:=true) ⟨o,ho,hc⟩ isSubtype_stop ?_);exact Qq2 (q _ _ hkp)
end
end ZT
namespace L2
open PySem PySem.Spec PyProof.Rows PySem.Builtin ZT
def Itz(K:PySem.W.Frag)(a1 a2:Addr):It:=
 ⟨λi H=>∃xs ys x y,mK K H a1 xs/\mK K H a2 ys/\xs[i]? = some x/\ys[i]? = some y,
 λi H v H'=>∃p x y,(∀xs,mK K H a1 xs->xs[i]? = some x)/\(∀ys,mK K H a2 ys->ys[i]? = some y)/\H p=none/\H'=upd H p (.tup [x,y])/\v = .ref p,
 λi H=>∃xs ys,mK K H a1 xs/\mK K H a2 ys/\(i=xs.length\/(i<xs.length/\i=ys.length))⟩
structure Apz(z TI TO j1 j2 a1 a2:Addr):Prop where
 t1:TI≠z
 t2:TO≠z
 t3:TI≠TO
 t4:j1≠j2
 b1:z ∉ [j1,a1]
 b2:z ∉ [j2,a2]
 b3:TO ∉ [j1,a1]
 b4:TO ∉ [j2,a2]
 b5:TI ∉ [j1,a1]
 b6:TI ∉ [j2,a2]
 b7:j2 ∉ [j1,a1]
 b8:j1 ∉ [j2,a2]
 c1:a1≠j1
 c2:a2≠j2
def Apz.ap{z TI TO j1 j2 a1 a2:Addr}(D:Apz z TI TO j1 j2 a1 a2):Ap z TI TO j1 j2 [j1,a1] [j2,a2]:=⟨D.t1,D.t2,D.t3,D.t4,by simp,by simp,D.b1,D.b2,D.b3,D.b4,D.b5,D.b6,D.b7,D.b8⟩
theorem SM{P:Program}{w:World}{K:PySem.W.Frag}{elts:List Expr}{kk:Nat}{pos:Pos}(z TI TO j1 j2 a1 a2:Addr)(D:Apz z TI TO j1 j2 a1 a2) :
  Turn P w K (.Tuple elts kk pos) (Itz K a1 a2) [z,TI,TO,j1,j2] z (λi h=>IsZip h z TI TO .none/\IsPair h TI (.ref j1) (.ref j2)/\(∃a b,IsPair h TO a b)/\h.IsTupleIter j1 a1 i/\h.IsTupleIter j2 a2 i) where
 mem:=by simp
 obj:=λi h st b hb=>by
  obtain⟨hz,hTI,⟨a,c,hTO⟩,⟨o1,e1,_,d1⟩,o2,e2,_,d2⟩:=st;simp only[Qq1,Qwk,Qx6] at hb;rcases hb with rfl|rfl|rfl|rfl|rfl
  ·exact⟨_,hz,λv q=>by cases q⟩
  ·exact⟨_,hTI,λv q=>by cases q⟩
  ·exact⟨_,hTO,λv q=>by cases q⟩
  ·exact⟨o1,e1,λv q=>by rw[d1] at q;cases q⟩
  ·exact⟨o2,e2,λv q=>by rw[d2] at q;cases q⟩
 keep:=λi h h' st k=>by
  obtain⟨hz,hTI,⟨a,c,hTO⟩,⟨o1,e1,r1⟩,o2,e2,r2⟩:=st;exact⟨k z (by simp) _ hz,k TI (by simp) _ hTI,⟨a,c,k TO (by simp) _ hTO⟩,⟨o1,k j1 (by simp) _ e1,r1⟩,o2,k j2 (by simp) _ e2,r2⟩
 item:=by
  intro X hP hw hK hc i pins s σ H E I hf st hg;subst hP hw hK;obtain⟨hz,hTI,⟨a,b,hTO⟩,i1,i2⟩:=st;obtain⟨xs,ys,x,y,hx,hy,gx,gy⟩:=hg;obtain⟨us,ru,pu,zu⟩:=I.tuple hx;obtain⟨vs,rv,pv,zv⟩:=I.tuple hy;obtain⟨u,hu,rxu⟩:=ru.get gx;obtain⟨v,hv,ryv⟩:=rv.get gy;have lu:i<us.toArray.size:=by rw[Qq5];exact(Qq4.mp hu).1
  have lv:i<vs.toArray.size:=by rw[Qq5];exact(Qq4.mp hv).1
  have D1:Draws X.prog X.w X.A.in1 j1 [j1,a1] _ _ _:=tD (A:=X.A.in1) (show X.A.in1.handled=none from I.ok.hd hc) j1 a1 D.c1 us.toArray;have D2:Draws X.prog X.w X.A.in1 j2 [j2,a2] _ _ _:=tD (A:=X.A.in1) (show X.A.in1.handled=none from I.ok.hd hc) j2 a2 D.c2 vs.toArray;refine qw (A:=X.A) D.ap D1 D2 lu lv hz hTI hTO ⟨i1,pu⟩ ⟨i2,pv⟩ λx' y' g tk px py hz' adv s1 s2 hT hsz hk=>?_;have ex:x'=u:=by have:us.toArray[i]? = some x':=px;rw[Qj1,hu] at this;exact(Qw2 this).symm
  have ey:y'=v:=by have:vs.toArray[i]? = some y':=py;rw[Qj1,hv] at this;exact(Qw2 this).symm
  subst ex ey;refine⟨_,rfl,?_⟩;refine wpAny_letOwnedTupleGo_zip (s:={ s with heap:=g,toks:=tk }) hz' λg' hz'' e'=>?_;have jo:∀b o,b≠z->g.get? b=some o->g'.get? b=some o:=λb o hb q=>(e'.2 b hb).trans q;have lts:∀b ∈ [z,TI,TO,j1,j2],b<s.heap.objs.size:=λb hb=>by
   simp only[Qq1,Qwk,Qx6] at hb;rcases hb with rfl|rfl|rfl|rfl|rfl
   ·exact Qwz hz
   ·exact Qwz hTI
   ·exact Qwz hTO
   ·obtain⟨_,q,_⟩:=i1;exact Qwz q
   ·obtain⟨_,q,_⟩:=i2;exact Qwz q
  have nT:H s.heap.objs.size=none:=I.hok.fresh (Qq0 _);refine⟨.ref s.heap.objs.size,upd H s.heap.objs.size (.tup [x,y]),I.drawn (t':=tk) (ch:=[z,TI,TO,j1,j2]) hf (λb o hb q=>?_) (Qq0 _) ?_,rfl,⟨_,x,y,λzs hq=>by rw[I.wQ hq hx];exact gx,λzs hq=>by rw[I.wQ hq hy];exact gy,nT,rfl,rfl⟩,⟨hz'',?_,⟨_,_,jo TO _ D.t2 adv⟩,?_,?_⟩,λb hb=>?_⟩
  ·have n1:b≠z:=λq=>hb (by simp[q]);exact jo b o n1 (hk b o n1 (λq=>hb (by simp[q])) (λq=>hb (by simp[q])) (λq=>hb (by simp[q])) q)
  ·exact⟨by show 2<=sizeLine;decide,[x',y'],.cons rxu (.cons ryv .nil),_,jo _ _ (Qz0 (lts z (by simp))) hT,rfl,⟨_,rfl⟩,rfl⟩
  ·exact jo TI _ D.t1 (hk TI _ D.t1 D.t3 (λq=>D.b5 (by simp[q])) (λq=>D.b6 (by simp[q])) hTI)
  ·obtain⟨o,q,r⟩:=s1.1;exact⟨o,jo j1 o (λq=>D.b1 (by simp[q])) q,r⟩
  ·obtain⟨o,q,r⟩:=s2.1;exact⟨o,jo j2 o (λq=>D.b2 (by simp[q])) q,r⟩
  ·rw[bL (Qw9 (lts b hb))];exact(hf b hb).1
 done:=by intro X hP hw hK hc i pins s σ H E I hf st hg;subst hP hw hK;obtain⟨hz,hTI,⟨a,b,hTO⟩,i1,i2⟩:=st;obtain⟨xs,ys,hx,hy,hi⟩:=hg;obtain⟨us,ru,pu,zu⟩:=I.tuple hx;obtain⟨vs,rv,pv,zv⟩:=I.tuple hy;have l1:=ru.length;have l2:=rv.length;have D1:Draws X.prog X.w X.A.in1 j1 [j1,a1] _ _ _:=tD (A:=X.A.in1) (show X.A.in1.handled=none from I.ok.hd hc) j1 a1 D.c1 us.toArray;have D2:Draws X.prog X.w X.A.in1 j2 [j2,a2] _ _ _:=tD (A:=X.A.in1) (show X.A.in1.handled=none from I.ok.hd hc) j2 a2 D.c2 vs.toArray;refine rE (A:=X.A) (k:=i) D.ap D1 D2 (by rw[Qq5,Qq5];omega) hz hTI hTO ⟨i1,pu⟩ ⟨i2,pv⟩ λg tk hk=>⟨rfl,I.zf (t':=tk) (ch:=[z,TI,TO,j1,j2]) hf λb o hb e=>?_⟩;exact hk b o (λq=>hb (by simp[q])) (λq=>hb (by simp[q])) (λq=>hb (by simp[q])) (λq=>hb (by simp[q])) e
 self:=λA i s Q E st h=>wpAny_pyIter_zip st.1 h
end L2
namespace ZT
open PySem PySem.Spec PyProof.Rows L2 PySem.Builtin
abbrev h1T(h:Heap)(l1:Addr):Heap:=h.push { cls:=.type "tuple_iterator",data:=.fields #[.ref l1,.int 0 0] }
abbrev h2T(h:Heap)(l1 l2:Addr):Heap:=(h1T h l1).push { cls:=.type "tuple_iterator",data:=.fields #[.ref l2,.int 0 0] }
abbrev h3T(h:Heap)(l1 l2:Addr):Heap:=(h2T h l1 l2).push { cls:=.type "tuple",data:=.seq #[.ref h.objs.size,.ref (h1T h l1).objs.size] }
abbrev h4T(h:Heap)(l1 l2:Addr):Heap:=(h3T h l1 l2).push { cls:=.type "tuple",data:=.seq #[.none,.none] }
abbrev h5T(h:Heap)(l1 l2:Addr):Heap:=(h4T h l1 l2).push { cls:=.type "zip",data:=.fields #[.none,.bool false,.bool false,.ref (h2T h l1 l2).objs.size,.ref (h3T h l1 l2).objs.size] }
def acX(l1 l2:Addr)(xs ys:Array Value):Meets (Builtin.«zip.__new__» ⟨[.type "zip",.ref l1,.ref l2],[]⟩) (λ_ R s=>s.heap.IsTuple l1 xs/\s.heap.IsTuple l2 ys/\
   R (.ok (.ret (.ref (h4T s.heap l1 l2).objs.size))) { s with heap:=h5T s.heap l1 l2 }):=
 .of_wp λprog w A R s h=>by
  obtain⟨hp,g,d,tk,os⟩:=s;obtain⟨hl1,hl2,h⟩:=h;have hsub:=sub_zip;have hL1:Heap.IsTuple (Shared.heap ⟨hp,g,d,tk,os⟩) l1 xs:=hl1;have hL2:Heap.IsTuple (Shared.heap ⟨hp.push { cls:=.type "tuple_iterator",data:=.fields #[.ref l1,.int 0 0] },g,d,tk,os⟩) l2 ys:=Heap.IsTuple.push hl2 _
  wp_walk using wpAny_pyIter_tuple hL1,wpAny_pyIter_tuple hL2
  exact⟨_,rfl,h⟩
section
variable{prog:Program}{w:World}{A:Around}{E:Value->Shared->Prop}{s:Shared}
def aad{l1 l2:Addr}{xs ys:Array Value}{Q:Value->Shared->Prop}(hl1:s.heap.IsTuple l1 xs)(hl2:s.heap.IsTuple l2 ys)
  (h:∀g,IsZip g (s.heap.objs.size+4) (s.heap.objs.size+2) (s.heap.objs.size+3) .none->IsPair g (s.heap.objs.size+2) (.ref s.heap.objs.size) (.ref (s.heap.objs.size+1))->
   IsPair g (s.heap.objs.size+3) .none .none->g.IsTupleIter s.heap.objs.size l1 0->g.IsTupleIter (s.heap.objs.size+1) l2 0->g.objs.size=s.heap.objs.size+5->
   (∀c o,s.heap.get? c=some o->g.get? c=some o)->Q (.ref (s.heap.objs.size+4)) { s with heap:=g }) :
  wpAny (model prog w) A (call (.type "zip") [.ref l1,.ref l2]) Q E s:=by
 refine callType_new F.called_zip (by decide) (F.typeCall_zip_2 _ _) (F.newCall_zip_2 _ _) (λobj=>F.args_object_init_3 obj _ _) F.entry_zip_new (acX l1 l2 xs ys) ⟨hl1,hl2,?_⟩;have z1:(h1T s.heap l1).objs.size=s.heap.objs.size+1:=Qx3 ..;have z2:(h2T s.heap l1 l2).objs.size=s.heap.objs.size+2:=by rw[Qx3,z1]
 have z3:(h3T s.heap l1 l2).objs.size=s.heap.objs.size+3:=by rw[Qx3,z2]
 have z4:(h4T s.heap l1 l2).objs.size=s.heap.objs.size+4:=by rw[Qx3,z3]
 have z5:(h5T s.heap l1 l2).objs.size=s.heap.objs.size+5:=by rw[Qx3,z4]
 have g5:(h5T s.heap l1 l2).get? (h4T s.heap l1 l2).objs.size=some _:=Qwj _ rfl;have g4:(h5T s.heap l1 l2).get? (h3T s.heap l1 l2).objs.size=some _:=Qqz _ (Qwj _ rfl);have g3:(h5T s.heap l1 l2).get? (h2T s.heap l1 l2).objs.size=some _:=Qqz _ (Qqz _ (Qwj _ rfl));have g2:(h5T s.heap l1 l2).get? (h1T s.heap l1).objs.size=some _:=Qqz _ (Qqz _ (Qqz _ (Qwj _ rfl)));have g1:(h5T s.heap l1 l2).get? s.heap.objs.size=some _:=Qqz _ (Qqz _ (Qqz _ (Qqz _ (Qwj _ rfl))));show _/\_;rw[z2,z3,z4] at g5;rw[z1,z2] at g3;rw[z3] at g4;rw[z1] at g2;rw[z4];exact⟨⟨_,g5,rfl⟩,h _ g5 g3 g4 ⟨_,g1,rfl,rfl⟩ ⟨_,g2,rfl,rfl⟩ z5 λc o x=>Qqz _ (Qqz _ (Qqz _ (Qqz _ (Qqz _ x))))⟩
end
end ZT
namespace L2
open PySem PySem.Spec PyProof.Rows PySem.Builtin ZT
section
variable{X:Cx}
def ahJ(K:PySem.W.Frag)(ta:TA):TI:=λσ H R=>ta σ H λvs H1=>∃a1 a2,vs=[.ref a1,.ref a2]/\(∃xs,mK K H1 a1 xs)/\(∃ys,mK K H1 a2 ys)/\R (Itz K a1 a2) H1
def acg{elts:List Expr}{k:Nat}{tp:Pos}{a b:Expr}{ta:TA}{p pos:Pos}(hg:Gl X "zip")(hm:X.mg "zip" = none)(ha:PA X [a,b] ta)(hs:starEach [a,b] X.env=(false,eval a X.env)::starEach [b] X.env:=by rfl)(hs2:starEach [b] X.env=[(false,eval b X.env)]:=by rfl):PI X (.Tuple elts k tp) (.Call (.Name "zip" p) [a,b] [] pos) (ahJ X.K ta):=by
 intro pins s σ H R I h;refine Call_ (rO I hg hm PyProof.Rows.boot_zip (Qx8 (fL (ha pos pins s σ H _ I h) λus s1 ⟨vs,H1,I1,r1,q1⟩=>?_) hs (by rw[hs2];rfl)));obtain⟨a1,a2,e,⟨xs,hx⟩,⟨ys,hy⟩,q⟩:=q1;subst e;cases r1 with
 | cons r rr=>
  cases rr with
  | cons r' rr'=>
   cases rr';cases r;cases r';obtain⟨u1,ru1,p1,z1⟩:=I1.tuple hx;obtain⟨u2,ru2,p2,z2⟩:=I1.tuple hy;have Vy:a1<s1.heap.objs.size:=by obtain⟨_,e,_⟩:=p1;exact Qwz e
   have OJ:a2<s1.heap.objs.size:=by obtain⟨_,e,_⟩:=p2;exact Qwz e
   refine aad p1 p2 λg hz hTI hTO i1 i2 hsz hk=>?_;refine wpAny_pyIter_zip hz ?_;have I2:Inv X pins σ H1 { s1 with heap:=g }:=I1.kept (t':=s1.toks) hk;have own:∀b,s1.heap.objs.size<=b->sO X pins H1 b:=λb hb=>I1.Gy hb (I1.hok.fresh hb);generalize hn:s1.heap.objs.size=n at *;have ne:∀{c d:Nat},c<d->(c:Addr)≠d:=λh e=>Qzw _ (by subst e;exact h);have ne':∀{c d:Nat},d<c->(c:Addr)≠d:=λh e=>Qzw _ (by subst e;exact h);have D:Apz (n+4) (n+2) (n+3) n (n+1) a1 a2:={
    t1:=ne (by omega),t2:=ne (by omega),t3:=ne (by omega),t4:=ne (by omega)
    b1:=by simp only[Qq1,Qwk,Qx6,not_or];exact⟨ne' (by omega),ne' (Qwx Vy (by omega))⟩
    b2:=by simp only[Qq1,Qwk,Qx6,not_or];exact⟨ne' (by omega),ne' (Qwx OJ (by omega))⟩
    b3:=by simp only[Qq1,Qwk,Qx6,not_or];exact⟨ne' (by omega),ne' (Qwx Vy (by omega))⟩
    b4:=by simp only[Qq1,Qwk,Qx6,not_or];exact⟨ne' (by omega),ne' (Qwx OJ (by omega))⟩
    b5:=by simp only[Qq1,Qwk,Qx6,not_or];exact⟨ne' (by omega),ne' (Qwx Vy (by omega))⟩
    b6:=by simp only[Qq1,Qwk,Qx6,not_or];exact⟨ne' (by omega),ne' (Qwx OJ (by omega))⟩
    b7:=by simp only[Qq1,Qwk,Qx6,not_or];exact⟨ne' (by omega),ne' (Qwx Vy (by omega))⟩
    b8:=by simp only[Qq1,Qwk,Qx6,not_or];exact⟨ne (by omega),ne' OJ⟩
    c1:=ne Vy,c2:=ne (Qwx OJ (by omega)) }
   refine⟨n+4,[n+4,n+2,n+3,n,n+1],_,_,H1,rfl,I2,SM _ _ _ _ _ a1 a2 D,⟨hz,hTI,⟨_,_,hTO⟩,i1,i2⟩,λb hb=>own b ?_,q⟩;simp only[Qq1,Qwk,Qx6] at hb;rcases hb with rfl|rfl|rfl|rfl|rfl
   ·exact Qj2 _ _
   ·exact Qj2 _ _
   ·exact Qj2 _ _
   ·exact Qq0 _
   ·exact Qj2 _ _
end
end L2
namespace Ev
open PySem PySem.Spec PyProof.Rows L2 PySem.Builtin
section
variable{X:Cx}{C:Cfg}{pos:Pos}{e e2:Expr}
def oU(x y:List D):List D:=(x.zip y).map λp=>.tup [p.1,p.2]
def yr(a:dI):dI:=λenv=>bindR (a env) λds aL=>match ds with
 | [.tup x,.tup y]=>.ok (oU x y) aL
 | _=>.stuck
theorem vz{K:Fg}{F:Hp}:∀{ds:List D} {vs:List V},bU K F ds vs->∀{i:Nat} {d:D},ds[i]? = some d->∃v,vs[i]? = some v/\Rep K F d v
 | [],vs,_,i,d,h=>by simp at h
 | x::ds,vs,r,i,d,h=>by
  obtain⟨v,w,rfl,p,q⟩:=r;cases i with
  | zero=>simp at h;subst h;exact⟨v,rfl,p⟩
  | succ i=>obtain⟨u,h1,h2⟩:=vz q (i:=i) (by simpa using h);exact⟨u,by simpa using h1,h2⟩
def afX{elts:List Expr}{k:Nat}{tp p:Pos}{ea:dI}(G:Good X C)(hm:X.mg "zip" = none)(ha:Kr X C [e,e2] ea)(hg:Gl X "zip":=by rfl)(hs:starEach [e,e2] X.env=(false,eval e X.env)::starEach [e2] X.env:=by rfl)(hs2:starEach [e2] X.env=[(false,eval e2 X.env)]:=by rfl):Sg X C (.Tuple elts k tp) (.Call (.Name "zip" p) [e,e2] [] pos) (yr ea):=by
 have h:=acg (elts:=elts) (k:=k) (tp:=tp) (p:=p) (pos:=pos) hg hm ha hs hs2;rw[G.K] at h;refine h.imp λσ H R hq=>?_;obtain⟨Pr,F,env,env',ds,r,e,q⟩:=hq;obtain⟨as,aL,e1,e2⟩:=bf e;refine⟨Pr,F,env,aL,as,r,e1,λvs H1 F1 r1 s1 p1=>?_⟩;split at e2
 ·rename_i xs ys;cases e2;obtain⟨v,w,rfl,p2,v2,w2,rfl,p3,p4⟩:=p1;cases p4;obtain⟨z1,a1,us,rfl,h1,h2⟩:=p2;obtain⟨z2,a2,ws,rfl,h3,h4⟩:=p3;have l1:=h2.length;have l2:=h4.length;refine⟨a1,a2,rfl,⟨us,aR.tupK r1.fr h1⟩,⟨ws,aR.tupK r1.fr h3⟩,q _ H1 F1 r1 s1 λi H2 s2=>⟨λ_ ei=>⟨us,ws,aR.tupK s2 h1,aR.tupK s2 h3,?_⟩,λd hd=>?_⟩⟩
  ·have:(oU xs ys).length=min xs.length ys.length:=by unfold oU;rw[Qqx,List.length_zip]
   omega
  ·unfold oU at hd;rw[Qwv] at hd;obtain⟨⟨c,j⟩,hc,rfl⟩:=Qq6.mp hd;obtain⟨g1,g2⟩:=List.getElem?_zip_eq_some.mp hc;obtain⟨v1,k1,k2⟩:=vz h2 g1;obtain⟨v2,k3,k4⟩:=vz h4 g2;refine⟨⟨us,ws,v1,v2,aR.tupK s2 h1,aR.tupK s2 h3,k1,k3⟩,λy H3 hy=>.inr ?_⟩;obtain⟨p,x',y',m1,m2,m3,rfl,rfl⟩:=hy;have n1:=m1 us (aR.tupK s2 h1);have n2:=m2 ws (aR.tupK s2 h3);rw[k1] at n1;rw[k3] at n2;cases n1;cases n2;exact⟨p,_,_,m3,rfl,rfl,rfl,by show 2<=sizeLine;decide,_,_,rfl,k2,_,_,rfl,k4,rfl⟩
 ·cases e2
end
open PySem PySem.Spec PyProof.Rows L2
section
variable{X:Cx}{C:Cfg}{pos:Pos}{n:Str}
def ZP{K:Fg}{h:Heap}{mg:Str->Option Value}{x:Str}{i:Int}{t:Tok}(X:K.In h)(G:h.Ns mainGlobals mg)(a:PySem.W.nsIn K mainGlobals x=some (some (.int i t))):Glb K mg x (.int i):=
 ⟨.int i,_,PySem.W.mg_of X G a,⟨t,rfl⟩,λF=>rfl⟩
def Du(i:Nat)(a:Ev):cu:=λenv=>match env[i]? with
 | some (some (true,.lst _))=>iW (a env) λd aL=>(match aL[i]?,d with
  | some (some (true,.lst xs)),.lst zs=>if xs.length+zs.length<=sizeLine then .nx (aL.set i (some (true,.lst (xs++zs)))) else .stuck
  | _,_=>.stuck)
 | _=>.stuck
def aeN{e:Expr}{a:Ev}{px apos cpos:Pos}(i:Nat)(G:Good X C)(he:PX X C e a)(hN:X.N[i]? = some n:=by rfl)(hv:tR X.env.scope n:=by first|exact Or.inl rfl|exact Or.inr (Or.inl rfl)|exact Or.inr (Or.inr rfl))
  (hs:swapsWith (.Call (.Attribute (.Name n px) "extend" apos) [e] [] cpos) none pos.line X.env=pure false:=by rfl)
  (hfew:((backTo cpos (starEach [e] X.env)).all (λx=>!x.1)&&(backToKw cpos (keywordEach [] X.env)).all (λx=>x.1.isSome)
   && decide (([e]:List Expr).length+([]:List Keyword).length+(if ([]:List Keyword).isEmpty then 0 else 1)<30))=true:=by rfl)
  (hbase:attributeBase (.Name n px) "extend" X.env (eval (.Name n px) X.env)=eval (.Name n px) X.env:=by rfl)
  (hline:(apos.endLine == cpos.line)=true:=by rfl) (hst:Dy e X.env:=by rfl) (hplain:(backTo cpos (starEach [] X.env)).any (·.1)=false:=by rfl)
  (hd:mU n:=by decide) (hcd:uG n:=by decide):Xf X C (.Expr (.Call (.Attribute (.Name n px) "extend" apos) [e] [] cpos) pos) (Du i a):=by
 refine PS.imp (Ol (Vd PySem.F.plainAttrs_list PySem.F.slot_list_extend PySem.F.type_list_extend Ri (jY hN hv hd hcd) (lF he rG hst) hbase hfew hline hst hplain) hs) λD σ H h=>?_;obtain⟨Pr,F,env,r,f⟩:=h;unfold Du at f;split at f
 ·rename_i xs0 h0;obtain⟨d,aL,e1,f1⟩:=dF f;obtain⟨a0,hv0,⟨z0,vs0,g0,_⟩,_⟩:=r.own i _ h0;refine⟨_,hv0,.inl ⟨rfl,vs0,ju.of g0⟩,Pr,F,env,aL,d,r,e1,λv H1 F1 r1 s1 p1=>?_⟩;split at f1
  ·rename_i xs zs h1;split at f1
   ·rename_i hz;obtain⟨a,g1,⟨z,vs,g2,g3⟩,g4,g5⟩:=r1.own i _ h1;rw[hv0] at g1;cases g1;obtain⟨_,b,ws,rfl,hb,hws⟩:=gD.lst r1.fr (.inl p1);refine⟨a0,b,vs,ws,rfl,rfl,g2,hb,by rw[g3.length,hws.length];exact hz,?_⟩;exact f1 σ _ F1 (r1.write h1 hv0 ⟨by rw[Qqj];exact hz,vs++ws,bh,g3.append hws⟩) s1
   ·exact f1.elim
  ·exact f1.elim
 ·exact f.elim
end
end Ev
namespace SX
open PySem PySem.Spec PyProof.Rows L2 PySem.Builtin
def led(w:World):Bool:=!(w.params.followText "set-order")
def Gh(t:SetTable)(n:Nat):(t.orStandIn n).led=t.led/\(t.plain=false->(t.orStandIn n).plain=false):=by
 unfold SetTable.orStandIn;split
 ·exact⟨rfl,id⟩
 ·exact⟨rfl,λ_=>rfl⟩
def zA(t:SetTable)(es:Array (Int×Value))(h:Int)(x:Value):(layNew t es h x).2.1.led=t.led/\(t.plain=false->(layNew t es h x).2.1.plain=false):=by
 unfold layNew;split
 ·exact Gh _ _
 ·exact⟨rfl,λ_=>rfl⟩
def vO{mask finger moves:Nat}{l p:Bool}{hs:Array Int}{t:SetTable}{o:Array Nat}(h:SetTable.laid mask finger moves l p hs=some (t,o)):t.led=l/\t.plain=p:=by
 unfold SetTable.laid at h;cases h1:SetTable.layClean mask hs with
 | none=>rw[h1] at h;cases h
 | some ow=>rw[h1] at h;injection h with h;injection h with h _;subst h;exact⟨rfl,rfl⟩
def sW(t:SetTable)(es:Array (Int×Value))(n:Nat):(relayAll t es n).2.1.led=t.led/\(t.plain=false->(relayAll t es n).2.1.plain=false):=by
 unfold relayAll;split
 ·rename_i t' order e;obtain⟨h1,h2⟩:=vO e;dsimp only;split
  ·exact⟨h1,λz=>h2.trans z⟩
  ·exact⟨rfl,λ_=>rfl⟩
 ·exact⟨rfl,λ_=>rfl⟩
section
variable{P:Program}{w:World}{A:Around}{E:Value->Shared->Prop}{s:Shared}{a:Addr}
def zT(b:Bool){n:String}{s₁:Shared}{Q:Unit->Shared->Prop}(h:Q () s₁):wpAny (model P w) A (match b with|true=>rule n|false=>pure ()) Q E s₁:=by
 cases b
 ·exact Qq2 h
 ·exact wpAny_rule h
def zx(v:Value){Q:Value->Shared->Prop}(h:Q (.ref s.heap.objs.size) { s with heap:=s.heap.push { cls:=.type "set",dict:=none,data:=.set #[] 0 (.fresh 0 0 (led w)) } }) :
  codeAny (model P w) A (.call (.builtin "set.__new__") ⟨[.type "set",v],[]⟩) (wants Q E) s:=by
 refine codeAny_of_tree ?_;show wpAny _ _ (checkBuiltinCall "set.__new__" ⟨[.type "set",v],[]⟩ >>= λ_=>again (.builtin "set.__new__" ⟨[.type "set",v],[]⟩)) _ _ s;refine Qqq (wpAny_of_eq (PySem.F.newCall_set_1 v) (Qq2 ⟨plainId_quiet PySem.F.plain_set_new _,codeAny_builtin PySem.F.entry_set_new ?_⟩));rw[Around.under_plainId PySem.F.plain_set_new _];unfold Builtin.«set.__new__» Builtin.Frozenset.newClass;have hs:=sub_set_self;obtain⟨_,_,_,_,_⟩:=s;dsimp only
 wp_walk
 refine wpAny_askSetting (Qq2 ?_);dsimp only;simp only[newObj];exact Qqq (wpAny_alloc (Qq2 (Qq2 h)))
def fresh(w:World):Obj:={ cls:=.type "set",dict:=none,data:=.set #[] 0 (.fresh 0 0 (led w)) }
end
open PySem PySem.Spec PyProof.Rows L2 PySem.Builtin Ev
def mY{x y:List Nat}(h:Ev.strOf x=Ev.strOf y):x=y:=by
 have:=Qx5 (λs:Str=>s.cps.toList) h
 simpa[Ev.strOf] using this
end SX
namespace Ev
open PySem PySem.Spec PyProof.Rows L2 PySem.Builtin
section
variable{X:Cx}{C:Cfg}{pos:Pos}
structure PXL(X:Cx)(C:Cfg)(es:List Expr)(ev:dI):Prop where
 go:Kr X C es ev
def Yq:PXL X C [] ak:=⟨Og⟩
end
open PySem L2
def nr{α:Type}{a b:α}(h:a=b):a=b:=h
def bR{α β:Type}(a:α)(e:Env)(f:α->Env->R β):bindR (.ok a e) f=f a e:=nr rfl
def jw{α:Type}(_:Env):R α:=.stuck
def Wd(xs:List D)(lo hi:Option Int):adx (.tup xs) lo hi=some (.tup (cutD xs lo hi)):=by
 show(if HT.fM xs.length 0 lo=0/\HT.fM xs.length xs.length hi=xs.length then some (D.tup xs) else some (D.tup (cutD xs lo hi)))=_;split
 ·rename_i h;unfold cutD;rw[h.1,h.2];simp
 ·rfl
def Z4{α:Type}(xs:List α)(k:Nat):cutD xs none (some (k:Int))=xs.take k:=by
 unfold cutD;rw[HT.N8];have:HT.fM xs.length 0 none=0:=rfl;rw[this,List.drop_zero,Nat.sub_zero];by_cases h:k<=xs.length
 ·rw[Nat.min_eq_left h]
 ·rw[Nat.min_eq_right (by omega),Qjj (Qq0 _),Qjj (by omega)]
def xU{α:Type}(xs:List α)(k:Nat):cutD xs (some (k:Int)) none=xs.drop k:=by
 unfold cutD;rw[HT.N8];have:HT.fM xs.length xs.length none=xs.length:=rfl;rw[this];by_cases h:k<=xs.length
 ·rw[Nat.min_eq_left h];exact Qjj (by rw[Qzk];omega)
 ·rw[Nat.min_eq_right (by omega),List.drop_of_length_le (by omega:xs.length<=k)];simp
theorem agi{α:Type}(p:α->Bool):∀l:List α,sE (l.map λa=>D.bl (p a))=some (l.map p)
 | []=>rfl
 | a::l=>by
  rw[Qq8];unfold sE;rw[agi p l]
  rfl
def agb{α:Type}(p:α->Bool)(l:List α):Wg [.lst (l.map λa=>D.bl (p a))]=some (.bl (l.all p)):=by show(sE _).map _=_;rw[agi];simp[List.all_map]
def abJ(n:Nat):gf 0 1 n=(List.range n).map λ(i:Nat)=>D.int (i:Int):=by
 unfold gf;apply Qx9;intro i _
 congr 1
 omega
def Tv{n:Nat}(h:n<2^62):yS [.int (n:Int)]=some ((List.range n).map λ(i:Nat)=>D.int (i:Int)):=by
 have hf:lD (n:Int)=true:=by unfold lD;simp only[Qjz,decide_eq_true_eq];omega
 show(if lD (n:Int)=true then some (gf 0 1 (n:Int).toNat) else none)=_;rw[if_pos hf,Qk3,abJ]
theorem aa1{α:Type}{g:GV}{c:fU}{e:Ev}(enc:α->D)(ext:α->Env)(p:α->Bool)(out:α->D)(env:Env)(k:Nat):∀(l:List α) (vs:Env),vs.length=k->
  (∀a∈l,(ext a).length=k/\(∀vs:Env,vs.length=k->g (enc a) (env++vs)=some (env++ext a))/\c (env++ext a) = .ok (p a) (env++ext a)/\(p a=true->e (env++ext a) = .ok (out a) (env++ext a)))->
  ∃vs',vs'.length=k/\Hk g c e (l.map enc) (env++vs) = .ok ((l.filter p).map out) (env++vs')
 | [],vs,hv,_=>⟨vs,hv,rfl⟩
 | a::l,vs,hv,h=>by
  obtain⟨h1,h2,h3,h4⟩:=h a Qqv;obtain⟨vs',h5,h6⟩:=aa1 enc ext p out env k l (ext a) h1 λb hb=>h b (Qqk _ hb);refine⟨vs',h5,?_⟩;rw[Qq8];unfold Hk;rw[h2 vs hv];show bindR (c (env++ext a)) _=_;rw[h3,bR];cases hp:p a with
  | true=>rw[if_pos rfl,h4 hp,bR,h6,bR,List.filter_cons_of_pos hp,Qq8]
  | false=>rw[if_neg Qw5,h6,List.filter_cons_of_neg (by rw[hp];exact Qw5)]
def Bt{α:Type}{lo n:Nat}{it:dI}{g:GV}{c:fU}{e:Ev}{env aL:Env}(l:List α)(enc:α->D)(ext:α->Env)(p:α->Bool)(out:α->D)(hit:it env = .ok (l.map enc) aL)(hlo:aL.length=lo)
  (h:∀a∈l,(ext a).length=n - lo/\(∀vs:Env,vs.length=n - lo->g (enc a) (aL++vs)=some (aL++ext a))/\c (aL++ext a) = .ok (p a) (aL++ext a)/\(p a=true->e (aL++ext a) = .ok (out a) (aL++ext a)))
  (hz:l.length<=sizeLine):d9 lo n it g c e env = .ok (.lst ((l.filter p).map out)) aL:=by
 obtain⟨vs',h5,h6⟩:=aa1 enc ext p out aL (n - lo) l (List.replicate (n - lo) none) Qz3 h;have:=oG hit hlo h6 (Qq3 (by rw[Qqx];exact List.length_filter_le _ _) hz);rw[this,<-hlo,List.take_left]
def GJ{α:Type}{lo n:Nat}{it:dI}{e:Ev}{env aL:Env}(l:List α)(enc:α->D)(out:α->D)(hit:it env = .ok (l.map enc) aL)(hlo:aL.length=lo)(hn:n=lo+1)
  (h:∀a∈l,e (aL++[some (false,enc a)]) = .ok (out a) (aL++[some (false,enc a)])) (hz:l.length<=sizeLine):d9 lo n it (aj lo) bZ e env = .ok (.lst (l.map out)) aL:=by
 subst hn hlo;have:=Bt (lo:=aL.length) (n:=aL.length+1) (it:=it) (g:=aj aL.length) (c:=bZ) (e:=e) (env:=env) l enc (λa=>[some (false,enc a)]) (λ_=>true) out hit rfl (λa ha=>⟨by simp,λvs hv=>?_,rfl,λ_=>h a ha⟩) hz
 ·rw[this,Qk7.mpr (λ_ _=>rfl)]
 ·have hv:vs.length=1:=by omega
  obtain⟨v,rfl⟩:=List.length_eq_one_iff.mp hv;unfold aj;rw[List.set_append_right _ _ (Qq0 _),Nat.sub_self]
  rfl
open PySem PySem.Spec PyProof.Rows L2
section
variable{X:Cx}{C:Cfg}{pos:Pos}{x:Expr}{a:Ev}
def ahW:D->Option Int->Option Int->Option D
 | .str z,lo,hi=>some (.str (cutD z lo hi))
 | .tup xs,lo,hi=>some (.tup (cutD xs lo hi))
 | .lst xs,lo,hi=>some (.lst (cutD xs lo hi))
 | .arr xs,lo,hi=>some (.lst (cutD xs lo hi))
 | _,_,_=>none
def tZ(a:Ev)(lo hi:Xm):Ev:=λenv=>bindR (a env) λd aL=>bindR (lo aL) λl dX=>bindR (hi dX) λu RG=>jf (ahW d l u) RG
def aew{lo hi:Option Expr}{el eh:Xm}{p2:Pos}(G:Good X C)(ha:PX X C x a)(hl:PXP X C lo el)(hh:PXP X C hi eh):PX X C (.Subscript x (.Slice lo hi none p2) pos) (tZ a el eh):=by
 have h:=Jb (pos:=pos) (p2:=p2) (Qj.or (Qj.or NZ Ln) (Qj.or (Qj.or Ln Ti) abL)) ha hl hh;rw[G.K] at h;refine h.imp λσ H Q hq=>?_;obtain⟨Pr,F,env,env',d,r,e,q⟩:=hq;obtain⟨x,aL,e1,e2⟩:=bf e;obtain⟨l,dX,e3,e4⟩:=bf e2;obtain⟨u,RG,e5,e6⟩:=bf e4;obtain⟨e7,rfl⟩:=fD e6;refine⟨Pr,F,env,aL,x,r,e1,λv H1 F1 r1 s1 p1=>⟨Pr,F1,aL,dX,l,r1,e3,λH2 F2 r2 s2=>⟨Pr,F2,dX,env',u,r2,e5,λH3 F3 r3 s3=>?_⟩⟩⟩;have p3:=Rep.mono (s2.trans s3) _ _ p1;have q3:∀v H' F',Rel C Pr F' env' σ H'->aR F3 F'->Rep C.K F' d v->Q v H':=λv H' F' r' s' p'=>q v H' F' r' (((s1.trans s2).trans s3).trans s') p';cases x with
 | str z=>
  cases e7;obtain⟨rfl,hz⟩:=p1;exact .inr (.inr ⟨z,rfl,hz,q3 _ H3 F3 r3 (aR.refl _) ⟨rfl,Qq3 (Wy _ _ _) hz⟩⟩)
 | tup xs=>
  exact .inr (.inl (abM r3 p3 (by rw[Wd];exact e7) q3))
 | lst xs=>exact .inl (Tj r3 (.inl p3) e7 q3)
 | arr xs=>exact .inl (Tj r3 (.inl p3) e7 q3)
 | _=>cases e7
end
structure SX(X:Cx)(C:Cfg)(e:Expr)(ev:Ev):Prop where
 u:Ev.PX X C e ev
structure Ni(X:Cx)(C:Cfg)(e:Expr)(ev:Ev):Prop where
 u:Ev.Nj X C e ev
structure Xd(X:Cx)(C:Cfg)(e:Expr)(ev:Ev):Prop where
 u:Ev.R6 X C e ev
structure Qk(X:Cx)(C:Cfg)(e:Expr)(ev:fU):Prop where
 u:Ev.PXT X C e ev
structure SXW(X:Cx)(C:Cfg)(e:Expr)(ev:fU):Prop where
 u:Ev.PXW X C e ev
structure Kv(X:Cx)(C:Cfg)(e:List Expr)(ev:dI):Prop where
 u:Ev.Kr X C e ev
structure xY(X:Cx)(C:Cfg)(e:List Expr)(ev:dI):Prop where
 u:Ev.aar X C e ev
structure SXL(X:Cx)(C:Cfg)(e:List Expr)(ev:dI):Prop where
 u:Ev.PXL X C e ev
structure Kq(X:Cx)(C:Cfg)(e:Stmt)(ev:cu):Prop where
 u:Ev.Xf X C e ev
structure eQ(X:Cx)(C:Cfg)(e:List Stmt)(ev:cu):Prop where
 u:Ev.Di X C e ev
structure aam(X:Cx)(C:Cfg)(e:List Expr)(ev:fU):Prop where
 u:Ev.R7 X C e ev
structure SXP(X:Cx)(C:Cfg)(e:Option Expr)(ev:Xm):Prop where
 u:Ev.PXP X C e ev
structure Xp(X:Cx)(C:Cfg)(tg e:Expr)(ev:dI):Prop where
 u:Ev.Sg X C tg e ev
structure SXG(X:Cx)(C:Cfg)(lo:Nat)(e:Expr)(ev:GV):Prop where
 u:Ev.PXG X C lo e ev
structure aan(X:Cx)(C:Cfg)(lo:Nat)(e:List Expr)(ev:Xq):Prop where
 u:Ev.aee X C lo e ev
section
variable{X:Cx}{C:Cfg}{pos p px:Pos}{x y z:Expr}{a b c:Ev}{t u:fU}{i:Nat}{n:Str}{e:Expr}{es:List Expr}{ea:dI}{apos:Pos}{e2:Expr}
def aC{e:Expr}{es:List Expr}{a:Ev}{r:dI}(ha:SX X C e a)(hr:Kv X C es r)(hs:starEach (e::es) X.env=(false,eval e X.env)::starEach es X.env:=by rfl):Kv X C (e::es) (aa a r):=⟨Ev.Iw ha.u hr.u hs⟩
def aU(i:Nat)(hN:X.N[i]? = some n:=by rfl)(hv:tR X.env.scope n:=by first|exact Or.inl rfl|exact Or.inr (Or.inl rfl)|exact Or.inr (Or.inr rfl))(hd:mU n:=by decide)(hcd:uG n:=by decide):SX X C (.Name n pos) (aM i):=⟨ab1 i hN hv hd hcd⟩
def cD{X:Cx}{C:Cfg}{n:Str}{pos:Pos}{es:List Expr}{r:dI}(i:Nat)(hr:Kv X C es r)(hN:X.N[i]? = some n:=by rfl)(hv:tR X.env.scope n:=by first|exact Or.inl rfl|exact Or.inr (Or.inl rfl)|exact Or.inr (Or.inr rfl))(hd:mU n:=by decide)(hcd:uG n:=by decide)(hs:starEach (.Name n pos::es) X.env=(false,eval (.Name n pos) X.env)::starEach es X.env:=by rfl):Kv X C (.Name n pos::es) (aa (aM i) r):=aC (aU i hN hv hd hcd) hr hs
def aq  : Kv X C [] ak:=⟨Ev.Og ⟩
def aZ{e:Expr}{ev:Ev}(h:SX X C e ev):Ni X C e ev:=⟨Ev.PX.b h.u⟩
def aP{i:Int}{j:Nat}:SX X C (.Constant (.int i) j pos) (Ep (.int i)):=⟨Ev.ab7 ⟩
def ao{st:Stmt}{rest:List Stmt}{a b:cu}(h1:Kq X C st a)(h2:eQ X C rest b):eQ X C (st::rest) (aF a b):=⟨(Ux h1.u h2.u).imp λD σ H h=>by
 obtain⟨Pr,F,env,r,f⟩:=h;refine⟨Pr,F,env,r,?_⟩;unfold aF at f;cases e:a env with
 | nx e1=>rw[e] at f;exact λσ' H' F' r' s'=>⟨Pr,F',e1,r',f.mono s'⟩
 | rt o d e1=>rw[e] at f;cases o<;>exact f
 | bk e1=>rw[e] at f;exact f
 | ct e1=>rw[e] at f;exact f
 | stuck=>rw[e] at f;exact f⟩
def aG{st:Stmt}{a:cu}(h1:Kq X C st a):eQ X C [st] a:=⟨Yv h1.u⟩
def aK{lo:Nat}(i:Nat)(hnd:nC X.N=true:=by rfl)(hlo:Nat.ble lo i=true:=by rfl)(hfx:C.fx i=none:=by rfl)(hi:X.N[i]? = some n:=by rfl)(hx:Loc X.env.scope n:=by first|exact Or.inl rfl|exact Or.inr rfl)(hf:X.fn n=true\/X.env.scope.names.lookup n=some .local:=by first|exact .inl rfl|exact .inr rfl):SXG X C lo (.Name n pos) (aj i):=⟨Up (jK hnd) hi hx (Qkx hlo) hfx hf⟩
def bO(z:List Nat){x:Str}{j:Nat}(hz:x=strOf z:=by decide +kernel)(hl:z.length<=sizeLine:=by decide):SX X C (.Constant (.str x) j pos) (Ep (.str z)):=⟨Ev.ab2 z hz hl⟩
def bM(i:Nat)(hN:X.N[i]? = some n:=by rfl)(hv:tR X.env.scope n:=by first|exact Or.inl rfl|exact Or.inr (Or.inl rfl)|exact Or.inr (Or.inr rfl))(hd:mU n:=by decide)(hcd:uG n:=by decide):Ni X C (.Name n pos) (aV i):=⟨Yt i hN hv hd hcd⟩
def bD{pos':Pos}(i:Nat)(he:SX X C e a)(hnd:nC X.N=true:=by rfl)(hfx:C.fx i=none:=by rfl)(hi:X.N[i]? = some n:=by rfl)(hx:Loc X.env.scope n:=by first|exact Or.inl rfl|exact Or.inr rfl)(hs:swapsWith e (some (.Name n pos')) pos.line X.env=pure false:=by rfl)(hf:X.fn n=true\/X.env.scope.names.lookup n=some .local:=by first|exact .inl rfl|exact .inr rfl):Kq X C (.Assign [.Name n pos'] e pos) (aQ a (aj i)):=⟨Yl (jK hnd) hi hx hfx he.u hs hf⟩
def bj{e:Expr}{a:Ev}(h:SX X C e a):Kq X C (.Return (some e) pos) (bI a):=⟨(UJ h.u).imp λD σ H hq=>by
 obtain⟨Pr,F,env,r,f⟩:=hq;obtain⟨d,aL,e1,f1⟩:=dF f;exact⟨Pr,F,env,aL,d,r,e1,λv H1 F1 r1 s1 p1=>f1 v σ H1 F1 r1 s1 p1⟩⟩
def aX{e:Expr}{a:Ev}(h:Ni X C e a)(hs:Dy e X.env:=by rfl):xY X C [e] (aa a ak):=⟨(lF h.u rG hs).imp λσ H Q hq=>by
 obtain⟨Pr,F,env,env',ds,rl,e,q⟩:=hq;obtain⟨d1,aL,e1,e2⟩:=bf e;cases e2;exact⟨Pr,F,env,env',d1,rl,e1,λv H1 F1 r1 s1 p1=>q _ H1 F1 r1 s1 ⟨v,[],rfl,p1,rfl⟩⟩⟩
def bJ{k k':Nat}{m:Nat}{ps:List Str}{g:List D->Option D}(O:Own X.prog X.w X.K X.mg X.base n k ps (nY X.K m g))(G:Good X C)(hr:ji k' X.A)(ha:Kv X C (e::es) ea)(hn:∀env ds env',ea env = .ok ds env'->ds.length=m)(hk:Nat.ble k k'=true:=by rfl)(hg:Gl X n:=by rfl)(hdb:mU n:=by decide)(he:starEach (e::es) X.env=(false,eval e X.env)::starEach es X.env:=by rfl)(hpl:(backTo pos (starEach es X.env)).any (·.1)=false:=by rfl):SX X C (.Call (.Name n p) (e::es) [] pos) (au g ea):=⟨Ev.aey O G hr hk ha.u hn hg hdb he hpl⟩
def bW{es:List Expr}{r:dI}{k:Nat}(h:Kv X C es r):SX X C (.Tuple es k pos) (bY r):=⟨(ack h.u).imp λσ H Q hq=>by
 obtain⟨Pr,F,env,env',d,rl,e,q⟩:=hq;obtain⟨ds,aL,e1,e2⟩:=bf e;split at e2
 ·rename_i hz;cases e2;refine⟨Pr,F,env,env',ds,rl,e1,λvs H1 F1 r1 s1 p1=>⟨by rw[p1.length];exact hz,λp hp=>?_⟩⟩;obtain⟨r2,s2⟩:=r1.new (o:=.tup vs) hp;exact q _ _ _ r2 (s1.trans s2) ⟨hz,p,vs,rfl,mK.of bh,bU.mono s2 _ _ p1⟩
 ·cases e2⟩
def aA{lo:Nat}{e:Expr}{es:List Expr}{g:GV}{gs:Xq}(h1:SXG X C lo e g)(h2:aan X C lo es gs)(hs:(assignEach (e::es) X.env).map (·.2)=assign e X.env::(assignEach es X.env).map (·.2):=by rfl):aan X C lo (e::es) (aD g gs):=⟨(U5 h1.u h2.u hs).imp λv σ H Q h=>by
 obtain⟨Pr,F,env,env',ds,r,p,e,q⟩:=h;cases ds with
 | nil=>cases e
 | cons d ds=>
  obtain⟨u,w,rfl,p1,p2⟩:=p;obtain⟨aL,e1,e2⟩:=Qx1.mp e;refine⟨u,w,rfl,Pr,F,env,aL,d,r,p1,e1,λσ1 H1 F1 r1 s1 t1=>?_⟩;exact⟨Pr,F1,aL,env',ds,r1,bU.mono s1 _ _ p2,e2,λσ2 H2 F2 r2 s2 t2=>q σ2 H2 F2 r2 (s1.trans s2) (t2.trans t1)⟩⟩
def cB{e:Expr}{ev:Ev}(h:Xd X C e ev):SX X C e ev:=⟨Ev.R6.px h.u⟩
def cH(i:Nat)(G:Good X C)(hb:Ni X C y b)(hN:X.N[i]? = some n:=by rfl)(hv:tR X.env.scope n:=by first|exact Or.inl rfl|exact Or.inr (Or.inl rfl)|exact Or.inr (Or.inr rfl))(hs:wK y:=by intro _ _;rfl)(hd:mU n:=by decide)(hcd:uG n:=by decide):SX X C (.Subscript (.Name n px) y pos) (aB dH i b):=⟨ab6 i G.K hN hv hb.u hs hd hcd⟩
def iB{k k':Nat}{m:Nat}{ps:List Str}{g:List D->Option (D×D)}{v:Str}{pv:Pos}(i:Nat)(O:Own X.prog X.w X.K X.mg X.base n k ps (ur X.K m g))(G:Good X C)(hr:ji k' X.A)(ha:Kv X C es ea)(hn:∀env ds env',ea env = .ok ds env'->ds.length+1=m)(hk:Nat.ble k k'=true:=by rfl)(hN:X.N[i]? = some v:=by rfl)(hv:tR X.env.scope v:=by first|exact Or.inl rfl|exact Or.inr (Or.inl rfl)|exact Or.inr (Or.inr rfl))(hg:Gl X n:=by rfl)(hdb:mU n:=by decide)(he:starEach (.Name v pv::es) X.env=(false,eval (.Name v pv) X.env)::starEach es X.env:=by rfl)(hpl:(backTo pos (starEach es X.env)).any (·.1)=false:=by rfl)(hd:mU v:=by decide)(hcd:uG v:=by decide):SX X C (.Call (.Name n p) (.Name v pv::es) [] pos) (di g i ea):=⟨Ev.ag2 i O G hr hk ha.u hn hN hv hg hdb he hpl hd hcd⟩
def gK{op:Operator}{g:D->D->Option D}(o:Bi X C op g)(ha:SX X C x a)(hb:Ni X C y b):SX X C (.BinOp x op y pos) (aO g a b):=⟨let ⟨_,h1,h2⟩:=o.ex;afe h1 h2 ha.u hb.u⟩
def m5{e:Expr}{es:List Expr}{a:Ev}{r:dI}(ha:SX X C e a)(hr:SXL X C es r)(hs:starEach (e::es) X.env=(false,eval e X.env)::starEach es X.env:=by rfl):SXL X C (e::es) (aa a r):=⟨⟨Ev.Iw ha.u hr.u.go hs⟩⟩
def fH{op:Operator}{g:D->D->Option D}(i:Nat)(o:Bi X C op g)(hb:Ni X C y b)(hN:X.N[i]? = some n:=by rfl)(hv:tR X.env.scope n:=by first|exact Or.inl rfl|exact Or.inr (Or.inl rfl)|exact Or.inr (Or.inr rfl))(hd:mU n:=by decide)(hcd:uG n:=by decide):SX X C (.BinOp (.Name n px) op y pos) (aB g i b):=⟨let ⟨_,h1,h2⟩:=o.ex;ab4 i hN hv h1 h2 hb.u hd hcd⟩
def dJ{c:Expr}{a b:List Stmt}{t:fU}{ea eb:cu}(hc:Qk X C c t)(ha:eQ X C a ea)(hb:eQ X C b eb):Kq X C (.If c a b pos) (iD t ea eb):=⟨(afk hc.u ha.u hb.u).imp λD σ H h=>by
 obtain⟨Pr,F,env,r,f⟩:=h;obtain⟨k,aL,e1,f1⟩:=dF f;refine⟨Pr,F,env,aL,k,r,e1,λH1 F1 r1 s1=>?_⟩;split at f1
 ·rename_i hk;rw[if_pos hk];exact⟨Pr,F1,aL,r1,f1.mono s1⟩
 ·rename_i hk;rw[if_neg hk];exact⟨Pr,F1,aL,r1,f1.mono s1⟩⟩
def cj{es:List Expr}{r:dI}(h:Kv X C es r):Xd X C (.List es pos) (cz r):=⟨Ev.Oe h.u⟩
def cM  : eQ X C [] dG:=⟨Ev.Ug ⟩
def dD{tg:Expr}(G:Good X C)(h:SX X C x a):Xp X C tg x (dW a):=⟨Yr G.K h.u⟩
def Am{b:Bool}{j:Nat}:SX X C (.Constant (.bool b) j pos) (Ep (.bl b)):=⟨Ev.afi ⟩
def jL{elt tg iter:Expr}{ifs:List Expr}{scope:Scope}(N':List Str){it:dI}{g:GV}{cc:fU}{ee:Ev}(lo:Nat)(ok:nM X scope N')(G:Good X C)(hi:Xp X C tg iter it)(bg:∀X',kj X scope N' X'->SXG X' C lo tg g)(bc:∀X',kj X scope N' X'->aam X' C ifs cc)(be:∀X',kj X scope N' X'->SX X' C elt ee)(hs:∀x,foldedSetIterable iter X.env x=pure x:=by intro _;rfl):Xd X C (.ListComp elt [⟨tg,iter,ifs,0⟩] scope pos) (d9 lo N'.length it g cc ee):=⟨Ev.ahz N' lo ok G hi.u (λX1 h1=>(bg X1 h1).u) (λX1 h1=>(bc X1 h1).u) (λX1 h1=>(be X1 h1).u) hs⟩
def gJ(G:Good X C)(hm:X.mg "len" = none)(ha:xY X C [e] ea)(hg:Gl X "len":=by rfl)(he:Dy e X.env:=by rfl):SX X C (.Call (.Name "len" p) [e] [] pos) (au d8 ea):=⟨nu (by rw[<-G.K];exact WR) adW hg hm PySem.boot_len ha.u (by decide) (by decide) he rfl⟩
def iI{e:Expr}{a:Ev}(h:SX X C e a)(he:∀whole,isTrue e X.env whole=(do let v <-whole;standAt e.pos;holding [v] (truthy v)):=by intro _;rfl):Qk X C e (eO a):=⟨(ab9 h.u he).imp λσ H Q hq=>Td hq⟩
def bw{lo:Nat}:aan X C lo [] bN:=⟨Ev.Uo ⟩
def cC{lo:Nat}{k:Nat}{gs:Xq}{m:Nat}(G:Good X C)(h:aan X C lo es gs)(hn:(assignEach es X.env).length=m:=by rfl)(hst:(assignEach es X.env).findIdx? (·.1)=none:=by rfl):SXG X C lo (.Tuple es k pos) (bK m gs):=⟨Ys G.calm G.K h.u hn hst⟩
def cJ{X:Cx}{C:Cfg}:aam X C [] bZ:=⟨Ev.Um ⟩
def gM{tg iter:Expr}{body:List Stmt}{it:dI}{g:GV}{bs:cu}(G:Good X C)(hi:Xp X C tg iter it)(hg:SXG X C 0 tg g)(hb:eQ X C body bs)(hp:PassesOwn (model X.prog X.w) X.A X.env X.xe:=by exact PassesOwn.never)(hs:∀x,foldedSetIterable iter X.env x=pure x:=by intro _;rfl):Kq X C (.For tg iter body [] pos) (eZ it g bs):=⟨Yn hp G.calm hi.u hg.u hb.u hs⟩
def kI{op:CmpOp}{g:D->D->Option D}(o:Cm X C op g)(ha:SX X C x a)(hb:Ni X C y b)(hm:behindInMarks op y=false:=by rfl):Qk X C (.Compare x [op] [y] pos) (eO (aO g a b)):=⟨let ⟨_,h1,h2⟩:=o.ex;Yk h1 h2 ha.u hb.u hm⟩
def fC{pos':Pos}(i:Nat)(he:Xd X C e a)(hnd:nC X.N=true:=by rfl)(hfx:C.fx i=none:=by rfl)(hi:X.N[i]? = some n:=by rfl)(hx:Loc X.env.scope n:=by first|exact Or.inl rfl|exact Or.inr rfl)(hs:swapsWith e (some (.Name n pos')) pos.line X.env=pure false:=by rfl)(hf:X.fn n=true\/X.env.scope.names.lookup n=some .local:=by first|exact .inl rfl|exact .inr rfl):Kq X C (.Assign [.Name n pos'] e pos) (cP i a):=⟨Ym (jK hnd) hi hx hfx he.u hs hf⟩
def dM(G:Good X C)(hm:X.mg "tuple" = none)(ha:xY X C [e] ea)(hg:Gl X "tuple":=by rfl)(he:Dy e X.env:=by rfl):SX X C (.Call (.Name "tuple" p) [e] [] pos) (au cI ea):=⟨xA (T:="tuple") (r:=T3 C.K) (by rw[<-G.K];exact Df) WN hg hm (by decide +kernel) ha.u (by decide) (by decide) he rfl⟩
def nR(G:Good X C)(ha:SX X C x a)(hb:Ni X C y b)(hs:wK y:=by intro _ _;rfl):SX X C (.Subscript x y pos) (aO dH a b):=⟨afg G.K ha.u hb.u hs⟩
def fV{op:CmpOp}{g:D->D->Option D}(i:Nat)(o:Cm X C op g)(hb:Ni X C y b)(hN:X.N[i]? = some n:=by rfl)(hv:tR X.env.scope n:=by first|exact Or.inl rfl|exact Or.inr (Or.inl rfl)|exact Or.inr (Or.inr rfl))(hm:behindInMarks op y=false:=by rfl)(hd:mU n:=by decide)(hcd:uG n:=by decide):Qk X C (.Compare (.Name n px) [op] [y] pos) (eO (aB g i b)):=⟨Ev.abC i o hb.u hN hv hm hd hcd⟩
def cT{tg e:Expr}{a:Ev}{g:GV}(he:SX X C e a)(hg:SXG X C 0 tg g)(hs:swapsWithSole [tg] e pos.line X.env=pure false:=by rfl)(hw:swappedStores [tg] e X.env=pure none:=by rfl)(h1:(assignEach [tg] X.env).map (·.2)=[assign tg X.env]:=by rfl):Kq X C (.Assign [tg] e pos) (aQ a g):=⟨(ace he.u hg.u hs hw h1).imp λD σ H h=>ad1 h⟩
def jJ{e:Expr}{a:Ev}(h:SX X C e a):SXP X C (some e) (zK a):=⟨(Yz h.u).imp λσ H Q hq=>by
 obtain⟨Pr,F,env,env',o,r,e,q⟩:=hq;obtain⟨d,aL,e1,e2⟩:=bf e;refine⟨Pr,F,env,aL,d,r,e1,λv H1 F1 r1 s1 p1=>?_⟩;cases d with
 | int i=>cases e2;exact⟨i,p1,q H1 F1 r1 s1⟩
 | _=>cases e2⟩
def Ue{x:Expr}{a:fU}(h:Qk X C x a):Qk X C (.UnaryOp .Not x pos) (GF a):=⟨(aca h.u).imp λσ H Q hq=>by
 obtain⟨Pr,F,env,env',b,rl,e,q⟩:=hq;obtain⟨c,aL,e1,e2⟩:=bf e;cases e2;exact⟨Pr,F,env,env',c,rl,e1,λH1 F1 r1 s1=>q H1 F1 r1 s1⟩⟩
def tL{e:Expr}{a:fU}(h:SXW X C e a):Qk X C e a:=⟨Ev.PXW.pt h.u⟩
def pY{tg:Expr}(hm:X.mg "range" = none)(ha:Kv X C [e] ea)(hl:∀env ds env',ea env = .ok ds env'->ds.length=1)(hg:Gl X "range":=by rfl)(hs:starEach [e] X.env=[(false,eval e X.env)]:=by rfl):Xp X C tg (.Call (.Name "range" p) [e] [] pos) (iV ea):=⟨Mi hg hm ha.u hl hs⟩
def Fl{op:CmpOp}{g:D->D->Option D}(i:Nat)(o:Cm X C op g)(hb:Ni X C y b)(hN:X.N[i]? = some n:=by rfl)(hv:tR X.env.scope n:=by first|exact Or.inl rfl|exact Or.inr (Or.inl rfl)|exact Or.inr (Or.inr rfl))(hm:behindInMarks op y=false:=by rfl)(hd:mU n:=by decide)(hcd:uG n:=by decide):SX X C (.Compare (.Name n px) [op] [y] pos) (aB g i b):=⟨Ev.abq i o hb.u hN hv hm hd hcd⟩
def Oi{j:Nat}:SX X C (.Constant .none j pos) (Ep .non):=⟨Ev.ab5 ⟩
def uF{e:Expr}{es:List Expr}{a:Ev}{r:dI}(ha:SX X C e a)(hr:xY X C es r)(hs:starEach (e::es) X.env=(false,eval e X.env)::starEach es X.env:=by rfl):xY X C (e::es) (aa a r):=⟨(lF ha.u hr.u hs).imp λσ H Q h=>by
  obtain⟨Pr,F,env,env',ds,rl,e,q⟩:=h;obtain⟨d1,aL,e1,e2⟩:=bf e;obtain⟨ds2,dX,e3,e4⟩:=bf e2;cases e4;refine⟨Pr,F,env,aL,d1,rl,e1,λv H1 F1 r1 s1 p1=>?_⟩;refine⟨Pr,F1,aL,env',ds2,r1,e3,λvs H2 F2 r2 s2 p2=>?_⟩;exact q _ H2 F2 r2 (s1.trans s2) ⟨v,vs,rfl,.inl (Rep.mono s2 d1 v p1),p2⟩⟩
def Oh{op:BoolOp}{x:Expr}{a:Ev}(h:SX X C x a):SX X C (.BoolOp op [x] pos) a:=⟨Ml h.u⟩
def il{apos cpos:Pos}(i:Nat)(G:Good X C)(he:SX X C e a)(hN:X.N[i]? = some n:=by rfl)(hv:tR X.env.scope n:=by first|exact Or.inl rfl|exact Or.inr (Or.inl rfl)|exact Or.inr (Or.inr rfl))(hs:swapsWith (.Call (.Attribute (.Name n px) "append" apos) [e] [] cpos) none pos.line X.env=pure false:=by rfl) (hfew:((backTo cpos (starEach [e] X.env)).all (λx=>!x.1)&&(backToKw cpos (keywordEach [] X.env)).all (λx=>x.1.isSome)
   && decide (([e]:List Expr).length+([]:List Keyword).length+(if ([]:List Keyword).isEmpty then 0 else 1)<30))=true:=by rfl) (hbase:attributeBase (.Name n px) "append" X.env (eval (.Name n px) X.env)=eval (.Name n px) X.env:=by rfl) (hline:(apos.endLine == cpos.line)=true:=by rfl) (hst:Dy e X.env:=by rfl) (hplain:(backTo cpos (starEach [] X.env)).any (·.1)=false:=by rfl) (hd:mU n:=by decide) (hcd:uG n:=by decide):Kq X C (.Expr (.Call (.Attribute (.Name n px) "append" apos) [e] [] cpos) pos) (dw i a):=⟨Yo hN hv he.u G.K hs hfew hbase hline hst hplain hd hcd⟩
def mZ  : SXP X C none pI:=⟨Ev.Ui ⟩
def Od{x y:Expr}{rest:List Expr}{a b:fU}(ha:Qk X C x a)(hb:SXW X C (.BoolOp .Or (y::rest) pos) b):SXW X C (.BoolOp .Or (x::y::rest) pos) (JW a b):=⟨(pw_or ha.u hb.u).imp λσ H Q hq=>by
  obtain⟨Pr,F,env,env',k,rl,e,q⟩:=hq;obtain⟨c,aL,e1,e2⟩:=bf e;refine⟨Pr,F,env,aL,c,rl,e1,λH1 F1 r1 s1=>?_⟩;split at e2
  ·rename_i hc;rw[if_pos hc];cases e2;exact q H1 F1 r1 s1
  ·rename_i hc;rw[if_neg hc];exact⟨Pr,F1,aL,env',k,r1,e2,λH2 F2 r2 s2=>q H2 F2 r2 (s1.trans s2)⟩⟩
def abr(G:Good X C)(hm:X.mg "all" = none)(ha:xY X C [e] ea)(hg:Gl X "all":=by rfl)(he:Dy e X.env:=by rfl):SX X C (.Call (.Name "all" p) [e] [] pos) (au Wg ea):=⟨nu (by rw[<-G.K];exact R3 G.calm) adX hg hm (by decide +kernel) ha.u (by decide) (by decide) he rfl⟩
def Ud{x:Expr}{a:fU}(h:Qk X C x a):SXW X C (.BoolOp .Or [x] pos) a:=⟨pw_or1 h.u⟩
def xx{X:Cx}{C:Cfg}{c:Expr}{t:fU}(h:Qk X C c t):aam X C [c] t:=⟨YD h.u⟩
def Vw{k k':Nat}{m:Nat}{ps:List Str}{g:List D->Option D}(O:Own X.prog X.w X.K X.mg X.base n k ps (spN X.K m g))(G:Good X C)(hr:ji k' X.A)(ha:Kv X C (e::es) ea)(hn:∀env ds env',ea env = .ok ds env'->ds.length=m)(hk:Nat.ble k k'=true:=by rfl)(hg:Gl X n:=by rfl)(hdb:mU n:=by decide)(he:starEach (e::es) X.env=(false,eval e X.env)::starEach es X.env:=by rfl)(hpl:(backTo pos (starEach es X.env)).any (·.1)=false:=by rfl):Xd X C (.Call (.Name n p) (e::es) [] pos) (au g ea):=⟨Ev.afG O G hr hk ha.u hn hg hdb he hpl⟩
def ni{x y:Expr}{rest:List Expr}{a b:fU}(ha:Qk X C x a)(hb:SXW X C (.BoolOp .And (y::rest) pos) b):SXW X C (.BoolOp .And (x::y::rest) pos) (eV a b):=⟨(pw_and ha.u hb.u).imp λσ H Q hq=>by
  obtain⟨Pr,F,env,env',k,rl,e,q⟩:=hq;obtain⟨c,aL,e1,e2⟩:=bf e;refine⟨Pr,F,env,aL,c,rl,e1,λH1 F1 r1 s1=>?_⟩;split at e2
  ·rename_i hc;rw[if_pos hc];exact⟨Pr,F1,aL,env',k,r1,e2,λH2 F2 r2 s2=>q H2 F2 r2 (s1.trans s2)⟩
  ·rename_i hc;rw[if_neg hc];cases e2;exact q H1 F1 r1 s1⟩
def nq{x:Str}{v:V}{u:Value}(d:D)(hg:Gl X x)(hm:X.mg x=some u)(rv:RelV v u)(hr:∀F,Rep C.K F d v)(hd:mU x:=by decide):SX X C (.Name x pos) (Ep d):=⟨(YK hg hm rv hd).imp λσ H Q h=>by
  obtain⟨Pr,F,env,env',d,r,e,q⟩:=h;cases e;exact q _ _ F r (aR.refl F) (hr F)⟩
def sS{o:Expr}{apos cpos:Pos}(G:Good X C)(ho:SX X C o a)(he:Ni X C e b)(hbase:attributeBase o "join" X.env (eval o X.env)=eval o X.env:=by rfl)(hs:Dy e X.env:=by rfl) (hfew:((backTo cpos (starEach [e] X.env)).all (λx=>!x.1)&&(backToKw cpos (keywordEach [] X.env)).all (λx=>x.1.isSome)
   && decide ([e].length+([]:List Keyword).length+(if ([]:List Keyword).isEmpty then 0 else 1)<30))=true:=by rfl) (hline:(apos.endLine == cpos.line)=true:=by rfl) (hplain:(backTo cpos (starEach [] X.env)).any (·.1)=false:=by rfl):SX X C (.Call (.Attribute o "join" apos) [e] [] cpos) (aO jN a b):=⟨Yu G.K ho.u he.u hbase hs hfew hline hplain⟩
def Sw{lo hi:Option Expr}{el eh:Xm}{p2:Pos}(G:Good X C)(ha:SX X C x a)(hl:SXP X C lo el)(hh:SXP X C hi eh):SX X C (.Subscript x (.Slice lo hi none p2) pos) (xR a el eh):=⟨afd G.K ha.u hl.u hh.u⟩
def pC{x:Expr}{a:fU}(h:Qk X C x a):SXW X C (.BoolOp .And [x] pos) a:=⟨pw_and1 h.u⟩
def KC(ha:SX X C x a):SX X C (.UnaryOp .USub x pos) (wg MN a):=⟨afc SJ abw ha.u⟩
def Sy{op:CmpOp}{g:D->D->Option D}(o:Cm X C op g)(ha:SX X C x a)(hb:Ni X C y b)(hm:behindInMarks op y=false:=by rfl):SX X C (.Compare x [op] [y] pos) (aO g a b):=⟨let ⟨_,h1,h2⟩:=o.ex;ab8 h1 h2 ha.u hb.u hm⟩
def Ul  : SXL X C [] ak:=⟨Ev.Yq ⟩
def Zc{es:List Expr}{a:dI}(h:SXL X C es a):Xd X C (.List es pos) (cz a):=⟨Ev.Oe h.u.go⟩
def zR(i:Nat)(G:Good X C)(hb:Ni X C y b)(hN:X.N[i]? = some n:=by rfl)(hv:tR X.env.scope n:=by first|exact Or.inl rfl|exact Or.inr (Or.inl rfl)|exact Or.inr (Or.inr rfl))(hs:Nk y:=by intro _ _;rfl)(hd:mU n:=by decide)(hcd:uG n:=by decide):SX X C (.Subscript (.Name n px) y pos) (aB jq i b):=⟨Us i G.u1 hN hv hb.u hs hd hcd⟩
def Fj{p2 p3 p4:Pos}{k:Nat}(ha:SX X C x a):SX X C (.Subscript x (.Slice none none (some (.UnaryOp .USub (.Constant (.int 1) k p4) p3)) p2) pos) (pH a):=⟨Ev.aex ha.u⟩
def abo{e2:Expr}(G:Good X C)(hm:X.mg "max" = none)(ha:xY X C [e,e2] ea)(hg:Gl X "max":=by rfl)(he:starEach [e,e2] X.env=(false,eval e X.env)::starEach [e2] X.env:=by rfl)(hpl:(backTo pos (starEach [e2] X.env)).any (·.1)=false:=by rfl):SX X C (.Call (.Name "max" p) [e,e2] [] pos) (au Ry ea):=⟨nu (RW G.calm) adV hg hm (by decide +kernel) ha.u (by decide) (by decide) he hpl⟩
def QX  : Xd X C (.Dict [] [] pos) GP:=⟨Ev.Uk ⟩
def abn{e2:Expr}(G:Good X C)(hm:X.mg "min" = none)(ha:xY X C [e,e2] ea)(hg:Gl X "min":=by rfl)(he:starEach [e,e2] X.env=(false,eval e X.env)::starEach [e2] X.env:=by rfl)(hpl:(backTo pos (starEach [e2] X.env)).any (·.1)=false:=by rfl):SX X C (.Call (.Name "min" p) [e,e2] [] pos) (au Rx ea):=⟨nu (RV G.calm) adU hg hm (by decide +kernel) ha.u (by decide) (by decide) he hpl⟩
def Dm(G:Good X C)(hm:X.mg "sorted" = none)(ha:xY X C [e] ea)(hg:Gl X "sorted":=by rfl)(he:Dy e X.env:=by rfl):SX X C (.Call (.Name "sorted" p) [e] [] pos) (au jd ea):=⟨QZ G.K G.calm hg hm ha.u he rfl⟩
def Uq{x y:Expr}{rest:List Expr}{a b:Ev}(ha:SX X C x a)(hb:SX X C (.BoolOp .Or (y::rest) pos) b):SX X C (.BoolOp .Or (x::y::rest) pos) (GD a b):=⟨(afm ha.u hb.u).imp λσ H Q hq=>by
  obtain⟨Pr,F,env,env',k,rl,e,q⟩:=hq;obtain⟨c,aL,e1,e2⟩:=bf e;refine⟨Pr,F,env,aL,c,rl,e1,λv H1 F1 r1 s1 p1=>?_⟩;cases c with
  | bl z=>
   refine⟨z,p1,?_⟩;cases z with
   | true=>cases e2;exact ahC (q _ H1 F1 r1 s1 rfl)
   | false=>exact ahD ⟨Pr,F1,aL,env',k,r1,e2,λv2 H2 F2 r2 s2 p2=>q v2 H2 F2 r2 (s1.trans s2) p2⟩
  | _=>cases e2⟩
def Zz{tg e2 e3:Expr}(hm:X.mg "range" = none)(ha:Kv X C [e,e2,e3] ea)(hl:∀env ds env',ea env = .ok ds env'->ds.length=3)(hg:Gl X "range":=by rfl)(hs:starEach [e,e2,e3] X.env=[(false,eval e X.env),(false,eval e2 X.env),(false,eval e3 X.env)]:=by rfl)(hs2:starEach [e2,e3] X.env=[(false,eval e2 X.env),(false,eval e3 X.env)]:=by rfl):Xp X C tg (.Call (.Name "range" p) [e,e2,e3] [] pos) (iV ea):=⟨Mh hg hm ha.u hl hs hs2⟩
def Xv(G:Good X C)(hm:X.mg "list" = none)(ha:xY X C [e] ea)(hg:Gl X "list":=by rfl)(he:Dy e X.env:=by rfl):SX X C (.Call (.Name "list" p) [e] [] pos) (au El ea):=⟨xA (T:="list") (r:=T5 C.K) (by rw[<-G.K];exact M8 G.calm) Z9 hg hm (by decide +kernel) ha.u (by decide) (by decide) he rfl⟩
def N6{elt tg iter:Expr}{ifs:List Expr}{scope:Scope}(N':List Str){spos py:Pos}{it:dI}{g:GV}{cc:fU}{ee:Ev}(lo:Nat)(i:Nat)(ok:nM X scope N')(G:Good X C)(hi:Xp X C tg iter it)(bg:∀X',kj X scope N' X'->SXG X' C lo tg g)(bc:∀X',kj X scope N' X'->aam X' C ifs cc)(be:∀X',kj X scope N' X'->SX X' C elt ee)(hnd:nC X.N=true:=by rfl)(hfx:C.fx i=none:=by rfl)(hy:X.N[i]? = some n:=by rfl)(hx:Loc X.env.scope n:=by first|exact Or.inl rfl|exact Or.inr rfl)(hsw:swapsWith (.ListComp elt [⟨tg,iter,ifs,0⟩] scope pos) (some (.Name n py)) spos.line X.env=pure true:=by rfl)(hf:X.fn n=true\/X.env.scope.names.lookup n=some .local:=by first|exact .inl rfl|exact .inr rfl)(hs:∀x,foldedSetIterable iter X.env x=pure x:=by intro _;rfl):Kq X C (.Assign [.Name n py] (.ListComp elt [⟨tg,iter,ifs,0⟩] scope pos) spos) (cP i (d9 lo N'.length it g cc ee)):=⟨Ev.ahn N' lo i ok G hi.u (λX1 h1=>(bg X1 h1).u) (λX1 h1=>(bc X1 h1).u) (λX1 h1=>(be X1 h1).u) hnd hfx hy hx hsw hf hs⟩
def Qn{e2:Expr}(G:Good X C)(hm:X.mg "divmod" = none)(ha:xY X C [e,e2] ea)(hg:Gl X "divmod":=by rfl)(he:starEach [e,e2] X.env=(false,eval e X.env)::starEach [e2] X.env:=by rfl)(hpl:(backTo pos (starEach [e2] X.env)).any (·.1)=false:=by rfl):SX X C (.Call (.Name "divmod" p) [e,e2] [] pos) (au tu ea):=⟨nu Ka RQ hg hm (by decide +kernel) ha.u (by decide) (by decide) he hpl⟩
def Iv{e:Expr}{a:Ev}(h:Xd X C e a):Kq X C (.Return (some e) pos) (z9 a):=⟨(UJ h.u).imp λD σ H hq=>by
 obtain⟨Pr,F,env,r,f⟩:=hq;obtain⟨d,aL,e1,f1⟩:=dF f;exact⟨Pr,F,env,aL,d,r,e1,λv H1 F1 r1 s1 p1=>f1 v σ H1 F1 r1 s1 p1⟩⟩
def af8{lo:Nat}{ix:Expr}{ev:Ev}(i:Nat)(h:SX X C ix ev)(hN:X.N[i]? = some n:=by rfl)(hv:tR X.env.scope n:=by first|exact Or.inl rfl|exact Or.inr (Or.inl rfl)|exact Or.inr (Or.inr rfl)) (ha:∀v,assign (.Subscript (.Name n px) ix pos) X.env v=(do
   let ov <-holding [v] (eval (.Name n px) X.env)
   let iv <-holding [v,ov] (eval ix X.env)
   standAt pos
   holding [v,ov,iv] (setItem ov iv v)
   release [v,ov,iv] []):=by intro _;rfl) (hd:mU n:=by decide) (hcd:uG n:=by decide):SXG X C lo (.Subscript (.Name n px) ix pos) (ZL i ev):=⟨ab0 hN hv h.u ha hd hcd⟩
def Nt{p:Pos}{e:Expr}{ea:dI}(G:Good X C)(hm:X.mg "dict" = none)(ha:xY X C [e] ea)(hg:Gl X "dict":=by rfl)(he:Dy e X.env:=by rfl):SX X C (.Call (.Name "dict" p) [e] [] pos) (au tX ea):=⟨xA (T:="dict") (r:=T9 C.K) (by rw[<-G.K];exact R0 G.calm) aab hg hm (by decide +kernel) ha.u (by decide) (by decide) he rfl⟩
def N7{k:Expr}{ek:Ev}{pos':Pos}(i:Nat)(G:Good X C)(hk:SX X C k ek)(he:SX X C e a)(hN:X.N[i]? = some n:=by rfl)(hv:tR X.env.scope n:=by first|exact Or.inl rfl|exact Or.inr (Or.inl rfl)|exact Or.inr (Or.inr rfl))(hs:swapsWith e (some (.Subscript (.Name n px) k pos')) pos.line X.env=pure false:=by rfl)(hd:mU n:=by decide)(hcd:uG n:=by decide):Kq X C (.Assign [.Subscript (.Name n px) k pos'] e pos) (oV i ek a):=⟨Uh G.u1 hN hv hk.u he.u hs hd hcd⟩
def Xy(G:Good X C)(ha:SX X C x a)(hb:SX X C y b)(hc:SX X C z c)(m:M2 X x "get" apos y z pos:=by exact⟨by rfl,by rfl,by rfl,by rfl⟩):SX X C (.Call (.Attribute x "get" apos) [y,z] [] pos) (Bu a b c):=⟨Ev.abp G ha.u hb.u hc.u m⟩
def ZC{elts:List Expr}{k:Nat}{tp p:Pos}{ea:dI}(hm:X.mg "enumerate" = none)(ha:Kv X C [e] ea)(hg:Gl X "enumerate":=by rfl)(hs:starEach [e] X.env=[(false,eval e X.env)]:=by rfl):Xp X C (.Tuple elts k tp) (.Call (.Name "enumerate" p) [e] [] pos) (MT ea):=⟨(YG hg hm ha.u hs).imp λσ H R hq=>by
  obtain⟨Pr,F,env,env',ds,r,e,q⟩:=hq;obtain⟨as,aL,e1,e2⟩:=bf e;refine⟨Pr,F,env,aL,as,r,e1,λvs H1 F1 r1 s1 p1=>?_⟩;split at e2
  ·rename_i x;cases e2;obtain⟨v,w,rfl,⟨rfl,hz⟩,p2⟩:=p1;cases p2;refine⟨strOf x,rfl,q _ H1 F1 r1 s1 λi H2 s2=>⟨λ_ ei=>?_,λd hd=>?_⟩⟩
   ·show i=x.toArray.size;rw[ei];simp[wu]
   ·unfold wu at hd;rw[Qwv] at hd;obtain⟨⟨c,j⟩,hc,rfl⟩:=Qq6.mp hd;rw[List.getElem?_zipIdx] at hc;obtain⟨c',hc',h2⟩:=Qq6.mp hc;cases h2;refine⟨?_,λy H3 hy=>.inr ?_⟩
    ·show i<x.toArray.size;have:=(Qq4.mp hc').1
     simpa using this
    ·obtain⟨p,c2,h3,h4,rfl,rfl⟩:=hy;have h5:x[i]? = some c2:=by simpa[strOf] using h3
     rw[hc'] at h5;cases h5;exact⟨p,_,_,h4,rfl,rfl,rfl,by show 2<=sizeLine;decide,_,_,rfl,by simp[Rep],_,_,rfl,⟨rfl,by show 1<=sizeLine;decide⟩,rfl⟩
  ·cases e2⟩
def Fi{lo hi:Option Expr}{el eh:Xm}{p2:Pos}(G:Good X C)(ha:SX X C x a)(hl:SXP X C lo el)(hh:SXP X C hi eh):SX X C (.Subscript x (.Slice lo hi none p2) pos) (tZ a el eh):=⟨Ev.aew G ha.u hl.u hh.u⟩
def V7{elts:List Expr}{k:Nat}{tp p:Pos}{ea:dI}(G:Good X C)(hm:X.mg "zip" = none)(ha:Kv X C [e,e2] ea)(hg:Gl X "zip":=by rfl)(hs:starEach [e,e2] X.env=(false,eval e X.env)::starEach [e2] X.env:=by rfl)(hs2:starEach [e2] X.env=[(false,eval e2 X.env)]:=by rfl):Xp X C (.Tuple elts k tp) (.Call (.Name "zip" p) [e,e2] [] pos) (yr ea):=⟨Ev.afX G hm ha.u hg hs hs2⟩
def abS{e:Expr}{a:Ev}{px apos cpos:Pos}(i:Nat)(G:Good X C)(he:SX X C e a)(hN:X.N[i]? = some n:=by rfl)(hv:tR X.env.scope n:=by first|exact Or.inl rfl|exact Or.inr (Or.inl rfl)|exact Or.inr (Or.inr rfl))(hs:swapsWith (.Call (.Attribute (.Name n px) "extend" apos) [e] [] cpos) none pos.line X.env=pure false:=by rfl) (hfew:((backTo cpos (starEach [e] X.env)).all (λx=>!x.1)&&(backToKw cpos (keywordEach [] X.env)).all (λx=>x.1.isSome)
   && decide (([e]:List Expr).length+([]:List Keyword).length+(if ([]:List Keyword).isEmpty then 0 else 1)<30))=true:=by rfl) (hbase:attributeBase (.Name n px) "extend" X.env (eval (.Name n px) X.env)=eval (.Name n px) X.env:=by rfl) (hline:(apos.endLine == cpos.line)=true:=by rfl) (hst:Dy e X.env:=by rfl) (hplain:(backTo cpos (starEach [] X.env)).any (·.1)=false:=by rfl) (hd:mU n:=by decide) (hcd:uG n:=by decide):Kq X C (.Expr (.Call (.Attribute (.Name n px) "extend" apos) [e] [] cpos) pos) (Du i a):=⟨Ev.aeN i G he.u hN hv hs hfew hbase hline hst hplain hd hcd⟩
def Ur{c x y:Expr}{t:fU}{a b:Ev}(hc:Qk X C c t)(ha:SX X C x a)(hb:SX X C y b):SX X C (.IfExp c x y pos) (Wn t a b):=⟨(U7 hc.u ha.u hb.u).imp λσ H Q hq=>by
 obtain⟨Pr,F,env,env',k,rl,e,q⟩:=hq;obtain⟨z,aL,e1,e2⟩:=bf e;refine⟨Pr,F,env,aL,z,rl,e1,λH1 F1 r1 s1=>?_⟩;split at e2
 ·rename_i hz;rw[if_pos hz];exact⟨Pr,F1,aL,env',k,r1,e2,λv2 H2 F2 r2 s2 p2=>q v2 H2 F2 r2 (s1.trans s2) p2⟩
 ·rename_i hz;rw[if_neg hz];exact⟨Pr,F1,aL,env',k,r1,e2,λv2 H2 F2 r2 s2 p2=>q v2 H2 F2 r2 (s1.trans s2) p2⟩⟩
def Qm{o:Expr}{apos cpos:Pos}(G:Good X C)(ho:SX X C o a)(he:Ni X C e b)(hbase:attributeBase o "index" X.env (eval o X.env)=eval o X.env:=by rfl)(hs:Dy e X.env:=by rfl) (hfew:((backTo cpos (starEach [e] X.env)).all (λx=>!x.1)&&(backToKw cpos (keywordEach [] X.env)).all (λx=>x.1.isSome)
   && decide ([e].length+([]:List Keyword).length+(if ([]:List Keyword).isEmpty then 0 else 1)<30))=true:=by rfl) (hline:(apos.endLine == cpos.line)=true:=by rfl) (hplain:(backTo cpos (starEach [] X.env)).any (·.1)=false:=by rfl):SX X C (.Call (.Attribute o "index" apos) [e] [] cpos) (aO sZ a b):=⟨Ev.Sv G ho.u he.u hbase hs hfew hline hplain⟩
def qX{cd:Expr}{body:List Stmt}{bs:cu}(m:Nat)(G:Good X C)(hc:Qk X C cd t)(hb:eQ X C body bs)(hp:PassesOwn (model X.prog X.w) X.A X.env X.xe:=by exact PassesOwn.never):Kq X C (.While cd body [] pos) (fK t bs m):=⟨QS m hp hc.u hb.u⟩
def Er(xs:List D):List D:=xs.zipIdx.map λp=>.tup [.int (p.2:Nat),p.1]
end
end Ev
namespace L2
open PySem PySem.Spec PyProof.Rows PySem.Builtin ZT
def abk(K:PySem.W.Frag)(a1 a2:Addr):It:=
 ⟨λi H=>∃xs ys x y,ju K H a1 xs/\ju K H a2 ys/\xs[i]? = some x/\ys[i]? = some y,
 λi H v H'=>∃p x y,(∀xs,ju K H a1 xs->xs[i]? = some x)/\(∀ys,ju K H a2 ys->ys[i]? = some y)/\H p=none/\H'=upd H p (.tup [x,y])/\v = .ref p,
 λi H=>∃xs ys,ju K H a1 xs/\ju K H a2 ys/\(i=xs.length\/(i<xs.length/\i=ys.length))⟩
theorem K5{P:Program}{w:World}{K:PySem.W.Frag}{elts:List Expr}{kk:Nat}{pos:Pos}(z TI TO j1 j2 a1 a2:Addr)(D:Apz z TI TO j1 j2 a1 a2) :
  Turn P w K (.Tuple elts kk pos) (abk K a1 a2) [z,TI,TO,j1,j2] z (λi h=>IsZip h z TI TO .none/\IsPair h TI (.ref j1) (.ref j2)/\(∃a b,IsPair h TO a b)/\h.IsListIter j1 a1 i/\h.IsListIter j2 a2 i) where
 mem:=by simp
 obj:=λi h st b hb=>by
  obtain⟨hz,hTI,⟨a,c,hTO⟩,⟨o1,e1,_,d1⟩,o2,e2,_,d2⟩:=st;simp only[Qq1,Qwk,Qx6] at hb;rcases hb with rfl|rfl|rfl|rfl|rfl
  ·exact⟨_,hz,λv q=>by cases q⟩
  ·exact⟨_,hTI,λv q=>by cases q⟩
  ·exact⟨_,hTO,λv q=>by cases q⟩
  ·exact⟨o1,e1,λv q=>by rw[d1] at q;cases q⟩
  ·exact⟨o2,e2,λv q=>by rw[d2] at q;cases q⟩
 keep:=λi h h' st k=>by
  obtain⟨hz,hTI,⟨a,c,hTO⟩,⟨o1,e1,r1⟩,o2,e2,r2⟩:=st;exact⟨k z (by simp) _ hz,k TI (by simp) _ hTI,⟨a,c,k TO (by simp) _ hTO⟩,⟨o1,k j1 (by simp) _ e1,r1⟩,o2,k j2 (by simp) _ e2,r2⟩
 item:=by
  intro X hP hw hK hc i pins s σ H E I hf st hg;subst hP hw hK;obtain⟨hz,hTI,⟨a,b,hTO⟩,i1,i2⟩:=st;obtain⟨xs,ys,x,y,hx,hy,gx,gy⟩:=hg;obtain⟨us,ru,pu,zu⟩:=I.list hx;obtain⟨vs,rv,pv,zv⟩:=I.list hy;obtain⟨u,hu,rxu⟩:=ru.get gx;obtain⟨v,hv,ryv⟩:=rv.get gy;have lu:i<us.toArray.size:=by rw[Qq5];exact(Qq4.mp hu).1
  have lv:i<vs.toArray.size:=by rw[Qq5];exact(Qq4.mp hv).1
  have D1:Draws X.prog X.w X.A.in1 j1 [j1,a1] _ _ _:=Draws.list (A:=X.A.in1) (show X.A.in1.handled=none from I.ok.hd hc) j1 a1 D.c1 us.toArray;have D2:Draws X.prog X.w X.A.in1 j2 [j2,a2] _ _ _:=Draws.list (A:=X.A.in1) (show X.A.in1.handled=none from I.ok.hd hc) j2 a2 D.c2 vs.toArray;refine qw (A:=X.A) D.ap D1 D2 lu lv hz hTI hTO ⟨i1,pu.isList⟩ ⟨i2,pv.isList⟩ λx' y' g tk px py hz' adv s1 s2 hT hsz hk=>?_;have ex:x'=u:=by have:us.toArray[i]? = some x':=px;rw[Qj1,hu] at this;exact(Qw2 this).symm
  have ey:y'=v:=by have:vs.toArray[i]? = some y':=py;rw[Qj1,hv] at this;exact(Qw2 this).symm
  subst ex ey;refine⟨_,rfl,?_⟩;refine wpAny_letOwnedTupleGo_zip (s:={ s with heap:=g,toks:=tk }) hz' λg' hz'' e'=>?_;have jo:∀b o,b≠z->g.get? b=some o->g'.get? b=some o:=λb o hb q=>(e'.2 b hb).trans q;have lts:∀b ∈ [z,TI,TO,j1,j2],b<s.heap.objs.size:=λb hb=>by
   simp only[Qq1,Qwk,Qx6] at hb;rcases hb with rfl|rfl|rfl|rfl|rfl
   ·exact Qwz hz
   ·exact Qwz hTI
   ·exact Qwz hTO
   ·obtain⟨_,q,_⟩:=i1;exact Qwz q
   ·obtain⟨_,q,_⟩:=i2;exact Qwz q
  have nT:H s.heap.objs.size=none:=I.hok.fresh (Qq0 _);refine⟨.ref s.heap.objs.size,upd H s.heap.objs.size (.tup [x,y]),I.drawn (t':=tk) (ch:=[z,TI,TO,j1,j2]) hf (λb o hb q=>?_) (Qq0 _) ?_,rfl,⟨_,x,y,λzs hq=>by rw[I.vL hq hx];exact gx,λzs hq=>by rw[I.vL hq hy];exact gy,nT,rfl,rfl⟩,⟨hz'',?_,⟨_,_,jo TO _ D.t2 adv⟩,?_,?_⟩,λb hb=>?_⟩
  ·have n1:b≠z:=λq=>hb (by simp[q]);exact jo b o n1 (hk b o n1 (λq=>hb (by simp[q])) (λq=>hb (by simp[q])) (λq=>hb (by simp[q])) q)
  ·exact⟨by show 2<=sizeLine;decide,[x',y'],.cons rxu (.cons ryv .nil),_,jo _ _ (Qz0 (lts z (by simp))) hT,rfl,⟨_,rfl⟩,rfl⟩
  ·exact jo TI _ D.t1 (hk TI _ D.t1 D.t3 (λq=>D.b5 (by simp[q])) (λq=>D.b6 (by simp[q])) hTI)
  ·obtain⟨o,q,r⟩:=s1.1;exact⟨o,jo j1 o (λq=>D.b1 (by simp[q])) q,r⟩
  ·obtain⟨o,q,r⟩:=s2.1;exact⟨o,jo j2 o (λq=>D.b2 (by simp[q])) q,r⟩
  ·rw[bL (Qw9 (lts b hb))];exact(hf b hb).1
 done:=by intro X hP hw hK hc i pins s σ H E I hf st hg;subst hP hw hK;obtain⟨hz,hTI,⟨a,b,hTO⟩,i1,i2⟩:=st;obtain⟨xs,ys,hx,hy,hi⟩:=hg;obtain⟨us,ru,pu,zu⟩:=I.list hx;obtain⟨vs,rv,pv,zv⟩:=I.list hy;have l1:=ru.length;have l2:=rv.length;have D1:Draws X.prog X.w X.A.in1 j1 [j1,a1] _ _ _:=Draws.list (A:=X.A.in1) (show X.A.in1.handled=none from I.ok.hd hc) j1 a1 D.c1 us.toArray;have D2:Draws X.prog X.w X.A.in1 j2 [j2,a2] _ _ _:=Draws.list (A:=X.A.in1) (show X.A.in1.handled=none from I.ok.hd hc) j2 a2 D.c2 vs.toArray;refine rE (A:=X.A) (k:=i) D.ap D1 D2 (by rw[Qq5,Qq5];omega) hz hTI hTO ⟨i1,pu.isList⟩ ⟨i2,pv.isList⟩ λg tk hk=>⟨rfl,I.zf (t':=tk) (ch:=[z,TI,TO,j1,j2]) hf λb o hb e=>?_⟩;exact hk b o (λq=>hb (by simp[q])) (λq=>hb (by simp[q])) (λq=>hb (by simp[q])) (λq=>hb (by simp[q])) e
 self:=λA i s Q E st h=>wpAny_pyIter_zip st.1 h
end L2
namespace ZT
open PySem PySem.Spec PyProof.Rows L2 PySem.Builtin
abbrev ZK(h:Heap)(l1:Addr):Heap:=h.push { cls:=.type "list_iterator",data:=.fields #[.ref l1,.int 0 0] }
abbrev ZJ(h:Heap)(l1 l2:Addr):Heap:=(ZK h l1).push { cls:=.type "list_iterator",data:=.fields #[.ref l2,.int 0 0] }
abbrev ZG(h:Heap)(l1 l2:Addr):Heap:=(ZJ h l1 l2).push { cls:=.type "tuple",data:=.seq #[.ref h.objs.size,.ref (ZK h l1).objs.size] }
abbrev ZF(h:Heap)(l1 l2:Addr):Heap:=(ZG h l1 l2).push { cls:=.type "tuple",data:=.seq #[.none,.none] }
abbrev MF(h:Heap)(l1 l2:Addr):Heap:=(ZF h l1 l2).push { cls:=.type "zip",data:=.fields #[.none,.bool false,.bool false,.ref (ZJ h l1 l2).objs.size,.ref (ZG h l1 l2).objs.size] }
def acY(l1 l2:Addr)(xs ys:Array Value):Meets (Builtin.«zip.__new__» ⟨[.type "zip",.ref l1,.ref l2],[]⟩) (λ_ R s=>s.heap.IsList l1 xs/\s.heap.IsList l2 ys/\
   R (.ok (.ret (.ref (ZF s.heap l1 l2).objs.size))) { s with heap:=MF s.heap l1 l2 }):=
 .of_wp λprog w A R s h=>by
  obtain⟨hp,g,d,tk,os⟩:=s;obtain⟨hl1,hl2,h⟩:=h;have hsub:=sub_zip;have hL1:Heap.IsList (Shared.heap ⟨hp,g,d,tk,os⟩) l1 xs:=hl1;have hL2:Heap.IsList (Shared.heap ⟨hp.push { cls:=.type "list_iterator",data:=.fields #[.ref l1,.int 0 0] },g,d,tk,os⟩) l2 ys:=Heap.IsList.push hl2 _
  wp_walk using wpAny_pyIter_list hL1,wpAny_pyIter_list hL2
  exact⟨_,rfl,h⟩
section
variable{prog:Program}{w:World}{A:Around}{E:Value->Shared->Prop}{s:Shared}
def WQ{l1 l2:Addr}{xs ys:Array Value}{Q:Value->Shared->Prop}(hl1:s.heap.IsList l1 xs)(hl2:s.heap.IsList l2 ys)
  (h:∀g,IsZip g (s.heap.objs.size+4) (s.heap.objs.size+2) (s.heap.objs.size+3) .none->IsPair g (s.heap.objs.size+2) (.ref s.heap.objs.size) (.ref (s.heap.objs.size+1))->
   IsPair g (s.heap.objs.size+3) .none .none->g.IsListIter s.heap.objs.size l1 0->g.IsListIter (s.heap.objs.size+1) l2 0->g.objs.size=s.heap.objs.size+5->
   (∀c o,s.heap.get? c=some o->g.get? c=some o)->Q (.ref (s.heap.objs.size+4)) { s with heap:=g }) :
  wpAny (model prog w) A (call (.type "zip") [.ref l1,.ref l2]) Q E s:=by
 refine callType_new F.called_zip (by decide) (F.typeCall_zip_2 _ _) (F.newCall_zip_2 _ _) (λobj=>F.args_object_init_3 obj _ _) F.entry_zip_new (acY l1 l2 xs ys) ⟨hl1,hl2,?_⟩;have z1:(ZK s.heap l1).objs.size=s.heap.objs.size+1:=Qx3 ..;have z2:(ZJ s.heap l1 l2).objs.size=s.heap.objs.size+2:=by rw[Qx3,z1]
 have z3:(ZG s.heap l1 l2).objs.size=s.heap.objs.size+3:=by rw[Qx3,z2]
 have z4:(ZF s.heap l1 l2).objs.size=s.heap.objs.size+4:=by rw[Qx3,z3]
 have z5:(MF s.heap l1 l2).objs.size=s.heap.objs.size+5:=by rw[Qx3,z4]
 have g5:(MF s.heap l1 l2).get? (ZF s.heap l1 l2).objs.size=some _:=Qwj _ rfl;have g4:(MF s.heap l1 l2).get? (ZG s.heap l1 l2).objs.size=some _:=Qqz _ (Qwj _ rfl);have g3:(MF s.heap l1 l2).get? (ZJ s.heap l1 l2).objs.size=some _:=Qqz _ (Qqz _ (Qwj _ rfl));have g2:(MF s.heap l1 l2).get? (ZK s.heap l1).objs.size=some _:=Qqz _ (Qqz _ (Qqz _ (Qwj _ rfl)));have g1:(MF s.heap l1 l2).get? s.heap.objs.size=some _:=Qqz _ (Qqz _ (Qqz _ (Qqz _ (Qwj _ rfl))));show _/\_;rw[z2,z3,z4] at g5;rw[z1,z2] at g3;rw[z3] at g4;rw[z1] at g2;rw[z4];exact⟨⟨_,g5,rfl⟩,h _ g5 g3 g4 ⟨_,g1,rfl,rfl⟩ ⟨_,g2,rfl,rfl⟩ z5 λc o x=>Qqz _ (Qqz _ (Qqz _ (Qqz _ (Qqz _ x))))⟩
end
end ZT
namespace L2
open PySem PySem.Spec PyProof.Rows PySem.Builtin ZT
section
variable{X:Cx}
def adn(K:PySem.W.Frag)(ta:TA):TI:=λσ H R=>ta σ H λvs H1=>∃a1 a2,vs=[.ref a1,.ref a2]/\(∃xs,ju K H1 a1 xs)/\(∃ys,ju K H1 a2 ys)/\R (abk K a1 a2) H1
def Q4{elts:List Expr}{k:Nat}{tp:Pos}{a b:Expr}{ta:TA}{p pos:Pos}(hg:Gl X "zip")(hm:X.mg "zip" = none)(ha:PA X [a,b] ta)(hs:starEach [a,b] X.env=(false,eval a X.env)::starEach [b] X.env:=by rfl)(hs2:starEach [b] X.env=[(false,eval b X.env)]:=by rfl):PI X (.Tuple elts k tp) (.Call (.Name "zip" p) [a,b] [] pos) (adn X.K ta):=by
 intro pins s σ H R I h;refine Call_ (rO I hg hm PyProof.Rows.boot_zip (Qx8 (fL (ha pos pins s σ H _ I h) λus s1 ⟨vs,H1,I1,r1,q1⟩=>?_) hs (by rw[hs2];rfl)));obtain⟨a1,a2,e,⟨xs,hx⟩,⟨ys,hy⟩,q⟩:=q1;subst e;cases r1 with
 | cons r rr=>
  cases rr with
  | cons r' rr'=>
   cases rr';cases r;cases r';obtain⟨u1,ru1,p1,z1⟩:=I1.list hx;obtain⟨u2,ru2,p2,z2⟩:=I1.list hy;have Vy:a1<s1.heap.objs.size:=by obtain⟨_,e,_⟩:=p1.isList;exact Qwz e
   have OJ:a2<s1.heap.objs.size:=by obtain⟨_,e,_⟩:=p2.isList;exact Qwz e
   refine WQ p1.isList p2.isList λg hz hTI hTO i1 i2 hsz hk=>?_;refine wpAny_pyIter_zip hz ?_;have I2:Inv X pins σ H1 { s1 with heap:=g }:=I1.kept (t':=s1.toks) hk;have own:∀b,s1.heap.objs.size<=b->sO X pins H1 b:=λb hb=>I1.Gy hb (I1.hok.fresh hb);generalize hn:s1.heap.objs.size=n at *;have ne:∀{c d:Nat},c<d->(c:Addr)≠d:=λh e=>Qzw _ (by subst e;exact h);have ne':∀{c d:Nat},d<c->(c:Addr)≠d:=λh e=>Qzw _ (by subst e;exact h);have D:Apz (n+4) (n+2) (n+3) n (n+1) a1 a2:={
    t1:=ne (by omega),t2:=ne (by omega),t3:=ne (by omega),t4:=ne (by omega)
    b1:=by simp only[Qq1,Qwk,Qx6,not_or];exact⟨ne' (by omega),ne' (Qwx Vy (by omega))⟩
    b2:=by simp only[Qq1,Qwk,Qx6,not_or];exact⟨ne' (by omega),ne' (Qwx OJ (by omega))⟩
    b3:=by simp only[Qq1,Qwk,Qx6,not_or];exact⟨ne' (by omega),ne' (Qwx Vy (by omega))⟩
    b4:=by simp only[Qq1,Qwk,Qx6,not_or];exact⟨ne' (by omega),ne' (Qwx OJ (by omega))⟩
    b5:=by simp only[Qq1,Qwk,Qx6,not_or];exact⟨ne' (by omega),ne' (Qwx Vy (by omega))⟩
    b6:=by simp only[Qq1,Qwk,Qx6,not_or];exact⟨ne' (by omega),ne' (Qwx OJ (by omega))⟩
    b7:=by simp only[Qq1,Qwk,Qx6,not_or];exact⟨ne' (by omega),ne' (Qwx Vy (by omega))⟩
    b8:=by simp only[Qq1,Qwk,Qx6,not_or];exact⟨ne (by omega),ne' OJ⟩
    c1:=ne Vy,c2:=ne (Qwx OJ (by omega)) }
   refine⟨n+4,[n+4,n+2,n+3,n,n+1],_,_,H1,rfl,I2,K5 _ _ _ _ _ a1 a2 D,⟨hz,hTI,⟨_,_,hTO⟩,i1,i2⟩,λb hb=>own b ?_,q⟩;simp only[Qq1,Qwk,Qx6] at hb;rcases hb with rfl|rfl|rfl|rfl|rfl
   ·exact Qj2 _ _
   ·exact Qj2 _ _
   ·exact Qj2 _ _
   ·exact Qq0 _
   ·exact Qj2 _ _
end
end L2
namespace Ev
open PySem PySem.Spec PyProof.Rows L2 PySem.Builtin
section
variable{X:Cx}{C:Cfg}{pos:Pos}{e e2:Expr}
def vZ(a:dI):dI:=λenv=>bindR (a env) λds aL=>match ds with
 | [.lst x,.lst y]=>.ok (oU x y) aL
 | _=>.stuck
def Zy{elts:List Expr}{k:Nat}{tp p:Pos}{ea:dI}(G:Good X C)(hm:X.mg "zip" = none)(ha:Kr X C [e,e2] ea)(hg:Gl X "zip":=by rfl)(hs:starEach [e,e2] X.env=(false,eval e X.env)::starEach [e2] X.env:=by rfl)(hs2:starEach [e2] X.env=[(false,eval e2 X.env)]:=by rfl):Sg X C (.Tuple elts k tp) (.Call (.Name "zip" p) [e,e2] [] pos) (vZ ea):=by
 have h:=Q4 (elts:=elts) (k:=k) (tp:=tp) (p:=p) (pos:=pos) hg hm ha hs hs2;rw[G.K] at h;refine h.imp λσ H R hq=>?_;obtain⟨Pr,F,env,env',ds,r,e,q⟩:=hq;obtain⟨as,aL,e1,e2⟩:=bf e;refine⟨Pr,F,env,aL,as,r,e1,λvs H1 F1 r1 s1 p1=>?_⟩;split at e2
 ·rename_i xs ys;cases e2;obtain⟨v,w,rfl,p2,v2,w2,rfl,p3,p4⟩:=p1;cases p4;obtain⟨z1,a1,us,rfl,h1,h2⟩:=p2;obtain⟨z2,a2,ws,rfl,h3,h4⟩:=p3;have l1:=h2.length;have l2:=h4.length;refine⟨a1,a2,rfl,⟨us,ju.of (r1.fr _ _ h1)⟩,⟨ws,ju.of (r1.fr _ _ h3)⟩,q _ H1 F1 r1 s1 λi H2 s2=>⟨λ_ ei=>⟨us,ws,ju.of (s2 _ _ h1),ju.of (s2 _ _ h3),?_⟩,λd hd=>?_⟩⟩
  ·have:(oU xs ys).length=min xs.length ys.length:=by unfold oU;rw[Qqx,List.length_zip]
   omega
  ·unfold oU at hd;rw[Qwv] at hd;obtain⟨⟨c,j⟩,hc,rfl⟩:=Qq6.mp hd;obtain⟨g1,g2⟩:=List.getElem?_zip_eq_some.mp hc;obtain⟨v1,k1,k2⟩:=vz h2 g1;obtain⟨v2,k3,k4⟩:=vz h4 g2;refine⟨⟨us,ws,v1,v2,ju.of (s2 _ _ h1),ju.of (s2 _ _ h3),k1,k3⟩,λy H3 hy=>.inr ?_⟩;obtain⟨p,x',y',m1,m2,m3,rfl,rfl⟩:=hy;have n1:=m1 us (ju.of (s2 _ _ h1));have n2:=m2 ws (ju.of (s2 _ _ h3));rw[k1] at n1;rw[k3] at n2;cases n1;cases n2;exact⟨p,_,_,m3,rfl,rfl,rfl,by show 2<=sizeLine;decide,_,_,rfl,k2,_,_,rfl,k4,rfl⟩
 ·cases e2
def JD{elts:List Expr}{k:Nat}{tp p:Pos}{ea:dI}(G:Good X C)(hm:X.mg "zip" = none)(ha:Kv X C [e,e2] ea)(hg:Gl X "zip":=by rfl)(hs:starEach [e,e2] X.env=(false,eval e X.env)::starEach [e2] X.env:=by rfl)(hs2:starEach [e2] X.env=[(false,eval e2 X.env)]:=by rfl):Xp X C (.Tuple elts k tp) (.Call (.Name "zip" p) [e,e2] [] pos) (vZ ea):=⟨Ev.Zy G hm ha.u hg hs hs2⟩
end
open PySem L2
theorem JZ(n:Nat):∀a b:List (List Nat),wk (bA (n+1)) (a.map .str) (b.map .str)=some (a == b)
 | [],[]=>rfl
 | [],_::_=>rfl
 | _::_,[]=>rfl
 | x::a,y::b=>by
  rw[Qq8,Qq8];unfold wk;rw[JZ n a b]
  rfl
def Wf(a b:List (List Nat)):qz (.lst (a.map .str)) (.lst (b.map .str))=some (.bl (a == b)):=by
 unfold qz;have:bA 60 (.lst (a.map .str)) (.lst (b.map .str))=wk (bA 59) (a.map .str) (b.map .str):=rfl;rw[this,JZ]
 rfl
open PySem PySem.Spec PySem.W PySem.Calls PyProof.Rows L2
def FA(K:Fg)(x:Str)(st:Stmt):Prop:=∃(f:Addr) (oc kV doc pm cdv ct:Value) (od an:Option Addr) (osl:Array (Option Value)),PySem.W.nsIn K mainGlobals x=some (some (.ref f))/\
 K.lookup f=some ⟨oc,od,.func (PySem.W.fnOf x x (j9 st) (fJ st) (aN st) .none kV doc pm an cdv ct),osl⟩/\PySem.W.codeIn K cdv x=true/\PySem.W.keepIn K (.ref f)=true
def FA.mk{K:Fg}{x:Str}{st:Stmt}{f:Addr}{oc kV doc pm cdv ct:Value}{od an:Option Addr}{osl:Array (Option Value)}(a:PySem.W.nsIn K mainGlobals x=some (some (.ref f)))
  (l:K.lookup f=some ⟨oc,od,.func (PySem.W.fnOf x x (j9 st) (fJ st) (aN st) .none kV doc pm an cdv ct),osl⟩) (c:PySem.W.codeIn K cdv x=true) (k:PySem.W.keepIn K (.ref f)=true):FA K x st:=
 ⟨f,oc,kV,doc,pm,cdv,ct,od,an,osl,a,l,c,k⟩
def FA.at{K:Fg}{h:Heap}{mg:Str->Option Value}{x:Str}{st:Stmt}{ps:List Str}(X:K.In h)(G:h.Ns mainGlobals mg)(F:FA K x st)
  (b:∀{kV doc pm:Value} {an:Option Addr} {cdv ct:Value} (us:List Value),us.length=ps.length->bindArgs (PySem.W.fnOf x x (j9 st) (fJ st) (aN st) .none kV doc pm an cdv ct) ⟨us,[]⟩=pure (ps.zip us)):cO K mg x st ps:=by
 obtain⟨f,oc,kV,doc,pm,cdv,ct,od,an,osl,a,l,c,k⟩:=F;exact funAt X G a l c k (λ_ _ _ _ _ _ us hl=>b us hl)
def FA.law{P:Program}{w:World}{K:Fg}{h:Heap}{mg:Str->Option Value}{fa:Addr}{x y:Str}{st:Stmt}{k:Nat}{g:List D->Option D}(X:K.In h)(G:h.Ns mainGlobals mg)(hfa:mg x=some (.ref fa))(F:FA K x st)
  (b:∀{kV doc pm:Value} {an:Option Addr} {cdv ct:Value} (s:Shared) (v:Value),BindsTo s (PySem.W.fnOf x x (j9 st) (fJ st) (aN st) .none kV doc pm an cdv ct) ⟨[v],[]⟩ [(y,v)])
  (q:∀{fd:FuncData} (base:Heap),Xk K x x st fa fd->pP P w K mg base Hj k fa fd [y] (nY K 1 g)) :
  ∃fd:FuncData,(∀(s:Shared) (v:Value),BindsTo s fd ⟨[v],[]⟩ [(y,v)])/\∀base:Heap,K.In base->base.Ns mainGlobals mg->pP P w K mg base Hj k fa fd [y] (nY K 1 g):=by
 obtain⟨f,oc,kV,doc,pm,cdv,ct,od,an,osl,a,l,c,k⟩:=F;have e:=hfa.symm.trans (PySem.W.mg_of X G a);cases e;exact⟨_,b,λbase _ _=>q base (MP (st:=st) l c k)⟩
open PySem PySem.Spec PyProof.Rows L2
mutual
theorem Sh.isN{h:Heap}:∀(d:D) (u:Value) (k:NK),Sh h d u->qP d=some k->Cy h k u
 | .int i,u,k,e,g=>by rw[qP] at g;cases g;obtain⟨t,rfl⟩:=e;rw[Cy];exact .inl ⟨t,rfl⟩
 | .bl b,u,k,e,g=>by rw[qP] at g;cases g;cases e;rw[Cy];exact .inr ⟨b,rfl,rfl⟩
 | .str x,u,k,e,g=>by rw[qP] at g;cases g;rw[Cy];exact e
 | .tup xs,u,k,e,g=>by
  rw[qP] at g;obtain⟨ks,g1,rfl⟩:=Qq6.mp g;obtain⟨a,its,rfl,⟨o,e1,e2,n,e3⟩,e4⟩:=e;rw[Cy];exact⟨a,o,its.toArray,n,rfl,e1,e2,e3,by simpa using Ff.isN xs its ks e4 g1⟩
 | .non,u,k,e,g=>by simp[qP] at g
 | .lst _,u,k,e,g=>by simp[qP] at g
 | .arr _,u,k,e,g=>by simp[qP] at g
 | .dct _,u,k,e,g=>by simp[qP] at g
 | .gC _,u,k,e,g=>by simp[qP] at g
theorem Ff.isN{h:Heap}:∀(ds:List D) (us:List Value) (ks:List NK),Ff h ds us->qN ds=some ks->pq h ks us
 | [],us,ks,e,g=>by rw[qN] at g;cases g;cases e;rw[pq]
 | d::ds,us,ks,e,g=>by
  obtain⟨u,r,rfl,e1,e2⟩:=e;rw[qN] at g;split at g
  ·rename_i k ks' g1 g2;cases g;rw[pq];exact⟨u,r,rfl,Sh.isN d u k e1 g1,Ff.isN ds r ks' e2 g2⟩
  ·cases g
end
structure pO(K:Fg)(H:Hp)(y:V)(kd:D)(q:NK):Prop where
 rep:Rep K H kd y
 nk:qP kd=some q
 dep:q.dep<=8
 tup:∃xs,kd = .tup xs
abbrev KN:List (NK×V×V)->List (NK×Addr×Value)->Prop:=Paired λp q=>p.1=q.1/\p.2.1 = .ref q.2.1/\RelV p.2.2 q.2.2
noncomputable def valN(ks:List (NK×V×V))(q:NK):Option V:=(ks.find? λp=>decide (p.1=q)).map (·.2.2)
noncomputable def putN(ks:List (NK×V×V))(q:NK)(u v:V):List (NK×V×V):=if (valN ks q).isSome then ks.map (λp=>if p.1=q then (p.1,p.2.1,v) else p) else ks++[(q,u,v)]
def KN.val{ks:List (NK×V×V)}{xs:List (NK×Addr×Value)}(r:KN ks xs)(q:NK):wJ (valN ks q) ((atKey xs q).map (·.2)):=by
 unfold valN atKey
 induction r with
 | nil=>exact True.intro
 | @cons p x ps xs h t ih=>
  rw[Qz6,Qz6];by_cases c:p.1=q
  ·have c2:x.1=q:=h.1 ▸ c;rw[Qw8 c,Qw8 c2];exact h.2.2
  ·have c2:¬x.1=q:=h.1 ▸ c;rw[Qw0 c,Qw0 c2];exact ih
def KN.len{ks:List (NK×V×V)}{xs:List (NK×Addr×Value)}(r:KN ks xs):ks.length=xs.length:=by
 induction r with
 | nil=>rfl
 | cons _ _ ih=>simp[ih]
def KN.put{ks:List (NK×V×V)}{xs:List (NK×Addr×Value)}(r:KN ks xs)(q:NK){b:Addr}{v:V}{u:Value}(rv:RelV v u):KN (putN ks q (.ref b) v) (storedH xs q b u):=by
 have hs:=(r.val q).lg;rw[Qvk] at hs;unfold putN storedH;rw[<-hs];split
 ·clear hs
  induction r with
  | nil=>exact .nil
  | @cons p x ps xs h t ih=>
   rw[Qq8,Qq8];refine .cons ?_ ?_
   ·unfold putAt;by_cases c:p.1=q
    ·have c2:x.1=q:=h.1 ▸ c;rw[if_pos c,if_pos c2];exact⟨h.1,h.2.1,rv⟩
    ·have c2:¬x.1=q:=h.1 ▸ c;rw[if_neg c,if_neg c2];exact h
   ·rename_i hsome;clear hsome;clear ih
    induction t with
    | nil=>exact .nil
    | @cons p x ps xs h t ih=>
     rw[Qq8,Qq8];refine .cons ?_ ih;unfold putAt;by_cases c:p.1=q
     ·have c2:x.1=q:=h.1 ▸ c;rw[if_pos c,if_pos c2];exact⟨h.1,h.2.1,rv⟩
     ·have c2:¬x.1=q:=h.1 ▸ c;rw[if_neg c,if_neg c2];exact h
 ·exact Paired.snoc r ⟨rfl,rfl,rv⟩
section
variable{X:Cx}{pins:List (Addr×Obj)}{σ:L2.St}{H:Hp}{s:Shared}{a:Addr}{ks:List (NK×V×V)}{kvs:List (D×D)}{y v:V}{kd:D}{q:NK}{u:Value}{A:Around}{E:Value->Shared->Prop}
theorem O8(I:Inv X pins σ H s):∀{kvs:List (D×D)} {ks:List (NK×V×V)} {xs:List (NK×Addr×Value)},cW X.K H kvs ks->KN ks xs->∀x∈xs,(rK X.prog X.w).is s.heap x.1 x.2.1
 | [],_,_,hr,r,x,hx=>by
  cases hr;cases r;cases hx
 | (k,d)::kvs,_,_,hr,r,x,hx=>by
  obtain⟨q,u,v,rest,rfl,h1,h2,h3,h4,h5⟩:=hr;cases r with
  | @cons _ x0 _ xs' h t=>
   rcases Qq1.mp hx with rfl|hx
   ·obtain⟨g1,g2,g3⟩:=h;simp only at g1 g2 g3;subst g1;subst g2;exact⟨Sh.isN k _ _ (Rep.sh I k _ (.ref x.2.1) h3 rfl) h1,h2⟩
   ·exact O8 I h5 t x hx
def Es(I:Inv X pins σ H s)(e:Rd H a (.dN ks))(hr:cW X.K H kvs ks):ks.length<=sizeLine/\(a == sysModules)=false/\∃xs,KN ks xs/\s.heap.DictOfH (rK X.prog X.w) a xs:=by obtain⟨z,y,xs,r,o,es,ep,h1,h2,h3,h4,h5⟩:=(show gH X.prog X.w H s.heap a (.dN ks) from e.ok I.hok);exact⟨z,y,xs,r,o,es,ep,h1,h2,h3,h4,O8 I hr r,h5⟩
def pO.is(k:pO X.K H y kd q)(I:Inv X pins σ H s)(ry:RelV y u):∃b,y = .ref b/\u = .ref b/\(rK X.prog X.w).is s.heap q b:=by obtain⟨h1,h2,h3,xs,rfl⟩:=k;have h4:=Sh.isN _ _ _ (Rep.sh I _ y u h1 ry) h2;obtain⟨_,b,vs,rfl,_⟩:=h1;cases ry;exact⟨b,rfl,rfl,h4,h3⟩
def Ai(hu:A.units+12<cLine):(rK X.prog X.w).room A.in1:=by show A.units+1+10<cLine;omega
def adO{Q:Value->Shared->Prop}(hu:A.units+12<cLine)(I:Inv X pins σ H s)(e:Rd H a (.dN ks))(hr:cW X.K H kvs ks)(k:pO X.K H y kd q)(hv:valN ks q=some v)(ry:RelV y u)
  (h:∀w' s',Inv X pins σ H s'->RelV v w'->Q w' s'):wpAny (model X.prog X.w) A (getItem (.ref a) u) Q E s:=by
 obtain⟨b,rfl,rfl,hk⟩:=k.is I ry;obtain⟨z,hd,xs,rel,dd⟩:=Es I e hr;obtain⟨w',hw,Lz⟩:=wJ.some_of (v:=v) (o:=(atKey xs q).map (·.2)) (by rw[<-hv];exact rel.val q);obtain⟨p,hp,hp2⟩:=Qq6.mp hw;refine wpAny_getItem_heap (Ai hu) hk dd hp ?_;rw[hp2];exact h w' _ (I.tok _) Lz
def Ww{Q:Value->Shared->Prop}(hu:A.units+12<cLine)(I:Inv X pins σ H s)(e:Rd H a (.dN ks))(hr:cW X.K H kvs ks)(k:pO X.K H y kd q)(ry:RelV y u)
  (h:∀s',Inv X pins σ H s'->Q (.bool (!(valN ks q).isSome)) s'):wpAny (model X.prog X.w) A (compareOp .NotIn u (.ref a)) Q E s:=by
 obtain⟨b,rfl,rfl,hk⟩:=k.is I ry;obtain⟨z,hd,xs,rel,dd⟩:=Es I e hr;refine wpAny_notIn_heap (Ai hu) hk hd dd ?_;have q':=(rel.val q).lg;rw[Qvk] at q';rw[<-q'];exact h _ (I.tok _)
def Uu(ks:List (NK×V×V))(q:NK)(u v:V):(putN ks q u v).length<=ks.length+1:=by
 unfold putN;split
 ·rw[Qqx];omega
 ·simp
def adN{r:Value}{Q:Unit->Shared->Prop}(hu:A.units+12<cLine)(I:Inv X pins σ H s)(e:H a=some (.dN ks))(hr:cW X.K H kvs ks)(k:pO X.K H y kd q)(hl:ks.length<sizeLine)(ry:RelV y u)(rv:RelV v r)
  (h:∀s',Inv X pins σ (upd H a (.dN (putN ks q y v))) s'->Q () s'):wpAny (model X.prog X.w) A (setItem (.ref a) u r) Q E s:=by
 obtain⟨b,rfl,rfl,hk⟩:=k.is I ry;obtain⟨z,hd,xs,rel,dd⟩:=Es I (.inl e) hr;have hz:xs.length<=sizeLine:=by rw[<-rel.len];exact z
 have hl2:(putN ks q (.ref b) v).length<=sizeLine:=by have:=Uu ks q (.ref b) v;omega
 refine wpAny_setItem_heap (hsz:=hz) (Ai hu) hk dd λh' Wv hs=>h _ ?_;obtain⟨o,es,ep,hq,h2,h3,h4,_,h5⟩:=Wv;exact wB I (by rw[e];exact True.intro) hs ⟨o,hq⟩ ⟨hl2,hd,_,rel.put q rv,o,es,ep,hq,h2,h3,h4,h5⟩
end
noncomputable def nW(kvs:List (D×D))(q:NK):Option D:=(kvs.find? λp=>decide (qP p.1=some q)).map (·.2)
noncomputable def yg(kvs:List (D×D))(kd:D)(q:NK)(d:D):List (D×D):=if (nW kvs q).isSome then kvs.map (λp=>if qP p.1=some q then (p.1,d) else p) else kvs++[(kd,d)]
theorem cW.len{K:Fg}{F:Hp}:∀{kvs:List (D×D)} {ks:List (NK×V×V)},cW K F kvs ks->ks.length=kvs.length
 | [],_,h=>by cases h;rfl
 | (k,d)::kvs,_,h=>by obtain⟨q,u,v,r,rfl,_,_,_,_,h5⟩:=h;rw[Qqw,Qqw,h5.len]
theorem cW.val{K:Fg}{F:Hp}(q:NK):∀{kvs:List (D×D)} {ks:List (NK×V×V)},cW K F kvs ks->(nW kvs q=none/\valN ks q=none)\/∃d v,nW kvs q=some d/\valN ks q=some v/\Rep K F d v
 | [],_,h=>by cases h;exact .inl ⟨rfl,rfl⟩
 | (k,d)::kvs,_,h=>by
  obtain⟨q0,u,v,r,rfl,h1,h2,h3,h4,h5⟩:=h;unfold nW valN;rw[Qz6,Qz6];by_cases c:q0=q
  ·subst c;have c2:decide (qP k=some q0)=true:=Qw8 h1;rw[c2,Qw8 rfl];exact .inr ⟨d,v,rfl,rfl,h4⟩
  ·have c2:decide (qP k=some q)=false:=Qw0 λz=>c (by rw[h1] at z;exact Qw2 z);rw[c2,Qw0 c];exact cW.val q h5
theorem cW.snoc{K:Fg}{F:Hp}{kd d:D}{q:NK}{u v:V}(h1:qP kd=some q)(h2:q.dep<=8)(h3:Rep K F kd u)(h4:Rep K F d v):∀{kvs:List (D×D)} {ks:List (NK×V×V)},cW K F kvs ks->cW K F (kvs++[(kd,d)]) (ks++[(q,u,v)])
 | [],_,h=>by cases h;exact⟨q,u,v,[],rfl,h1,h2,h3,h4,rfl⟩
 | (k,e)::kvs,_,h=>by
  obtain⟨q0,u0,v0,r,rfl,g1,g2,g3,g4,g5⟩:=h;exact⟨q0,u0,v0,r++[(q,u,v)],rfl,g1,g2,g3,g4,cW.snoc h1 h2 h3 h4 g5⟩
theorem cW.over{K:Fg}{F:Hp}{d:D}{q:NK}{v:V}(h4:Rep K F d v):∀{kvs:List (D×D)} {ks:List (NK×V×V)},cW K F kvs ks->cW K F (kvs.map λp=>if qP p.1=some q then (p.1,d) else p) (ks.map λp=>if p.1=q then (p.1,p.2.1,v) else p)
 | [],_,h=>by cases h;rfl
 | (k,e)::kvs,_,h=>by
  obtain⟨q0,u0,v0,r,rfl,g1,g2,g3,g4,g5⟩:=h;rw[Qq8,Qq8];have ih:=cW.over (q:=q) h4 g5;by_cases c:q0=q
  ·subst c;rw[if_pos g1,if_pos rfl];exact⟨q0,u0,v,_,rfl,g1,g2,g3,h4,ih⟩
  ·rw[if_neg (λz=>c (by rw[g1] at z;exact Qw2 z)),if_neg c];exact⟨q0,u0,v0,_,rfl,g1,g2,g3,g4,ih⟩
def cW.put{K:Fg}{F:Hp}{kvs:List (D×D)}{ks:List (NK×V×V)}{kd d:D}{q:NK}{u v:V}(h:cW K F kvs ks)(h1:qP kd=some q)(h2:q.dep<=8)(h3:Rep K F kd u)(h4:Rep K F d v):cW K F (yg kvs kd q d) (putN ks q u v):=by
 have e:(nW kvs q).isSome=(valN ks q).isSome:=by rcases h.val q with ⟨g1,g2⟩|⟨_,_,g1,g2,_⟩<;>rw[g1,g2]<;>rfl
 unfold yg putN;rw[e];split
 ·exact h.over h4
 ·exact h.snoc h1 h2 h3 h4
def Q0(kvs:List (D×D))(kd:D)(q:NK)(d:D):(yg kvs kd q d).length<=kvs.length+1:=by
 unfold yg;split
 ·rw[Qqx];omega
 ·simp
def gD.gC{K:Fg}{F H:Hp}{kvs:List (D×D)}{v:V}(s:aR F H)(h:gD K F H (.gC kvs) v):kvs.length<=sizeLine/\∃a ks,v = .ref a/\Rd H a (.dN ks)/\cW K F kvs ks:=by
 rcases h with ⟨z,a,vs,rfl,h1,h2⟩|⟨a,rfl,z,vs,h1,h2⟩
 ·exact⟨z,a,vs,rfl,aR.rd s h1,h2⟩
 ·exact⟨z,a,vs,rfl,.inl h1,h2⟩
def Jo(d:D):Option NK:=match d with
 | .tup xs=>(qP (.tup xs)).bind λq=>if q.dep<=8 then some q else none
 | _=>none
def Gj{d:D}{q:NK}(h:Jo d=some q):qP d=some q/\q.dep<=8/\∃xs,d = .tup xs:=by
 unfold Jo at h;split at h
 ·obtain⟨p,h1,h2⟩:=Qx1.mp h;split at h2
  ·rename_i hd;cases h2;exact⟨h1,hd,_,rfl⟩
  ·cases h2
 ·cases h
def pO.of{C:Cfg}{F H:Hp}{d:D}{q:NK}{v:V}(s:aR F H)(p:gD C.K F H d v)(h:Jo d=some q):pO C.K H v d q:=by obtain⟨h1,h2,h3⟩:=Gj h;exact⟨p.rep s,h1,h2,h3⟩
section
variable{X:Cx}{C:Cfg}{pos apos cpos:Pos}
def T8(K:Fg):R2:=λx y H Q=>∃a ks kvs kd q v,x = .ref a/\Rd H a (.dN ks)/\cW K H kvs ks/\pO K H y kd q/\valN ks q=some v/\Q v H
noncomputable def vW:D->D->Option D
 | .gC kvs,k=>(Jo k).bind λq=>nW kvs q
 | _,_=>none
def Y7:qM C (T8 C.K) vW:=by
 intro Pr F env σ H x y d vx vy Q r px py e q;unfold vW at e;split at e
 ·obtain⟨z,a,ks,rfl,h1,h2⟩:=px.gC r.fr;obtain⟨k,hk,hv⟩:=Qx1.mp e;rcases h2.val k with ⟨e1,_⟩|⟨d',v',e1,e2,p2⟩
  ·rw[e1] at hv;cases hv
  ·rw[e1] at hv;cases hv;exact⟨a,ks,_,_,k,v',rfl,h1,cW.mono r.fr _ _ h2,pO.of r.fr py hk,e2,q _ _ F r (aR.refl F) p2⟩
 ·cases e
def YL{o i:Expr}{td ty:TE}(hu:X.A.units+12<cLine)(ho:PE X o td)(hi:PE X i ty)(hs:Nk i):PE X (.Subscript o i pos) (XQ (T8 X.K) td ty):=by intro pins s σ H Q I h;refine Nz PySem.F.slot_dict_getitem.lookup hs (fL (ho pins s σ H _ I h) λu s1 ⟨x,H1,I1,rx,q1⟩=>fL (hi pins s1 σ H1 _ I1 q1) λiv s2 ⟨y,H2,I2,ry,a,ks,kvs,kd,q,v,ex,g1,g2,g3,g4,q2⟩=>?_);subst ex;obtain rfl:u=Value.ref a:=rx;obtain⟨_,_,xs,_,dd⟩:=Es I2 g1 g2;exact⟨dd.typeIs,adO hu I2 g1 g2 g3 g4 ry λw' s3 I3 Lz=>⟨v,H2,I3,Lz,q2⟩⟩
def Xx{y:Expr}{b:Ev}{n:Str}{px:Pos}(i:Nat)(G:Good X C)(hb:Nj X C y b)(hN:X.N[i]? = some n:=by rfl)(hv:tR X.env.scope n:=by first|exact Or.inl rfl|exact Or.inr (Or.inl rfl)|exact Or.inr (Or.inr rfl))(hs:Nk y:=by intro _ _;rfl)
  (hd:mU n:=by decide) (hcd:uG n:=by decide):PX X C (.Subscript (.Name n px) y pos) (aB vW i b):=by
 have h:PE X (.Subscript (.Name n px) y pos) (XQ (T8 X.K) _ _):=YL (pos:=pos) (by have:=G.un;omega) (jY (pos:=px) hN hv hd hcd) hb hs;rw[G.K] at h;exact h.imp (tK Y7)
def ae6(K:Fg)(neg:Bool):R2:=λx y H Q=>∃a ks kvs kd q,y = .ref a/\Rd H a (.dN ks)/\cW K H kvs ks/\pO K H x kd q/\Q (.bl (if neg then !(valN ks q).isSome else (valN ks q).isSome)) H
def Q8(hu:X.A.units+12<cLine):ph X (compareOp .NotIn) (ae6 X.K true):=by intro pins s σ H x y v u Q I rx ry h;obtain⟨a,ks,kvs,kd,q,rfl,g1,g2,g3,q2⟩:=h;cases ry;exact Ww hu I g1 g2 g3 rx λs3 I3=>⟨.bl _,H,I3,rfl,q2⟩
noncomputable def pZ(k y:D):Option D:=match y with
 | .gC kvs=>(Jo k).map λq=>.bl (!(nW kvs q).isSome)
 | _=>none
def Rc:qM C (ae6 C.K true) pZ:=by
 intro Pr F env σ H x y d vx vy Q r px py e q;cases y with
 | gC kvs=>
  obtain⟨k,hk,rfl⟩:=Qq6.mp (show(Jo x).map (λq=>D.bl (!(nW kvs q).isSome))=some d from e);obtain⟨z,a,ks,rfl,h1,h2⟩:=py.gC r.fr;refine⟨a,ks,kvs,_,k,rfl,h1,cW.mono r.fr _ _ h2,pO.of r.fr px hk,?_⟩;have e2:(valN ks k).isSome=(nW kvs k).isSome:=by rcases h2.val k with ⟨g1,g2⟩|⟨d',v',g1,g2,_⟩<;>rw[g1,g2]<;>rfl
  rw[e2];exact q _ H F r (aR.refl F) rfl
 | _=>cases e
def Kc(G:Good X C):Cm X C .NotIn pZ:=⟨_,Q8 (by have:=G.un;omega),by rw[G.K];exact Rc⟩
def J3{P:Program}{w:World}{H:Hp}(h:Heap)(hb:sysModules<h.objs.size):gH P w H (h.push { cls:=.type "dict",data:=.dict #[] }) h.objs.size (.dN []):=
 ⟨Qxy _,Qz1.mpr (Ne.symm (Qw9 hb)),[],.nil,_, #[],0,Qwj _ rfl,⟨rfl,rfl,rfl⟩,rfl,rfl,List.nodup_nil⟩
def abG:TE:=λ_ H Q=>∀p,H p=none->Q (.ref p) (upd H p (.dN []))
def U9:PE X (.Dict [] [] pos) abG:=λpins s σ H Q I h=>
 wpAny_Dict_empty ⟨.ref s.heap.objs.size,_,I.laid (a:=s.heap.objs.size) (o:=.dN []) (t':=s.toks) (λ_ _ q=>Qqz _ q) (Qq0 _) (J3 s.heap I.big),rfl,h _ (I.hok.fresh (Qq0 _))⟩
def PK:Ev:=λenv=>.ok (.gC []) env
noncomputable def sU(i:Nat)(k a:Ev):cu:=λenv=>iW (a env) λd aL=>match aL[i]? with
 | some (some (_,_))=>iW (k aL) λkd dX=>(match dX[i]?,Jo kd with
  | some (some (true,.gC kvs)),some q=>if kvs.length<sizeLine then .nx (dX.set i (some (true,.gC (yg kvs kd q d)))) else .stuck
  | _,_=>.stuck)
 | _=>.stuck
def Tt(K:Fg)(td ty tv:TE):TS:=λD σ H=>tv σ H λv H1=>td σ H1 λx H2=>ty σ H2 λy H3=>∃a ks kvs kd q,x = .ref a/\H3 a=some (.dN ks)/\cW K H3 kvs ks/\pO K H3 y kd q/\ks.length<sizeLine/\D.nx σ (upd H3 a (.dN (putN ks q y v)))
def UL{o i value:Expr}{pos':Pos}{td ty tv:TE}(hu:X.A.units+12<cLine)(ho:PE X o td)(hi:PE X i ty)(hv:PE X value tv)(hs:swapsWith value (some (.Subscript o i pos')) pos.line X.env=pure false) :
  PS X (.Assign [.Subscript o i pos'] value pos) (Tt X.K td ty tv):=by
 intro pins s σ H D I h;refine wpAny_Assign_Subscript (fL (hv pins s σ H _ I h) λr s1 ⟨v,H1,I1,rv,q1⟩=>fL (ho pins s1 σ H1 _ I1 q1) λu s2 ⟨x,H2,I2,rx,q2⟩=>fL (hi pins s2 σ H2 _ I2 q2) λiv s3 ⟨y,H3,I3,ry,a,ks,kvs,kd,q,ex,g1,g2,g3,g4,q3⟩=>?_) hs;subst ex;obtain rfl:u=Value.ref a:=rx;exact adN hu I3 g1 g2 g3 g4 ry rv λs4 I4=>⟨σ,_,I4,q3⟩
def X8{n:Str}{k e:Expr}{ek a:Ev}{px pos':Pos}(i:Nat)(G:Good X C)(hk:PX X C k ek)(he:PX X C e a)(hN:X.N[i]? = some n:=by rfl)(hv:tR X.env.scope n:=by first|exact Or.inl rfl|exact Or.inr (Or.inl rfl)|exact Or.inr (Or.inr rfl))
  (hs:swapsWith e (some (.Subscript (.Name n px) k pos')) pos.line X.env=pure false:=by rfl)
  (hd:mU n:=by decide) (hcd:uG n:=by decide):Xf X C (.Assign [.Subscript (.Name n px) k pos'] e pos) (sU i ek a):=by
 have h0:PS X (.Assign [.Subscript (.Name n px) k pos'] e pos) (Tt X.K _ _ _):=UL (by have:=G.un;omega) (jY hN hv hd hcd) hk he hs;rw[G.K] at h0;refine h0.imp λD σ H h=>?_;obtain⟨Pr,F,env,r,f⟩:=h;obtain⟨d,aL,e1,f1⟩:=dF f;refine⟨Pr,F,env,aL,d,r,e1,λv H1 F1 r1 s1 p1=>?_⟩;split at f1
 ·rename_i o0 d0 h0;obtain⟨v0,hv0,_⟩:=r1.rd h0;obtain⟨kd,dX,e2,f2⟩:=dF f1;refine⟨v0,hv0,Pr,F1,aL,dX,kd,r1,e2,λvk H2 F2 r2 s2 p2=>?_⟩;split at f2
  ·rename_i kvs q h2 hq;split at f2
   ·rename_i hz;obtain⟨b,g1,⟨z,ks,g2,g3⟩,g4,g5⟩:=r2.own i _ h2;rw[hv0] at g1;cases g1;have hz':ks.length<sizeLine:=by rw[g3.len];exact hz
    obtain⟨n1,n2,n3⟩:=Gj hq;refine⟨b,ks,kvs,kd,q,rfl,g2,cW.mono r2.fr _ _ g3,⟨Rep.mono r2.fr _ _ p2,n1,n2,n3⟩,hz',?_⟩;refine f2 σ _ F2 (r2.write h2 hv0 ⟨Qq3 (Q0 _ _ _ _) hz,_,bh,g3.put n1 n2 p2 (Rep.mono s2 _ _ p1)⟩) (s1.trans s2)
   ·exact f2.elim
  ·exact f2.elim
 ·exact f1.elim
def Tc(K:Fg)(tk tv:TE):TE:=λσ H Q=>∀p,H p=none->tk σ (upd H p (.dN [])) λx H1=>tv σ H1 λy H2=>H2 p=some (.dN [])/\∃kd q,pO K H2 x kd q/\Q (.ref p) (upd H2 p (.dN [(q,x,y)]))
def Vb{k v:Expr}{tk tv:TE}(hu:X.A.units+12<cLine)(hk:PE X k tk)(hv:PE X v tv):PE X (.Dict [some k] [v] pos) (Tc X.K tk tv):=by intro pins s σ H Q I q;have hn:=I.hok.fresh (Qq0 s.heap.objs.size);have I1:=I.laid (a:=s.heap.objs.size) (o:=.dN []) (h':=s.heap.push { cls:=.type "dict",data:=.dict #[] }) (t':=s.toks) (λ_ _ q=>Qqz _ q) (Qq0 _) (J3 s.heap I.big);rw[arm_eval_Dict,zip_pairTrees [some k] [v] X.env pos rfl rfl,dictDisplay_pairs (pairTrees [some k] [v] X.env pos) (by intro z;cases z) (by rw[pairTrees_length [some k] [v] X.env pos rfl rfl];simp)];refine Qqq (wpAny_standAt (Qqq ?_));unfold subDict;refine Qqq (wpAny_alloc ?_);refine Qqq (Qz4 ?_);rw[if_pos (by rw[pairTrees_length [some k] [v] X.env pos rfl rfl];simp)];refine Qqq (pairTrees_cons_walk (fL (hk pins _ σ _ _ I1 (q _ hn)) λu s1 ⟨x,H1,J1,rx,q1⟩=>fL (hv pins s1 σ H1 _ J1 q1) λw2 s2 ⟨y,H2,J2,ry,e,kd,qq,ka,q2⟩=>pairTrees_nil_walk ?_));refine Qz4 ?_;refine Qqq ?_;rw[Qvz];obtain⟨b,rfl,rfl,hkk⟩:=ka.is J2 rx;obtain⟨_,hd,xs,rel,dd⟩:=Es (kvs:=[]) J2 (.inl e) rfl;cases rel;refine Qqq (Qqq (wpAny_dictSet_heap (hsz:=Qxy _) (show X.A.units+10<cLine by omega) hkk dd λh' Wv hs=>Qq2 ?_));show wpAny _ _ (forIn ([]:List (Value×Value)) PUnit.unit _) _ _ _;rw[Qkv];refine Qq2 (Qq2 (Qq2 (Qq2 ?_)));obtain⟨o,es,ep,hq,h2,h3,h4,_,h5⟩:=Wv;exact⟨.ref s.heap.objs.size,_,wB (ob:=.dN [(qq,.ref b,y)]) J2 (by rw[e];exact True.intro) hs ⟨o,hq⟩ ⟨by show 1<=sizeLine;decide,hd,[(qq,b,w2)],.cons ⟨rfl,rfl,ry⟩ .nil,o,es,ep,hq,h2,h3,h4,h5⟩,rfl,q2⟩
def GK(k a:Ev):Ev:=λenv=>bindR (k env) λkd e1=>bindR (a e1) λd e2=>match Jo kd with
 | some _=>.ok (.gC [(kd,d)]) e2
 | none=>.stuck
def Uj{k v:Expr}{ek ev:Ev}(G:Good X C)(hk:PX X C k ek)(hv:PX X C v ev):R6 X C (.Dict [some k] [v] pos) (GK ek ev):=by
 have h0:PE X (.Dict [some k] [v] pos) (Tc X.K _ _):=Vb (by have:=G.un;omega) hk hv;rw[G.K] at h0;refine h0.imp λσ H Q hq=>?_;obtain⟨Pr,F,env,env',d,r,e,q⟩:=hq;obtain⟨kd,aL,e1,e2⟩:=bf e;obtain⟨dv,dX,e3,e4⟩:=bf e2;split at e4
 ·rename_i qq hqq;cases e4;obtain⟨n1,n2,n3⟩:=Gj hqq;intro p hp;have ra:=r.aside (o:=.dN []) hp;have nP:Pr p=none:=r.pr.free hp;refine⟨upd Pr p (.dN []),F,env,aL,kd,ra,e1,λx H1 F1 r1 s1 p1=>⟨upd Pr p (.dN []),F1,aL,env',dv,r1,e3,λy H2 F2 r2 s2 p2=>⟨r2.pr p _ bh,kd,qq,⟨Rep.mono r2.fr _ _ (Rep.mono s2 _ _ p1),n1,n2,n3⟩,?_⟩⟩⟩;have r3:=r2.turn (u:=.dN [(qq,x,y)]) bh;have nF:F2 p=none:=by
   cases hF:F2 p with
   | none=>rfl
   | some o=>have:=r2.dj p o hF;rw[bh] at this;cases this
  have r4:Rel C Pr F2 env' σ (upd H2 p (.dN [(qq,x,y)])):=r3.less λb o hb=>by
   have hne:b≠p:=λz=>by rw[z,nP] at hb;cases hb
   rw[bL hne,bL hne];exact hb
  refine q p _ F2 r4 (s1.trans s2) ⟨⟨by show 1<=sizeLine;decide,_,bh,⟨qq,x,y,[],rfl,n1,n2,Rep.mono s2 _ _ p1,p2,rfl⟩⟩,nF,nP,λj e he hs=>?_⟩;obtain⟨b,h1,_,_,h4⟩:=r2.own j e he;rw[hs] at h1;cases h1;rw[bh] at h4;cases h4
 ·cases e4
def NT:cu:=λ_=>.stuck
def Hq{y:Expr}{b:Ev}{n:Str}{px:Pos}(i:Nat)(G:Good X C)(hb:Ni X C y b)(hN:X.N[i]? = some n:=by rfl)(hv:tR X.env.scope n:=by first|exact Or.inl rfl|exact Or.inr (Or.inl rfl)|exact Or.inr (Or.inr rfl))(hs:Nk y:=by intro _ _;rfl)
  (hd:mU n:=by decide) (hcd:uG n:=by decide):SX X C (.Subscript (.Name n px) y pos) (aB vW i b):=⟨Ev.Xx i G hb.u hN hv hs hd hcd⟩
def Mg:Xd X C (.Dict [] [] pos) PK:=⟨U9.imp λσ H Q hq=>by
 obtain⟨Pr,F,env,env',d,r,e,q⟩:=hq;cases e;exact λp hp=>q _ _ F (r.fresh hp) (aR.refl F) (Xg.of r hp ⟨Qxy _,[],bh,rfl⟩)⟩
def Io{n:Str}{k e:Expr}{ek a:Ev}{px pos':Pos}(i:Nat)(G:Good X C)(hk:SX X C k ek)(he:SX X C e a)(hN:X.N[i]? = some n:=by rfl)(hv:tR X.env.scope n:=by first|exact Or.inl rfl|exact Or.inr (Or.inl rfl)|exact Or.inr (Or.inr rfl))
  (hs:swapsWith e (some (.Subscript (.Name n px) k pos')) pos.line X.env=pure false:=by rfl)
  (hd:mU n:=by decide) (hcd:uG n:=by decide):Kq X C (.Assign [.Subscript (.Name n px) k pos'] e pos) (sU i ek a):=⟨Ev.X8 i G hk.u he.u hN hv hs hd hcd⟩
def QV{k v:Expr}{ek ev:Ev}(G:Good X C)(hk:SX X C k ek)(hv:SX X C v ev):Xd X C (.Dict [some k] [v] pos) (GK ek ev):=⟨Ev.Uj G hk.u hv.u⟩
def Ma{st:Stmt}:Kq X C st NT:=⟨λpins s σ H D I h=>by
 obtain⟨_,_,_,_,f⟩:=h;exact f.elim⟩
end
end Ev
namespace SI
open PySem PySem.Spec PyProof.Rows L2 PySem.Builtin
def Ris(xs:Array Nat):Prop:=∀i j,i<j->j<xs.size->xs.getD i 0<xs.getD j 0
def JG{xs:Array Nat}{i:Nat}(a b:Nat)(h:i<xs.size):xs.getD i a=xs.getD i b:=by simp[Array.getD,h]
theorem BZ{xs:Array Nat}{j:Nat}(R:Ris xs):∀(fuel lo hi:Nat),lo<=hi->hi<=xs.size->hi - lo<=fuel->(∀i,i<lo->xs.getD i 0<j)->(∀i,hi<=i->i<xs.size->j<=xs.getD i 0)->
  SetTable.below.go xs j fuel lo hi<=xs.size/\(∀i,i<SetTable.below.go xs j fuel lo hi->xs.getD i 0<j)/\∀i,SetTable.below.go xs j fuel lo hi<=i->i<xs.size->j<=xs.getD i 0
 | 0,lo,hi,h1,h2,h3,h4,h5=>by
  unfold SetTable.below.go;exact⟨by omega,h4,λi a b=>h5 i (by omega) b⟩
 | fuel+1,lo,hi,h1,h2,h3,h4,h5=>by
  unfold SetTable.below.go;split
  ·rename_i hl;dsimp only;split
   ·rename_i hm;rw[JG j 0 (by omega)] at hm;refine BZ R fuel _ _ (by omega) h2 (by omega) (λi hq=>?_) h5;by_cases c:i=(lo+hi) / 2
    ·rw[c];exact hm
    ·exact Nat.lt_trans (R i _ (by omega) (by omega)) hm
   ·rename_i hm;rw[JG j 0 (by omega)] at hm;refine BZ R fuel _ _ (by omega) (by omega) (by omega) h4 (λi hq hs=>?_);by_cases c:i=(lo+hi) / 2
    ·rw[c];omega
    ·have:=R ((lo+hi) / 2) i (by omega) hs;omega
  ·exact⟨by omega,h4,λi a b=>h5 i (by omega) b⟩
def Ke{xs:Array Nat}(R:Ris xs)(j:Nat):SetTable.below xs j<=xs.size/\(∀i,i<SetTable.below xs j->xs.getD i 0<j)/\∀i,SetTable.below xs j<=i->i<xs.size->j<=xs.getD i 0:=
 BZ R xs.size 0 xs.size (Qxy _) (Qq0 _) (Qq0 _) (λi h=>absurd h (Qk1 _)) λi h hs=>absurd hs (Nat.not_lt.mpr h)
def Dd{α:Type}(xs:Array α)(p:Nat)(x:α)(h:p<=xs.size):(SetTable.insertAt xs p x).size=xs.size+1:=by unfold SetTable.insertAt;simp;omega
def vU(xs:Array Nat)(p x:Nat)(h:p<=xs.size)(i:Nat)(hi:i<xs.size+1):(SetTable.insertAt xs p x).getD i 0=if i<p then xs.getD i 0 else if i=p then x else xs.getD (i - 1) 0:=by
 have e:(SetTable.insertAt xs p x).getD i 0=((xs.toList.take p++[x])++xs.toList.drop p).getD i 0:=by
  have:(SetTable.insertAt xs p x).toList=(xs.toList.take p++[x])++xs.toList.drop p:=by unfold SetTable.insertAt;simp[Array.toList_extract,List.extract];exact Qjj (by rw[Qzk,Qz2];exact Qq0 _)
  rw[<-this,Qj8,Qq7,Qkj]
 rw[e,Qq7];have hl:(xs.toList.take p).length=p:=by simp;omega
 by_cases c:i<p
 ·rw[if_pos c,Qxv,Qxx (by omega),Qz8 c,Qkj,Qj8]
 ·rw[if_neg c];by_cases c2:i=p
  ·rw[if_pos c2,Qxv,Qx4 (by omega),hl,c2,Nat.sub_self]
   rfl
  ·rw[if_neg c2,Qx4 (by rw[Qqj,hl,Qwq];omega),Qqj,hl,Qwq,List.getElem?_drop,Qkj,Qj8,show p+(i - (p+1))=i - 1 by omega]
def Ris.insert{xs:Array Nat}(R:Ris xs){j:Nat}(hj:∀i,i<xs.size->xs.getD i 0≠j):Ris (SetTable.insertAt xs (SetTable.below xs j) j):=by
 obtain⟨b1,b2,b3⟩:=Ke R j;generalize SetTable.below xs j=p at *;intro a b hab hb;rw[Dd _ _ _ b1] at hb;rw[vU _ _ _ b1 a (by omega),vU _ _ _ b1 b (by omega)];by_cases ca:a<p
 ·rw[if_pos ca];by_cases cb:b<p
  ·rw[if_pos cb];exact R a b hab (by omega)
  ·rw[if_neg cb];by_cases cb2:b=p
   ·rw[if_pos cb2];exact b2 a ca
   ·rw[if_neg cb2];exact R a (b - 1) (by omega) (by omega)
 ·rw[if_neg ca,if_neg (show ¬b<p by omega),if_neg (show b≠p by omega)];by_cases ca2:a=p
  ·rw[if_pos ca2];have h1:=b3 (b - 1) (by omega) (by omega);have h2:=hj (b - 1) (by omega);omega
  ·rw[if_neg ca2];exact R (a - 1) (b - 1) (by omega) (by omega)
theorem An{t:SetTable}{hashAt:Nat->Int}{h:Int}(hd:t.dummies = #[]):∀(n:Nat) (p:SetTable.Probe) (j:Nat) (d:Option Nat),p.dummy=none->SetTable.probe.go t hashAt h n p=some (.empty j d)->d=none/\t.slot j = .empty
 | 0,p,j,d,_,e=>by unfold SetTable.probe.go at e;cases e
 | n+1,p,j,d,hp,e=>by
  unfold SetTable.probe.go at e;cases hs:t.slot p.j with
  | empty=>
   rw[hs] at e;cases e;exact⟨hp,hs⟩
  | dummy=>
   exfalso;unfold SetTable.slot at hs;dsimp only at hs;split at hs
   ·cases hs
   ·split at hs
    ·rename_i h2;rw[hd] at h2;unfold SetTable.has at h2;simp at h2
    ·cases hs
  | live i=>
   rw[hs] at e;dsimp only at e;split at e
   ·cases e
   ·refine An hd n _ j d ?_ e;unfold SetTable.advance;split
    ·exact hp
    ·exact hp
def ZR{t:SetTable}{h:Int}(hd:t.dummies = #[]){j:Nat}{b:Bool}(e:t.freeSlot h=some (j,b)):b=false/\t.place[SetTable.below t.place j]? ≠ some j:=by
 unfold SetTable.freeSlot at e;split at e
 ·rename_i j' d hp;obtain⟨rfl,hs⟩:=An hd _ _ _ _ rfl hp;cases e;refine⟨rfl,λz=>?_⟩
  change t.place[SetTable.below t.place j']? = some j' at z
  unfold SetTable.slot at hs;dsimp only at hs;rw[z] at hs;simp at hs
 ·cases e
structure Pl(t:SetTable):Prop where
 dm:t.dummies = #[]
 ri:Ris t.place
def Pl.put{t:SetTable}(p:Pl t){j:Nat}(h:t.place[SetTable.below t.place j]? ≠ some j):Pl (t.put j).1:=by
 refine⟨?_,?_⟩
 ·show(if SetTable.has t.dummies j then _ else t.dummies) = #[];rw[p.dm];unfold SetTable.has;simp
 ·show Ris (SetTable.insertAt t.place (SetTable.below t.place j) j);refine p.ri.insert λi hi z=>h ?_;obtain⟨b1,b2,b3⟩:=Ke p.ri j;have:SetTable.below t.place j=i:=by
   rcases Nat.lt_trichotomy (SetTable.below t.place j) i with c|c|c
   ·have h1:=b3 _ (Qq0 _) (by omega);have h2:=p.ri _ i c hi;omega
   ·exact c
   ·have:=b2 i c;omega
  rw[this];rw[Qj8] at z;rw[Array.getElem?_eq_getElem hi] at z ⊢
  simpa using z
def QM(n:Nat):Ris (Array.range n):=by
 intro i j h1 h2;simp at h2;have h3:i<n:=by omega
 simp[Array.getD,h2,h3,h1]
def Pl.stand{t:SetTable}(n:Nat):Pl (t.standIn n):=⟨rfl,QM n⟩
def Pl.YZ{t:SetTable}(p:Pl t)(n:Nat):Pl (t.orStandIn n):=by
 unfold SetTable.orStandIn;split
 ·exact p
 ·exact Pl.stand n
def Pl.lay{t:SetTable}(p:Pl t)(es:Array (Int×Value))(h:Int)(x:Value):Pl (layNew t es h x).2.1:=by
 unfold layNew;split
 ·rename_i sl wd e;exact(p.put (ZR p.dm e).2).YZ _
 ·exact Pl.stand _
def Tw{l:List Nat}(h:l.Pairwise (·< ·)):Ris l.toArray:=by
 intro i j h1 h2;simp at h2;have h3:i<l.length:=by omega
 have:=List.pairwise_iff_getElem.mp h i j h3 h2 h1
 simpa[Array.getD,h2,h3] using this
def Pl.aeS{t:SetTable}(es:Array (Int×Value))(n:Nat):Pl (relayAll t es n).2.1:=by
 unfold relayAll;split
 ·rename_i t' order e;dsimp only;split
  ·unfold SetTable.relaid SetTable.laid at e;cases h1:SetTable.layClean (SetTable.sizeAbove n - 1) (es.map (·.1)) with
   | none=>rw[h1] at e;cases e
   | some ow=>
    rw[h1] at e;injection e with e
    injection e with e _
    subst e;refine⟨rfl,Tw ?_⟩;generalize SetTable.sizeAbove n - 1+1=m;have:∀l:List Nat,l.Pairwise (·< ·)->((l.filterMap λj=>(ow.getD j none).map (j,·)).map (·.1)).Pairwise (·< ·):=by
     intro l hl;have e2:(l.filterMap λj=>(ow.getD j none).map (j,·)).map (·.1)=l.filter λj=>(ow.getD j none).isSome:=by
      clear hl
      induction l with
      | nil=>rfl
      | cons a l ih=>
       rw[Qk8,List.filter_cons];cases ow.getD a none with
       | none=>simpa using ih
       | some v=>exact Qx5 (a :: ·) ih
     rw[e2];exact hl.filter _
    exact this _ List.pairwise_lt_range
  ·exact Pl.stand _
 ·exact Pl.stand _
open SX (led Gh zA vO sW zT zx fresh)
def Ci(ys:List Int)(x:Int):List Int:=if x∈ys then ys else ys++[x]
def qW(zs:List Int):List Int:=zs.foldl Ci []
def W5(ys:List Int)(x:Int):(Ci ys x).length<=ys.length+1:=by
 unfold Ci;split
 ·omega
 ·simp
def qU(zs:List Int):∀ys:List Int,(zs.foldl Ci ys).length<=ys.length+zs.length:=by
 induction zs with
 | nil=>intro ys;exact Qq0 _
 | cons z zs ih=>intro ys;rw[Qj0,Qqw];have:=ih (Ci ys z);have:=W5 ys z;omega
structure TOk(P:Program)(w:World)(es:Array (Int×Value))(t:SetTable)(ys:List Int):Prop where
 el:ElemsOf (intKind P w) es.toList
 tx:∃ss:List Int,IntsAre (es.toList.map (·.2)) ss/\ss.Perm ys
 fit:t.fits es.size=true
 ld:t.led=led w
 pl:Pl t
def uQ(P:Program)(w:World)(h:Heap)(a:Addr)(ys:List Int):Prop:=
 ∃o es ep t,h.get? a=some o/\o.ExactSet/\o.data = .set es ep t/\TOk P w es t ys
def uQ.keep{P:Program}{w:World}{h h':Heap}{a:Addr}{ys:List Int}(x:uQ P w h a ys)(k:∀o,h.get? a=some o->h'.get? a=some o):uQ P w h' a ys:=
 let ⟨o,es,ep,t,e,r⟩:=x;⟨o,es,ep,t,k o e,r⟩
def JB{vs:List Value}{ss:List Int}(h:IntsAre vs ss):vs.length=ss.length:=by
 induction h with
 | nil=>rfl
 | cons _ _ _ ih=>simp[ih]
def V4{vs:List Value}{ss:List Int}(h:IntsAre vs ss):∀v∈vs,∃x t,v = .int x t/\x∈ss:=by
 induction h with
 | nil=>intro v hv;cases hv
 | cons y t _ ih=>
  intro v hv;rcases Qq1.mp hv with rfl|hv
  ·exact⟨y,t,rfl,Qqv⟩
  ·obtain⟨x,t,e,m⟩:=ih v hv;exact⟨x,t,e,Qqk _ m⟩
def Rq{vs:List Value}{ss:List Int}(h:IntsAre vs ss):∀x∈ss,∃t,Value.int x t∈vs:=by
 induction h with
 | nil=>intro x hx;cases hx
 | cons y t _ ih=>
  intro x hx;rcases Qq1.mp hx with rfl|hx
  ·exact⟨t,Qqv⟩
  ·obtain⟨t,m⟩:=ih x hx;exact⟨t,Qqk _ m⟩
def ints_app{vs us:List Value}{ss rs:List Int}(h:IntsAre vs ss)(g:IntsAre us rs):IntsAre (vs++us) (ss++rs):=by
 induction h with
 | nil=>exact g
 | cons y t _ ih=>exact .cons y t ih
def Eh{vs us:List Value}(p:us.Perm vs):∀{ss:List Int},IntsAre vs ss->∃rs,IntsAre us rs/\rs.Perm ss:=by
 induction p with
 | nil=>intro ss h;exact⟨ss,h,.rfl⟩
 | cons x _ ih=>
  intro ss h;cases h with
  | cons y t h=>
   obtain⟨rs,h1,h2⟩:=ih h;exact⟨y::rs,.cons y t h1,h2.cons y⟩
 | swap x y l=>
  intro ss h;cases h with
  | cons a t h=>cases h with
   | cons b u h=>exact⟨b::a::_,.cons b u (.cons a t h),.swap _ _ _⟩
 | trans _ _ ih1 ih2=>
  intro ss h;obtain⟨rs,h1,h2⟩:=ih2 h;obtain⟨qs,h3,h4⟩:=ih1 h1;exact⟨qs,h3,h4.trans h2⟩
def TOk.size{P:Program}{w:World}{es:Array (Int×Value)}{t:SetTable}{ys:List Int}(x:TOk P w es t ys):es.size=ys.length:=by obtain⟨ss,h1,h2⟩:=x.tx;rw[<-h2.length_eq,<-JB h1,Qqx,Qz2]
section
variable{P:Program}{w:World}{A:Around}{E:Value->Shared->Prop}{s:Shared}{a:Addr}
def store{o:Obj}{es es':Array (Int×Value)}{ep:Nat}{t t':SetTable}{ys:List Int}{Q:Unit->Shared->Prop}(ho:s.heap.get? a=some o)(hx:o.ExactSet)(hd:o.data = .set es ep t)(k:TOk P w es' t' ys)(hz:ys.length<scanBound)
  (h:∀g o',Heap.SameBut a s.heap g->g.get? a=some o'->o'.ExactSet->o'.data = .set es' (ep+1) t'->Q () { s with heap:=g }):wpAny (model P w) A (storeSet a es' t') Q E s:=by
 have hb:es'.size<scanBound:=by rw[k.size];exact hz
 refine wpAny_storeSet_of ho hd ?_ (fits_of_scanBound hb);have e:=Heap.get?_update_self (Obj.putSet es' t') ho (by rw[putSet_of es' t' hd];rfl);rw[putSet_of es' t' hd] at e;exact h _ _ (Heap.SameBut.update s.heap a _) e hx rfl
def R4{k:Int}{tk:Tok}{o:Obj}{es:Array (Int×Value)}{ep:Nat}{t:SetTable}{ys:List Int}{Q:Bool->Shared->Prop}(ho:s.heap.get? a=some o)(hx:o.ExactSet)(hd:o.data = .set es ep t)(x:TOk P w es t ys)(hz:ys.length+1<scanBound)
  (h:∀g b,Heap.SameBut a s.heap g->uQ P w g a (Ci ys k)->Q b { s with heap:=g }):wpAny (model P w) A (setAddHashed a (.int k tk) ((intKind P w).hash k)) Q E s:=by
 have hk:(intKind P w).is k (.int k tk)=true:=intKind_is P w k tk;have hsc:(Value.int k tk).scannable=true:=rfl;have hb:es.size<scanBound:=by rw[x.size];omega
 unfold setAddHashed setAddHashedIn;refine Qz4 (Qqq (wpAny_setState_of ho hd x.fit ?_));dsimp only;rw[if_pos (byScan_of hsc hb x.el)];unfold setAddByScan;refine Qqq (Qqq (wpAny_rule (Qqq (wpAny_setScan_of hk ho hd x.fit x.el ?_))));obtain⟨ss,s1,s2⟩:=x.tx;cases hr:es.toList.findIdx? (λe=>(intKind P w).is k e.2) with
 | some j=>
  dsimp only;obtain⟨hj,hpj,_⟩:=List.findIdx?_eq_some_iff_getElem.mp hr;refine Qq2 (Qq2 ?_);have hm:k∈ys:=by obtain⟨y,u,e1,e2⟩:=V4 s1 (es.toList[j].2) (Qwy.mpr ⟨_,Qzv hj,rfl⟩);rw[e1] at hpj;have:k=y:=(intKind P w).inj _ _ _ hpj (intKind_is P w y u);subst this;exact s2.mem_iff.mp e2
  have:=h s.heap false (Heap.SameBut.refl a s.heap) (by rw[Ci,if_pos hm];exact⟨o,es,ep,t,ho,hx,hd,x⟩);cases s;exact this
 | none=>
  dsimp only;have hm:k ∉ ys:=λz=>by
   obtain⟨u,hu⟩:=Rq s1 k (s2.mem_iff.mpr z);obtain⟨e,he,e2⟩:=Qwy.mp hu;have:=List.findIdx?_eq_none_iff.mp hr e he;rw[e2,intKind_is] at this;cases this
  have hp:=layNew_perm t es ((intKind P w).hash k) (.int k tk);have hf:=layNew_fits t es ((intKind P w).hash k) (.int k tk);have hl:=zA t es ((intKind P w).hash k) (.int k tk);have hpp:=x.pl.lay es ((intKind P w).hash k) (.int k tk);generalize layNew t es ((intKind P w).hash k) (.int k tk)=L at hp hf hl hpp ⊢;obtain⟨e1,t1,wd,gv⟩:=L;dsimp only at hp hf hl hpp ⊢;rw[Array.toList_push] at hp;have hel:ElemsOf (intKind P w) e1.toList:=(x.el.push hk hsc).perm hp;have htx:∃ss:List Int,IntsAre (e1.toList.map (·.2)) ss/\ss.Perm (ys++[k]):=by have h1:=ints_app s1 (.cons k tk .nil);obtain⟨rs,h2,h3⟩:=Eh (hp.map (·.2)) (by rw[Qw6];exact h1);exact⟨rs,h2,h3.trans (s2.append_right [k])⟩
  have hxy:Ci ys k=ys++[k]:=by rw[Ci,if_neg hm]
  have hyz:(ys++[k]).length<scanBound:=by rw[Qqj];exact hz
  refine Qqq (zT _ ?_)
  /- the table that is laid down -/
  have hend:∀t2:SetTable,t2.fits e1.size=true->t2.led=led w->Pl t2->wpAny (model P w) A (do
    storeSet a e1 t2
    if (!wd&&t2.tooFull)=true then do
      (match (relayAll t2 e1 (SetTable.grown e1.size)).2.2 with|true=>rule "set.scan.the-table-gave-way" | false=>pure ())
      storeSet a (relayAll t2 e1 (SetTable.grown e1.size)).1 (relayAll t2 e1 (SetTable.grown e1.size)).2.1
      pure (some true)
     else pure (some true)) (λr s'=>wpAny (model P w) A (match r with|some added=>pure added|none=>setAddHashedIn a (.int k tk) ((intKind P w).hash k) 99999) Q E s') E s:=by
   intro t2 f2 l2 p2;have k2:TOk P w e1 t2 (ys++[k]):=⟨hel,htx,f2,l2,p2⟩;refine Qqq (store ho hx hd k2 hyz λg o1 sb go gx gd=>?_);split
   ·have rp:=relayAll_perm t2 e1 (SetTable.grown e1.size);have rf:=relayAll_fits t2 e1 (SetTable.grown e1.size);have rl:=sW t2 e1 (SetTable.grown e1.size);have rq:=Pl.aeS (t:=t2) e1 (SetTable.grown e1.size);generalize relayAll t2 e1 (SetTable.grown e1.size)=L at rp rf rl rq ⊢;obtain⟨e3,t3,gv3⟩:=L;dsimp only at rp rf rl rq ⊢;obtain⟨r1,q1,q2⟩:=htx;obtain⟨rs,h2,h3⟩:=Eh (rp.map (·.2)) q1;have k3:TOk P w e3 t3 (ys++[k]):=⟨hel.perm rp,⟨rs,h2,h3.trans q2⟩,rf,rl.1.trans l2,rq⟩;refine Qqq (zT _ ?_);refine Qqq (store (s:={ s with heap:=g }) go gx gd k3 hyz λg2 o2 sb2 go2 gx2 gd2=>?_);refine Qq2 (Qq2 ?_);exact h g2 true (sb.trans sb2) (by rw[hxy];exact⟨o2,_,_,_,go2,gx2,gd2,k3⟩)
   ·refine Qq2 (Qq2 ?_);exact h g true sb (by rw[hxy];exact⟨o1,_,_,_,go,gx,gd,k2⟩)
  split
  ·rename_i hpl;refine Qqq ?_;rw[hashByValue_scannable 8 hsc];refine Qq2 ?_;exact hend _ (by split;exact hf;exact SetTable.fits_plain_off hf) (by split<;>exact hl.1.trans x.ld) (by split;exact hpp;exact⟨hpp.dm,hpp.ri⟩)
  ·rename_i hpl;refine Qqq (Qq2 ?_);simp only[↓reduceIte];exact hend _ hf (hl.1.trans x.ld) hpp
def seen(val:Nat->Int)(i:Nat):List Int:=((List.range i).map val).foldl Ci []
def QD(val:Nat->Int)(i:Nat):seen val (i+1)=Ci (seen val i) (val i):=by
 unfold seen;rw[List.range_succ,Qw6,List.foldl_append]
 rfl
def Tp(val:Nat->Int)(i:Nat):(seen val i).length<=i:=by
 have:=qU ((List.range i).map val) []
 simpa[seen] using this
def fill{R:Result->Shared->Prop}{I:Addr}{fp wr:List Addr}{G:Array GenState->Array GenState->Prop}{n:Nat}{Pi:Nat->Value->Prop}{St:Nat->Shared->Prop}(W:WalksS P w A.in1 I fp wr G n Pi St){a:Addr}(ha:a ∉ fp){val:Nat->Int}
  (hv:∀i v,Pi i v->∃t,v = .int (val i) t) (hb:n+1<scanBound) (d:Nat):∀(i:Nat) (s:Shared),i+d=n->St i s->uQ P w s.heap a (seen val i)->(∀s',Moved (a::wr) G s s'->uQ P w s'.heap a (seen val n)->R (.ok (.ret .none)) s')->
  codeAny (model P w) A (.builtin "set.update.loop" ⟨[.ref a,.ref I],[]⟩) R s:=by
 have hw:a ∉ wr:=λz=>ha (W.sub _ z);have up:∀b∈wr,b∈a::wr:=λb z=>Qqk _ z
 induction d with
 | zero=>
  intro i s e st x hR;obtain rfl:i=n:=e;refine codeAny_builtin PyProof.Rows.F.entry_set_update_loop ?_;rw[Around.under_plainId PyProof.Rows.F.plain_set_update_loop _];show wpAny _ _ (pyNext (.ref I) >>= _) _ _ _;refine Qqq (W.done s _ _ st λs' m=>?_);show wpAny _ _ (ret .none) _ _ _;exact Qq2 (hR s' (m.mono up) (x.keep λo z=>m.heap a o hw z))
 | succ d ih=>
  intro i s e st x hR;refine codeAny_builtin PyProof.Rows.F.entry_set_update_loop ?_;rw[Around.under_plainId PyProof.Rows.F.plain_set_update_loop _];show wpAny _ _ (pyNext (.ref I) >>= _) _ _ _;refine Qqq (W.item i s _ _ (by omega) st λv s' pv st' m=>?_);obtain⟨t,rfl⟩:=hv i v pv;show wpAny _ _ (holding _ (setAdd a _) >>= _) _ _ _;unfold setAdd;refine Qqq (Qz4 (Qz4 (Qqq ((intKind P w).pyHash (intKind_is P w (val i) t) ?_))));obtain⟨o,es,ep,tb,ho,hx,hd,k⟩:=x.keep λo z=>m.heap a o hw z;refine R4 (s:={ s' with toks:=s'.toks+1 }) ho hx hd k (by have:=Tp val i;omega) λg b sb y=>?_;rw[<-QD] at y;refine Qq2 ⟨plainId_quiet PyProof.Rows.F.plain_set_update_loop _,ih (i+1) _ (by omega) (W.frame _ s' _ _ st' (Qvx _) λc hc u z=>?_) y λs2 m2 x2=>?_⟩
  ·exact(sb.2 c (λq=>ha (q ▸ hc))).trans z
  ·refine hR s2 (Moved.trans W.gtrans ((m.mono up).then_heap (Qvx _) λc u hc z=>?_) m2) x2;exact(sb.2 c (λq=>hc (q ▸ Qqv))).trans z
def Wj(h:Heap){a:Addr}(e:h.get? a=some (fresh w)):uQ P w h a []:=
 ⟨_, #[],0,_,e,⟨rfl,rfl,rfl⟩,rfl,⟨λ_ z=>by simp at z,⟨[],.nil,.rfl⟩,rfl,rfl,⟨rfl,λi j _ h=>absurd h (Qk1 _)⟩⟩⟩
def abP{l:Addr}{its:Array Value}{zs:List Int}{Q:Value->Shared->Prop}(hh:A.handled=none)(hl:s.heap.IsList l its)(hi:IntsAre its.toList zs)(hb:zs.length+1<scanBound)
  (h:∀(g:Heap) (tk:Nat),uQ P w g s.heap.objs.size (qW zs)->(∀b o,s.heap.get? b=some o->g.get? b=some o)->Q (.ref s.heap.objs.size) { s with heap:=g,toks:=tk }) :
  wpAny (model P w) A (call (.type "set") [.ref l]) Q E s:=by
 obtain⟨c,tl,mro⟩:=PySem.F.called_set.mro;have made:=PySem.F.called_set.made;have sub:=PySem.F.called_set.sub;refine wpAny_call (codeAny_of_tree ?_);show wpAny _ _ (callAny (.type "set") _) _ _ _;refine Qq2 ⟨Code.quiet_builtin _ (by decide +kernel),codeAny_builtin PySem.F.entry_type_call ?_⟩;rw[Around.under_plain (weight_type_call_type "set" [.ref l] []) rfl];have c1:=PySem.F.called_set.notType;have c2:=PySem.F.called_set.canCreate;have c3:=PySem.F.typeCall_set_1 (.ref l)
 repeat (any_goals (first|assumption|wp_step))
 refine codeAny_mono (zx (.ref l) (E:=E) (Q:=λv s1=>v = .ref s.heap.objs.size/\s1 = { s with heap:=s.heap.push (fresh w) }) ⟨rfl,rfl⟩) λr s1 hr=>?_;have hlen:its.size=zs.length:=by rw[<-Qz2];exact JB hi
 cases r with
 | error e=>exact hr
 | ok fl=>
  cases fl with
  | ret v=>
   obtain⟨rfl,rfl⟩:=hr;have e0:(s.heap.push (fresh w)).get? s.heap.objs.size=some (fresh w):=Qwj _ rfl;have hT:Shared.TypeIs { s with heap:=s.heap.push (fresh w) } (.ref s.heap.objs.size) "set":=⟨_,e0,rfl⟩;have c4:=PySem.F.called_set.init.lookup;have c5:=PySem.F.called_set.init.bind (.ref s.heap.objs.size)
   repeat (any_goals (first|assumption|wp_step))
   refine codeAny_mono (codeAny_call_builtin (R:=wants (λr s2=>r = .none/\∃g tk,s2 = { s with heap:=g,toks:=tk }/\uQ P w g s.heap.objs.size (qW zs)/\(∀b o,s.heap.get? b=some o->g.get? b=some o)) E)
    PySem.F.called_set.init.plain PySem.F.entry_set_init (check_set_init_1 hT ?_)) λr2 s2 hr2=>?_
   ·obtain⟨ol,hol,hcl,nl,hdl⟩:=hl;obtain⟨ocls,odict,odata,oslots⟩:=ol;simp only at hcl hdl;subst hcl;subst hdl;have hol':(s.heap.push (fresh w)).get? l=some { cls:=.type "list",dict:=odict,data:=.seq its nl,slots:=oslots }:=Qqz _ hol;have l1:(s.heap.push (fresh w)).IsList l its:=⟨_,hol',rfl,nl,rfl⟩;have n1:=PySem.F.sub_list_set;have n2:=PySem.F.sub_list_frozenset;have n3:(Value.type "list" == Value.type "dict")=false:=by decide
    have e1:(s.heap.push (fresh w)).get? s.heap.objs.size=some { cls:=.type "set",dict:=none,data:=.set #[] 0 (.fresh 0 0 (led w)) }:=e0;unfold Builtin.«set.__init__» noKeywords Builtin.Frozenset.updateFrom;generalize hPI:pyIter=PI
    wp_walk
    subst hPI;refine wpAny_pyIter_list l1 (Qqq (wpAny_runValue ?_));have lt:l<s.heap.objs.size:=Qwz hol;have sz:(s.heap.push (fresh w)).objs.size=s.heap.objs.size+1:=Qx3 _ _;have hh3:A.in1.in1.in1.handled=none:=by simp[hh]
    have a1:l≠(s.heap.push (fresh w)).objs.size:=by rw[sz];exact Qw9 (Qvv lt)
    have a2:s.heap.objs.size ∉ [(s.heap.push (fresh w)).objs.size,l]:=by rw[sz];simp only[Qq1,Qwk,Qx6,not_or];exact⟨Qw9 (Nat.lt_succ_self _),Qz0 lt⟩
    have hv:∀(i:Nat) (v:Value),its[i]? = some v->∃t,v = .int (zs.getD i 0) t:=by
     have:∀{vs:List Value} {ss:List Int},IntsAre vs ss->∀(i:Nat) (v:Value),vs[i]? = some v->∃t,v = .int (ss.getD i 0) t:=by
      intro vs ss q
      induction q with
      | nil=>intro i v z;simp at z
      | cons y t _ ih=>
       intro i v z;cases i with
       | zero=>simp at z;exact⟨t,z.symm⟩
       | succ i=>simpa using ih i v (by simpa using z)
     exact λi v z=>this hi i v (by rw[Qkj];exact z)
    refine fill ((Walks.list hh3 _ l a1 its).toS) a2 (val:=λi=>zs.getD i 0) hv (by omega) its.size 0 _ (by omega) ⟨⟨_,Qwj _ rfl,rfl,rfl⟩,l1.push _⟩ (Wj _ (Qqz _ e0)) λs' m x=>?_;have es:seen (λi=>zs.getD i 0) its.size=qW zs:=by
     unfold seen qW
     congr 1
     rw[hlen];apply List.ext_getElem
     ·simp
     ·intro i h1 h2;simp[Qq7,h2]
    rw[es] at x;obtain⟨g,gn,dr,tk,os⟩:=s';have q1:gn=s.gens:=m.gens;have q2:dr=s.drawn:=m.drawn;have q3:os=s.os:=m.os;subst q1 q2 q3;refine Qq2 ?_;show wpAny _ _ (ret .none) _ _ _;refine Qq2 ⟨rfl,g,tk,rfl,x,λb o e=>?_⟩;have hb1:b<s.heap.objs.size:=Qwz e;refine m.heap b o ?_ (Qqz _ (Qqz _ e));rw[sz];simp only[Qq1,Qwk,Qx6,not_or];exact⟨Qw9 hb1,Qw9 (Qvv hb1)⟩
   ·cases r2 with
    | error e=>exact hr2
    | ok fl2=>
     cases fl2 with
     | ret r=>
      obtain⟨rfl,g,tk,rfl,x,k⟩:=hr2
      repeat (any_goals (first|assumption|wp_step))
      exact h _ _ x k
     | _=>exact hr2.elim
  | _=>exact hr.elim
end
open PySem PySem.Spec PyProof.Rows L2 PySem.Builtin Ev
def Xc(P:Program)(w:World)(a:Addr)(ys:List Int):HO:=.ext λh=>uQ P w h a ys
end SI
namespace Ev
open PySem PySem.Spec PyProof.Rows L2 PySem.Builtin
def Bl:List D->Option (List Int)
 | []=>some []
 | .int i::ds=>(Bl ds).map (i :: ·)
 | _=>none
theorem JC:∀zs:List Int,Bl (zs.map .int)=some zs
 | []=>rfl
 | z::zs=>by show(Bl (zs.map .int)).map _=_;rw[JC zs];rfl
theorem Ak{K:Fg}{F:Hp}:∀{ds:List D} {zs:List Int} {vs:List V},Bl ds=some zs->bU K F ds vs->vs=zs.map V.int
 | [],zs,vs,e,h=>by cases e;cases h;rfl
 | d::ds,zs,vs,e,h=>by
  cases d with
  | int i=>
   obtain⟨ys,e1,rfl⟩:=Qq6.mp (show(Bl ds).map (i :: ·)=some zs from e);obtain⟨v,r,rfl,h1,h2⟩:=h;cases h1;rw[Ak e1 h2]
   rfl
  | _=>cases e
instance (zs:List Int):Decidable (zs.Pairwise (·< ·)):=inferInstance
open PySem PySem.Spec PyProof.Rows L2
def Tg(i:Nat)(a:Ev):cu:=λenv=>match env[i]? with
 | some (some (false,.int k))=>iW (a env) λd aL=>(match d with
  | .int j=>.nx (aL.set i (some (false,.int (k+j))))
  | _=>.stuck)
 | _=>.stuck
section
variable{X:Cx}{C:Cfg}{pos pos':Pos}{x:Str}{e:Expr}{a:Ev}{T:Hp}{p:Pos}{n:Str}{es:List Expr}{ea:dI}
def abT(i:Nat)(he:SX X C e a)(hnd:nC X.N=true:=by rfl)(hfx:C.fx i=none:=by rfl)(hi:X.N[i]? = some n:=by rfl)(hx:Loc X.env.scope n:=by first|exact Or.inl rfl|exact Or.inr rfl)
  (hf:X.fn n=true\/X.env.scope.names.lookup n=some .local:=by first|exact .inl rfl|exact .inr rfl):Kq X C (.AugAssign (.Name n pos') .Add e pos) (Tg i a):=⟨(acd (jK hnd) hi hx he.u adk hf).imp λD σ H h=>by
  obtain⟨Pr,F,env,r,f⟩:=h;unfold Tg at f;split at f
  ·rename_i k h0;obtain⟨d,aL,e1,f1⟩:=dF f;split at f1
   ·rename_i j;obtain⟨v,h1,h2⟩:=r.val i _ h0;cases h2;exact⟨_,h1,Pr,F,env,aL,.int j,r,e1,λv2 H1 F1 r1 s1 p1=>⟨k,j,rfl,p1,f1 _ H1 F1 (r1.put hfx rfl) s1⟩⟩
   ·exact f1.elim
  ·exact f.elim⟩
end
section
variable{P:Program}{w:World}{A:Around}{E:Value->Shared->Prop}{s:Shared}{it d:Addr}{es:Array DictEntry}{ep i:Nat}
def aap(h:Heap)(d:Addr)(es:Array DictEntry)(ep:Nat):Prop:=∃o,h.get? d=some o/\o.ExactDict/\o.data = .dict es ep
def aap.ty(r:aap s.heap d es ep):s.TypeIs (.ref d) "dict":=let ⟨o,ho,hc,_⟩:=r;⟨o,ho,hc.1⟩
end
end Ev
namespace SI
open PySem PySem.Spec PyProof.Rows L2 PySem.Builtin
def Ob(X:Cx):List V->Hp->VK->Prop:=λxs H Q=>∃(p:Addr) (zs:List Int),xs=[.ref p]/\ju X.K H p (zs.map V.int)/\zs.length<4000/\∀l,H l=none->Q (.ref l) (upd H l (Xc X.prog X.w l (qW zs)))
def aaM(X:Cx):List V->Hp->VK->Prop:=λxs H Q=>∃(p:Addr) (zs:List Int),xs=[.ref p]/\H p=some (Xc X.prog X.w p zs)/\zs.length<4000/\Q (.int zs.length) H
section
variable{X:Cx}{C:Cfg}{pos:Pos}
def RT(hc:X.calm=true):jg X (.type "set") (Ob X):=by intro pins s σ H xs us Q I r h;obtain⟨p,zs,rfl,hq,hz,q⟩:=h;obtain⟨u,rfl,rx⟩:=vals1 r;cases rx;obtain⟨its,r',pl,_⟩:=I.list hq;have hS:IntsAre its zs:=intsAre_of r';refine abP (I.ok.hd hc) pl.isList (zs:=zs) (by simpa using hS) (Qw4 (Nat.succ_le_of_lt hz) (by decide)) λg tk x k=>?_;refine⟨.ref s.heap.objs.size,_,I.laid (t':=tk) k (Qq0 _) (o:=Xc X.prog X.w s.heap.objs.size (qW zs)) ⟨x,?_,λh1 h2 y kk=>y.keep kk⟩,rfl,q _ (I.hok.fresh (Qq0 _))⟩;obtain⟨o,_,_,_,e,_⟩:=x;exact⟨o,e⟩
def RX:jg X (.builtin "len") (aaM X):=by intro pins s σ H xs us Q I r h;obtain⟨p,zs,rfl,hq,hz,q⟩:=h;obtain⟨u,rfl,rx⟩:=vals1 r;cases rx;have x:uQ X.prog X.w s.heap p zs:=(I.hok p _ hq).1;obtain⟨o,es,ep,t,e1,e2,e3,k⟩:=x;have hsz:es.size=zs.length:=k.size;refine call_len_set e1 e2 e3 k.fit (by rw[hsz];omega) ⟨.int zs.length,H,I.tok _,⟨s.toks+1,by rw[hsz]⟩,q⟩
end
end SI
namespace Ev
open PySem PySem.Spec PyProof.Rows L2 PySem.Builtin
noncomputable def j0:D->Option D
 | .lst ds=>(Bl ds).bind λzs=>if zs.length<4000 then some (.int (SI.qW zs).length) else none
 | _=>none
section
variable{X:Cx}{C:Cfg}{pos p p2 pos2:Pos}{e:Expr}{a:Ev}
def Sx(G:Good X C)(h1:X.mg "len" = none)(h2:X.mg "set" = none)(ha:PX X C e a)(g1:Gl X "len":=by rfl)(g2:Gl X "set":=by rfl)
  (he:Dy e X.env:=by rfl)
  (he2:starEach [.Call (.Name "set" p2) [e] [] pos2] X.env=(false,eval (.Call (.Name "set" p2) [e] [] pos2) X.env)::starEach [] X.env:=by rfl) :
  PX X C (.Call (.Name "len" p) [.Call (.Name "set" p2) [e] [] pos2] [] pos) (wg j0 a):=by
 have i1:PE X (.Call (.Name "set" p2) [e] [] pos2) _:=DR (T:="set") (SI.RT G.calm) g2 h2 (by decide +kernel) (lF ha rG he) (by decide) (by decide) he rfl;have i2:PE X (.Call (.Name "len" p) [.Call (.Name "set" p2) [e] [] pos2] [] pos) _:=Jc SI.RX g1 h1 (by decide +kernel) (lF i1 rG he2) (by decide) (by decide) he2 rfl;refine i2.imp λσ H Q hq=>?_;obtain⟨Pr,F,env,env',d,r,e0,q⟩:=hq;obtain⟨x,aL,e1,e2⟩:=bf e0;obtain⟨e3,rfl⟩:=fD e2;refine⟨Pr,F,env,env',x,r,e1,λv H1 F1 r1 s1 p1=>?_⟩;unfold j0 at e3;split at e3
 ·rename_i ds;obtain⟨zs,e4,e5⟩:=Qx1.mp e3;split at e5
  ·rename_i hz;cases e5;obtain⟨z,b,ws,rfl,k1,k2⟩:=gD.lst (K:=C.K) r1.fr (.inl p1);have e6:=Ak e4 k2;subst e6;show SI.Ob X [.ref b] H1 λx H2=>SI.aaM X [x] H2 Q;refine⟨b,zs,rfl,ju.of k1,hz,λl hl=>?_⟩;have r2:=r1.fresh (o:=SI.Xc X.prog X.w l (SI.qW zs)) hl;have hu:(SI.qW zs).length<4000:=by have:=SI.qU zs [];rw[Qx2] at this;unfold SI.qW;omega
   exact⟨l,SI.qW zs,rfl,bh,hu,q _ _ _ r2 s1 rfl⟩
  ·cases e5
 ·cases e3
end
variable{X:Cx}{C:Cfg}{pos p p2 pos2:Pos}{e:Expr}{a:Ev}
def Dn(G:Good X C)(h1:X.mg "len" = none)(h2:X.mg "set" = none)(ha:SX X C e a)(g1:Gl X "len":=by rfl)(g2:Gl X "set":=by rfl)
  (he:Dy e X.env:=by rfl)
  (he2:starEach [.Call (.Name "set" p2) [e] [] pos2] X.env=(false,eval (.Call (.Name "set" p2) [e] [] pos2) X.env)::starEach [] X.env:=by rfl) :
  SX X C (.Call (.Name "len" p) [.Call (.Name "set" p2) [e] [] pos2] [] pos) (wg j0 a):=⟨Ev.Sx G h1 h2 ha.u g1 g2 he he2⟩
open PySem PySem.Spec PyProof.Rows L2
section
variable{P:Program}{w:World}{A:Around}{E:Value->Shared->Prop}{s:Shared}{d:Addr}{es:Array DictEntry}{ep:Nat}{X:Cx}{C:Cfg}{e:Expr}{ea:dI}{p pos:Pos}
def TX(lo:(d == sysModules)=false):MeetsIn P w (Builtin.«dict.__len__» ⟨[.ref d],[]⟩) (λ_ R s=>∃es ep,aap s.heap d es ep/\R (.ok (.ret (.int es.size s.toks))) { s with toks:=s.toks+1 }):=
 .of_wp λA R s ⟨es,ep,⟨o,ho,_,hdat⟩,h⟩=>by
  show wpAny _ _ (dictSize d >>= _) _ _ _;unfold dictSize;refine Qqq (Qqq (wpAny_dictEntries ho hdat (Qq2 ?_)));show wpAny _ _ (Builtin.Dict.pendingCount d >>= _) _ _ _;exact Qqq (wpAny_pendingCount_other lo (wpAny_ret_mkInt (by rw[Nat.add_zero];exact h)))
def Yg{Q:Value->Shared->Prop}(lo:(d == sysModules)=false)(r:aap s.heap d es ep)(hz:es.size<=sizeLine)(h:Q (.int es.size (s.toks+1)) { s with toks:=s.toks+1+1 }):wpAny (model P w) A (call (.builtin "len") [.ref d]) Q E s:=by
 have hf:(es.size:Int)<2^63:=by rw[sizeLine_eq] at hz;omega
 refine Calls.call_function_entry kind_len plain_len entry_len (args_len1 _) ?_;unfold Builtin.«len»;refine Qqq (m:=oneArg "len" _) (Qq2 (Qqq (m:=callSpecial? (.ref d) (Str.ofString "__len__")) (Qz5 (name:=Str.ofString "__len__") r.ty F.slot_dict_len (call_meetsIn F.slot_dict_len r.ty F.entry_dict_len (F.args_dict_len_1 _) (TX lo) ⟨es,ep,r,?_⟩))));show wpAny _ _ _ _ _ { s with toks:=s.toks+1 };refine Qqq (Qz4 (Qq2 (Qqq (wpAny_letGo ?_))));show wpAny _ _ (if ((es.size:Nat):Int)<0 then _ else _) _ _ _;rw[if_neg (by omega)];show wpAny _ _ (if ((es.size:Nat):Int) ≥ 2^63 then _ else _) _ _ _;rw[if_neg (by omega)];exact Qqq (wpAny_mkInt (Qq2 ⟨_,rfl,h⟩))
abbrev T6(K:Fg):List V->Hp->VK->Prop:=λxs H Q=>∃p ks kvs,xs=[.ref p]/\Rd H p (.dN ks)/\cW K H kvs ks/\Q (.int ks.length) H
def RZ:jg X (.builtin "len") (T6 X.K):=by
 intro pins s σ H xs us Q I r h;obtain⟨p,ks,kvs,rfl,hq,hr,q⟩:=h;obtain⟨u,rfl,rx⟩:=vals1 r;cases rx;obtain⟨z,lo,xs,kn,o,es,ep,h1,h2,h3,h4,_,_⟩:=Es I hq hr;have hsz:es.size=ks.length:=by rw[<-Qz2,h4,Qqx,kn.len]
 exact Yg lo ⟨o,h1,h2,h3⟩ (by rw[hsz];exact z) ⟨.int ks.length,H,I.tok _,⟨s.toks+1,by rw[hsz]⟩,q⟩
def JM:List D->Option D
 | [.gC kvs]=>some (.int kvs.length)
 | _=>none
def aaa:CallD C (T6 C.K) JM:=by
 intro Pr F env σ H ds d vs Q r hs h q;unfold JM at h;split at h
 ·rename_i kvs;cases h;obtain⟨v,rfl,hv⟩:=mJ hs;obtain⟨_,a,ks,rfl,h1,h2⟩:=hv.gC r.fr;refine⟨a,ks,kvs,rfl,h1,cW.mono r.fr _ _ h2,?_⟩;rw[h2.len];exact q _ H F r (aR.refl F) rfl
 ·cases h
def Xw(G:Good X C)(hm:X.mg "len" = none)(ha:xY X C [e] ea)(hg:Gl X "len":=by rfl)(he:Dy e X.env:=by rfl):SX X C (.Call (.Name "len" p) [e] [] pos) (au JM ea):=⟨nu (r:=T6 C.K) (by rw[<-G.K];exact RZ) aaa hg hm (by decide +kernel) ha.u (by decide) (by decide) he rfl⟩
end
def zN(k a:Ev):Ev:=λenv=>bindR (k env) λkd e1=>bindR (a e1) λd e2=>match mD kd with
 | some _=>.ok (.dct [(kd,d)]) e2
 | none=>.stuck
section
variable{X:Cx}{C:Cfg}{pos:Pos}
def QW{k v:Expr}{ek ev:Ev}(G:Good X C)(hk:PX X C k ek)(hv:PX X C v ev):R6 X C (.Dict [some k] [v] pos) (zN ek ev):=by
 have h0:PE X (.Dict [some k] [v] pos) (aaH [(_,_)]):=YM (UT hk hv Yy) rfl rfl (by simp) (by show 1<=15;decide);refine h0.imp λσ H Q hq=>?_;obtain⟨Pr,F,env,env',d,r,e,q⟩:=hq;obtain⟨kd,aL,e1,e2⟩:=bf e;obtain⟨dv,dX,e3,e4⟩:=bf e2;split at e4
 ·rename_i qq hqq;cases e4;intro p hp;have ra:=r.aside (o:=.dK []) hp;have nP:Pr p=none:=r.pr.free hp;refine⟨upd Pr p (.dK []),F,env,aL,kd,ra,e1,λx H1 F1 r1 s1 p1=>⟨upd Pr p (.dK []),F1,aL,env',dv,r1,e3,λy H2 F2 r2 s2 p2=>⟨r2.pr p _ bh,[(qq,y)],by rw[My hqq p1];rfl,by show 1<=15;decide,?_⟩⟩⟩;have em:xF [] [(qq,y)]=[(qq,y)]:=rfl;rw[em];have r3:=r2.turn (u:=.dK [(qq,y)]) bh;have nF:F2 p=none:=by
   cases hF:F2 p with
   | none=>rfl
   | some o=>have:=r2.dj p o hF;rw[bh] at this;cases this
  have r4:Rel C Pr F2 env' σ (upd H2 p (.dK [(qq,y)])):=r3.less λb o hb=>by
   have hne:b≠p:=λz=>by rw[z,nP] at hb;cases hb
   rw[bL hne,bL hne];exact hb
  refine q p _ F2 r4 (s1.trans s2) ⟨⟨by show 1<=sizeLine;decide,_,bh,⟨qq,y,[],rfl,hqq,p2,rfl⟩⟩,nF,nP,λj e he hs=>?_⟩;obtain⟨b,h1,_,_,h4⟩:=r2.own j e he;rw[hs] at h1;cases h1;rw[bh] at h4;cases h4
 ·cases e4
end
def Mf{X:Cx}{C:Cfg}{pos:Pos}{k v:Expr}{ek ev:Ev}(G:Good X C)(hk:SX X C k ek)(hv:SX X C v ev):Xd X C (.Dict [some k] [v] pos) (zN ek ev):=⟨Ev.QW G hk.u hv.u⟩
end Ev
namespace L2
open PySem PySem.Spec PyProof.Rows PySem.Builtin ZT
def abl(K:PySem.W.Frag)(a:Addr):It:=
 ⟨λi H=>∃xs x,ju K H a xs/\xs[i]? = some x,λi H v H'=>∃p x,(∀xs,ju K H a xs->xs[i]? = some x)/\H p=none/\H'=upd H p (.tup [.int i,x])/\v = .ref p,λi H=>∃xs,ju K H a xs/\i=xs.length⟩
theorem K8{P:Program}{w:World}{K:PySem.W.Frag}{elts:List Expr}{k:Nat}{pos:Pos}(e it a:Addr)(hei:e≠it)(hai:a≠it)(hae:a≠e) :
  Turn P w K (.Tuple elts k pos) (abl K a) [e,it] e (λi h=>(∃old,IsEnum h e it i old)/\h.IsListIter it a i) where
 mem:=by simp
 obj:=λi h st b hb=>by
  obtain⟨⟨old,he⟩,o,ho,hc,hd⟩:=st;rcases Qq1.mp hb with rfl|hb
  ·exact⟨_,he,λv z=>by cases z⟩
  ·rw[Qqy.mp hb];exact⟨o,ho,λv z=>by rw[hd] at z;cases z⟩
 keep:=λi h h' st kk=>by
  obtain⟨⟨old,he⟩,o,ho,r⟩:=st;exact⟨⟨old,kk e (by simp) _ he⟩,o,kk it (by simp) o ho,r⟩
 item:=by
  intro X hP hw hK hc i pins s σ H E I hf st hg;subst hP hw hK;obtain⟨⟨old,he⟩,hit⟩:=st;obtain⟨xs,x,hq,hx⟩:=hg;obtain⟨its,rv,pt,hz⟩:=I.list hq;obtain⟨u,hu,ru⟩:=rv.get hx;have lu:i<its.toArray.size:=by rw[Qq5];exact(Qq4.mp hu).1
  have D1:Draws X.prog X.w X.A.in1 it [it,a] _ _ _:=Draws.list (A:=X.A.in1) (show X.A.in1.handled=none from I.ok.hd hc) it a hai its.toArray;refine wpAny_pyNext_enum_itemD (A:=X.A) D1 he ⟨hit,pt.isList⟩ lu hei (by simp[hei,hae.symm]) λy h' tk hv ho hSt adu hsz hk=>?_;have ey:y=u:=by have:its.toArray[i]? = some y:=hv;rw[Qj1,hu] at this;exact(Qw2 this).symm
  subst ey;have hT:s.heap.objs.size<=s.heap.objs.size:=Qq0 _;have helt:e<s.heap.objs.size:=Qwz he;have hilt:it<s.heap.objs.size:=by obtain⟨_,x,_⟩:=hit;exact Qwz x
  have nT:H s.heap.objs.size=none:=I.hok.fresh hT;refine⟨_,rfl,?_⟩;refine wpAny_letOwnedTupleGo_enum (s:={ s with heap:=h',toks:=tk+1 }) ho λh'' adp hs''=>?_;have jo:∀b o,b≠e->h'.get? b=some o->h''.get? b=some o:=λb o hb q=>(hs''.2 b hb).trans q;have hnT:s.heap.objs.size ∉ [e,it]:=λhb=>by
   rcases Qq1.mp hb with z|hb
   ·exact Qz0 helt z
   ·exact Qz0 hilt (Qqy.mp hb)
  refine⟨.ref s.heap.objs.size,upd H s.heap.objs.size (.tup [.int i,x]),I.drawn (t':=tk+1) (ch:=[e,it]) hf (λb o hb q=>jo b o (λz=>hb (by simp[z])) (hk b o (λz=>hb (by simp[z])) (λz=>hb (by simp[z])) q)) hT ?_,rfl,⟨_,x,λzs hq2=>by rw[I.vL hq2 hq];exact hx,nT,rfl,rfl⟩,⟨⟨_,by simpa using adp⟩,?_⟩,λb hb=>?_⟩
  ·exact⟨by show 2<=sizeLine;decide,[.int i tk,y],.cons ⟨_,rfl⟩ (.cons ru .nil),_,jo _ _ (Qz0 helt) adu,rfl,⟨_,rfl⟩,rfl⟩
  ·obtain⟨⟨o,q,r⟩,_⟩:=hSt;exact⟨o,jo it o hei.symm q,r⟩
  ·have hne:b≠s.heap.objs.size:=λz=>by
    subst z;exact hnT hb
   rw[bL hne];exact(hf b hb).1
 done:=by
  intro X hP hw hK hc i pins s σ H E I hf st hg;subst hP hw hK;obtain⟨xs,hq,hi⟩:=hg;obtain⟨its,rv,pt,hz⟩:=I.list hq;have D1:Draws X.prog X.w X.A.in1 it [it,a] _ _ _:=Draws.list (A:=X.A.in1) (show X.A.in1.handled=none from I.ok.hd hc) it a hai its.toArray;obtain⟨⟨old,he⟩,hit⟩:=st;have hl:=rv.length;have ei:i=its.toArray.size:=by rw[Qq5,hi,hl]
  rw[ei] at he hit;exact wpAny_pyNext_enum_endD (A:=X.A) D1 he ⟨hit,pt.isList⟩ λh' eb=>⟨rfl,I.zf (t':=s.toks) (ch:=[e,it]) hf λb o hb q=>eb b o (λz=>hb (by simp[z])) q⟩
 self:=λA i s Q E st h=>by
  obtain⟨⟨old,he⟩,_⟩:=st;exact wpAny_pyIter_enum he h
section
variable{X:Cx}{tg:Expr}
def ado(K:PySem.W.Frag)(ta:TA):TI:=λσ H R=>ta σ H λvs H1=>∃a,vs=[.ref a]/\(∃xs,ju K H1 a xs)/\R (abl K a) H1
def U4{elts:List Expr}{k:Nat}{tp:Pos}{a:Expr}{ta:TA}{p pos:Pos}(hg:Gl X "enumerate")(hm:X.mg "enumerate" = none)(ha:PA X [a] ta)(hs:starEach [a] X.env=[(false,eval a X.env)]:=by rfl):PI X (.Tuple elts k tp) (.Call (.Name "enumerate" p) [a] [] pos) (ado X.K ta):=by
 intro pins s σ H R I h;refine Call_ (rO I hg hm PyProof.Rows.boot_enumerate (Qx8 (fL (ha pos pins s σ H _ I h) λus s1 ⟨vs,H1,I1,r1,q1⟩=>?_) hs rfl));have own:∀b ∈ [s1.heap.objs.size+1,s1.heap.objs.size],sO X pins H1 b:=λb hb=>by
  rcases Qq1.mp hb with rfl|hb
  ·exact I1.Gy (Qvx _) (I1.hok.fresh (Qvx _))
  ·rw[Qqy.mp hb];exact I1.Gy (Qq0 _) (I1.hok.fresh (Qq0 _))
 obtain⟨l,e,⟨xs,hl⟩,q⟩:=q1;subst e;cases r1 with
 | cons r rr=>
  cases rr;cases r;obtain⟨its,rv,pt,hz⟩:=I1.list hl;have ll:l<s1.heap.objs.size:=pt.lt;refine call_enumerate_list (show s1.heap.IsList l its.toArray from pt.isList) λh' he hit hsz hk=>?_;refine wpAny_pyIter_enum he ?_;have I2:Inv X pins σ H1 { s1 with heap:=h' }:=I1.kept (t':=s1.toks) hk;exact⟨s1.heap.objs.size+1,[s1.heap.objs.size+1,s1.heap.objs.size],_,_,H1,rfl,I2,K8 _ _ l (Nat.succ_ne_self _) (Qw9 ll) (Qw9 (Qvv ll)),⟨⟨_,he⟩,hit⟩,own,q⟩
end
end L2
namespace Ev
open PySem PySem.Spec PyProof.Rows L2 PySem.Builtin
section
variable{X:Cx}{C:Cfg}{pos:Pos}{e:Expr}
def zM(a:dI):dI:=λenv=>bindR (a env) λds aL=>match ds with
 | [.lst xs]=>.ok (Er xs) aL
 | _=>.stuck
def ZD{elts:List Expr}{k:Nat}{tp p:Pos}{ea:dI}(G:Good X C)(hm:X.mg "enumerate" = none)(ha:Kr X C [e] ea)(hg:Gl X "enumerate":=by rfl)(hs:starEach [e] X.env=[(false,eval e X.env)]:=by rfl):Sg X C (.Tuple elts k tp) (.Call (.Name "enumerate" p) [e] [] pos) (zM ea):=by
 have h:=U4 (k:=k) (tp:=tp) (elts:=elts) (p:=p) (pos:=pos) hg hm ha hs;rw[G.K] at h;refine h.imp λσ H R hq=>?_;obtain⟨Pr,F,env,env',ds,r,e,q⟩:=hq;obtain⟨as,aL,e1,e2⟩:=bf e;refine⟨Pr,F,env,aL,as,r,e1,λvs H1 F1 r1 s1 p1=>?_⟩;split at e2
 ·rename_i xs;cases e2;obtain⟨v,w,rfl,pv,p2⟩:=p1;cases p2;obtain⟨hz,a,us,rfl,h1,h2⟩:=pv;refine⟨a,rfl,⟨us,.inl (.inl (r1.fr _ _ h1))⟩,q _ H1 F1 r1 s1 λi H2 s2=>⟨λ_ ei=>?_,λd hd=>?_⟩⟩
  ·refine⟨us,(.inl (.inl (s2 _ _ h1))),?_⟩;rw[ei,h2.length];simp[Er]
  ·unfold Er at hd;rw[Qwv] at hd;obtain⟨⟨c,j⟩,hc,rfl⟩:=Qq6.mp hd;rw[List.getElem?_zipIdx] at hc;obtain⟨c',hc',h3⟩:=Qq6.mp hc;cases h3;obtain⟨u,hu,ru⟩:=h2.get hc';refine⟨⟨us,u,(.inl (.inl (s2 _ _ h1))),hu⟩,λy H3 hy=>.inr ?_⟩;obtain⟨p,x2,h3,h4,rfl,rfl⟩:=hy;have h5:=h3 us ((.inl (.inl (s2 _ _ h1))));rw[hu] at h5;cases h5;exact⟨p,_,_,h4,rfl,rfl,rfl,by show 2<=sizeLine;decide,_,_,rfl,by simp[Rep],_,_,rfl,ru,rfl⟩
 ·cases e2
def DN:R2:=λx y H Q=>∃a o,y = .ref a/\Dk H a x o/\Q (.bl (!o.isSome)) H
def Je(hu:X.A.units+1<cLine):ph X (compareOp .NotIn) DN:=by intro pins s σ H x y v u Q I rx ry h;obtain⟨a,o,rfl,g,q⟩:=h;cases ry;exact Z2 hu I g rx λs' I'=>⟨.bl (!o.isSome),H,I',rfl,q⟩
def pF(k y:D):Option D:=match y with
 | .dct kvs=>(mD k).map λq=>.bl (!(jQ kvs q).isSome)
 | _=>none
def Jf:qM C DN pF:=by
 intro Pr F env σ H x y d vx vy Q r px py e q;cases y with
 | dct kvs=>
  obtain⟨k,hk,rfl⟩:=Qq6.mp (show(mD x).map (λq=>D.bl (!(jQ kvs q).isSome))=some d from e);obtain⟨z,p,ks,rfl,h1,h2⟩:=py.dct r.fr;cases Gv hk px;refine⟨p,qR ks k,rfl,.inl ⟨ks,k,h1,rfl,rfl⟩,?_⟩;have e2:(qR ks k).isSome=(jQ kvs k).isSome:=by rcases h2.val k with ⟨g1,g2⟩|⟨d',v',g1,g2,_⟩<;>rw[g1,g2]<;>rfl
  rw[e2];exact q _ H F r (aR.refl F) rfl
 | _=>cases e
def M9(G:Good X C):Cm X C .NotIn pF:=⟨_,Je G.u1,Jf⟩
end
def V8{X:Cx}{C:Cfg}{pos:Pos}{e:Expr}{elts:List Expr}{k:Nat}{tp p:Pos}{ea:dI}(G:Good X C)(hm:X.mg "enumerate" = none)(ha:Kv X C [e] ea)(hg:Gl X "enumerate":=by rfl)(hs:starEach [e] X.env=[(false,eval e X.env)]:=by rfl):Xp X C (.Tuple elts k tp) (.Call (.Name "enumerate" p) [e] [] pos) (zM ea):=⟨Ev.ZD G hm ha.u hg hs⟩
def iz{g:D->D->Option D}{i:Nat}{b:Ev}{env e2:Env}{x y d:D}(h1:env[i]? = some (some (false,x)))(h2:b env = .ok y e2)(h4:e2[i]? = some (some (false,x)))(h3:g x y=some d):aB g i b env = .ok d e2:=xT h1 h2 h4 h3
def GQ{g:D->D->Option D}{i:Nat}{b:Ev}{env e2:Env}{x y d:D}(h1:env[i]? = some (some (true,x)))(h2:b env = .ok y e2)(h4:e2[i]? = some (some (true,x)))(h3:g x y=some d):aB g i b env = .ok d e2:=xT h1 h2 h4 h3
def mL{i:Nat}{a:Ev}{env e:Env}{d:D}{xs:List D}(h0:env[i]? = some (some (true,.lst xs)))(h1:a env = .ok d e)(h2:e[i]? = some (some (true,.lst xs)))(hz:xs.length<sizeLine):dw i a env = .nx (e.set i (some (true,.lst (xs++[d])))):=by unfold dw;rw[h0];simp only[h1,iW,h2,if_pos hz]
def wj{f:List D->Option (D×D)}{i:Nat}{a:dI}{env e1:Env}{ds:List D}{x d x':D}(h0:env[i]? = some (some (true,x)))(h1:a env = .ok ds e1)(h2:e1[i]? = some (some (true,x)))(h3:f (x::ds)=some (d,x')):di f i a env = .ok d (e1.set i (some (true,x'))):=qe h0 h1 h2 h3
def zz1:1<=sizeLine:=by decide
def zb:2<=sizeLine:=by decide
def zz3:3<=sizeLine:=by decide
def zz4:4<=sizeLine:=by decide
def zz5:5<=sizeLine:=by decide
def zz6:6<=sizeLine:=by decide
def zz7:7<=sizeLine:=by decide
end Ev
abbrev OD:=Option (Bool×Ev.D)
abbrev Zf(d:Ev.D):OD:=some (false,d)
abbrev Zt(d:Ev.D):OD:=some (true,d)
abbrev Zs(w:List Nat):OD:=some (false,.str w)
abbrev Zb(b:Bool):OD:=some (false,.bl b)
abbrev Zl(l:List Ev.D):OD:=some (true,.lst l)
abbrev Zv(i:Nat)(a:Ev.dI):Ev.dI:=Ev.aa (Ev.aM i) a
abbrev Zi(i:Int):Ev.Ev:=Ev.Ep (.int i)
abbrev Zw(w:List Nat):Ev.Ev:=Ev.Ep (.str w)
abbrev LD:=List Ev.D->Option Ev.D
abbrev Zn:OD:=none
abbrev Sd:List PySem.Str:=["states"]
abbrev Xo:List PySem.Str:=["rule","word"]
abbrev Zq2:List PySem.Str:=["stock","order"]
abbrev Zq3:List PySem.Str:=["_law_pack_here","_law_sounds_here"]
abbrev Zq4:List PySem.Str:=["order","standing"]
abbrev Zq5:List PySem.Str:=["order","word"]
abbrev Zq6:List PySem.Str:=["_law_pack_here","_law_sounds_here","_law_most"]
abbrev Zq7:List PySem.Str:=["rule","standing","sign"]
abbrev Zq8:List PySem.Str:=["order","standing","sound"]
abbrev Zq9:List PySem.Str:=["side","rule","word"]
abbrev aaj:List PySem.Str:=["_law_stock_here"]
abbrev aea:List PySem.Str:=["rule","standing","signs"]
abbrev ad9:List PySem.Str:=["stock","machine","side","word"]
abbrev ad8:List PySem.Str:=["_law_pack_here","_law_size"]
abbrev ad7:List PySem.Str:=["_law_sounds_here","_law_most"]
abbrev ad6:List PySem.Str:=["_law_pack_here","_law_stock_here","_law_one","_law_other"]
abbrev agn:List PySem.Str:=["rule","standing","sign","way","changes","left","right","near","held","put"]
abbrev agm:List PySem.Str:=["_law_script","_law_k","_law_pack_here","_law_stock_here","_law_sounds_here","_law_one","_law_more"]
namespace cR
open Ev
section
def rP:Ev:=d9 1 3 (dW (aM 0)) (bK 2 (aD (aj 1) (aD (aj 2) bN))) bZ (aM 1)
def sG:cu:=bI (au cI (aa (rP) ak))
def dZ:LD:=cN 1 sG
def o8:cu:=bI (GD (aB gIs 0 (Ep .non)) (aB gIn 1 (aV 0)))
def cX:LD:=cN 2 o8
def jt:cu:=aF (aQ (aM 0) (bK 4 (aD (aj 1) (aD (aj 2) (aD (aj 3) (aD (aj 4) bN)))))) (bI (bY (Zv 1 (Zv 2 (Zv 4 (Zv 3 ak))))))
def j6:LD:=cN 5 jt
def ig:cu:=bI (aO qz (aO dH (aO dH (aB dH 0 (Zi 1)) (Zi 0)) (Zi 0)) (Zw []))
def gw:LD:=cN 1 ig
def uI:Ev:=d9 3 4 (dW (aM 2)) (aj 3) bZ (au j6 (Zv 3 ak))
def jx:cu:=aF (aQ (aM 0) (bK 2 (aD (aj 1) (aD (aj 2) bN)))) (aF (iD (eO (aB qz 1 (Zw [114,105,103,104,116]))) (bI (au cI (aa (uI) ak))) dG) (bI (aM 2)))
def cV:LD:=cN 3 jx
def tO:Ev:=d9 1 5 (dW (au cV (Zv 0 ak))) (bK 4 (aD (aj 1) (aD (aj 2) (aD (aj 3) (aD (aj 4) bN))))) bZ (bY (aa (au cX (Zv 3 (aa (Zw [35]) ak))) (aa (Zw []) ak)))
def lB:cu:=bI (au cI (aa (tO) ak))
def dU:LD:=cN 1 lB
def f9:cu:=aF (aQ (aM 0) (bK 4 (aD (aj 3) (aD (aj 4) (aD (aj 5) (aD (aj 6) bN)))))) (aF (aQ (aM 1) (bK 2 (aD (aj 7) (aD (aj 8) bN)))) (aF (aQ (aM 8) (aj 9)) (aF (iD (eV (eO (aM 7)) (eO (au cX (Zv 6 (Zv 2 ak))))) (aQ (aB cL 8 (aO dH (aB dH 4 (Zi 0)) (Zi 1))) (aj 9)) dG) (bI (bY (aa (bY (aa (au cX (Zv 5 (Zv 2 ak))) (Zv 2 ak))) (Zv 9 ak)))))))
def eE:LD:=cN 10 f9
def gW:cu:=aF (aQ (aM 0) (bK 4 (aD (aj 3) (aD (aj 4) (aD (aj 5) (aD (aj 6) bN)))))) (aF (aQ (aM 1) (bK 2 (aD (aj 7) (aD (aj 8) bN)))) (aF (iD (eO (aB qz 8 (Zw []))) (bI (bY (aa (bY (Zv 7 (Zv 2 ak))) (aa (Zw []) ak)))) dG) (aF (aQ (aM 8) (aj 9)) (aF (iD (eV (eO (aM 7)) (eO (au cX (Zv 6 (Zv 2 ak))))) (aQ (Bu (au tX (aa (aV 4) ak)) (aM 8) (aM 8)) (aj 9)) dG) (aF (iD (eO (aB qz 3 (Zw [111,110,99,101]))) (bI (bY (aa (bY (aa (au cX (Zv 5 (Zv 8 ak))) (Zv 2 ak))) (Zv 9 ak)))) dG) (aF (iD (eO (aB qz 9 (Zw []))) (bI (bY (aa (bY (Zv 7 (Zv 2 ak))) (Zv 9 ak)))) dG) (bI (bY (aa (bY (aa (au cX (Zv 5 (Zv 9 ak))) (Zv 2 ak))) (Zv 9 ak))))))))))
def eG:LD:=cN 10 gW
def qy:cu:=aF (aQ (aB dH 1 (Zi 1)) (aj 6)) (aF (iD (eO (au gw (Zv 0 ak))) (aQ (au eE (Zv 0 (Zv 1 (Zv 5 ak)))) (bK 2 (aD (aj 1) (aD (aj 7) bN)))) (aQ (au eG (Zv 0 (Zv 1 (Zv 5 ak)))) (bK 2 (aD (aj 1) (aD (aj 7) bN))))) (aF (aQ (GD (aM 4) (aB xP 7 (aV 6))) (aj 4)) (dw 3 (aM 7))))
def mV:cu:=aF (cP 3 (cz ak)) (aF (aQ (Ep (.bl false)) (aj 4)) (aF (eZ (dW (aM 2)) (aj 5) (qy)) (bI (bY (Zv 1 (aa (aO jN (Zw []) (aV 3)) (Zv 4 ak)))))))
def gR:LD:=cN 8 mV
def tW:cu:=aF (aQ (au gR (Zv 6 (Zv 7 (Zv 3 ak)))) (bK 3 (aD (aj 8) (aD (aj 3) (aD (aj 9) bN))))) (aF (dw 4 (aM 8)) (dw 5 (aM 9)))
def qj:cu:=aF (aQ (aM 2) (aj 3)) (aF (cP 4 (cz ak)) (aF (cP 5 (cz ak)) (aF (eZ (yr (aa (au cV (Zv 0 ak)) (Zv 1 ak))) (bK 2 (aD (aj 6) (aD (aj 7) bN))) (tW)) (bI (bY (aa (au cI (aa (aV 4) ak)) (Zv 3 (aa (au cI (aa (aV 5) ak)) ak))))))))
def qb:LD:=cN 10 qj
def rT:cu:=aF (aQ (au gR (Zv 4 (Zv 5 (aa (aB cL 2 (Zw [35])) ak)))) (bK 3 (aD (aj 6) (aD (aj 2) (aD (aj 7) bN))))) (dw 3 (aM 7))
def oH:cu:=aF (aQ (Zw []) (aj 2)) (aF (cP 3 (cz ak)) (aF (eZ (yr (aa (au cV (Zv 0 ak)) (Zv 1 ak))) (bK 2 (aD (aj 4) (aD (aj 5) bN))) (rT)) (bI (bY (Zv 2 (aa (au cI (aa (aV 3) ak)) ak))))))
def oE:LD:=cN 8 oH
def pJ:cu:=aF (aQ (au qb (Zv 0 (Zv 1 (Zv 2 ak)))) (bK 3 (aD (aj 3) (aD (aj 4) (aD (aj 5) bN))))) (bI (bY (Zv 3 (Zv 4 ak))))
def pG:LD:=cN 6 pJ
def wF:cu:=bI (aO dH (au oE (Zv 0 (Zv 1 ak))) (Zi 0))
def lR:LD:=cN 2 wF
def lH:cu:=aF (aQ (au pG (Zv 1 (aa (aB dH 2 (au d8 (aa (aV 4) ak))) (Zv 6 ak)))) (bK 2 (aD (aj 7) (aD (aj 8) bN)))) (aF (iD (eO (aB pZ 7 (aV 3))) (aF (sU 3 (aM 7) (au d8 (aa (aV 2) ak))) (dw 2 (aM 7))) dG) (dw 5 (bY (Zv 8 (aa (aB vW 3 (aV 7)) ak)))))
def lC:cu:=aF (cP 5 (cz ak)) (aF (eZ (dW (au dZ (Zv 0 ak))) (aj 6) (lH)) (aF (iD (eO (aO gGt (au d8 (aa (aV 2) ak)) (Zi 600))) (NT) dG) (dw 4 (au cI (aa (aV 5) ak)))))
def Ca:cu:=aF (cP 2 (cz (aa (au dU (Zv 1 ak)) ak))) (aF (cP 3 (GK (aB dH 2 (Zi 0)) (Zi 0))) (aF (cP 4 (cz ak)) (aF (fK (eO (aO Hl (au d8 (aa (aV 4) ak)) (au d8 (aa (aV 2) ak)))) (lC) 7000) (bI (bY (Zv 2 (Zv 4 ak)))))))
def uL:LD:=cN 9 Ca
def Jv:cu:=aF (aQ (aO dH (aO dH (aB dH 5 (aV 8)) (Zi 1)) (aO sZ (aM 6) (aV 10))) (bK 2 (aD (aj 11) (aD (aj 8) bN)))) (dw 7 (aM 11))
def aba:cu:=aF (aQ (aM 1) (bK 2 (aD (aj 4) (aD (aj 5) bN)))) (aF (aQ (au dZ (Zv 0 ak)) (aj 6)) (aF (cP 7 (cz (Zv 4 ak))) (aF (aQ (Zi 0) (aj 8)) (aF (aQ (Wn (eO (aB qz 2 (Zw [114,105,103,104,116]))) (pH (aM 3)) (aM 3)) (aj 9)) (aF (eZ (dW (aM 9)) (aj 10) (Jv)) (aF (dw 7 (aO dH (aB dH 5 (aV 8)) (Zi 0))) (aF (aQ (aO jN (Zw []) (aV 7)) (aj 12)) (bI (Wn (eO (aB qz 2 (Zw [114,105,103,104,116]))) (pH (aM 12)) (aM 12))))))))))
def qC:LD:=cN 13 aba
def lQ:Ev:=d9 4 6 (vZ (Zv 2 (Zv 3 ak))) (bK 2 (aD (aj 4) (aD (aj 5) bN))) bZ (bY (aa (au lR (Zv 1 (Zv 4 ak))) (Zv 5 ak)))
def oJ:cu:=aF (aQ (au uL (Zv 0 (Zv 1 ak))) (bK 2 (aD (aj 2) (aD (aj 3) bN)))) (bI (lQ))
def j7:LD:=cN 4 oJ
def jU:cu:=Tg 3 (Zi 1)
def iy:cu:=aF (aQ (Zi 0) (aj 3)) (aF (fK (eV (eO (aB Hl 3 (au d8 (aa (aV 1) ak)))) (eV (eO (aB Hl 3 (au d8 (aa (aV 2) ak)))) (eO (aO qz (aB dH 1 (aV 3)) (aB dH 2 (aV 3)))))) (jU) 7000) (aQ (tZ (aM 1) pI (zK (aM 3))) (aj 1)))
def sH:cu:=aF (aQ (aB dH 0 (Zi 0)) (aj 1)) (aF (eZ (dW (aM 0)) (aj 2) (iy)) (bI (aM 1)))
def j8:LD:=cN 4 sH
def mO:Ev:=d9 3 5 (dW (aM 0)) (bK 2 (aD (aj 3) (aD (aj 4) bN))) bZ (aM 3)
def gr:Ev:=d9 5 7 (dW (aM 4)) (bK 2 (aD (aj 5) (aD (aj 6) bN))) bZ (aB cL 5 (aB dH 1 (aV 6)))
def jh:Ev:=d9 3 5 (dW (aM 0)) (bK 2 (aD (aj 3) (aD (aj 4) bN))) bZ (au j8 (aa (aO cL (cz (Zv 3 ak)) (gr)) ak))
def gq:cu:=aF (aQ (aM 2) (aj 1)) (cP 2 (jh))
def pK:cu:=aF (aQ (cz ak) (aj 1)) (aF (cP 2 (mO)) (aF (fK (eO (aB xP 2 (aV 1))) (gq) 20000) (bI (aM 2))))
def lz:LD:=cN 3 pK
def jy:Ev:=d9 7 9 (dW (aM 5)) (bK 2 (aD (aj 7) (aD (aj 8) bN))) bZ (bY (aa (tZ (aB cL 7 (aB dH 1 (aV 8))) (zK (aM 6)) pI) (Zv 8 ak)))
def gO:cu:=aF (aQ (au d8 (aa (aV 3) ak)) (aj 6)) (dw 2 (bY (aa (tZ (aM 4) (zK (aM 6)) pI) (aa (au cI (aa (jy) ak)) ak))))
def qD:cu:=aF (aQ (au lz (Zv 0 ak)) (aj 1)) (aF (cP 2 (cz ak)) (aF (eZ (vZ (Zv 1 (Zv 0 ak))) (bK 2 (aD (aj 3) (aD (bK 2 (aD (aj 4) (aD (aj 5) bN))) bN))) (gO)) (bI (bY (aa (aB dH 1 (Zi 0)) (Zv 2 ak))))))
def mF:LD:=cN 7 qD
def lJ:cu:=iD (eO (aB pZ 2 (aV 1))) (sU 1 (aM 2) (au JM (aa (aV 1) ak))) dG
def tV:Ev:=d9 3 4 (dW (aM 0)) (aj 3) bZ (aB vW 1 (aV 3))
def Ce:cu:=aF (cP 1 (PK)) (aF (eZ (dW (aM 0)) (aj 2) (lJ)) (bI (tV)))
def qd:LD:=cN 3 Ce
def jc:Ev:=d9 5 7 (dW (aM 4)) (bK 2 (aD (aj 5) (aD (aj 6) bN))) bZ (aM 5)
def kZ:Ev:=d9 3 5 (dW (aM 0)) (bK 2 (aD (aj 3) (aD (aj 4) bN))) bZ (bY (Zv 3 (aa (au cI (aa (jc) ak)) ak)))
def jb:Ev:=d9 6 8 (dW (aM 5)) (bK 2 (aD (aj 6) (aD (aj 7) bN))) bZ (aB dH 1 (aV 7))
def kY:Ev:=d9 3 6 (zM (Zv 0 ak)) (bK 2 (aD (aj 3) (aD (bK 2 (aD (aj 4) (aD (aj 5) bN))) bN))) bZ (bY (aa (aB dH 1 (aV 3)) (aa (au cI (aa (jb) ak)) ak)))
def iY:cu:=aF (aQ (wg j0 (aM 1)) (aj 2)) (aQ (au qd (aa (kY) ak)) (aj 1))
def ue:cu:=aF (aQ (au qd (aa (kZ) ak)) (aj 1)) (aF (aQ (Zi 0) (aj 2)) (aF (fK (eO (aB Hl 2 (wg j0 (aM 1)))) (iY) 7000) (bI (aM 1))))
def o7:LD:=cN 3 ue
def ou:cu:=aF (iD (eO (aO pF (aB dH 1 (aV 9)) (aV 2))) (aF (oV 2 (aB dH 1 (aV 9)) (au d8 (aa (aV 3) ak))) (dw 3 (aM 9))) dG) (dw 7 (bY (Zv 8 (aa (aB jq 2 (aB dH 1 (aV 9))) ak))))
def nU:cu:=aF (aQ (aB dH 0 (aB dH 3 (au d8 (aa (aV 4) ak)))) (bK 2 (aD (aj 5) (aD (aj 6) bN)))) (aF (cP 7 (cz ak)) (aF (eZ (dW (aM 6)) (bK 2 (aD (aj 8) (aD (aj 9) bN))) (ou)) (dw 4 (bY (Zv 5 (aa (au cI (aa (aV 7) ak)) ak))))))
def Kf:cu:=aF (aQ (au o7 (Zv 0 ak)) (aj 1)) (aF (cP 2 (zN (aB dH 1 (Zi 0)) (Zi 0))) (aF (cP 3 (cz (aa (Zi 0) ak))) (aF (cP 4 (cz ak)) (aF (fK (eO (aO Hl (au d8 (aa (aV 4) ak)) (au d8 (aa (aV 3) ak)))) (nU) 7000) (bI (au cI (aa (aV 4) ak)))))))
def vY:LD:=cN 10 Kf
def qF:cu:=aF (aQ (au mF (aa (au j7 (Zv 0 (Zv 1 ak))) ak)) (bK 2 (aD (aj 2) (aD (aj 3) bN)))) (bI (bY (Zv 2 (aa (au vY (Zv 3 ak)) ak))))
def fQ:LD:=cN 4 qF
def pD:cu:=aF (iD (eV (eO (au cX (Zv 4 (Zv 8 ak)))) (eO (au cX (Zv 5 (Zv 9 ak))))) (dw 7 (aM 6)) dG) (aF (dw 7 (aM 9)) (aQ (aM 9) (aj 8)))
def gk:cu:=aF (aQ (aM 0) (bK 4 (aD (aj 2) (aD (aj 3) (aD (aj 4) (aD (aj 5) bN)))))) (aF (aQ (aO dH (aB dH 3 (Zi 0)) (Zi 1)) (aj 6)) (aF (cP 7 (cz ak)) (aF (aQ (Zw [35]) (aj 8)) (aF (eZ (dW (aB cL 1 (Zw [35]))) (aj 9) (pD)) (bI (aO jN (Zw []) (xR (aM 7) pI (zK (wg MN (Zi 1))))))))))
def jr:LD:=cN 10 gk
def oh:cu:=aF (aQ (aM 11) (aj 12)) (aF (iD (eV (eO (aB xQ 11 (aV 6))) (eV (eO (au cX (Zv 4 (Zv 9 ak)))) (eO (au cX (Zv 5 (aa (aB dH 7 (aB cL 10 (Zi 1))) ak)))))) (aQ (aB jq 6 (aV 11)) (aj 12)) dG) (aF (dw 8 (aM 12)) (iD (eO (aB qz 2 (Zw [111,110,99,101]))) (aQ (aM 11) (aj 9)) (iD (eO (aB xP 12 (Zw []))) (aQ (aM 12) (aj 9)) dG))))
def fG:cu:=aF (aQ (aM 0) (bK 4 (aD (aj 2) (aD (aj 3) (aD (aj 4) (aD (aj 5) bN)))))) (aF (aQ (au tX (aa (aV 3) ak)) (aj 6)) (aF (aQ (aB cL 1 (Zw [35])) (aj 7)) (aF (cP 8 (cz ak)) (aF (aQ (Zw [35]) (aj 9)) (aF (eZ (MT (Zv 1 ak)) (bK 2 (aD (aj 10) (aD (aj 11) bN))) (oh)) (bI (aO jN (Zw []) (aV 8))))))))
def iQ:LD:=cN 13 fG
def d7:cu:=aF (iD (eO (au gw (Zv 0 ak))) (bI (au jr (Zv 0 (Zv 1 ak)))) dG) (bI (au iQ (Zv 0 (Zv 1 ak))))
def iU:LD:=cN 2 d7
def gA:cu:=aF (iD (eO (aB qz 0 (Zw [114,105,103,104,116]))) (bI (pH (au iU (aa (au j6 (Zv 1 ak)) (aa (pH (aM 2)) ak))))) dG) (bI (au iU (Zv 1 (Zv 2 ak))))
def ie:LD:=cN 3 gA
def Ed:cu:=dw 4 (au ie (Zv 2 (Zv 5 (aa (aB dH 4 (wg MN (Zi 1))) ak))))
def G7:cu:=aF (aQ (aM 0) (bK 2 (aD (aj 2) (aD (aj 3) bN)))) (aF (cP 4 (cz (Zv 1 ak))) (aF (eZ (dW (aM 3)) (aj 5) (Ed)) (bI (au cI (aa (aV 4) ak)))))
def iR:LD:=cN 6 G7
def G8:cu:=bI (aO dH (au iR (Zv 0 (Zv 1 ak))) (wg MN (Zi 1)))
def nG:LD:=cN 2 G8
def oN:cu:=bI (aO ady (aB uK 0 (Zi 262406895267124108351839057402211873468251940277165213587343)) (aO MK (Zi 10) (Zi 60)))
def iT:LD:=cN 1 oN
def CZ:cu:=aQ (aO cL (aB uK 2 (aO MK (Zi 10) (Zi 60))) (au iT (aa (aO dH (aO cL (xR (aM 0) (zK (aM 3)) (zK (aB cL 3 (Zi 1)))) (cz (aa (aO cL (aO uK (Zi 7919) (aV 3)) (Zi 61)) ak))) (Zi 0)) ak))) (aj 2)
def lA:cu:=aF (aQ (Zi 0) (aj 2)) (aF (eZ (dW (cz (aa (aB cL 1 (Zi 1)) (Zv 1 ak)))) (aj 3) (CZ)) (z9 (cz (Zv 2 ak))))
def jD:LD:=runN 4 lA
def eN:cu:=aF (aQ (au tu (aa (aB dH 0 (Zi 0)) (aa (aV 1) ak))) (bK 2 (aD (ZL 0 (Zi 0)) (aD (aj 2) bN)))) (bI (aM 2))
def aY:List D->Option (D×D):=gV 3 eN
def Be:Ev:=d9 7 8 (iV (aa (Zi 5) ak)) (aj 7) (eO (aO qz (aO JN (aB JK 5 (aV 7)) (Zi 1)) (Zi 1))) (aB dH 2 (aV 7))
def Bh:cu:=aF (aQ (di aY 0 (aa (Zi 32) ak)) (aj 5)) (aF (aQ (au jd (aa (Be) ak)) (aj 6)) (dw 3 (bY (Zv 4 (aa (au cI (aa (xR (aM 6) pI (zK (Zi 4))) ak)) ak)))))
def oK:cu:=aF (aQ (aO dH (cz (aa (Zw [97]) (aa (Zw [97,98]) (aa (Zw [97,98]) (aa (Zw [97,98,99]) (aa (Zw [97,101,112,116]) (aa (Zw [109,110,122]) ak))))))) (di aY 0 (aa (Zi 6) ak))) (aj 1)) (aF (aQ (cz (aa (Zw [115,116,111,112]) (aa (Zw [115,116,111,112,115]) (aa (Zw [115]) (aa (Zw [111,112,101,110]) (aa (Zw [97,98,99,100,101,102,103,104]) ak)))))) (aj 2)) (aF (cP 3 (cz ak)) (aF (eZ (dW (aM 1)) (aj 4) (Bh)) (bI (au cI (aa (aV 3) ak))))))
def jO:List D->Option (D×D):=gV 7 oK
def yX:Ev:=cR.rP
def qp:cu:=bI (aO jN (Zw []) (yX))
def eU:LD:=cN 1 qp
def Bf:Ev:=d9 4 5 (iV (aa (au d8 (aa (aV 3) ak)) ak)) (aj 4) (eO (aO qz (aO JN (aB JK 2 (aV 4)) (Zi 1)) (Zi 1))) (aB dH 3 (aV 4))
def gG:cu:=aF (iD (eO (aO qz (di aY 0 (aa (Zi 2) ak)) (Zi 0))) (bI (Ep .non)) dG) (aF (aQ (aO cL (Zi 1) (di aY 0 (aa (aO Rw (aO ZQ (Zi 2) (au d8 (aa (aV 1) ak))) (Zi 1)) ak))) (aj 2)) (aF (aQ (aO cL (Zw [35]) (aV 1)) (aj 3)) (bI (au cI (aa (Bf) ak)))))
def gF:List D->Option (D×D):=gV 4 gG
def xJ:Ev:=d9 6 7 (dW (aO cL (au El (aa (aV 1) ak)) (cz (aa (Zw []) ak)))) (aj 6) (eO (aB xP 6 (aV 4))) (aM 6)
def xK:cu:=aF (aQ (aB dH 1 (di aY 0 (aa (au d8 (aa (aV 1) ak)) ak))) (aj 4)) (aF (cP 5 (xJ)) (oV 2 (aM 4) (aB dH 5 (di aY 0 (aa (au d8 (aa (aV 5) ak)) ak)))))
def xH:Ev:=d9 6 7 (dW (au jd (aa (aV 2) ak))) (aj 6) bZ (bY (Zv 6 (aa (aB jq 2 (aV 6)) ak)))
def fj:cu:=aF (iD (eO (aO qz (di aY 0 (aa (Zi 5) ak)) (Zi 0))) (bI (bY (aa (bY (aa (Zw []) (aa (aB dH 1 (di aY 0 (aa (au d8 (aa (aV 1) ak)) ak))) ak))) ak))) dG) (aF (cP 2 (GP)) (aF (eZ (iV (aa (aO cL (Zi 1) (di aY 0 (aa (Zi 3) ak))) ak)) (aj 3) (xK)) (bI (au cI (aa (xH) ak)))))
def gZ:List D->Option (D×D):=gV 6 fj
def jE:cu:=aF (aQ (aO dH (cz (aa (Zw [111,110,99,101]) (aa (Zw [97,108,111,110,103]) ak))) (di aY 0 (aa (Zi 2) ak))) (aj 2)) (aF (aQ (di gZ 0 (Zv 1 ak)) (aj 3)) (bI (bY (Zv 2 (Zv 3 (aa (di gF 0 (Zv 1 ak)) (aa (di gF 0 (Zv 1 ak)) ak)))))))
def jC:List D->Option (D×D):=gV 4 jE
def Bg:Ev:=d9 4 5 (iV (aa (di aY 0 (aa (aB cL 2 (Zi 1)) ak)) ak)) (aj 4) bZ (di jC 0 (Zv 1 ak))
def oM:cu:=aF (aQ (aO dH (cz (aa (Zw [108,101,102,116]) (aa (Zw [114,105,103,104,116]) ak))) (di aY 0 (aa (Zi 2) ak))) (aj 3)) (bI (bY (Zv 3 (aa (au cI (aa (Bg) ak)) ak))))
def fZ:List D->Option (D×D):=gV 4 oM
def CW:Ev:=d9 3 4 (iV (aa (di aY 0 (aa (aB cL 2 (Zi 1)) ak)) ak)) (aj 3) bZ (aB dH 1 (di aY 0 (aa (au d8 (aa (aV 1) ak)) ak)))
def ql:cu:=bI (aO jN (Zw []) (CW))
def jB:List D->Option (D×D):=gV 3 ql
def jz:Ev:=d9 7 8 (dW (aM 0)) (aj 7) bZ (aB cL 6 (aV 7))
def gQ:cu:=Du 5 (jz)
def jA:cu:=aF (cP 5 (cz ak)) (aF (eZ (dW (aM 3)) (aj 6) (gQ)) (aF (aQ (aM 5) (aj 3)) (aQ (aB cL 2 (aV 3)) (aj 2))))
def qG:cu:=aF (aQ (cz (aa (Zw []) ak)) (aj 2)) (aF (aQ (cz (aa (Zw []) ak)) (aj 3)) (aF (eZ (iV (Zv 1 ak)) (aj 4) (jA)) (bI (aM 2))))
def mG:LD:=cN 7 qG
def rR:Ev:=d9 13 14 (dW (cz (Zv 2 (Zv 3 (Zv 6 ak))))) (aj 13) bZ (au fQ (Zv 1 (Zv 13 ak)))
def nD:Ev:=d9 13 14 (iV (aa (Zi 4) ak)) (aj 13) bZ (di jB 0 (Zv 4 (aa (Zi 6) ak)))
def iK:cu:=aF (aQ (au qC (Zv 1 (aa (aB dH 7 (Zi 0)) (Zv 5 (Zv 9 ak))))) (aj 10)) (aF (aQ (au qC (Zv 1 (aa (aB dH 7 (Zi 1)) (Zv 5 (Zv 10 ak))))) (aj 11)) (aF (iD (JW (eO (aO xP (au nG (Zv 2 (Zv 9 ak))) (aV 10))) (JW (eO (aO xP (au nG (Zv 6 (Zv 9 ak))) (aV 11))) (eO (aO xP (au qC (Zv 1 (aa (aB dH 7 (Zi 2)) (Zv 5 (Zv 9 ak))))) (aV 11))))) (bI (Ep (.bl false))) dG) (iD (eO (aO xP (au iR (Zv 6 (Zv 9 ak))) (aO cL (au iR (Zv 2 (Zv 9 ak))) (tZ (au iR (Zv 3 (Zv 10 ak))) (zK (Zi 1)) pI)))) (bI (Ep (.bl false))) dG)))
def rQ:Ev:=d9 13 14 (dW (aM 8)) (aj 13) bZ (aO qz (au qC (Zv 1 (Zv 12 (Zv 5 (Zv 13 ak))))) (aV 13))
def yw:cu:=aF (aQ (au eU (Zv 1 ak)) (aj 4)) (aF (aQ (aB dH 2 (Zi 0)) (aj 5)) (aF (aQ (bY (Zv 5 (aa (aO cL (aB dH 2 (Zi 1)) (aB dH 3 (Zi 1))) ak))) (aj 6)) (aF (cP 7 (rR)) (aF (aQ (aO cL (au mG (Zv 4 (aa (Zi 2) ak))) (nD)) (aj 8)) (aF (eZ (dW (aM 8)) (aj 9) (iK)) (aF (aQ (au fQ (Zv 1 (aa (bY (Zv 5 (aa (bY ak) ak))) ak))) (aj 12)) (bI (au Wg (aa (rQ) ak)))))))))
def oF:List D->Option (D×D):=gV 13 yw
def vN:cu:=aF (cP 2 (au jD (Zv 0 (Zv 1 ak)))) (aF (aQ (di jO 2 ak) (aj 3)) (aF (aQ (au eU (Zv 3 ak)) (aj 4)) (aF (aQ (di fZ 2 (Zv 4 (aa (Zi 2) ak))) (aj 5)) (aF (cP 6 (au jD (Zv 0 (aa (aB cL 1 (Zi 2)) ak)))) (iD (GF (eO (di oF 6 (Zv 3 (Zv 5 (aa (bY (aa (aB dH 5 (Zi 0)) (aa (aO dH (di fZ 6 (Zv 4 (aa (Zi 1) ak))) (Zi 1)) ak))) ak)))))) (bI (Ep (.bl false))) dG)))))
def abd:cu:=aF (eZ (iV (aa (Zi 0) (aa (au Ry (aa (Zi 1) (aa (au Rx (aa (au d8 (aa (aV 0) ak)) (aa (Zi 12) ak))) ak))) (aa (Zi 3) ak)))) (aj 1) (vN)) (bI (Ep (.bl true)))
def PB:LD:=cN 7 abd
end
open PySem PySem.Spec PyProof.Rows L2 Ev
def top(i:Nat):Stmt:=PySem.Challenge.pw_soundrules_k27_whole_orders_behind_one_a.main.body.getD i (.Pass ⟨0,0,0,0⟩)
abbrev qZ:Stmt:=top 5
abbrev Ly:Stmt:=top 7
abbrev Af:Stmt:=top 8
abbrev xq:Stmt:=top 9
abbrev lX:Stmt:=top 12
abbrev kO:Stmt:=top 13
abbrev jW:Stmt:=top 14
abbrev lY:Stmt:=top 15
abbrev pQ:Stmt:=top 16
abbrev uy:Stmt:=top 17
abbrev qY:Stmt:=top 18
abbrev xn:Stmt:=top 19
abbrev Ah:Stmt:=top 20
abbrev uz:Stmt:=top 21
abbrev Tq:Stmt:=top 23
abbrev jV:Stmt:=top 24
abbrev m8:Stmt:=top 25
abbrev kW:Stmt:=top 26
abbrev lZ:Stmt:=top 27
abbrev uA:Stmt:=top 28
abbrev oX:Stmt:=top 29
abbrev Ag:Stmt:=top 30
abbrev mj:Stmt:=top 31
abbrev oW:Stmt:=top 33
abbrev m7:Stmt:=top 34
abbrev rD:Stmt:=top 35
abbrev xr:Stmt:=top 36
abbrev Lw:Stmt:=top 37
abbrev Lx:Stmt:=top 38
abbrev rC:Stmt:=top 40
abbrev uE:Stmt:=top 41
abbrev uC:Stmt:=top 42
abbrev rm:Stmt:=top 43
abbrev pR:Stmt:=top 44
abbrev rn:Stmt:=top 45
abbrev oY:Stmt:=top 46
abbrev uD:Stmt:=top 47
abbrev rB:Stmt:=top 48
abbrev uB:Stmt:=top 49
abbrev mq:Stmt:=top 50
abbrev rA:Stmt:=top 51
abbrev Tr:Stmt:=top 52
structure Top(K:Fg)(mg:Str->Option Value):Prop where
 ac2:mg "all" = none
 Ox:mg "dict" = none
 Rh:mg "divmod" = none
 vK:mg "enumerate" = none
 fO:mg "len" = none
 Za:mg "list" = none
 ac1:mg "max" = none
 ac0:mg "min" = none
 lO:mg "range" = none
 Vu:mg "set" = none
 Eb:mg "sorted" = none
 dO:mg "tuple" = none
 Gn:mg "zip" = none
 cQ:Glb K mg "EDGE" (.str [35])
 fX:Glb K mg "MOST_STANDINGS" (.int 600)
 Hy:cO K mg "sounds_of" qZ ["stock"]
 abB:cO K mg "fits" Ly ["signs","sign"]
 S7:cO K mg "turned" Af ["rule"]
 Qv:cO K mg "puts_in" xq ["rule"]
 yK:cO K mg "reading_rules" lX ["order"]
 wR:cO K mg "first_standing" kO ["order"]
 uY:cO K mg "read_putting_in" jW Zq7
 yL:cO K mg "read_changing" lY Zq7
 Fo:cO K mg "read_signs" pQ aea
 K9:cO K mg "watch_on" uy Zq8
 Hx:cO K mg "watch_end" qY Zq4
 Qu:cO K mg "read_on" xn Zq8
 S9:cO K mg "end_of" Ah Zq4
 La:cO K mg "readings" uz Zq2
 aeC:cO K mg "run" Tq ad9
 uX:cO K mg "standing_states" jV Zq2
 zY:cO K mg "shared_start" m8 ["texts"]
 wU:cO K mg "certain_starts" kW Sd
 yM:cO K mg "put_out_early" lZ Sd
 Lb:cO K mg "numbered" uA ["things"]
 CG:cO K mg "like_states" oX Sd
 S8:cO K mg "joined" Ag Sd
 yN:cO K mg "least_machine" mj Zq2
 Cz:cO K mg "with_put_in" oW Xo
 zX:cO K mg "with_changes" m7 Xo
 HN:cO K mg "from_left" rD Xo
 Qw:cO K mg "changed" xr Zq9
 abz:cO K mg "walk" Lw Zq5
 abA:cO K mg "made" Lx Zq5
 HJ:cO K mg "_law_mixed" rC ["_law_cell"]
 Lg:cO K mg "_law_pack" uE ["_law_script","_law_k"]
 Le:cO K mg "_law_take" uC ad8
 HB:cO K mg "_law_stock" rm ["_law_pack_here"]
 Fp:cO K mg "_law_sounds" pR aaj
 HD:cO K mg "_law_signs" rn Zq3
 CJ:cO K mg "_law_changes" oY Zq3
 Lf:cO K mg "_law_rule" uD Zq3
 HH:cO K mg "_law_order" rB Zq6
 Ld:cO K mg "_law_word" uB Zq6
 yO:cO K mg "_law_all_words" mq ad7
 HF:cO K mg "_law_right" rA ad6
section
variable{P:Program}{w:World}{K:Fg}{mg:Str->Option Value}{base:Heap}(Z:Top K mg)
theorem Fy:bB ["stock"] ["stock"] (aN qZ):=gm
include Z in
theorem yj:Own P w K mg base "sounds_of" 1 ["stock"] (nY K 1 dZ):=by exact bT (k:=0) Z.Hy Fy (λf cdv A outer s H E hr G=>(eQ.u (aG (bj (dM G Z.dO (aX (aZ (cB (jL ["stock","sound","marks"] 1 eY G (dD G (aU 0)) (λX1 h1=>by have G:=G.at h1;obtain⟨_,_,_,_,_,rfl⟩:=h1;exact(cC G (aA (aK 1) (aA (aK 2) bw)))) (λX1 h1=>by have G:=G.at h1;obtain⟨_,_,_,_,_,rfl⟩:=h1;exact cJ) (λX1 h1=>by have G:=G.at h1;obtain⟨_,_,_,_,_,rfl⟩:=h1;exact(aU 1)))))))))))
theorem X7:bB ["signs","sign"] ["signs","sign"] (aN Ly):=gm
include Z in
theorem o4:Own P w K mg base "fits" 1 ["signs","sign"] (nY K 2 cX):=by exact bT (k:=0) Z.abB X7 (λf cdv A outer s H E hr G=>(eQ.u (aG (bj (Uq (Fl 0 ah5 (aZ Oi)) (Oh (Fl 1 (ah6 G) (bM 0))))))))
theorem QG:bB ["rule","way","changes","left","right"] ["rule"] (aN Af):=gm
include Z in
theorem Jh:Own P w K mg base "turned" 1 ["rule"] (nY K 1 j6):=by
 exact bT (k:=0) Z.S7 QG (λf cdv A outer s H E hr G=>(eQ.u (ao (cT (aU 0) (cC G (aA (aK 1) (aA (aK 2) (aA (aK 3) (aA (aK 4) bw))))))
   (aG (bj (bW (cD 1 (cD 2 (cD 4 (cD 3 aq))))))))))
theorem Lq:bB ["rule"] ["rule"] (aN xq):=gm
include Z in
theorem Ea:Own P w K mg base "puts_in" 1 ["rule"] (nY K 1 gw):=by exact bT (k:=0) Z.Qv Lq (λf cdv A outer s H E hr G=>(eQ.u (aG (bj (Sy (uO G) (nR G (nR G (cH 0 G (aZ aP)) (aZ aP)) (aZ aP)) (aZ (bO [])))))))
theorem wZ:bB ["order","side","rules"] ["order"] (aN lX):=gm
include Z in
theorem mz:Own P w K mg base "reading_rules" 2 ["order"] (nY K 1 cV):=by
 exact bT (k:=1) Z.yK wZ (λf cdv A outer s H E hr G=>(eQ.u (ao (cT (aU 0) (cC G (aA (aK 1) (aA (aK 2) bw))))
   (ao (dJ (fV 1 (uO G) (aZ (bO [114,105,103,104,116]))) (aG (bj (dM G Z.dO (aX (aZ (cB (jL ["order","side","rules","rule"] 3 eY G (dD G (aU 2)) (λX1 h1=>by have G:=G.at h1;obtain⟨_,_,_,_,_,rfl⟩:=h1;exact(aK 3)) (λX1 h1=>by have G:=G.at h1;obtain⟨_,_,_,_,_,rfl⟩:=h1;exact cJ) (λX1 h1=>by have G:=G.at h1;obtain⟨_,_,_,_,_,rfl⟩:=h1;exact(bJ (Jh Z) G hr (cD 3 aq) (bu len0)))))))))) cM)
   (aG (bj (aU 2)))))))
theorem vh:bB ["order"] ["order"] (aN kO):=gm
include Z in
theorem xC:Own P w K mg base "first_standing" 3 ["order"] (nY K 1 dU):=by obtain⟨KY,KZ,cQ⟩:=Z.cQ;exact bT (k:=2) Z.wR vh (λf cdv A outer s H E hr G=>(eQ.u (aG (bj (dM G Z.dO (aX (aZ (cB (jL ["order","way","changes","left","right"] 1 eY G (dD G (bJ (mz Z) G hr (cD 0 aq) (bu len0))) (λX1 h1=>by have G:=G.at h1;obtain⟨_,_,_,_,_,rfl⟩:=h1;exact(cC G (aA (aK 1) (aA (aK 2) (aA (aK 3) (aA (aK 4) bw)))))) (λX1 h1=>by have G:=G.at h1;obtain⟨_,_,_,_,_,rfl⟩:=h1;exact cJ) (λX1 h1=>by have G:=G.at h1;obtain⟨_,_,_,_,_,rfl⟩:=h1;exact(bW (aC (bJ (o4 Z) G hr (cD 3 (aC (nq (.str [35]) rfl cQ.1 cQ.2.1 (λF=>cQ.2.2 F)) aq)) (bu (bu len0))) (aC (bO []) aq)))))))))))))
theorem ux:bB agn Zq7 (aN jW):=gm
include Z in
theorem vG:Own P w K mg base "read_putting_in" 2 Zq7 (nY K 3 eE):=by
 exact bT (k:=1) Z.uY ux (λf cdv A outer s H E hr G=>(eQ.u (ao (cT (aU 0) (cC G (aA (aK 3) (aA (aK 4) (aA (aK 5) (aA (aK 6) bw))))))
   (ao (cT (aU 1) (cC G (aA (aK 7) (aA (aK 8) bw))))
   (ao (bD 9 (aU 8))
   (ao (dJ (tL (ni (iI (aU 7)) (pC (iI (bJ (o4 Z) G hr (cD 6 (cD 2 aq)) (bu (bu len0))))))) (aG (bD 9 (fH 8 (gY G) (aZ (nR G (cH 4 G (aZ aP)) (aZ aP)))))) cM)
   (aG (bj (bW (aC (bW (aC (bJ (o4 Z) G hr (cD 5 (cD 2 aq)) (bu (bu len0))) (cD 2 aq))) (cD 9 aq)))))))))))
theorem xf:bB agn Zq7 (aN lY):=gm
include Z in
theorem yU:Own P w K mg base "read_changing" 2 Zq7 (nY K 3 eG):=by
 exact bT (k:=1) Z.yL xf (λf cdv A outer s H E hr G=>(eQ.u (ao (cT (aU 0) (cC G (aA (aK 3) (aA (aK 4) (aA (aK 5) (aA (aK 6) bw))))))
   (ao (cT (aU 1) (cC G (aA (aK 7) (aA (aK 8) bw))))
   (ao (dJ (fV 8 (uO G) (aZ (bO []))) (aG (bj (bW (aC (bW (cD 7 (cD 2 aq))) (aC (bO []) aq))))) cM)
   (ao (bD 9 (aU 8))
   (ao (dJ (tL (ni (iI (aU 7)) (pC (iI (bJ (o4 Z) G hr (cD 6 (cD 2 aq)) (bu (bu len0))))))) (aG (bD 9 (Xy G (Nt G Z.Ox (aX (bM 4))) (aU 8) (aU 8)))) cM)
   (ao (dJ (fV 3 (uO G) (aZ (bO [111,110,99,101]))) (aG (bj (bW (aC (bW (aC (bJ (o4 Z) G hr (cD 5 (cD 8 aq)) (bu (bu len0))) (cD 2 aq))) (cD 9 aq))))) cM)
   (ao (dJ (fV 9 (uO G) (aZ (bO []))) (aG (bj (bW (aC (bW (cD 7 (cD 2 aq))) (cD 9 aq))))) cM)
   (aG (bj (bW (aC (bW (aC (bJ (o4 Z) G hr (cD 5 (cD 9 aq)) (bu (bu len0))) (cD 2 aq))) (cD 9 aq))))))))))))))
theorem CN:bB ["rule","standing","signs","puts","acting","sign","held","put"] aea (aN pQ):=gm
include Z in
theorem vD:Own P w K mg base "read_signs" 3 aea (nY K 3 gR):=by
 exact bT (k:=2) Z.Fo CN (λf cdv A outer s H E hr G=>(eQ.u (ao (fC 3 (cj aq))
   (ao (bD 4 Am)
   (ao (gM G (dD G (aU 2)) (aK 5) (ao (bD 6 (cH 1 G (aZ aP)))
   (ao (dJ (iI (bJ (Ea Z) G hr (cD 0 aq) (bu len0))) (aG (cT (bJ (vG Z) G hr (cD 0 (cD 1 (cD 5 aq))) (bu (bu (bu len0)))) (cC G (aA (aK 1) (aA (aK 7) bw))))) (aG (cT (bJ (yU Z) G hr (cD 0 (cD 1 (cD 5 aq))) (bu (bu (bu len0)))) (cC G (aA (aK 1) (aA (aK 7) bw))))))
   (ao (bD 4 (Uq (aU 4) (Oh (Fl 7 (Kd G) (bM 6)))))
   (aG (il 3 G (aU 7)))))))
   (aG (bj (bW (cD 1 (aC (sS G (bO []) (bM 3)) (cD 4 aq)))))))))))
theorem Ie:bB ["order","standing","sound","put","behind","acting","rule","own","new","acts_here"] Zq8 (aN uy):=gm
include Z in
theorem Mr:Own P w K mg base "watch_on" 4 Zq8 (nY K 3 qb):=by
 exact bT (k:=3) Z.K9 Ie (λf cdv A outer s H E hr G=>(eQ.u (ao (bD 3 (aU 2))
   (ao (fC 4 (cj aq))
   (ao (fC 5 (cj aq))
   (ao (gM G (V7 G Z.Gn (aC (bJ (mz Z) G hr (cD 0 aq) (bu len0)) (cD 1 aq))) (cC G (aA (aK 6) (aA (aK 7) bw))) (ao (cT (bJ (vD Z) G hr (cD 6 (cD 7 (cD 3 aq))) (bu (bu (bu len0)))) (cC G (aA (aK 8) (aA (aK 3) (aA (aK 9) bw)))))
   (ao (il 4 G (aU 8))
   (aG (il 5 G (aU 9))))))
   (aG (bj (bW (aC (dM G Z.dO (aX (bM 4))) (cD 3 (aC (dM G Z.dO (aX (bM 5))) aq))))))))))))
theorem Fx:bB ["order","standing","put","acting","rule","own","new","acts_here"] Zq4 (aN qY):=gm
include Z in
theorem Jg:Own P w K mg base "watch_end" 4 Zq4 (nY K 2 oE):=by
 obtain⟨KY,KZ,cQ⟩:=Z.cQ;exact bT (k:=3) Z.Hx Fx (λf cdv A outer s H E hr G=>(eQ.u (ao (bD 2 (bO []))
   (ao (fC 3 (cj aq))
   (ao (gM G (V7 G Z.Gn (aC (bJ (mz Z) G hr (cD 0 aq) (bu len0)) (cD 1 aq))) (cC G (aA (aK 4) (aA (aK 5) bw))) (ao (cT (bJ (vD Z) G hr (cD 4 (cD 5 (aC (fH 2 (gY G) (aZ (nq (.str [35]) rfl cQ.1 cQ.2.1 (λF=>cQ.2.2 F)))) aq))) (bu (bu (bu len0)))) (cC G (aA (aK 6) (aA (aK 2) (aA (aK 7) bw)))))
   (aG (il 3 G (aU 7)))))
   (aG (bj (bW (cD 2 (aC (dM G Z.dO (aX (bM 3))) aq))))))))))
theorem Lp:bB ["order","standing","sound","behind","put","acting"] Zq8 (aN xn):=gm
include Z in
theorem Rf:Own P w K mg base "read_on" 5 Zq8 (nY K 3 pG):=by
 exact bT (k:=4) Z.Qu Lp (λf cdv A outer s H E hr G=>(eQ.u (ao (cT (bJ (Mr Z) G hr (cD 0 (cD 1 (cD 2 aq))) (bu (bu (bu len0)))) (cC G (aA (aK 3) (aA (aK 4) (aA (aK 5) bw)))))
   (aG (bj (bW (cD 3 (cD 4 aq))))))))
theorem QJ:bB Zq4 Zq4 (aN Ah):=gm
include Z in
theorem Vn:Own P w K mg base "end_of" 5 Zq4 (nY K 2 lR):=by exact bT (k:=4) Z.S9 QJ (λf cdv A outer s H E hr G=>(eQ.u (aG (bj (nR G (bJ (Jg Z) G hr (cD 0 (cD 1 aq)) (bu (bu len0))) (aZ aP))))))
theorem Ig:bB ["stock","order","found","places","rows","steps","sound","behind","put"] Zq2 (aN uz):=gm
include Z in
theorem Ms:Own P w K mg base "readings" 6 Zq2 (nY K 2 uL):=by
 obtain⟨Qo,Qp,fX⟩:=Z.fX;exact bT (k:=5) Z.La Ig (λf cdv A outer s H E hr G=>(eQ.u (ao (fC 2 (cj (aC (bJ (xC Z) G hr (cD 1 aq) (bu len0)) aq)))
   (ao (fC 3 (QV G (cH 2 G (aZ aP)) aP))
   (ao (fC 4 (cj aq))
   (ao (qX 7000 G (kI WT (gJ G Z.fO (aX (bM 4))) (aZ (gJ G Z.fO (aX (bM 2))))) (ao (fC 5 (cj aq))
   (ao (gM G (dD G (bJ (yj Z) G hr (cD 0 aq) (bu len0))) (aK 6) (ao (cT (bJ (Rf Z) G hr (cD 1 (aC (cH 2 G (aZ (gJ G Z.fO (aX (bM 4))))) (cD 6 aq))) (bu (bu (bu len0)))) (cC G (aA (aK 7) (aA (aK 8) bw))))
   (ao (dJ (fV 7 (Kc G) (bM 3)) (ao (Io 3 G (aU 7) (gJ G Z.fO (aX (bM 2))))
   (aG (il 2 G (aU 7)))) cM)
   (aG (il 5 G (bW (cD 8 (aC (Hq 3 G (bM 7)) aq))))))))
   (ao (dJ (kI ah7 (gJ G Z.fO (aX (bM 2))) (aZ (nq (.int 600) rfl fX.1 fX.2.1 (λF=>fX.2.2 F)))) (aG Ma) cM)
   (aG (il 4 G (dM G Z.dO (aX (bM 5)))))))))
   (aG (bj (bW (cD 2 (cD 4 aq)))))))))))
theorem abQ:bB ["stock","machine","side","word","first","states","sounds","puts","state","read","sound","put","whole"] ad9 (aN Tq):=gm
include Z in
theorem Ov:Own P w K mg base "run" 2 ad9 (nY K 4 qC):=by
 exact bT (k:=1) Z.aeC abQ (λf cdv A outer s H E hr G=>(eQ.u (ao (cT (aU 1) (cC G (aA (aK 4) (aA (aK 5) bw))))
   (ao (bD 6 (bJ (yj Z) G hr (cD 0 aq) (bu len0)))
   (ao (fC 7 (cj (cD 4 aq)))
   (ao (bD 8 aP)
   (ao (bD 9 (Ur (fV 2 (uO G) (aZ (bO [114,105,103,104,116]))) (Fj (aU 3)) (aU 3)))
   (ao (gM G (dD G (aU 9)) (aK 10) (ao (cT (nR G (nR G (cH 5 G (bM 8)) (aZ aP)) (aZ (Qm G (aU 6) (bM 10)))) (cC G (aA (aK 11) (aA (aK 8) bw))))
   (aG (il 7 G (aU 11)))))
   (ao (il 7 G (nR G (cH 5 G (bM 8)) (aZ aP)))
   (ao (bD 12 (sS G (bO []) (bM 7)))
   (aG (bj (Ur (fV 2 (uO G) (aZ (bO [114,105,103,104,116]))) (Fj (aU 12)) (aU 12))))))))))))))
theorem uw:bB ["stock","order","found","rows"] Zq2 (aN jV):=gm
include Z in
theorem vC:Own P w K mg base "standing_states" 7 Zq2 (nY K 2 j7):=by
 exact bT (k:=6) Z.uX uw (λf cdv A outer s H E hr G=>(eQ.u (ao (cT (bJ (Ms Z) G hr (cD 0 (cD 1 aq)) (bu (bu len0))) (cC G (aA (aK 2) (aA (aK 3) bw))))
   (aG (bj (cB (jL ["stock","order","found","rows","standing","steps"] 4 eY G (JD G Z.Gn (cD 2 (cD 3 aq))) (λX1 h1=>by have G:=G.at h1;obtain⟨_,_,_,_,_,rfl⟩:=h1;exact(cC G (aA (aK 4) (aA (aK 5) bw)))) (λX1 h1=>by have G:=G.at h1;obtain⟨_,_,_,_,_,rfl⟩:=h1;exact cJ) (λX1 h1=>by have G:=G.at h1;obtain⟨_,_,_,_,_,rfl⟩:=h1;exact(bW (aC (bJ (Vn Z) G hr (cD 1 (cD 4 aq)) (bu (bu len0))) (cD 5 aq)))))))))))
theorem yR:bB ["texts","start","text","many"] ["texts"] (aN m8):=gm
include Z in
theorem Ax:Own P w K mg base "shared_start" 1 ["texts"] (nY K 1 j8):=by
 exact bT (k:=0) Z.zY yR (λf cdv A outer s H E hr G=>(eQ.u (ao (bD 1 (cH 0 G (aZ aP)))
   (ao (gM G (dD G (aU 0)) (aK 2) (ao (bD 3 aP)
   (ao (qX 7000 G (tL (ni (fV 3 WT (aZ (gJ G Z.fO (aX (bM 1))))) (ni (fV 3 WT (aZ (gJ G Z.fO (aX (bM 2))))) (pC (kI (uO G) (cH 1 G (bM 3)) (aZ (cH 2 G (bM 3)))))))) (aG (abT 3 aP)))
   (aG (bD 1 (Fi G (aU 1) mZ (jJ (aU 3))))))))
   (aG (bj (aU 1)))))))
theorem vm:bB ["states","known","starts"] Sd (aN kW):=gm
include Z in
theorem xD:Own P w K mg base "certain_starts" 2 Sd (nY K 1 lz):=by
 exact bT (k:=1) Z.wU vm (λf cdv A outer s H E hr G=>(eQ.u (ao (bD 1 (cB (cj aq)))
   (ao (N6 ["states","known","starts","end","steps"] 3 2 eY G (dD G (aU 0)) (λX1 h1=>by have G:=G.at h1;obtain⟨_,_,_,_,_,rfl⟩:=h1;exact(cC G (aA (aK 3) (aA (aK 4) bw)))) (λX1 h1=>by have G:=G.at h1;obtain⟨_,_,_,_,_,rfl⟩:=h1;exact cJ) (λX1 h1=>by have G:=G.at h1;obtain⟨_,_,_,_,_,rfl⟩:=h1;exact(aU 3)))
   (ao (qX 20000 G (fV 2 (Kd G) (bM 1)) (ao (bD 1 (aU 2))
   (aG (N6 ["states","known","starts","end","steps"] 3 2 eY G (dD G (aU 0)) (λX1 h1=>by have G:=G.at h1;obtain⟨_,_,_,_,_,rfl⟩:=h1;exact(cC G (aA (aK 3) (aA (aK 4) bw)))) (λX1 h1=>by have G:=G.at h1;obtain⟨_,_,_,_,_,rfl⟩:=h1;exact cJ) (λX1 h1=>by have G:=G.at h1;obtain⟨_,_,_,_,_,rfl⟩:=h1;exact(bJ (Ax Z) G hr (aC (gK (gY G) (cB (cj (cD 3 aq))) (aZ (cB (jL ["states","known","starts","end","steps","put","to"] 5 eY G (dD G (aU 4)) (λX1 h1=>by have G:=G.at h1;obtain⟨_,_,_,_,_,rfl⟩:=h1;exact(cC G (aA (aK 5) (aA (aK 6) bw)))) (λX1 h1=>by have G:=G.at h1;obtain⟨_,_,_,_,_,rfl⟩:=h1;exact cJ) (λX1 h1=>by have G:=G.at h1;obtain⟨_,_,_,_,_,rfl⟩:=h1;exact(fH 5 (gY G) (aZ (cH 1 G (bM 6))))))))) aq) (bu len0)))))))
   (aG (bj (aU 2))))))))
theorem xg:bB ["states","starts","early","start","end","steps","many"] Sd (aN lZ):=gm
include Z in
theorem yV:Own P w K mg base "put_out_early" 3 Sd (nY K 1 mF):=by
 exact bT (k:=2) Z.yM xg (λf cdv A outer s H E hr G=>(eQ.u (ao (bD 1 (bJ (xD Z) G hr (cD 0 aq) (bu len0)))
   (ao (fC 2 (cj aq))
   (ao (gM G (JD G Z.Gn (cD 1 (cD 0 aq))) (cC G (aA (aK 3) (aA (cC G (aA (aK 4) (aA (aK 5) bw))) bw))) (ao (bD 6 (gJ G Z.fO (aX (bM 3))))
   (aG (il 2 G (bW (aC (Fi G (aU 4) (jJ (aU 6)) mZ) (aC (dM G Z.dO (aX (aZ (cB (jL ["states","starts","early","start","end","steps","many","put","to"] 7 eY G (dD G (aU 5)) (λX1 h1=>by have G:=G.at h1;obtain⟨_,_,_,_,_,rfl⟩:=h1;exact(cC G (aA (aK 7) (aA (aK 8) bw)))) (λX1 h1=>by have G:=G.at h1;obtain⟨_,_,_,_,_,rfl⟩:=h1;exact cJ) (λX1 h1=>by have G:=G.at h1;obtain⟨_,_,_,_,_,rfl⟩:=h1;exact(bW (aC (Fi G (fH 7 (gY G) (aZ (cH 1 G (bM 8)))) (jJ (aU 6)) mZ) (cD 8 aq))))))))) aq)))))))
   (aG (bj (bW (aC (cH 1 G (aZ aP)) (cD 2 aq))))))))))
theorem Ih:bB ["things","numbers","thing"] ["things"] (aN uA):=gm
include Z in
theorem Ay:Own P w K mg base "numbered" 1 ["things"] (nY K 1 qd):=by
 exact bT (k:=0) Z.Lb Ih (λf cdv A outer s H E hr G=>(eQ.u (ao (fC 1 Mg)
   (ao (gM G (dD G (aU 0)) (aK 2) (aG (dJ (fV 2 (Kc G) (bM 1)) (aG (Io 1 G (aU 2) (Xw G Z.fO (aX (bM 1))))) cM)))
   (aG (bj (cB (jL ["things","numbers","%2","thing"] 3 eY G (dD G (aU 0)) (λX1 h1=>by have G:=G.at h1;obtain⟨_,_,_,_,_,rfl⟩:=h1;exact(aK 3)) (λX1 h1=>by have G:=G.at h1;obtain⟨_,_,_,_,_,rfl⟩:=h1;exact cJ) (λX1 h1=>by have G:=G.at h1;obtain⟨_,_,_,_,_,rfl⟩:=h1;exact(Hq 1 G (bM 3)))))))))))
theorem Ad:bB ["states","groups","many"] Sd (aN oX):=gm
include Z in
theorem CT:Own P w K mg base "like_states" 2 Sd (nY K 1 o7):=by
 exact bT (k:=1) Z.CG Ad (λf cdv A outer s H E hr G=>(eQ.u (ao (bD 1 (bJ (Ay Z) G hr (aC (cB (jL ["states","groups","many","end","steps"] 3 eY G (dD G (aU 0)) (λX1 h1=>by have G:=G.at h1;obtain⟨_,_,_,_,_,rfl⟩:=h1;exact(cC G (aA (aK 3) (aA (aK 4) bw)))) (λX1 h1=>by have G:=G.at h1;obtain⟨_,_,_,_,_,rfl⟩:=h1;exact cJ) (λX1 h1=>by have G:=G.at h1;obtain⟨_,_,_,_,_,rfl⟩:=h1;exact(bW (cD 3 (aC (dM G Z.dO (aX (aZ (cB (jL ["states","groups","many","end","steps","put","to"] 5 eY G (dD G (aU 4)) (λX1 h1=>by have G:=G.at h1;obtain⟨_,_,_,_,_,rfl⟩:=h1;exact(cC G (aA (aK 5) (aA (aK 6) bw)))) (λX1 h1=>by have G:=G.at h1;obtain⟨_,_,_,_,_,rfl⟩:=h1;exact cJ) (λX1 h1=>by have G:=G.at h1;obtain⟨_,_,_,_,_,rfl⟩:=h1;exact(aU 5))))))) aq)))))) aq) (bu len0)))
   (ao (bD 2 aP)
   (ao (qX 7000 G (fV 2 WT (aZ (Dn G Z.fO Z.Vu (aU 1)))) (ao (bD 2 (Dn G Z.fO Z.Vu (aU 1)))
   (aG (bD 1 (bJ (Ay Z) G hr (aC (cB (jL ["states","groups","many","at","end","steps"] 3 eY G (V8 G Z.vK (cD 0 aq)) (λX1 h1=>by have G:=G.at h1;obtain⟨_,_,_,_,_,rfl⟩:=h1;exact(cC G (aA (aK 3) (aA (cC G (aA (aK 4) (aA (aK 5) bw))) bw)))) (λX1 h1=>by have G:=G.at h1;obtain⟨_,_,_,_,_,rfl⟩:=h1;exact cJ) (λX1 h1=>by have G:=G.at h1;obtain⟨_,_,_,_,_,rfl⟩:=h1;exact(bW (aC (cH 1 G (bM 3)) (aC (dM G Z.dO (aX (aZ (cB (jL ["states","groups","many","at","end","steps","put","to"] 6 eY G (dD G (aU 5)) (λX1 h1=>by have G:=G.at h1;obtain⟨_,_,_,_,_,rfl⟩:=h1;exact(cC G (aA (aK 6) (aA (aK 7) bw)))) (λX1 h1=>by have G:=G.at h1;obtain⟨_,_,_,_,_,rfl⟩:=h1;exact cJ) (λX1 h1=>by have G:=G.at h1;obtain⟨_,_,_,_,_,rfl⟩:=h1;exact(cH 1 G (bM 7)))))))) aq)))))) aq) (bu len0))))))
   (aG (bj (aU 1))))))))
theorem QH:bB ["states","groups","places","kept","told","end","steps","new_steps","put","to"] Sd (aN Ag):=gm
include Z in
theorem Vm:Own P w K mg base "joined" 3 Sd (nY K 1 vY):=by
 exact bT (k:=2) Z.S8 QH (λf cdv A outer s H E hr G=>(eQ.u (ao (bD 1 (bJ (CT Z) G hr (cD 0 aq) (bu len0)))
   (ao (fC 2 (Mf G (cH 1 G (aZ aP)) aP))
   (ao (fC 3 (cj (aC aP aq)))
   (ao (fC 4 (cj aq))
   (ao (qX 7000 G (kI WT (gJ G Z.fO (aX (bM 4))) (aZ (gJ G Z.fO (aX (bM 3))))) (ao (cT (cH 0 G (aZ (cH 3 G (aZ (gJ G Z.fO (aX (bM 4))))))) (cC G (aA (aK 5) (aA (aK 6) bw))))
   (ao (fC 7 (cj aq))
   (ao (gM G (dD G (aU 6)) (cC G (aA (aK 8) (aA (aK 9) bw))) (ao (dJ (kI (M9 G) (cH 1 G (bM 9)) (bM 2)) (ao (N7 2 G (cH 1 G (bM 9)) (gJ G Z.fO (aX (bM 3))))
   (aG (il 3 G (aU 9)))) cM)
   (aG (il 7 G (bW (cD 8 (aC (zR 2 G (aZ (cH 1 G (bM 9)))) aq)))))))
   (aG (il 4 G (bW (cD 5 (aC (dM G Z.dO (aX (bM 7))) aq)))))))))
   (aG (bj (dM G Z.dO (aX (bM 4))))))))))))
theorem xj:bB ["stock","order","first","states"] Zq2 (aN mj):=gm
include Z in
theorem qx:Own P w K mg base "least_machine" 8 Zq2 (nY K 2 fQ):=by
 exact bT (k:=7) Z.yN xj (λf cdv A outer s H E hr G=>(eQ.u (ao (cT (bJ (yV Z) G hr (aC (bJ (vC Z) G hr (cD 0 (cD 1 aq)) (bu (bu len0))) aq) (bu len0)) (cC G (aA (aK 2) (aA (aK 3) bw))))
   (aG (bj (bW (cD 2 (aC (bJ (Vm Z) G hr (cD 3 aq) (bu len0)) aq))))))))
theorem Ac:bB ["rule","word","way","changes","left","right","new","made_of","ahead","sign"] Xo (aN oW):=gm
include Z in
theorem CQ:Own P w K mg base "with_put_in" 2 Xo (nY K 2 jr):=by
 obtain⟨KY,KZ,cQ⟩:=Z.cQ;exact bT (k:=1) Z.Cz Ac (λf cdv A outer s H E hr G=>(eQ.u (ao (cT (aU 0) (cC G (aA (aK 2) (aA (aK 3) (aA (aK 4) (aA (aK 5) bw))))))
   (ao (bD 6 (nR G (cH 3 G (aZ aP)) (aZ aP)))
   (ao (fC 7 (cj aq))
   (ao (bD 8 (nq (.str [35]) rfl cQ.1 cQ.2.1 (λF=>cQ.2.2 F)))
   (ao (gM G (dD G (fH 1 (gY G) (aZ (nq (.str [35]) rfl cQ.1 cQ.2.1 (λF=>cQ.2.2 F))))) (aK 9) (ao (dJ (tL (ni (iI (bJ (o4 Z) G hr (cD 4 (cD 8 aq)) (bu (bu len0)))) (pC (iI (bJ (o4 Z) G hr (cD 5 (cD 9 aq)) (bu (bu len0))))))) (aG (il 7 G (aU 6))) cM)
   (ao (il 7 G (aU 9))
   (aG (bD 8 (aU 9))))))
   (aG (bj (sS G (bO []) (aZ (Sw G (aU 7) mZ (jJ (KC aP))))))))))))))
theorem yQ:bB ["rule","word","way","changes","left","right","becomes","signs","made_of","ahead","at","sound","new"] Xo (aN m7):=gm
include Z in
theorem Aw:Own P w K mg base "with_changes" 2 Xo (nY K 2 iQ):=by
 obtain⟨KY,KZ,cQ⟩:=Z.cQ;exact bT (k:=1) Z.zX yQ (λf cdv A outer s H E hr G=>(eQ.u (ao (cT (aU 0) (cC G (aA (aK 2) (aA (aK 3) (aA (aK 4) (aA (aK 5) bw))))))
   (ao (bD 6 (Nt G Z.Ox (aX (bM 3))))
   (ao (bD 7 (fH 1 (gY G) (aZ (nq (.str [35]) rfl cQ.1 cQ.2.1 (λF=>cQ.2.2 F)))))
   (ao (fC 8 (cj aq))
   (ao (bD 9 (nq (.str [35]) rfl cQ.1 cQ.2.1 (λF=>cQ.2.2 F)))
   (ao (gM G (ZC Z.vK (cD 1 aq)) (cC G (aA (aK 10) (aA (aK 11) bw))) (ao (bD 12 (aU 11))
   (ao (dJ (tL (ni (fV 11 (aae G) (bM 6)) (ni (iI (bJ (o4 Z) G hr (cD 4 (cD 9 aq)) (bu (bu len0)))) (pC (iI (bJ (o4 Z) G hr (cD 5 (aC (cH 7 G (aZ (fH 10 (gY G) (aZ aP)))) aq)) (bu (bu len0)))))))) (aG (bD 12 (zR 6 G (bM 11)))) cM)
   (ao (il 8 G (aU 12))
   (aG (dJ (fV 2 (uO G) (aZ (bO [111,110,99,101]))) (aG (bD 9 (aU 11))) (aG (dJ (fV 12 (Kd G) (aZ (bO []))) (aG (bD 9 (aU 12))) cM))))))))
   (aG (bj (sS G (bO []) (bM 8))))))))))))
theorem FT:bB Xo Xo (aN rD):=gm
include Z in
theorem yo:Own P w K mg base "from_left" 3 Xo (nY K 2 iU):=by
 exact bT (k:=2) Z.HN FT (λf cdv A outer s H E hr G=>(eQ.u (ao (dJ (iI (bJ (Ea Z) G hr (cD 0 aq) (bu len0))) (aG (bj (bJ (CQ Z) G hr (cD 0 (cD 1 aq)) (bu (bu len0))))) cM)
   (aG (bj (bJ (Aw Z) G hr (cD 0 (cD 1 aq)) (bu (bu len0))))))))
theorem Lr:bB Zq9 Zq9 (aN xr):=gm
include Z in
theorem Rg:Own P w K mg base "changed" 4 Zq9 (nY K 3 ie):=by
 exact bT (k:=3) Z.Qw Lr (λf cdv A outer s H E hr G=>(eQ.u (ao (dJ (fV 0 (uO G) (aZ (bO [114,105,103,104,116]))) (aG (bj (Fj (bJ (yo Z) G hr (aC (bJ (Jh Z) G hr (cD 1 aq) (bu len0)) (aC (Fj (aU 2)) aq)) (bu (bu len0)))))) cM)
   (aG (bj (bJ (yo Z) G hr (cD 1 (cD 2 aq)) (bu (bu len0))))))))
theorem X5:bB ["order","word","side","rules","words","rule"] Zq5 (aN Lw):=gm
include Z in
theorem Gi:Own P w K mg base "walk" 5 Zq5 (nY K 2 iR):=by
 exact bT (k:=4) Z.abz X5 (λf cdv A outer s H E hr G=>(eQ.u (ao (cT (aU 0) (cC G (aA (aK 2) (aA (aK 3) bw))))
   (ao (fC 4 (cj (cD 1 aq)))
   (ao (gM G (dD G (aU 3)) (aK 5) (aG (il 4 G (bJ (Rg Z) G hr (cD 2 (cD 5 (aC (cH 4 G (aZ (KC aP))) aq))) (bu (bu (bu len0)))))))
   (aG (bj (dM G Z.dO (aX (bM 4))))))))))
theorem X6:bB Zq5 Zq5 (aN Lx):=gm
include Z in
theorem Vl:Own P w K mg base "made" 6 Zq5 (nY K 2 nG):=by exact bT (k:=5) Z.abA X6 (λf cdv A outer s H E hr G=>(eQ.u (aG (bj (nR G (bJ (Gi Z) G hr (cD 0 (cD 1 aq)) (bu (bu len0))) (aZ (KC aP)))))))
theorem FQ:bB ["_law_cell"] ["_law_cell"] (aN rC):=gm
include Z in
theorem Jk:Own P w K mg base "_law_mixed" 1 ["_law_cell"] (nY K 1 iT):=by exact bT (k:=0) Z.HJ FQ (λf cdv A outer s H E hr G=>(eQ.u (aG (bj (gK agl (fH 0 WW (aZ aP)) (aZ (gK abb aP (aZ aP))))))))
theorem Il:bB ["_law_script","_law_k","_law_found","_law_at"] ["_law_script","_law_k"] (aN uE):=gm
include Z in
theorem Az:Own P w K mg base "_law_pack" 2 ["_law_script","_law_k"] (spN K 2 jD):=by
 exact YW (k:=1) Z.Lg Il (λf cdv A outer s H E hr G=>(eQ.u (ao (bD 2 aP)
   (ao (gM G (dD G (cB (cj (aC (fH 1 (gY G) (aZ aP)) (cD 1 aq))))) (aK 3) (aG (bD 2 (gK (gY G) (fH 2 WW (aZ (gK abb aP (aZ aP)))) (aZ (bJ (Jk Z) G hr (aC (nR G (gK (gY G) (Sw G (aU 0) (jJ (aU 3)) (jJ (fH 3 (gY G) (aZ aP)))) (aZ (cB (cj (aC (gK (gY G) (gK WW aP (bM 3)) (aZ aP)) aq))))) (aZ aP)) aq) (bu len0)))))))
   (aG (Iv (cj (cD 2 aq))))))))
theorem Ij:bB ["_law_pack_here","_law_size","_law_digit"] ad8 (aN uC):=gm
include Z in
theorem dB:Own P w K mg base "_law_take" 1 ad8 (ur K 2 aY):=by
 exact rH (k:=0) Z.Le Ij (λf cdv A outer s H E a hr G=>(eQ.u (ao (cT (Qn G Z.Rh (uF (cH 0 G (aZ aP)) (aX (bM 1)))) (cC G (aA (af8 0 aP) (aA (aK 2) bw))))
   (aG (bj (aU 2))))))
theorem Fz:bB ["_law_pack_here","_law_sounds_here","_law_known","_law_found","_law_sound","_law_number","_law_marks"] ["_law_pack_here"] (aN rm):=gm
include Z in
theorem Ji:Own P w K mg base "_law_stock" 2 ["_law_pack_here"] (ur K 1 jO):=by
 exact rH (k:=1) Z.HB Fz (λf cdv A outer s H E a hr G=>(eQ.u (ao (bD 1 (nR G (cB (Zc (m5 (bO [97]) (m5 (bO [97,98]) (m5 (bO [97,98]) (m5 (bO [97,98,99]) (m5 (bO [97,101,112,116]) (m5 (bO [109,110,122]) Ul)))))))) (aZ (iB 0 (dB Z) G hr (aC aP aq) (iJ (bu len0))))))
   (ao (bD 2 (cB (cj (aC (bO [115,116,111,112]) (aC (bO [115,116,111,112,115]) (aC (bO [115]) (aC (bO [111,112,101,110]) (aC (bO [97,98,99,100,101,102,103,104]) aq))))))))
   (ao (fC 3 (cj aq))
   (ao (gM G (dD G (aU 1)) (aK 4) (ao (bD 5 (iB 0 (dB Z) G hr (aC aP aq) (iJ (bu len0))))
   (ao (bD 6 (Dm G Z.Eb (aX (aZ (cB (jL ["_law_pack_here","_law_sounds_here","_law_known","_law_found","_law_sound","_law_number","_law_marks","_law_k"] 7 eY G (pY Z.lO (aC aP aq) (bu len0)) (λX1 h1=>by have G:=G.at h1;obtain⟨_,_,_,_,_,rfl⟩:=h1;exact(aK 7)) (λX1 h1=>by have G:=G.at h1;obtain⟨_,_,_,_,_,rfl⟩:=h1;exact(xx (kI (uO G) (gK abe (fH 5 aa9 (bM 7)) (aZ aP)) (aZ aP)))) (λX1 h1=>by have G:=G.at h1;obtain⟨_,_,_,_,_,rfl⟩:=h1;exact(cH 2 G (bM 7)))))))))
   (aG (il 3 G (bW (cD 4 (aC (dM G Z.dO (aX (aZ (Sw G (aU 6) mZ (jJ aP))))) aq))))))))
   (aG (bj (dM G Z.dO (aX (bM 3)))))))))))
theorem CP:bB aaj aaj (aN pR):=gm
include Z in
theorem vH:Own P w K mg base "_law_sounds" 1 aaj (nY K 1 eU):=by exact bT (k:=0) Z.Fp CP (λf cdv A outer s H E hr G=>(eQ.u (aG (bj (sS G (bO []) (aZ (cB (jL ["_law_stock_here","_law_sound","_law_marks"] 1 eY G (dD G (aU 0)) (λX1 h1=>by have G:=G.at h1;obtain⟨_,_,_,_,_,rfl⟩:=h1;exact(cC G (aA (aK 1) (aA (aK 2) bw)))) (λX1 h1=>by have G:=G.at h1;obtain⟨_,_,_,_,_,rfl⟩:=h1;exact cJ) (λX1 h1=>by have G:=G.at h1;obtain⟨_,_,_,_,_,rfl⟩:=h1;exact(aU 1))))))))))
theorem FJ:bB ["_law_pack_here","_law_sounds_here","_law_number","_law_signs_here"] Zq3 (aN rn):=gm
include Z in
theorem yl:Own P w K mg base "_law_signs" 2 Zq3 (ur K 2 gF):=by
 exact rH (k:=1) Z.HD FJ (λf cdv A outer s H E a hr G=>(eQ.u (ao (dJ (kI (uO G) (iB 0 (dB Z) G hr (aC aP aq) (iJ (bu len0))) (aZ aP)) (aG (bj Oi)) cM)
   (ao (bD 2 (gK (gY G) aP (aZ (iB 0 (dB Z) G hr (aC (gK agj (gK agk aP (aZ (gJ G Z.fO (aX (bM 1))))) (aZ aP)) aq) (iJ (bu len0))))))
   (ao (bD 3 (gK (gY G) (bO [35]) (bM 1)))
   (aG (bj (dM G Z.dO (aX (aZ (cB (jL ["_law_pack_here","_law_sounds_here","_law_number","_law_signs_here","_law_k"] 4 eY G (pY Z.lO (aC (gJ G Z.fO (aX (bM 3))) aq) (bu len0)) (λX1 h1=>by have G:=G.at h1;obtain⟨_,_,_,_,_,rfl⟩:=h1;exact(aK 4)) (λX1 h1=>by have G:=G.at h1;obtain⟨_,_,_,_,_,rfl⟩:=h1;exact(xx (kI (uO G) (gK abe (fH 2 aa9 (bM 4)) (aZ aP)) (aZ aP)))) (λX1 h1=>by have G:=G.at h1;obtain⟨_,_,_,_,_,rfl⟩:=h1;exact(cH 3 G (bM 4)))))))))))))))
theorem Ae:bB ["_law_pack_here","_law_sounds_here","_law_found","_law_turn","_law_one","_law_others"] Zq3 (aN oY):=gm
include Z in
theorem CV:Own P w K mg base "_law_changes" 2 Zq3 (ur K 2 gZ):=by
 exact rH (k:=1) Z.CJ Ae (λf cdv A outer s H E a hr G=>(eQ.u (ao (dJ (kI (uO G) (iB 0 (dB Z) G hr (aC aP aq) (iJ (bu len0))) (aZ aP)) (aG (bj (bW (aC (bW (aC (bO []) (aC (cH 1 G (aZ (iB 0 (dB Z) G hr (aC (gJ G Z.fO (aX (bM 1))) aq) (iJ (bu len0))))) aq))) aq)))) cM)
   (ao (fC 2 QX)
   (ao (gM G (pY Z.lO (aC (gK (gY G) aP (aZ (iB 0 (dB Z) G hr (aC aP aq) (iJ (bu len0))))) aq) (bu len0)) (aK 3) (ao (bD 4 (cH 1 G (aZ (iB 0 (dB Z) G hr (aC (gJ G Z.fO (aX (bM 1))) aq) (iJ (bu len0))))))
   (ao (N6 ["_law_pack_here","_law_sounds_here","_law_found","_law_turn","_law_one","_law_others","_law_sound"] 6 5 eY G (dD G (gK (gY G) (Xv G Z.Za (aX (bM 1))) (aZ (cB (cj (aC (bO []) aq)))))) (λX1 h1=>by have G:=G.at h1;obtain⟨_,_,_,_,_,rfl⟩:=h1;exact(aK 6)) (λX1 h1=>by have G:=G.at h1;obtain⟨_,_,_,_,_,rfl⟩:=h1;exact(xx (fV 6 (Kd G) (bM 4)))) (λX1 h1=>by have G:=G.at h1;obtain⟨_,_,_,_,_,rfl⟩:=h1;exact(aU 6)))
   (aG (N7 2 G (aU 4) (cH 5 G (aZ (iB 0 (dB Z) G hr (aC (gJ G Z.fO (aX (bM 5))) aq) (iJ (bu len0))))))))))
   (aG (bj (dM G Z.dO (aX (aZ (cB (jL ["_law_pack_here","_law_sounds_here","_law_found","_law_turn","%4","_law_others","_law_one"] 6 eY G (dD G (Dm G Z.Eb (aX (bM 2)))) (λX1 h1=>by have G:=G.at h1;obtain⟨_,_,_,_,_,rfl⟩:=h1;exact(aK 6)) (λX1 h1=>by have G:=G.at h1;obtain⟨_,_,_,_,_,rfl⟩:=h1;exact cJ) (λX1 h1=>by have G:=G.at h1;obtain⟨_,_,_,_,_,rfl⟩:=h1;exact(bW (cD 6 (aC (zR 2 G (bM 6)) aq))))))))))))))))
theorem Ik:bB ["_law_pack_here","_law_sounds_here","_law_how","_law_changes_here"] Zq3 (aN uD):=gm
include Z in
theorem Mu:Own P w K mg base "_law_rule" 3 Zq3 (ur K 2 jC):=by
 exact rH (k:=2) Z.Lf Ik (λf cdv A outer s H E a hr G=>(eQ.u (ao (bD 2 (nR G (cB (cj (aC (bO [111,110,99,101]) (aC (bO [97,108,111,110,103]) aq)))) (aZ (iB 0 (dB Z) G hr (aC aP aq) (iJ (bu len0))))))
   (ao (bD 3 (iB 0 (CV Z) G hr (cD 1 aq) (iJ (bu len0))))
   (aG (bj (bW (cD 2 (cD 3 (aC (iB 0 (yl Z) G hr (cD 1 aq) (iJ (bu len0))) (aC (iB 0 (yl Z) G hr (cD 1 aq) (iJ (bu len0))) aq)))))))))))
theorem FP:bB ["_law_pack_here","_law_sounds_here","_law_most","_law_side"] Zq6 (aN rB):=gm
include Z in
theorem ym:Own P w K mg base "_law_order" 4 Zq6 (ur K 3 fZ):=by
 exact rH (k:=3) Z.HH FP (λf cdv A outer s H E a hr G=>(eQ.u (ao (bD 3 (nR G (cB (cj (aC (bO [108,101,102,116]) (aC (bO [114,105,103,104,116]) aq)))) (aZ (iB 0 (dB Z) G hr (aC aP aq) (iJ (bu len0))))))
   (aG (bj (bW (cD 3 (aC (dM G Z.dO (aX (aZ (cB (jL ["_law_pack_here","_law_sounds_here","_law_most","_law_side","_law_turn"] 4 eY G (pY Z.lO (aC (iB 0 (dB Z) G hr (aC (fH 2 (gY G) (aZ aP)) aq) (iJ (bu len0))) aq) (bu len0)) (λX1 h1=>by have G:=G.at h1;obtain⟨_,_,_,_,_,rfl⟩:=h1;exact(aK 4)) (λX1 h1=>by have G:=G.at h1;obtain⟨_,_,_,_,_,rfl⟩:=h1;exact cJ) (λX1 h1=>by have G:=G.at h1;obtain⟨_,_,_,_,_,rfl⟩:=h1;exact(iB 0 (Mu Z) G hr (cD 1 aq) (iJ (bu len0))))))))) aq))))))))
theorem Ii:bB Zq6 Zq6 (aN uB):=gm
include Z in
theorem Mt:Own P w K mg base "_law_word" 2 Zq6 (ur K 3 jB):=by exact rH (k:=1) Z.Ld Ii (λf cdv A outer s H E a hr G=>(eQ.u (aG (bj (sS G (bO []) (aZ (cB (jL ["_law_pack_here","_law_sounds_here","_law_most","_law_turn"] 3 eY G (pY Z.lO (aC (iB 0 (dB Z) G hr (aC (fH 2 (gY G) (aZ aP)) aq) (iJ (bu len0))) aq) (bu len0)) (λX1 h1=>by have G:=G.at h1;obtain⟨_,_,_,_,_,rfl⟩:=h1;exact(aK 3)) (λX1 h1=>by have G:=G.at h1;obtain⟨_,_,_,_,_,rfl⟩:=h1;exact cJ) (λX1 h1=>by have G:=G.at h1;obtain⟨_,_,_,_,_,rfl⟩:=h1;exact(cH 1 G (aZ (iB 0 (dB Z) G hr (aC (gJ G Z.fO (aX (bM 1))) aq) (iJ (bu len0))))))))))))))
theorem xm:bB ["_law_sounds_here","_law_most","_law_found","_law_row","_law_turn","_law_longer","_law_word_here"] ad7 (aN mq):=gm
include Z in
theorem yW:Own P w K mg base "_law_all_words" 1 ad7 (nY K 2 mG):=by
 exact bT (k:=0) Z.yO xm (λf cdv A outer s H E hr G=>(eQ.u (ao (bD 2 (cB (cj (aC (bO []) aq))))
   (ao (bD 3 (cB (cj (aC (bO []) aq))))
   (ao (gM G (pY Z.lO (cD 1 aq) (bu len0)) (aK 4) (ao (fC 5 (cj aq))
   (ao (gM G (dD G (aU 3)) (aK 6) (aG (abS 5 G (cB (jL ["_law_sounds_here","_law_most","_law_found","_law_row","_law_turn","_law_longer","_law_word_here","_law_sound"] 7 eY G (dD G (aU 0)) (λX1 h1=>by have G:=G.at h1;obtain⟨_,_,_,_,_,rfl⟩:=h1;exact(aK 7)) (λX1 h1=>by have G:=G.at h1;obtain⟨_,_,_,_,_,rfl⟩:=h1;exact cJ) (λX1 h1=>by have G:=G.at h1;obtain⟨_,_,_,_,_,rfl⟩:=h1;exact(fH 6 (gY G) (bM 7))))))))
   (ao (bD 3 (aU 5))
   (aG (bD 2 (fH 2 (gY G) (bM 3))))))))
   (aG (bj (aU 2))))))))
theorem FN:bB ["_law_pack_here","_law_stock_here","_law_one","_law_other","_law_sounds_here","_law_side","_law_both","_law_machines","_law_some","_law_word_here","_law_middle","_law_due","_law_plain"] ad6 (aN rA):=gm
include Z in
theorem Jj:Own P w K mg base "_law_right" 9 ad6 (ur K 4 oF):=by
 exact rH (k:=8) Z.HF FN (λf cdv A outer s H E a hr G=>(eQ.u (ao (bD 4 (bJ (vH Z) G hr (cD 1 aq) (bu len0)))
   (ao (bD 5 (cH 2 G (aZ aP)))
   (ao (bD 6 (bW (cD 5 (aC (gK (gY G) (cH 2 G (aZ aP)) (aZ (cH 3 G (aZ aP)))) aq))))
   (ao (N6 ["_law_pack_here","_law_stock_here","_law_one","_law_other","_law_sounds_here","_law_side","_law_both","_law_machines","_law_some","_law_word_here","_law_middle","_law_due","_law_plain","_law_order_here"] 13 7 eY G (dD G (cB (cj (cD 2 (cD 3 (cD 6 aq)))))) (λX1 h1=>by have G:=G.at h1;obtain⟨_,_,_,_,_,rfl⟩:=h1;exact(aK 13)) (λX1 h1=>by have G:=G.at h1;obtain⟨_,_,_,_,_,rfl⟩:=h1;exact cJ) (λX1 h1=>by have G:=G.at h1;obtain⟨_,_,_,_,_,rfl⟩:=h1;exact(bJ (qx Z) G hr (cD 1 (cD 13 aq)) (bu (bu len0)))))
   (ao (bD 8 (gK (gY G) (bJ (yW Z) G hr (cD 4 (aC aP aq)) (bu (bu len0))) (aZ (cB (jL ["_law_pack_here","_law_stock_here","_law_one","_law_other","_law_sounds_here","_law_side","_law_both","_law_machines","_law_some","_law_word_here","_law_middle","_law_due","_law_plain","_law_turn"] 13 eY G (pY Z.lO (aC aP aq) (bu len0)) (λX1 h1=>by have G:=G.at h1;obtain⟨_,_,_,_,_,rfl⟩:=h1;exact(aK 13)) (λX1 h1=>by have G:=G.at h1;obtain⟨_,_,_,_,_,rfl⟩:=h1;exact cJ) (λX1 h1=>by have G:=G.at h1;obtain⟨_,_,_,_,_,rfl⟩:=h1;exact(iB 0 (Mt Z) G hr (cD 4 (aC aP aq)) (iJ (bu (bu len0))))))))))
   (ao (gM G (dD G (aU 8)) (aK 9) (ao (bD 10 (bJ (Ov Z) G hr (cD 1 (aC (cH 7 G (aZ aP)) (cD 5 (cD 9 aq)))) (bu (bu (bu (bu len0))))))
   (ao (bD 11 (bJ (Ov Z) G hr (cD 1 (aC (cH 7 G (aZ aP)) (cD 5 (cD 10 aq)))) (bu (bu (bu (bu len0))))))
   (ao (dJ (tL (Od (kI (Kd G) (bJ (Vl Z) G hr (cD 2 (cD 9 aq)) (bu (bu len0))) (bM 10)) (Od (kI (Kd G) (bJ (Vl Z) G hr (cD 6 (cD 9 aq)) (bu (bu len0))) (bM 11)) (Ud (kI (Kd G) (bJ (Ov Z) G hr (cD 1 (aC (cH 7 G (aZ aP)) (cD 5 (cD 9 aq)))) (bu (bu (bu (bu len0))))) (bM 11)))))) (aG (bj Am)) cM)
   (aG (dJ (kI (Kd G) (bJ (Gi Z) G hr (cD 6 (cD 9 aq)) (bu (bu len0))) (aZ (gK (gY G) (bJ (Gi Z) G hr (cD 2 (cD 9 aq)) (bu (bu len0))) (aZ (Fi G (bJ (Gi Z) G hr (cD 3 (cD 10 aq)) (bu (bu len0))) (jJ aP) mZ))))) (aG (bj Am)) cM))))))
   (ao (bD 12 (bJ (qx Z) G hr (cD 1 (aC (bW (cD 5 (aC (bW aq) aq))) aq)) (bu (bu len0))))
   (aG (bj (abr G Z.ac2 (aX (aZ (cB (jL ["_law_pack_here","_law_stock_here","_law_one","_law_other","_law_sounds_here","_law_side","_law_both","_law_machines","_law_some","%9","_law_middle","_law_due","_law_plain","_law_word_here"] 13 eY G (dD G (aU 8)) (λX1 h1=>by have G:=G.at h1;obtain⟨_,_,_,_,_,rfl⟩:=h1;exact(aK 13)) (λX1 h1=>by have G:=G.at h1;obtain⟨_,_,_,_,_,rfl⟩:=h1;exact cJ) (λX1 h1=>by have G:=G.at h1;obtain⟨_,_,_,_,_,rfl⟩:=h1;exact(Sy (uO G) (bJ (Ov Z) G hr (cD 1 (cD 12 (cD 5 (cD 13 aq)))) (bu (bu (bu (bu len0))))) (bM 13)))))))))))))))))))
theorem abR:bB agm ["_law_script"] (aN Tr):=gm
include Z in
theorem adD{f:Addr}{fd:FuncData}(F:Xk K "law" "law" Tr f fd):pP P w K mg base Hj 10 f fd ["_law_script"] (nY K 1 PB):=by
 exact J6 (k:=9) F abR (λcdv A outer s H E hr=>by
  have G:=zH (P:=P) (w:=w) (K:=K) (mg:=mg) (base:=base) (N:=agm) (outer:=outer) (H:=H) (E:=E) (C:=C0 K) rfl hr;exact(eQ.u (ao (gM G (Zz Z.lO (aC aP (aC (abo G Z.ac1 (uF aP (aX (aZ (abn G Z.ac0 (uF (gJ G Z.fO (aX (bM 0))) (aX (aZ aP)))))))) (aC aP aq))) (bu (bu (bu len0)))) (aK 1) (ao (fC 2 (Vw (Az Z) G hr (cD 0 (cD 1 aq)) (bu (bu len0))))
   (ao (bD 3 (iB 2 (Ji Z) G hr aq (iJ len0)))
   (ao (bD 4 (bJ (vH Z) G hr (cD 3 aq) (bu len0)))
   (ao (bD 5 (iB 2 (ym Z) G hr (cD 4 (aC aP aq)) (iJ (bu (bu len0)))))
   (ao (fC 6 (Vw (Az Z) G hr (cD 0 (aC (fH 1 (gY G) (aZ aP)) aq)) (bu (bu len0))))
   (aG (dJ (Ue (iI (iB 6 (Jj Z) G hr (cD 3 (cD 5 (aC (bW (aC (cH 5 G (aZ aP)) (aC (nR G (iB 6 (ym Z) G hr (cD 4 (aC aP aq)) (iJ (bu (bu len0)))) (aZ aP)) aq))) aq))) (iJ (bu (bu (bu len0))))))) (aG (bj Am)) cM))))))))
   (aG (bj Am)))))
end
end cR
namespace iu
open Ev
def sG:cu:=bI (au cI (aa (d9 1 3 (dW (aM 0)) (bK 2 (aD (aj 1) (aD (aj 2) bN))) bZ (aM 1)) ak))
def dZ:LD:=cN 1 sG
def oN:cu:=cR.oN
def iT:LD:=cN 1 oN
def lA:cu:=aF (aQ (Zi 0) (aj 2)) (aF (eZ (dW (cz (aa (aB cL 1 (Zi 1)) (Zv 1 ak)))) (aj 3) (aQ (aO cL (aB uK 2 (aO MK (Zi 10) (Zi 60))) (au iT (aa (aO dH (aO cL (xR (aM 0) (zK (aM 3)) (zK (aB cL 3 (Zi 1)))) (cz (aa (aO cL (aO uK (Zi 7919) (aV 3)) (Zi 61)) ak))) (Zi 0)) ak))) (aj 2))) (z9 (cz (Zv 2 ak))))
def jD:LD:=runN 4 lA
def eN:cu:=cR.eN
def aY:List D->Option (D×D):=gV 3 eN
def oK:cu:=aF (aQ (aO dH (cz (aa (Zw [97]) (aa (Zw [97,98]) (aa (Zw [97,98]) (aa (Zw [97,98,99]) (aa (Zw [97,101,112,116]) (aa (Zw [109,110,122]) ak))))))) (di aY 0 (aa (Zi 6) ak))) (aj 1)) (aF (aQ (cz (aa (Zw [115,116,111,112]) (aa (Zw [115,116,111,112,115]) (aa (Zw [115]) (aa (Zw [111,112,101,110]) (aa (Zw [97,98,99,100,101,102,103,104]) ak)))))) (aj 2)) (aF (cP 3 (cz ak)) (aF (eZ (dW (aM 1)) (aj 4) (aF (aQ (di aY 0 (aa (Zi 32) ak)) (aj 5)) (aF (aQ (au jd (aa (d9 7 8 (iV (aa (Zi 5) ak)) (aj 7) (eO (aO qz (aO JN (aB JK 5 (aV 7)) (Zi 1)) (Zi 1))) (aB dH 2 (aV 7))) ak)) (aj 6)) (dw 3 (bY (Zv 4 (aa (au cI (aa (xR (aM 6) pI (zK (Zi 4))) ak)) ak))))))) (bI (au cI (aa (aV 3) ak))))))
def jO:List D->Option (D×D):=gV 7 oK
def qp:cu:=bI (aO jN (Zw []) (d9 1 3 (dW (aM 0)) (bK 2 (aD (aj 1) (aD (aj 2) bN))) bZ (aM 1)))
def eU:LD:=cN 1 qp
def gG:cu:=aF (iD (eO (aO qz (di aY 0 (aa (Zi 2) ak)) (Zi 0))) (bI (Ep .non)) dG) (aF (aQ (aO cL (Zi 1) (di aY 0 (aa (aO Rw (aO ZQ (Zi 2) (au d8 (aa (aV 1) ak))) (Zi 1)) ak))) (aj 2)) (aF (aQ (aO cL (Zw [35]) (aV 1)) (aj 3)) (bI (au cI (aa (d9 4 5 (iV (aa (au d8 (aa (aV 3) ak)) ak)) (aj 4) (eO (aO qz (aO JN (aB JK 2 (aV 4)) (Zi 1)) (Zi 1))) (aB dH 3 (aV 4))) ak)))))
def gF:List D->Option (D×D):=gV 4 gG
def fj:cu:=aF (iD (eO (aO qz (di aY 0 (aa (Zi 5) ak)) (Zi 0))) (bI (bY (aa (bY (aa (Zw []) (aa (aB dH 1 (di aY 0 (aa (au d8 (aa (aV 1) ak)) ak))) ak))) ak))) dG) (aF (cP 2 (GP)) (aF (eZ (iV (aa (aO cL (Zi 1) (di aY 0 (aa (Zi 3) ak))) ak)) (aj 3) (aF (aQ (aB dH 1 (di aY 0 (aa (au d8 (aa (aV 1) ak)) ak))) (aj 4)) (aF (cP 5 (d9 6 7 (dW (aO cL (au El (aa (aV 1) ak)) (cz (aa (Zw []) ak)))) (aj 6) (eO (aB xP 6 (aV 4))) (aM 6))) (oV 2 (aM 4) (aB dH 5 (di aY 0 (aa (au d8 (aa (aV 5) ak)) ak))))))) (bI (au cI (aa (d9 6 7 (dW (au jd (aa (aV 2) ak))) (aj 6) bZ (bY (Zv 6 (aa (aB jq 2 (aV 6)) ak)))) ak)))))
def gZ:List D->Option (D×D):=gV 6 fj
def jE:cu:=aF (aQ (aO dH (cz (aa (Zw [111,110,99,101]) (aa (Zw [97,108,111,110,103]) ak))) (di aY 0 (aa (Zi 2) ak))) (aj 2)) (aF (aQ (di gZ 0 (Zv 1 ak)) (aj 3)) (bI (bY (Zv 2 (Zv 3 (aa (di gF 0 (Zv 1 ak)) (aa (di gF 0 (Zv 1 ak)) ak)))))))
def jC:List D->Option (D×D):=gV 4 jE
open Ev PySem L2
theorem tH{i:Int}{b:Nat}(h:i.natAbs<2^b):Builtin.Int.intBits i<=b:=by
 unfold Builtin.Int.intBits;split
 ·exact Qxy _
 ·rename_i h0;have hz:i.natAbs≠0:=λz=>h0 (by rw[Int.natAbs_eq_zero.mp z];rfl);exact(Nat.log2_lt hz).mpr h
theorem uH{i j:Int}{a b:Nat}(h1:Builtin.Int.intBits i<=a)(h2:Builtin.Int.intBits j<=b)(h:a+b<=134217728):lG i j=true:=
 Qw8 (by omega)
def Mw(i:Int):Int:=i*262406895267124108351839057402211873468251940277165213587343 % 10^60
theorem Ze(i:Int):(Mw i).natAbs<2^200:=by
 unfold Mw;have h1:0<=i*262406895267124108351839057402211873468251940277165213587343 % 10^60:=Int.emod_nonneg _ (by decide);have h2:i*262406895267124108351839057402211873468251940277165213587343 % 10^60<10^60:=Int.emod_lt_of_pos _ (by decide);have h3:(10:Int)^60<=2^200:=by decide
 omega
theorem mixed{i:Int}(h:Builtin.Int.intBits i<=2^20):iT [.int i]=some (.int (Mw i)):=by
 have hm:lG i 262406895267124108351839057402211873468251940277165213587343=true:=uH h (tH (b:=198) (by decide)) (by decide);have e1:aB uK 0 (Zi 262406895267124108351839057402211873468251940277165213587343) [Zf (.int i)] = .ok (.int (i*262406895267124108351839057402211873468251940277165213587343)) [Zf (.int i)]:=by
  show jf (gI lG (λi j=>D.int (i*j)) (.int i) (.int _)) _=_;unfold gI;simp only;rw[if_pos hm]
  rfl
 show(match bI _ [Zf (.int i)] with|.rt false d _=>some d|.nx _=>some .non|_=>none)=_;rw[bH (d:=.int (Mw i)) (e:=[Zf (.int i)])];unfold aO;rw[e1]
 rfl
theorem Z3{α:Type}{xs:List α}{lo hi:Option Int}{x:α}(h:x∈cutD xs lo hi):x∈xs:=List.mem_of_mem_drop (List.mem_of_mem_take h)
theorem WY{α:Type}(x:α)(r:List α):uf (x::r) 0=some x:=mW (j:=0) rfl
def nA:cu:=aQ (aO cL (aB uK 2 (aO MK (Zi 10) (Zi 60))) (au iT (aa (aO dH (aO cL (xR (aM 0) (zK (aM 3)) (zK (aB cL 3 (Zi 1)))) (cz (aa (aO cL (aO uK (Zi 7919) (aV 3)) (Zi 61)) ak))) (Zi 0)) ak))) (aj 2)
theorem DY(ns:List Int)(hl:ns.length<=63)(hb:Np ns)(k a f:Int)(ha:a.natAbs<2^10)(hf:Builtin.Int.intBits f<=2^20) :
  ∃f':Int,nA [Zf (.arr (ns.map .int)),Zf (.int k),Zf (.int f),Zf (.int a)] = .nx [Zf (.arr (ns.map .int)),Zf (.int k),Zf (.int f'),Zf (.int a)]/\(f=0->f'.natAbs<2^200):=by
 generalize hE:([Zf (.arr (ns.map .int)),Zf (.int k),Zf (.int f),Zf (.int a)]:Ev.Env)=env;have m1:lG 7919 a=true:=uH (a:=20) (b:=10) (tH (by decide)) (tH ha) (by decide);have m2:lG f (10^(60:Int).toNat)=true:=uH (b:=200) hf (tH (by decide)) (by decide);have e1:xR (aM 0) (zK (aM 3)) (zK (aB cL 3 (Zi 1))) env = .ok (.lst (cutD (ns.map .int) (some a) (some (a+1)))) env:=by rw[<-hE];rfl
 have e2:cz (aa (aO cL (aO uK (Zi 7919) (aV 3)) (Zi 61)) ak) env = .ok (.lst [.int (7919*a+61)]) env:=by refine JX (aH (bF (bF (x:=.int 7919) (y:=.int a) (e1:=env) (e2:=env) rfl (by rw[<-hE];rfl) (Pq m1)) (y:=.int 61) rfl rfl) bz) Ev.zz1
 generalize hL:cutD (ns.map D.int) (some a) (some (a+1))=L at e1;have hLl:L.length<=63:=by rw[<-hL];exact Qq3 (su _ _ _) (by rw[Qqx];exact hl)
 have e3:aO cL (xR (aM 0) (zK (aM 3)) (zK (aB cL 3 (Zi 1)))) (cz (aa (aO cL (aO uK (Zi 7919) (aV 3)) (Zi 61)) ak)) env = .ok (.lst (L++[.int (7919*a+61)])) env:=by exact bF e1 e2 (Wh (by show L.length+1<=sizeLine;exact Qq3 (Nat.succ_le_succ hLl) (by decide)))
 obtain⟨c,hc,hcb⟩:∃c:Int,uf (L++[.int (7919*a+61)]) 0=some (.int c)/\Builtin.Int.intBits c<=2^20:=by
  cases hLc:L with
  | nil=>
   refine⟨7919*a+61,rfl,Qq3 (tH (b:=30) ?_) (by decide)⟩;omega
  | cons y r=>
   have hy:y∈ns.map D.int:=Z3 (lo:=some a) (hi:=some (a+1)) (by rw[hL,hLc];exact Qqv ..);obtain⟨i,hi,rfl⟩:=Qwy.mp hy;exact⟨i,WY _ _,hb i hi⟩
 have e4:au iT (aa (aO dH (aO cL (xR (aM 0) (zK (aM 3)) (zK (aB cL 3 (Zi 1)))) (cz (aa (aO cL (aO uK (Zi 7919) (aV 3)) (Zi 61)) ak))) (Zi 0)) ak) env = .ok (.int (Mw c)) env:=by exact aJ (aH (bF (y:=.int 0) e3 rfl hc) bz) (mixed hcb)
 refine⟨f*10^(60:Int).toNat+Mw c,?_,λh0=>?_⟩
 ·unfold nA;refine bC (d:=.int (f*10^(60:Int).toNat+Mw c)) (e:=env) ?_ (by rw[<-hE];rfl);have e5:aB uK 2 (aO MK (Zi 10) (Zi 60)) env = .ok (.int (f*10^(60:Int).toNat)) env:=by
   rw[<-hE];exact iz (x:=.int f) rfl rfl rfl (Pq m2)
  exact bF e5 e4 rfl
 ·rw[h0,Int.zero_mul,Int.zero_add];exact Ze c
theorem pack(ns:List Int)(hl:ns.length<=63)(hb:Np ns)(k:Int)(h0:0<=k)(h1:k<=500):∃p:Int,jD [.arr (ns.map .int),.int k]=some (.lst [.int p]):=by
 obtain⟨f1,e1,b1⟩:=DY ns hl hb k (k+1) 0 (by omega) (by decide);obtain⟨f2,e2,_⟩:=DY ns hl hb k k f1 (by omega) (Qq3 (tH (b1 rfl)) (by decide));refine⟨f2,?_⟩;have h:lA [Zf (.arr (ns.map .int)),Zf (.int k),Zn,Zn] = .rt true (.lst [.int f2]) [Zf (.arr (ns.map .int)),Zf (.int k),Zf (.int f2),Zf (.int k)]:=by
  unfold lA
  let E0:Ev.Env:=[Zf (.arr (ns.map .int)),Zf (.int k),Zf (.int 0),Zn]
  refine(az (e:=E0) rfl).trans ?_;refine(az (e:=[Zf (.arr (ns.map .int)),Zf (.int k),Zf (.int f2),Zf (.int k)]) ?_).trans rfl;refine(dq (ds:=[.int (k+1),.int k]) (e:=E0) rfl).trans ?_;show je (aj 3) nA [.int (k+1),.int k] _=_;unfold je;show(match nA [Zf (.arr (ns.map .int)),Zf (.int k),Zf (.int 0),Zf (.int (k+1))] with|.nx e2=>je (aj 3) nA [.int k] e2|.ct e2=>_|.bk e2=>_|.rt o d e2=>_|.stuck=>_)=_;rw[e1];simp only;unfold je;show(match nA [Zf (.arr (ns.map .int)),Zf (.int k),Zf (.int f1),Zf (.int k)] with|.nx e2=>je (aj 3) nA [] e2|.ct e2=>_|.bk e2=>_|.rt o d e2=>_|.stuck=>_)=_;rw[e2]
  rfl
 show(match lA _ with|.rt true d _=>some d|_=>none)=_;have e:envOf 4 [D.arr (ns.map .int),.int k]=[Zf (.arr (ns.map .int)),Zf (.int k),Zn,Zn]:=rfl;rw[e,h]
def known:D:=.lst [.str [115,116,111,112],.str [115,116,111,112,115],.str [115],.str [111,112,101,110],.str [97,98,99,100,101,102,103,104]]
def zj:cu:=aQ (au jd (aa (d9 7 8 (iV (aa (Zi 5) ak)) (aj 7) (eO (aO qz (aO JN (aB JK 5 (aV 7)) (Zi 1)) (Zi 1))) (aB dH 2 (aV 7))) ak)) (aj 6)
def mk(d:Nat):D:=match zj [Zn,Zn,Zf known,Zn,Zn,Zf (.int d),Zn] with
 | .nx e=>(match e[6]? with|some (some (_,z))=>z|_=>.non)
 | _=>.non
def AllB(P:Nat->Prop):Nat->Prop
 | 0=>True
 | n+1=>AllB P n/\P n
theorem uP{P:Nat->Prop}:∀{n:Nat},AllB P n->∀d,d<n->P d
 | 0,_,d,h=>absurd h (Qk1 d)
 | n+1,⟨a,b⟩,d,h=>by
  by_cases e:d=n
  ·subst e;exact b
  ·exact uP a d (by omega)
theorem marks(d:Nat)(hd:d<32)(a b c e f:OD):zj [a,b,Zf known,c,e,Zf (.int d),f] = .nx [a,b,Zf known,c,e,Zf (.int d),Zf (mk d)]:=by refine uP (P:=λd=>zj [a,b,Zf known,c,e,Zf (.int (d:Nat)),f] = .nx [a,b,Zf known,c,e,Zf (.int (d:Nat)),Zf (mk d)]) (n:=32) ?_ d hd;and_intros<;>first|exact True.intro|kernel_rfl
def afV:D->Bool
 | .lst _=>true
 | _=>false
theorem ac3(d:Nat)(hd:d<32):∃zs,mk d = .lst zs:=by
 have h:((List.range 32).all λd=>afV (mk d))=true:=by decide +kernel
 have h1:=Qxw.mp h d (Qkk.mpr hd);cases e:mk d with
 | lst zs=>exact⟨zs,rfl⟩
 | _=>rw[e] at h1;cases h1
inductive Rows:List D->List D->Prop where
 | nil:Rows [] []
 | cons {s m:D} {ss rs:List D}:Rows ss rs->Rows (s::ss) (.tup [s,m]::rs)
theorem Rows.snoc{ss rs:List D}(h:Rows ss rs)(s m:D):Rows (ss++[s]) (rs++[.tup [s,m]]):=by
 induction h with
 | nil=>exact .cons .nil
 | cons _ ih=>exact .cons ih
theorem Rows.len{ss rs:List D}(h:Rows ss rs):rs.length=ss.length:=by
 induction h with
 | nil=>rfl
 | cons _ ih=>rw[Qqw,Qqw,ih]
theorem du{i:Nat}{a:Ev}{env e:Ev.Env}{d:D}{xs x0:List D}(h0:env[i]? = some (Zl x0))(h1:a env = .ok d e)(h2:e[i]? = some (Zl xs))(hz:xs.length<sizeLine):dw i a env = .nx (e.set i (Zl (xs++[d]))):=by unfold dw;rw[h0];show iW (a env) _=_;rw[h1];show(match e[i]? with|some (some (true,.lst xs))=>if xs.length<sizeLine then Out.nx (e.set i (Zl (xs++[d]))) else .stuck|_=>.stuck)=_;rw[h2];show(if xs.length<sizeLine then _ else _)=_;rw[if_pos hz]
def wX:cu:=aF (aQ (di aY 0 (aa (Zi 32) ak)) (aj 5)) (aF zj (dw 3 (bY (Zv 4 (aa (au cI (aa (xR (aM 6) pI (zK (Zi 4))) ak)) ak)))))
theorem Li(n:Int)(b v5 v6:OD)(acc:List D)(s:D)(ha:acc.length<=10):∃m v5' v6',wX [Zl [.int n],b,Zf known,Zl acc,Zf s,v5,v6] = .nx [Zl [.int (n / 32)],b,Zf known,Zl (acc++[.tup [s,m]]),Zf s,v5',v6']:=by obtain⟨d,hd,e⟩:=dig n 32 (by decide);obtain⟨zs,hz⟩:=ac3 d hd;refine⟨.tup (cutD zs none (some 4)),Zf (.int d),Zf (.lst zs),?_⟩;unfold wX;refine(az (e:=[Zl [.int (n / 32)],b,Zf known,Zl acc,Zf s,Zf (.int (n % (32:Nat))),v6]) rfl).trans ?_;rw[e];refine(az (marks d hd _ _ _ _ _)).trans ?_;rw[hz];exact Ev.mL (xs:=acc) (e:=[Zl [.int (n / 32)],b,Zf known,Zl acc,Zf s,Zf (.int d),Zf (.lst zs)]) rfl rfl rfl (Qw4 ha (by decide))
def XS:List (List Nat):=[[97],[97,98],[97,98,99],[97,101,112,116],[109,110,122]]
theorem nH:∀x∈XS,x.length<=4:=by decide
theorem stock(n:Int):∃x rows n',x∈XS/\jO [.lst [.int n]]=some (.tup rows,.lst [.int n'])/\Rows (gB x) rows:=by
 obtain⟨d,hd,e⟩:=dig n 6 (by decide);obtain⟨x,hx,h1⟩:∃x,x∈XS/\∀m:Int,(λ(k:Int) (m:Int)=>iW (jf (dH (.lst [.str [97],.str [97,98],.str [97,98],.str [97,98,99],.str [97,101,112,116],.str [109,110,122]]) (.int k)) ([Zl [.int m],Zn,Zn,Zn,Zn,Zn,Zn]:Ev.Env)) λd aL=>VF (aj 1 d aL)) (d:Int) m = .nx [Zl [.int m],Zs x,Zn,Zn,Zn,Zn,Zn]:=by
  have hc:d=0\/d=1\/d=2\/d=3\/d=4\/d=5:=by omega
  rcases hc with rfl|rfl|rfl|rfl|rfl|rfl
  ·exact⟨[97],by decide,λm=>rfl⟩
  ·exact⟨[97,98],by decide,λm=>rfl⟩
  ·exact⟨[97,98],by decide,λm=>rfl⟩
  ·exact⟨[97,98,99],by decide,λm=>rfl⟩
  ·exact⟨[97,101,112,116],by decide,λm=>rfl⟩
  ·exact⟨[109,110,122],by decide,λm=>rfl⟩
 have hxl:x.length<=4:=nH x hx;obtain⟨e',f1,n',acc,v4,v5,v6,rfl,hr⟩:=lr (g:=aj 4) (b:=wX) (gB x) (λdone env=>∃n acc v4 v5 v6,env=[Zl [.int n],Zs x,Zf known,Zl acc,v4,v5,v6]/\Rows done acc)
  (λdone s rest hall env ⟨n,acc,v4,v5,v6,he,hr⟩=>by
   subst he;have hd:done.length<=4:=by have:=Qx5 List.length hall;unfold gB at this;rw[Qqx,Qqj,Qqw] at this;omega
   obtain⟨m,w5,w6,hb⟩:=Li n (Zs x) v5 v6 acc s (by rw[hr.len];omega);exact⟨_,_,rfl,hb,n / 32,_,_,_,_,rfl,hr.snoc s m⟩)
  [Zl [.int (n / 6)],Zs x,Zf known,Zl [],Zn,Zn,Zn] ⟨_,[],_,_,_,rfl,.nil⟩
 let E0:Ev.Env:=[Zl [.int n'],Zs x,Zf known,Zl acc,v4,v5,v6]
 refine⟨x,acc,n',hx,iH (env:=E0) ?_ rfl,hr⟩;unfold oK;refine(az (e:=[Zl [.int (n / 6)],Zs x,Zn,Zn,Zn,Zn,Zn]) ?_).trans ?_
 ·have h2:=h1 (n / 6);rw[<-e] at h2;exact h2
 refine(az (e:=[Zl [.int (n / 6)],Zs x,Zf known,Zn,Zn,Zn,Zn]) rfl).trans ?_;refine(az (e:=[Zl [.int (n / 6)],Zs x,Zf known,Zl [],Zn,Zn,Zn]) rfl).trans ?_;refine(az (e:=E0) ?_).trans ?_
 ·exact(dq (ds:=gB x) rfl).trans f1
 ·rfl
theorem Yc{ss rs:List D}(h:Rows ss rs):∀(a v1 v2:OD),∃w1 w2,Hk (bK 2 (aD (aj 1) (aD (aj 2) bN))) bZ (aM 1) rs [a,v1,v2] = .ok ss [a,w1,w2]:=by
 induction h with
 | nil=>exact λa v1 v2=>⟨v1,v2,rfl⟩
 | cons _ ih=>
  rename_i s m ss rs _;intro a v1 v2;obtain⟨w1,w2,e⟩:=ih a (Zf s) (Zf m);refine⟨w1,w2,?_⟩;unfold Hk;show bindR (Hk _ bZ (aM 1) rs [a,Zf s,Zf m]) _=_;rw[e]
  rfl
theorem Dz{x:List Nat}{rs:List D}(hx:x∈XS)(h:Rows (gB x) rs):d9 1 3 (dW (aM 0)) (bK 2 (aD (aj 1) (aD (aj 2) bN))) bZ (aM 1) [Zf (.tup rs)] = .ok (.lst (gB x)) [Zf (.tup rs)]:=by obtain⟨w1,w2,e⟩:=Yc h (Zf (.tup rs)) none none;exact oG (lo:=1) (n:=3) (ds:=rs) (ys:=gB x) (aL:=[Zf (.tup rs)]) (dX:=[Zf (.tup rs),w1,w2]) rfl rfl (by exact e) (by unfold gB;rw[Qqx];exact Qq3 (nH x hx) (by decide))
theorem sounds_of{x:List Nat}{rs:List D}(hx:x∈XS)(h:Rows (gB x) rs):dZ [.tup rs]=some (.tup (gB x)):=
 bV (bH (aJ (aH (Dz hx h) bz) rfl))
theorem join_eq:∀x∈XS,jN (.str []) (.lst (gB x))=some (.str x):=by intro x hx;unfold XS at hx;simp only[Qq1,Qwk,Qx6] at hx;rcases hx with rfl|rfl|rfl|rfl|rfl<;>kernel_rfl
theorem Bj{x:List Nat}{rs:List D}(hx:x∈XS)(h:Rows (gB x) rs):eU [.tup rs]=some (.str x):=
 bV (bH (bF (x:=.str []) rfl (Dz hx h) (join_eq x hx)))
def isT:Option D->Bool
 | some (.bl true)=>true
 | _=>false
theorem adf{o:Option D}(h:isT o=true):o=some (.bl true):=by
 cases o with
 | none=>cases h
 | some d=>cases d with
  | bl b=>cases b with
   | true=>rfl
   | false=>cases h
  | _=>cases h
def M(x:List Nat):Nat:=2*2^x.length - 1
def uv:cu:=aF (aQ (aO cL (Zw [35]) (aV 1)) (aj 3)) (bI (au cI (aa (d9 4 5 (iV (aa (au d8 (aa (aV 3) ak)) ak)) (aj 4) (eO (aO qz (aO JN (aB JK 2 (aV 4)) (Zi 1)) (Zi 1))) (aB dH 3 (aV 4))) ak)))
def sgR(x:List Nat)(d:Nat):D:=match uv [Zn,Zs x,Zf (.int (1+(d:Int))),Zn] with
 | .rt _ r _=>r
 | _=>.non
def SG(x:List Nat):List D:=.non::(List.range (M x)).map (sgR x)
theorem X4(a:OD):∀x∈XS,∀d,d<M x->∃e3,uv [a,Zs x,Zf (.int (1+(d:Int))),Zn] = .rt false (sgR x d) [a,Zs x,Zf (.int (1+(d:Int))),e3]:=by
 intro x hx d hd;refine⟨Zs (35::x),?_⟩;unfold XS at hx;simp only[Qq1,Qwk,Qx6] at hx;rcases hx with rfl|rfl|rfl|rfl|rfl
 ·refine uP (P:=λd=>uv [a,Zs [97],Zf (.int (1+((d:Nat):Int))),Zn] = .rt false (sgR [97] d) [a,Zs [97],Zf (.int (1+((d:Nat):Int))),Zs (35::[97])]) (n:=3) ?_ d hd;and_intros<;>first|exact True.intro|kernel_rfl
 ·refine uP (P:=λd=>uv [a,Zs [97,98],Zf (.int (1+((d:Nat):Int))),Zn] = .rt false (sgR [97,98] d) [a,Zs [97,98],Zf (.int (1+((d:Nat):Int))),Zs (35::[97,98])]) (n:=7) ?_ d hd;and_intros<;>first|exact True.intro|kernel_rfl
 ·refine uP (P:=λd=>uv [a,Zs [97,98,99],Zf (.int (1+((d:Nat):Int))),Zn] = .rt false (sgR [97,98,99] d) [a,Zs [97,98,99],Zf (.int (1+((d:Nat):Int))),Zs (35::[97,98,99])]) (n:=15) ?_ d hd;and_intros<;>first|exact True.intro|kernel_rfl
 ·refine uP (P:=λd=>uv [a,Zs [97,101,112,116],Zf (.int (1+((d:Nat):Int))),Zn] = .rt false (sgR [97,101,112,116] d) [a,Zs [97,101,112,116],Zf (.int (1+((d:Nat):Int))),Zs (35::[97,101,112,116])]) (n:=31) ?_ d hd;and_intros<;>first|exact True.intro|kernel_rfl
 ·refine uP (P:=λd=>uv [a,Zs [109,110,122],Zf (.int (1+((d:Nat):Int))),Zn] = .rt false (sgR [109,110,122] d) [a,Zs [109,110,122],Zf (.int (1+((d:Nat):Int))),Zs (35::[109,110,122])]) (n:=15) ?_ d hd;and_intros<;>first|exact True.intro|kernel_rfl
theorem signs(n:Int)(x:List Nat)(hx:x∈XS):∃r n',gF [.lst [.int n],.str x]=some (r,.lst [.int n'])/\r∈SG x:=by
 obtain⟨d,hd,e⟩:=dig n 2 (by decide);have t:eO (aO qz (di aY 0 (aa (Zi 2) ak)) (Zi 0)) [Zl [.int n],Zs x,Zn,Zn] = .ok ((d:Int) == 0) [Zl [.int (n / 2)],Zs x,Zn,Zn]:=by
  rw[<-e]
  rfl
 have hc:d=0\/d=1:=by omega
 rcases hc with rfl|rfl
 ·let E0:Ev.Env:=[Zl [.int (n / 2)],Zs x,Zn,Zn]
  refine⟨.non,n / 2,iH (env:=E0) ?_ rfl,Qqv ..⟩;unfold gG;refine(lM (e:=E0) ?_).trans rfl;exact(ik (e:=E0) t).trans rfl
 ·obtain⟨k,hk,ek⟩:=dig (n / 2) (M x) (by unfold M;have:0<2^x.length:=Nat.two_pow_pos _;omega);obtain⟨e3,h3⟩:=X4 (Zl [.int (n / 2 / (M x:Int))]) x hx k hk;refine⟨sgR x k,n / 2 / (M x:Int),iH (env:=[Zl [.int (n / 2 / (M x:Int))],Zs x,Zf (.int (1+(k:Int))),e3]) ?_ rfl,Qqk _ (Qwy.mpr ⟨k,Qkk.mpr hk,rfl⟩)⟩;unfold gG
  let E1:Ev.Env:=[Zl [.int (n / 2)],Zs x,Zn,Zn]
  refine(az (e:=E1) ?_).trans ?_
  ·exact(fB (e:=E1) t).trans rfl
  ·refine(az (e:=[Zl [.int (n / 2 / (M x:Int))],Zs x,Zf (.int (1+n / 2 % (M x:Int))),Zn]) ?_).trans ?_
   ·unfold XS at hx;simp only[Qq1,Qwk,Qx6] at hx;rcases hx with rfl|rfl|rfl|rfl|rfl<;>rfl
   ·rw[ek];exact h3
def oth(x:List Nat)(c:Nat):List D:=((x.map (λa=>[a])++[[]]).filter λz=>z != [c]).map .str
def PV(x:List Nat):List (Nat×D):=x.flatMap λc=>(oth x c).map λv=>(c,v)
def one:cu:=aQ (aB dH 1 (di aY 0 (aa (au d8 (aa (aV 1) ak)) ak))) (aj 4)
def others:cu:=cP 5 (d9 6 7 (dW (aO cL (au El (aa (aV 1) ak)) (cz (aa (Zw []) ak)))) (aj 6) (eO (aB xP 6 (aV 4))) (aM 6))
def IK:cu:=oV 2 (aM 4) (aB dH 5 (di aY 0 (aa (au d8 (aa (aV 5) ak)) ak)))
theorem Q7(a b v3 v5:OD):∀x∈XS,∀c∈x,others [a,Zs x,b,v3,Zs [c],v5] = .nx [a,Zs x,b,v3,Zs [c],Zl (oth x c)]:=by
 intro x hx c hc;unfold XS at hx;simp only[Qq1,Qwk,Qx6] at hx;rcases hx with rfl|rfl|rfl|rfl|rfl<;>simp only[Qq1,Qwk,Qx6] at hc
 ·subst hc;kernel_rfl
 ·rcases hc with rfl|rfl<;>kernel_rfl
 ·rcases hc with rfl|rfl|rfl<;>kernel_rfl
 ·rcases hc with rfl|rfl|rfl|rfl<;>kernel_rfl
 ·rcases hc with rfl|rfl|rfl<;>kernel_rfl
theorem YX:∀x∈XS,∀c∈x,(oth x c).length=x.length:=by decide +kernel
theorem xX:∀x∈XS,0<x.length:=by decide
theorem mR(n:Int)(m:Nat)(h0:0<m)(h1:m<1073741824):aY [.lst [.int n],.int (m:Int)]=some (.int (n % m),.lst [.int (n / m)]):=by
 let E0:Ev.Env:=[Zl [.int (n / m)],Zf (.int m),Zf (.int (n % m))]
 refine iH (env:=E0) ?_ rfl;unfold eN;have g:tu [.int n,.int (m:Int)]=some (.tup [.int (n / m),.int (n % m)]):=by show(if 0<(m:Int)/\(m:Int)<1073741824 then _ else _)=_;rw[if_pos (by omega)]
 refine(az (e:=E0) ?_).trans rfl;exact bC (aJ (ds:=[.int n,.int (m:Int)]) (e:=[Zl [.int n],Zf (.int m),Zn]) (by rfl) g) (by rfl)
theorem Qz{i:Nat}{k a:Ev}{env e1 e2:Ev.Env}{d kd x0:D}{o:Bool}{q:Key}{kvs:List (D×D)}(h1:a env = .ok d e1)(h2:e1[i]? = some (some (o,x0)))(h3:k e1 = .ok kd e2)(h4:e2[i]? = some (Zt (.dct kvs)))(h5:mD kd=some q)(hz:kvs.length<sizeLine) :
  oV i k a env = .nx (e2.set i (Zt (.dct (putD kvs kd q d)))):=by
 unfold oV;rw[h1];simp only[iW];rw[h2];simp only;rw[h3];simp only;rw[h4,h5];simp only;rw[if_pos hz]
def Uv(kvs:List (D×D))(p:Nat×D):List (D×D):=putD kvs (.str [p.1]) (.inr (strOf [p.1])) p.2
theorem round(n:Int)(x:List Nat)(hx:x∈XS)(kvs:List (D×D))(hk:kvs.length<=10)(v3 v4 v5:OD):∃p n' v4' v5',p∈PV x/\aF one (aF others IK) [Zl [.int n],Zs x,Zt (.dct kvs),v3,v4,v5] = .nx [Zl [.int n'],Zs x,Zt (.dct (Uv kvs p)),v3,v4',v5']:=by
 have hp:=xX x hx;have hl4:=nH x hx;obtain⟨d,hd,e⟩:=dig n x.length hp;have hc:x[d]∈x:=Qzv hd;have hol:=YX x hx x[d] hc;obtain⟨d',hd',e'⟩:=dig (n / (x.length:Int)) x.length hp;have hv:d'<(oth x x[d]).length:=by rw[hol];exact hd'
 refine⟨(x[d],(oth x x[d])[d']),n / (x.length:Int) / (x.length:Int),Zs [x[d]],Zl (oth x x[d]),?_,?_⟩
 ·unfold PV;exact Qj3.mpr ⟨x[d],hc,Qwy.mpr ⟨_,Qzv hv,rfl⟩⟩
 ·refine(az (e:=[Zl [.int (n / (x.length:Int))],Zs x,Zt (.dct kvs),v3,Zs [x[d]],v5]) ?_).trans ?_
  ·unfold one;refine bC (d:=.str [x[d]]) (e:=[Zl [.int (n / (x.length:Int))],Zs x,Zt (.dct kvs),v3,v4,v5]) ?_ (by rfl);refine iz (x:=.str x) (y:=.int (n % (x.length:Int))) (by rfl) ?_ (by rfl) ?_
   ·exact qe (x:=.lst [.int n]) (x0:=.lst [.int n]) (ds:=[.int (x.length:Int)]) (e1:=[Zl [.int n],Zs x,Zt (.dct kvs),v3,v4,v5]) (by rfl) (by rfl) (by rfl) (mR n x.length hp (by omega))
   ·show(uf x (n % (x.length:Int))).map _=_;rw[e,Hc hd]
    rfl
  ·refine(az (Q7 _ _ _ _ x hx x[d] hc)).trans ?_;unfold IK
   let E0:Ev.Env:=[Zl [.int (n / (x.length:Int) / (x.length:Int))],Zs x,Zt (.dct kvs),v3,Zs [x[d]],Zl (oth x x[d])]
   refine(Qz (d:=(oth x x[d])[d']) (kd:=.str [x[d]]) (o:=true) (x0:=.dct kvs) (kvs:=kvs) (q:=.inr (strOf [x[d]])) (e1:=E0)
    (e2:=E0) ?_ (by rfl) (by rfl) (by rfl) (by rfl) (Qw4 hk (by decide))).trans rfl
   refine GQ (x:=.lst (oth x x[d])) (y:=.int (n / (x.length:Int) % (x.length:Int))) (by rfl) ?_ (by rfl) ?_
   ·refine qe (x:=.lst [.int (n / (x.length:Int))]) (x0:=.lst [.int (n / (x.length:Int))]) (ds:=[.int (x.length:Int)]) (e1:=[Zl [.int (n / (x.length:Int))],Zs x,Zt (.dct kvs),v3,Zs [x[d]],Zl (oth x x[d])]) (by rfl) ?_ (by rfl) (mR _ x.length hp (by omega));refine aH (d:=.int (x.length:Int)) ?_ bz;refine aJ (ds:=[.lst (oth x x[d])]) (by rfl) ?_;show some (D.int ((oth x x[d]).length:Int))=_;rw[hol]
   ·show uf (oth x x[d]) (n / (x.length:Int) % (x.length:Int))=_;rw[e',Hc hv]
def RN(kvs:List (D×D)):Option D:=match jd [.dct kvs] with
 | some (.lst ks)=>if (ks.all λk=>(jq (.dct kvs) k).isSome) then some (.tup (ks.map λk=>.tup [k,(jq (.dct kvs) k).getD .non])) else none
 | _=>none
def adT:cu:=bI (au cI (aa (d9 6 7 (dW (au jd (aa (aV 2) ak))) (aj 6) bZ (bY (Zv 6 (aa (aB jq 2 (aV 6)) ak)))) ak))
theorem JH{kvs:List (D×D)}{ks:List D}(h:jd [.dct kvs]=some (.lst ks)):ks.length<=64:=by
 obtain⟨zs,h1,h2⟩:=Qx1.mp h;split at h2
 ·rename_i hz;cases h2;rw[Qqx,(iG zs).length_eq];omega
 ·cases h2
theorem G4{kvs:List (D×D)}{ch:D}(h:RN kvs=some ch)(a b v3 v4 v5:OD):adT [a,b,Zt (.dct kvs),v3,v4,v5] = .rt false ch [a,b,Zt (.dct kvs),v3,v4,v5]:=by
 unfold RN at h;split at h
 ·rename_i ks hs;split at h
  ·rename_i hall;cases h;obtain⟨env',h1,v6,rfl⟩:=zz (g:=aj 6) (e:=bY (Zv 6 (aa (aB jq 2 (aV 6)) ak))) (λenv=>∃v6,env=[a,b,Zt (.dct kvs),v3,v4,v5,v6]) (λk=>.tup [k,(jq (.dct kvs) k).getD .non]) ks [a,b,Zt (.dct kvs),v3,v4,v5,Zn] ⟨none,rfl⟩
    (λk hk env ⟨v6,he⟩=>by
     subst he;obtain⟨v,hv⟩:=Qzy.mp (Qxw.mp hall k hk);refine⟨_,[a,b,Zt (.dct kvs),v3,v4,v5,Zf k],rfl,?_,Zf k,rfl⟩;rw[hv];exact cA (ds:=[k,v]) (aH (d:=k) (e1:=[a,b,Zt (.dct kvs),v3,v4,v5,Zf k]) (by rfl) (aH (d:=v) (GQ (x:=.dct kvs) (y:=k) (by rfl) (by rfl) (by rfl) hv) bz)) Ev.zb)
   refine bH (aJ (ds:=[.lst (ks.map λk=>.tup [k,(jq (.dct kvs) k).getD .non])]) (aH (e1:=[a,b,Zt (.dct kvs),v3,v4,v5]) ?_ bz) rfl);refine oG (lo:=6) (n:=7) (ds:=ks) (aL:=[a,b,Zt (.dct kvs),v3,v4,v5]) (dX:=[a,b,Zt (.dct kvs),v3,v4,v5,v6]) ?_ (by rfl) h1 ?_
   ·exact zL (d:=.lst ks) (aJ (ds:=[.dct kvs]) (by rfl) hs) rfl
   ·rw[Qqx];exact Qq3 (JH hs) (by decide)
  ·cases h
 ·cases h
structure Hi(x:List Nat)(kvs:List (D×D))(zs:List Nat):Prop where
 keys:kvs.map (·.1)=zs.map λc=>D.str [c]
 nd:zs.Nodup
 mem:∀c∈zs,c∈x
 vals:∀k v,(k,v)∈kvs->∃c,k = .str [c]/\(c,v)∈PV x
theorem mY{a b:List Nat}(h:strOf a=strOf b):a=b:=by
 have:=Qx5 (λs:Str=>s.cps.toList) h
 simpa[strOf] using this
theorem wY(q:Key)(d:D):∀kvs:List (D×D),(yP kvs q d).map (·.1)=kvs.map (·.1)
 | []=>rfl
 | (k,e)::r=>by
  unfold yP;rw[Qq8,Qq8,wY q d r];split<;>rfl
theorem Ab{q:Key}{d:D}:∀{kvs:List (D×D)} {k v:D},(k,v)∈yP kvs q d->(k,v)∈kvs\/(mD k=some q/\v=d)
 | [],_,_,h=>by simp[yP] at h
 | (k',e)::r,k,v,h=>by
  unfold yP at h;rcases Qq1.mp h with h|h
  ·split at h
   ·rename_i hk;cases h;exact .inr ⟨hk,rfl⟩
   ·cases h;exact .inl (Qqv ..)
  ·rcases Ab h with h|h
   ·exact .inl (Qqk _ h)
   ·exact .inr h
theorem wO{q:Key}:∀{kvs:List (D×D)},jQ kvs q=none->∀k v,(k,v)∈kvs->mD k≠some q
 | [],_,k,v,hm=>by simp at hm
 | (k',e)::r,h,k,v,hm=>by
  unfold jQ at h;split at h
  ·cases h
  ·rename_i hk;rcases Qq1.mp hm with hm|hm
   ·cases hm;exact hk
   ·exact wO h k v hm
theorem mX{q:Key}{d:D}:∀{kvs:List (D×D)},jQ kvs q=some d->∃k,(k,d)∈kvs/\mD k=some q
 | [],h=>by simp[jQ] at h
 | (k',e)::r,h=>by
  unfold jQ at h;split at h
  ·rename_i hk;cases h;exact⟨k',Qqv ..,hk⟩
  ·obtain⟨k,h1,h2⟩:=mX h;exact⟨k,Qqk _ h1,h2⟩
theorem Hi.put{x:List Nat}{kvs:List (D×D)}{zs:List Nat}(h:Hi x kvs zs){p:Nat×D}(hp:p∈PV x)(hx:p.1∈x):∃zs',Hi x (Uv kvs p) zs'/\0<zs'.length/\zs'.length<=zs.length+1:=by
 unfold Uv putD;cases e:jQ kvs (.inr (strOf [p.1])) with
 | none=>
  simp only[Option.isSome_none,Bool.false_eq_true,if_false];refine⟨zs++[p.1],⟨?_,?_,λc hc=>?_,λk v hm=>?_⟩,by simp,by simp⟩
  ·rw[Qw6,Qw6,h.keys];rfl
  ·refine List.nodup_append.mpr ⟨h.nd,Qzq.mpr ⟨Qwk,.nil⟩,λa ha b hb=>?_⟩;rcases Qqy.mp hb with rfl;rintro rfl;have hm:D.str [p.1]∈kvs.map (·.1):=by rw[h.keys];exact Qwy.mpr ⟨p.1,ha,rfl⟩
   obtain⟨⟨k,v⟩,h1,h2⟩:=Qwy.mp hm;have h2':k = .str [p.1]:=h2;subst h2';exact wO e _ _ h1 rfl
  ·rcases Qw1.mp hc with hc|hc
   ·exact h.mem c hc
   ·rw[Qqy.mp hc];exact hx
  ·rcases Qw1.mp hm with hm|hm
   ·exact h.vals k v hm
   ·have:=Qqy.mp hm;cases this;exact⟨p.1,rfl,hp⟩
 | some w=>
  simp only[Option.isSome_some,if_true];obtain⟨k0,hk0,_⟩:=mX e;have hne:0<zs.length:=by have:=Qx5 List.length h.keys;rw[Qqx,Qqx] at this;rw[<-this];exact Qjk hk0
  refine⟨zs,⟨by rw[wY];exact h.keys,h.nd,h.mem,λk v hm=>?_⟩,hne,Qvx _⟩;rcases Ab hm with hm|⟨hk,rfl⟩
  ·exact h.vals k v hm
  ·have hin:k∈(yP kvs (.inr (strOf [p.1])) p.2).map (·.1):=Qwy.mpr ⟨_,hm,rfl⟩;rw[wY,h.keys] at hin;obtain⟨c,hc,rfl⟩:=Qwy.mp hin;have:strOf [c]=strOf [p.1]:=by
    have:=Qw2 hk;exact Sum.inr.inj this
   have e2:=mY this;cases e2;exact⟨p.1,rfl,hp⟩
theorem Hh{x:List Nat}{p:Nat×D}(h:p∈PV x):p.1∈x:=by unfold PV at h;obtain⟨c,hc,h⟩:=Qj3.mp h;obtain⟨v,_,rfl⟩:=Qwy.mp h;exact hc
theorem jH(zs:List (List Nat)):iC (zs.map D.str)=some zs:=by
 induction zs with
 | nil=>rfl
 | cons z r ih=>
  rw[Qq8];unfold iC;rw[ih]
  rfl
def prs(kvs:List (D×D))(ks:List D):List D:=ks.map λk=>.tup [k,(jq (.dct kvs) k).getD .non]
theorem Gu{x:List Nat}{kvs:List (D×D)}{zs:List Nat}(h:Hi x kvs zs)(k:D)(hk:k∈(jl (zs.map λc=>[c])).map D.str):∃c v,k = .str [c]/\jq (.dct kvs) k=some v/\(c,v)∈PV x:=by
 obtain⟨z,hz,rfl⟩:=Qwy.mp hk;obtain⟨c,hc,rfl⟩:=Qwy.mp ((iG _).mem_iff.mp hz);have hm:D.str [c]∈kvs.map (·.1):=by rw[h.keys];exact Qwy.mpr ⟨c,hc,rfl⟩
 obtain⟨⟨k,v⟩,h1,h2⟩:=Qwy.mp hm;have h2':k = .str [c]:=h2;subst h2';cases e:jQ kvs (.inr (strOf [c])) with
 | none=>exact absurd rfl (wO e _ _ h1)
 | some w=>
  obtain⟨k',h3,h4⟩:=mX e;obtain⟨c',rfl,h5⟩:=h.vals k' w h3;have e2:strOf [c']=strOf [c]:=Sum.inr.inj (Qw2 h4);cases mY e2;exact⟨c,w,rfl,e,h5⟩
end iu
namespace cZ
open Ev
def eN:cu:=cR.eN
def aY:List D->Option (D×D):=gV 3 eN
def ql:cu:=bI (aO jN (Zw []) (d9 3 4 (iV (aa (di aY 0 (aa (aB cL 2 (Zi 1)) ak)) ak)) (aj 3) bZ (aB dH 1 (di aY 0 (aa (au d8 (aa (aV 1) ak)) ak)))))
def jB:List D->Option (D×D):=gV 3 ql
open Ev PySem L2
abbrev XS:=iu.XS
theorem xX:∀x∈XS,0<x.length:=by decide
theorem mR(n:Int)(m:Nat)(h0:0<m)(h1:m<1073741824):aY [.lst [.int n],.int (m:Int)]=some (.int (n % m),.lst [.int (n / m)]):=by
 let E0:Ev.Env:=[Zl [.int (n / m)],Zf (.int m),Zf (.int (n % m))]
 refine iH (env:=E0) ?_ rfl;unfold eN;have g:tu [.int n,.int (m:Int)]=some (.tup [.int (n / m),.int (n % m)]):=by show(if 0<(m:Int)/\(m:Int)<1073741824 then _ else _)=_;rw[if_pos (by omega)]
 refine(az (e:=E0) ?_).trans rfl;exact bC (aJ (ds:=[.int n,.int (m:Int)]) (e:=[Zl [.int n],Zf (.int m),Zn]) (by rfl) g) (by rfl)
theorem Gr{g:GV}{e:Ev}(P:Ev.Env->Prop)(R:D->Prop):∀(ds:List D) (env:Ev.Env),P env->(∀d∈ds,∀env,P env->∃y e1 e2,g d env=some e1/\e e1 = .ok y e2/\P e2/\R y)->∃ys env',Hk g bZ e ds env = .ok ys env'/\P env'/\(∀y∈ys,R y)/\ys.length=ds.length
 | [],env,hp,_=>⟨[],env,rfl,hp,λy hy=>by simp at hy,rfl⟩
 | d::ds,env,hp,h=>by
  obtain⟨y,e1,e2,h1,h2,h3,h4⟩:=h d (Qqv ..) env hp;obtain⟨ys,e3,h5,h6,h7,h8⟩:=Gr P R ds e2 h3 λd' hd=>h d' (Qqk _ hd);refine⟨y::ys,e3,?_,h6,λz hz=>?_,by rw[Qqw,Qqw,h8]⟩
  ·unfold Hk;rw[h1];show bindR (e e1) _=_;rw[h2];show bindR (Hk g bZ e ds e2) _=_;rw[h5]
   rfl
  ·rcases Qq1.mp hz with rfl|hz
   ·exact h4
   ·exact h7 z hz
theorem sX:∀(zs:List (List Nat)),vP [] zs=zs.flatten
 | []=>rfl
 | x::r=>by
  show r.foldl (λacc y=>acc++[]++y) x=(x::r).flatten;have go:∀(r:List (List Nat)) (x:List Nat),r.foldl (λacc y=>acc++[]++y) x=x++r.flatten:=by
   intro r
   induction r with
   | nil=>intro x;simp
   | cons y r ih=>intro x;rw[Qj0,ih];simp
  rw[go];rfl
theorem jH(zs:List (List Nat)):iC (zs.map D.str)=some zs:=by
 induction zs with
 | nil=>rfl
 | cons z r ih=>
  rw[Qq8];unfold iC;rw[ih]
  rfl
theorem uo{zs:List (List Nat)}{k:Nat}(h:∀z∈zs,z.length<=k):(zs.map List.length).sum<=zs.length*k:=by
 induction zs with
 | nil=>simp
 | cons z r ih=>
  rw[Qq8,List.sum_cons,Qqw,Nat.add_mul];have h1:=h z (Qqv ..);have h2:=ih λy hy=>h y (Qqk _ hy);omega
theorem Rz{zs:List (List Nat)}(h1:zs.length<=100)(h2:∀z∈zs,z.length<=10):joinFits [] zs=true:=by
 refine Qw8 ?_;have:=uo h2;have h3:zs.length*10<=1000:=by omega
 show _+zs.length*0<=_;omega
theorem join_eq{zs:List (List Nat)}(h1:zs.length<=100)(h2:∀z∈zs,z.length<=10):jN (.str []) (.lst (zs.map .str))=some (.str zs.flatten):=by show(match iC (zs.map D.str) with|some xs=>if joinFits [] xs=true then some (D.str (vP [] xs)) else none|none=>none)=_;rw[jH];show(if joinFits [] zs=true then _ else _)=_;rw[if_pos (Rz h1 h2),sX]
theorem NB{x:List Nat}:∀{ys:List D},(∀y∈ys,∃c∈x,y = .str [c])->∃w:List Nat,ys=(w.map λc=>[c]).map D.str/\∀c∈w,c∈x
 | [],_=>⟨[],rfl,λc hc=>by simp at hc⟩
 | y::ys,h=>by
  obtain⟨c,hc,rfl⟩:=h y (Qqv ..);obtain⟨w,rfl,hw⟩:=NB λz hz=>h z (Qqk _ hz);refine⟨c::w,rfl,λd hd=>?_⟩;rcases Qq1.mp hd with rfl|hd
  ·exact hc
  ·exact hw d hd
theorem Wk(w:List Nat):(w.map λc=>[c]).flatten=w:=by
 induction w with
 | nil=>rfl
 | cons c r ih=>rw[Qq8,List.flatten_cons,ih];rfl
theorem Tv{j:Nat}(h:j<1000):yS [.int (j:Int)]=some (gf 0 1 j):=by
 have hf:lD (j:Int)=true:=by unfold lD;rw[Qjz];exact⟨Qw8 (by omega),Qw8 (by omega)⟩
 unfold yS;simp only;rw[if_pos hf,Qk3]
theorem rW{a:dI}{env e:Ev.Env}{ds ys:List D}(h:a env = .ok ds e)(h':yS ds=some ys):iV a env = .ok ys e:=by
 unfold iV;rw[h];show jf (yS ds) e=_;rw[h']
 rfl
theorem word(n:Int)(x:List Nat)(hx:x∈XS)(m:Nat)(hm:m<=50):∃w n',jB [.lst [.int n],.str x,.int (m:Int)]=some (.str w,.lst [.int n'])/\(∀c∈w,c∈x)/\w.length<=m:=by
 have hp:=xX x hx;have hl4:=iu.nH x hx;obtain⟨d,hd,e⟩:=dig n (m+1) (by omega);obtain⟨ys,env',h1,⟨n',v3,rfl⟩,h3,h4⟩:=Gr (g:=aj 3) (e:=aB dH 1 (di aY 0 (aa (au d8 (aa (aV 1) ak)) ak))) (λenv=>∃n v3,env=[Zl [.int n],Zs x,Zf (.int (m:Int)),v3]) (λy=>∃c∈x,y = .str [c]) (gf 0 1 d)
  [Zl [.int (n / ((m+1:Nat):Int))],Zs x,Zf (.int (m:Int)),Zn] ⟨_,_,rfl⟩
  (λs _ env ⟨n,v3,he⟩=>by
   subst he;obtain⟨j,hj,ej⟩:=dig n x.length hp;refine⟨.str [x[j]],[Zl [.int n],Zs x,Zf (.int (m:Int)),Zf s],[Zl [.int (n / (x.length:Int))],Zs x,Zf (.int (m:Int)),Zf s],rfl,?_,⟨_,_,rfl⟩,x[j],Qzv hj,rfl⟩;refine iz (x:=.str x) (y:=.int (n % (x.length:Int))) (by rfl) ?_ (by rfl) ?_
   ·exact qe (x:=.lst [.int n]) (x0:=.lst [.int n]) (ds:=[.int (x.length:Int)]) (e1:=[Zl [.int n],Zs x,Zf (.int (m:Int)),Zf s]) (by rfl) (by rfl) (by rfl) (mR n x.length hp (by omega))
   ·show(uf x (n % (x.length:Int))).map _=_;rw[ej,Hc hj]
    rfl)
 obtain⟨w,rfl,hw⟩:=NB h3;have hwl:w.length=d:=by have:=h4;rw[Qqx,Qqx,kJ] at this;exact this
 refine⟨w,n',iH (env:=[Zl [.int n'],Zs x,Zf (.int (m:Int))]) ?_ rfl,hw,by omega⟩;unfold ql
 let E1:Ev.Env:=[Zl [.int n],Zs x,Zf (.int (m:Int))]
 refine bH (bF (x:=.str []) (e1:=E1) (by rfl) (y:=.lst ((w.map λc=>[c]).map D.str)) ?_ ?_)
 ·let E0:Ev.Env:=[Zl [.int (n / ((m+1:Nat):Int))],Zs x,Zf (.int (m:Int))]
  refine oG (lo:=3) (n:=4) (ds:=gf 0 1 d) (aL:=E0) (dX:=[Zl [.int n'],Zs x,Zf (.int (m:Int)),v3]) ?_ (by rfl) h1 ?_
  ·refine rW (ds:=[.int (n % ((m+1:Nat):Int))]) ?_ (by rw[e];exact Tv (by omega));refine aH (e1:=E0) ?_ bz;exact qe (x:=.lst [.int n]) (x0:=.lst [.int n]) (ds:=[.int ((m+1:Nat):Int)]) (e1:=E1) (by rfl) (by rfl) (by rfl) (mR n (m+1) (by omega) (by omega))
  ·rw[Qqx,Qqx,hwl];exact Qq3 (show d<=100 by omega) (by decide)
 ·have:=join_eq (zs:=w.map λc=>[c]) (by rw[Qqx];omega) (λz hz=>by obtain⟨c,_,rfl⟩:=Qwy.mp hz;simp);rw[Wk] at this;exact this
theorem du{i:Nat}{a:Ev}{env e:Ev.Env}{d:D}{xs x0:List D}(h0:env[i]? = some (Zl x0))(h1:a env = .ok d e)(h2:e[i]? = some (Zl xs))(hz:xs.length<sizeLine):dw i a env = .nx (e.set i (Zl (xs++[d]))):=iu.du h0 h1 h2 hz
abbrev Step:=List Nat×Nat
abbrev State:=List Nat×List Step
def encP(p:Step):D:=.tup [.str p.1,.int (p.2:Int)]
def bG(s:State):D:=.tup [.str s.1,.tup (s.2.map encP)]
def encM(first:List Nat)(ss:List State):D:=.tup [.str first,.tup (ss.map bG)]
def texts(x:List Nat):List (List Nat):=[[],[x.headD 0],[x.getLastD 0],[x.headD 0,x.headD 0],[x.headD 0,x.getLastD 0]]
def idx(x:List Nat)(c:Nat):Option Nat:=xB [c] (x.map λa=>[a])
theorem V5:∀x∈XS,∀c∈x,∃j,idx x c=some j/\j<x.length/\sZ (.tup (gB x)) (.str [c])=some (.int (j:Int))/\Pn (.str x) (.str [c])=some (.int (j:Int)):=by
 intro x hx c hc;unfold XS iu.XS at hx;simp only[Qq1,Qwk,Qx6] at hx;rcases hx with rfl|rfl|rfl|rfl|rfl<;>simp only[Qq1,Qwk,Qx6] at hc
 ·subst hc;exact⟨0,by kernel_rfl,by decide,by kernel_rfl,by kernel_rfl⟩
 ·rcases hc with rfl|rfl
  ·exact⟨0,by kernel_rfl,by decide,by kernel_rfl,by kernel_rfl⟩
  ·exact⟨1,by kernel_rfl,by decide,by kernel_rfl,by kernel_rfl⟩
 ·rcases hc with rfl|rfl|rfl
  ·exact⟨0,by kernel_rfl,by decide,by kernel_rfl,by kernel_rfl⟩
  ·exact⟨1,by kernel_rfl,by decide,by kernel_rfl,by kernel_rfl⟩
  ·exact⟨2,by kernel_rfl,by decide,by kernel_rfl,by kernel_rfl⟩
 ·rcases hc with rfl|rfl|rfl|rfl
  ·exact⟨0,by kernel_rfl,by decide,by kernel_rfl,by kernel_rfl⟩
  ·exact⟨1,by kernel_rfl,by decide,by kernel_rfl,by kernel_rfl⟩
  ·exact⟨2,by kernel_rfl,by decide,by kernel_rfl,by kernel_rfl⟩
  ·exact⟨3,by kernel_rfl,by decide,by kernel_rfl,by kernel_rfl⟩
 ·rcases hc with rfl|rfl|rfl
  ·exact⟨0,by kernel_rfl,by decide,by kernel_rfl,by kernel_rfl⟩
  ·exact⟨1,by kernel_rfl,by decide,by kernel_rfl,by kernel_rfl⟩
  ·exact⟨2,by kernel_rfl,by decide,by kernel_rfl,by kernel_rfl⟩
section
variable{x:List Nat}{ss:List State}{m:Nat}{first:List Nat}
def iw(x:List Nat)(ss:List State)(q c:Nat):Step:=(ss.getD q ([],[])).2.getD ((idx x c).getD 0) ([],0)
def pA(x:List Nat)(ss:List State)(w:List Nat):List (List Nat)×Nat:=w.foldl (λs c=>(s.1++[(iw x ss s.2 c).1],(iw x ss s.2 c).2)) ([],0)
theorem Bm(v:List Nat)(c:Nat):pA x ss (v++[c])=((pA x ss v).1++[(iw x ss (pA x ss v).2 c).1],(iw x ss (pA x ss v).2 c).2):=by
 unfold pA;rw[List.foldl_append]
 rfl
def uN(ss:List State)(q:Nat):List Nat:=(ss.getD q ([],[])).1
theorem zJ{α:Type}(f:α->D)(l:List α)(q:Nat)(a:α)(h:l[q]? = some a):dH (.tup (l.map f)) (.int (q:Int))=some (f a):=by show uf (l.map f) (q:Int)=_;exact mW (by rw[Qwv,h];rfl)
def res(x first:List Nat)(ss:List State)(w:List Nat):List Nat:=first++((pA x ss w).1.flatten++uN ss (pA x ss w).2)
def FZ:cu:=cR.Jv
theorem Dw{w:List Nat}{done rest:List D}{d:D}(h:gB w=done++d::rest):∃v c,done=gB v/\d = .str [c]/\c∈w/\(∀e∈v,e∈w)/\v.length<w.length:=by
 have h1:done=gB (w.take done.length):=by
  have h0:=Qx5 (List.take done.length) h;rw[List.take_left' rfl] at h0;have h1:(gB w).take done.length=gB (w.take done.length):=by unfold gB;rw[List.map_take]
  exact h0.symm.trans h1
 have hl:done.length<w.length:=by have:=Qx5 List.length h;unfold gB at this;rw[Qqx,Qqj,Qqw] at this;omega
 have hd:d = .str [w[done.length]]:=by
  have:(gB w)[done.length]? = some d:=by rw[h];simp
  unfold gB at this;rw[Qwv,Qq9 hl] at this;exact(Qw2 this).symm
 exact⟨_,_,h1,hd,Qzv hl,λe he=>List.mem_of_mem_take he,by rw[Qzj];omega⟩
def R:List Nat:=[114,105,103,104,116]
def isR(side:List Nat):Bool:=side == R
def rd(side w:List Nat):List Nat:=if isR side then w.reverse else w
theorem HX(side:List Nat)(env:Ev.Env)(h:env[2]? = some (Zs side)):eO (aB qz 2 (Zw [114,105,103,104,116])) env = .ok (isR side) env:=
 dh (xT h (by rfl) h rfl)
theorem abV(i:Nat)(side w:List Nat)(env:Ev.Env)(h:env[2]? = some (Zs side))(h3:env[i]? = some (Zs w)):Wn (eO (aB qz 2 (Zw [114,105,103,104,116]))) (pH (aM i)) (aM i) env = .ok (.str (rd side w)) env:=by
 have hv:aM i env = .ok (.str w) env:=by unfold aM;rw[h3]
 unfold Wn;rw[HX side env h];show(if isR side=true then pH (aM i) env else aM i env)=_;unfold rd;cases isR side with
 | true=>rw[if_pos rfl,if_pos rfl];unfold pH;rw[hv];rfl
 | false=>rw[if_neg Qw5,if_neg Qw5];exact hv
end
theorem aeR{i j c:Int}(h:c≠0/\c.natAbs<1073741824/\Builtin.Range.small i j c=true):yS [.int i,.int j,.int c]=some (gf i c (Builtin.Range.rangeSize i j c).toNat):=by unfold yS;simp only;rw[if_pos h]
end cZ
namespace lV
open Ev
def o8:cu:=cR.o8
def cX:LD:=cN 2 o8
def jt:cu:=cR.jt
def j6:LD:=cN 5 jt
def ig:cu:=cR.ig
def gw:LD:=cN 1 ig
def gk:cu:=aF (aQ (aM 0) (bK 4 (aD (aj 2) (aD (aj 3) (aD (aj 4) (aD (aj 5) bN)))))) (aF (aQ (aO dH (aB dH 3 (Zi 0)) (Zi 1)) (aj 6)) (aF (cP 7 (cz ak)) (aF (aQ (Zw [35]) (aj 8)) (aF (eZ (dW (aB cL 1 (Zw [35]))) (aj 9) (aF (iD (eV (eO (au cX (Zv 4 (Zv 8 ak)))) (eO (au cX (Zv 5 (Zv 9 ak))))) (dw 7 (aM 6)) dG) (aF (dw 7 (aM 9)) (aQ (aM 9) (aj 8))))) (bI (aO jN (Zw []) (xR (aM 7) pI (zK (wg MN (Zi 1))))))))))
def jr:LD:=cN 10 gk
def fG:cu:=aF (aQ (aM 0) (bK 4 (aD (aj 2) (aD (aj 3) (aD (aj 4) (aD (aj 5) bN)))))) (aF (aQ (au tX (aa (aV 3) ak)) (aj 6)) (aF (aQ (aB cL 1 (Zw [35])) (aj 7)) (aF (cP 8 (cz ak)) (aF (aQ (Zw [35]) (aj 9)) (aF (eZ (MT (Zv 1 ak)) (bK 2 (aD (aj 10) (aD (aj 11) bN))) (aF (aQ (aM 11) (aj 12)) (aF (iD (eV (eO (aB xQ 11 (aV 6))) (eV (eO (au cX (Zv 4 (Zv 9 ak)))) (eO (au cX (Zv 5 (aa (aB dH 7 (aB cL 10 (Zi 1))) ak)))))) (aQ (aB jq 6 (aV 11)) (aj 12)) dG) (aF (dw 8 (aM 12)) (iD (eO (aB qz 2 (Zw [111,110,99,101]))) (aQ (aM 11) (aj 9)) (iD (eO (aB xP 12 (Zw []))) (aQ (aM 12) (aj 9)) dG)))))) (bI (aO jN (Zw []) (aV 8))))))))
def iQ:LD:=cN 13 fG
def d7:cu:=cR.d7
def iU:LD:=cN 2 d7
def gA:cu:=cR.gA
def ie:LD:=cN 3 gA
def qm:cu:=bI (bY (aa (aB dH 0 (Zi 0)) (aa (aB dH 0 (Zi 1)) (aa (aB dH 0 (Zi 3)) (aa (aB dH 0 (Zi 2)) ak)))))
open Ev PySem L2
abbrev XS:=iu.XS
open iu (xX nH Hi PV SG RN prs one others IK G4 Gu Uv mR Hh jH)
theorem aef:∀x∈XS,∀p∈PV x,∃t,p.2 = .str t/\t.length<=1/\∀c∈t,c∈x:=by
 have h:(XS.all λx=>(PV x).all λp=>match p.2 with|.str t=>decide (t.length<=1/\∀c∈t,c∈x)|_=>false)=true:=by decide +kernel
 intro x hx p hp;have:=Qxw.mp (Qxw.mp h x hx) p hp;split at this
 ·rename_i t e;exact⟨t,e,Qxk this⟩
 ·cases this
theorem QC{x:List Nat}{kvs:List (D×D)}{zs:List Nat}(h:Hi x kvs zs)(h4:zs.length<=4):jd [.dct kvs]=some (.lst ((jl (zs.map λc=>[c])).map .str)):=by
 have e:kvs.map (·.1)=(zs.map λc=>[c]).map D.str:=by rw[h.keys,Qxj];rfl
 show(iC (kvs.map (·.1))).bind _=_;rw[e,jH];show(if _ then _ else _)=_;rw[if_pos];refine⟨by rw[Qqx];omega,λz hz=>?_⟩;obtain⟨c,_,rfl⟩:=Qwy.mp hz;show 1<=sizeLine
 decide
theorem Qc{x:List Nat}{kvs:List (D×D)}{zs:List Nat}(h:Hi x kvs zs)(h4:zs.length<=4):RN kvs=some (.tup (prs kvs ((jl (zs.map λc=>[c])).map D.str))):=by
 unfold RN;rw[QC h h4];simp only;rw[if_pos]
 ·rfl
 ·refine Qxw.mpr λk hk=>?_;obtain⟨c,v,_,e,_⟩:=Gu h k hk;rw[e];rfl
abbrev Pr:=Nat×List Nat
def encC(p:Pr):D:=.tup [.str [p.1],.str p.2]
inductive Dl (x:List Nat):D->Prop
 | put {c:Nat}:c∈x->Dl x (.tup [.tup [.str [],.str [c]]])
 | chg {ps:List Pr}:0<ps.length->ps.length<=4->(∀p∈ps,p.1∈x/\p.2.length<=1/\∀c∈p.2,c∈x)->Dl x (.tup (ps.map encC))
theorem Ge{x:List Nat}{kvs:List (D×D)}(hx:x∈XS):∀(ks:List D),(∀k∈ks,∃c v,k = .str [c]/\jq (.dct kvs) k=some v/\(c,v)∈PV x)->∃ps:List Pr,prs kvs ks=ps.map encC/\ps.length=ks.length/\∀p∈ps,p.1∈x/\p.2.length<=1/\∀c∈p.2,c∈x
 | [],_=>⟨[],rfl,rfl,λp hp=>by simp at hp⟩
 | k::ks,h=>by
  obtain⟨c,v,rfl,e,hv⟩:=h k (Qqv ..);obtain⟨t,et,ht⟩:=aef x hx _ hv;obtain⟨ps,e1,e2,e3⟩:=Ge hx ks λk hk=>h k (Qqk _ hk);refine⟨(c,t)::ps,?_,by rw[Qqw,Qqw,e2],λp hp=>?_⟩
  ·unfold prs at e1 ⊢;rw[Qq8,e1,e];have et':v = .str t:=et;rw[et']
   rfl
  ·rcases Qq1.mp hp with rfl|hp
   ·exact⟨Hh hv,ht⟩
   ·exact e3 p hp
structure jF(x:List Nat)(w ch l r:D):Prop where
 way:w = .str [111,110,99,101]\/w = .str [97,108,111,110,103]
 chg:Dl x ch
 left:l∈SG x
 right:r∈SG x
def fit(l:D)(a:Nat):Bool:=iu.isT (cX [l,.str [a]])
theorem fY:∀x∈XS,∀l∈SG x,∀a∈35::x,cX [l,.str [a]]=some (.bl (fit l a)):=by
 have h:(XS.all λx=>(SG x).all λl=>(35::x).all λa=>(iu.isT (cX [l,.str [a]])||(match cX [l,.str [a]] with|some (.bl false)=>true|_=>false)))=true:=by decide +kernel
 intro x hx l hl a ha;have h1:=Qxw.mp (Qxw.mp (Qxw.mp h x hx) l hl) a ha;unfold fit;generalize cX [l,.str [a]]=o at h1;rcases Bool.or_eq_true_iff.mp h1 with h2|h2
 ·rw[h2];exact iu.adf h2
 ·split at h2
  ·rfl
  ·cases h2
open iu (SG du)
theorem mQ{a b:List Nat}(h:a.length+b.length<=100000):cL (.str a) (.str b)=some (.str (a++b)):=by show(if a.length+b.length<=sizeLine then _ else _)=_;rw[if_pos (Qq3 h (by decide))]
theorem jP{a b:fU}{env:Ev.Env}{p q:Bool}(h1:a env = .ok p env)(h2:b env = .ok q env):eV a b env = .ok (p&&q) env:=by
 unfold eV;rw[h1];cases p with
 | true=>exact h2
 | false=>rfl
theorem V0{zs:List (List Nat)}(h1:zs.length<=80000)(h2:∀z∈zs,z.length<=2):jN (.str []) (.lst (zs.map .str))=some (.str zs.flatten):=by
 have hf:joinFits [] zs=true:=by refine Qw8 ?_;have:=cZ.uo h2;show _+zs.length*0<=_;omega
 show(match iC (zs.map D.str) with|some xs=>if joinFits [] xs=true then some (D.str (vP [] xs)) else none|none=>none)=_;rw[cZ.jH];show(if joinFits [] zs=true then _ else _)=_;rw[if_pos hf,cZ.sX]
theorem Qg{all done rest:List D}{d:D}(h:all=done++d::rest):all[done.length]? = some d:=by rw[h];simp
theorem getD_get{z:List Nat}{n:Nat}(h:n<z.length):z[n]? = some (z.getD n 0):=by rw[Qq7,Qq9 h];rfl
theorem afT{z:List Nat}{n:Nat}(h:n<z.length):dH (.str z) (.int (n:Int))=some (.str [z.getD n 0]):=by
 show(uf z (n:Int)).map _=_;rw[mW (getD_get h)]
 rfl
theorem abN{z done rest:List _}{d:D}(h:gB z=done++d::rest):d = .str [z.getD done.length 0]/\done.length<z.length:=by have h1:=Qg h;unfold gB at h1;rw[Qwv] at h1;obtain⟨c,hc,rfl⟩:=Qq6.mp h1;have hl:done.length<z.length:=(Qq4.mp hc).1;rw[getD_get hl] at hc;cases hc;exact⟨rfl,hl⟩
theorem Wx{α:Type}(xs:List α):cutD xs none (some (-1))=xs.dropLast:=by
 unfold cutD;have e1:HT.fM xs.length xs.length (some (-1))=((-1:Int)+(xs.length:Int)).toNat:=rfl;have e2:HT.fM xs.length 0 none=0:=rfl;rw[e1,e2,List.drop_zero,List.dropLast_eq_take]
 congr 1
 omega
abbrev ed(w:List Nat):List Nat:=35::(w++[35])
abbrev sg(w:List Nat)(n:Nat):Nat:=(ed w).getD n 0
section
variable{x w:List Nat}{l r:D}
theorem adI:(ed w).length=w.length+2:=by simp
theorem Fw(hw:∀c∈w,c∈x){n:Nat}(h:n<w.length+2):sg w n∈35::x:=by
 have h1:n<(ed w).length:=by rw[adI];exact h
 have:sg w n∈ed w:=Qww (getD_get h1);rcases Qq1.mp this with e|e
 ·rw[e];exact Qqv ..
 ·rcases Qw1.mp e with e|e
  ·exact Qqk _ (hw _ e)
  ·rw[Qqy.mp e];exact Qqv ..
def pc(l r:D)(c:Nat)(w:List Nat)(n:Nat):List (List Nat):=if (fit l (sg w n)&&fit r (sg w (n+1)))=true then [[c]] else []
def pin(l r:D)(c:Nat)(w:List Nat):Nat->List (List Nat)
 | 0=>[]
 | n+1=>pin l r c w n++(pc l r c w n++[[sg w (n+1)]])
theorem aaT(c:Nat)(n:Nat):(pc l r c w n).length<=1/\∀z∈pc l r c w n,z.length=1:=by
 unfold pc;split
 ·exact⟨Qq0 _,λz hz=>by rw[Qqy.mp hz];rfl⟩
 ·exact⟨Qxy _,λz hz=>by simp at hz⟩
theorem Gf(c:Nat):∀n,(pin l r c w n).length<=2*n/\∀z∈pin l r c w n,z.length=1
 | 0=>⟨Qq0 _,λz hz=>by simp[pin] at hz⟩
 | n+1=>by
  obtain⟨h1,h2⟩:=Gf c n;obtain⟨h3,h4⟩:=aaT (l:=l) (r:=r) (w:=w) c n;unfold pin;refine⟨by rw[Qqj,Qqj,Qwq];omega,λz hz=>?_⟩;rcases Qw1.mp hz with hz|hz
  ·exact h2 z hz
  ·rcases Qw1.mp hz with hz|hz
   ·exact h4 z hz
   ·rw[Qqy.mp hz];rfl
theorem agd{zs:List (List Nat)}(h:∀z∈zs,z.length=1):zs.flatten.length=zs.length:=by
 induction zs with
 | nil=>rfl
 | cons z t ih=>rw[List.flatten_cons,Qqj,h z (Qqv ..),ih λy hy=>h y (Qqk _ hy),Qqw];omega
def inn(l r:D)(c:Nat)(w:List Nat):List Nat:=(pin l r c w w.length++pc l r c w w.length).flatten
theorem Aq(c:Nat):(pin l r c w (w.length+1)).dropLast=pin l r c w w.length++pc l r c w w.length:=by show(pin l r c w w.length++(pc l r c w w.length++[[sg w (w.length+1)]])).dropLast=_;rw[<-Qxv,List.dropLast_concat]
variable(hx:x∈XS)(hl:l∈SG x)(hr:r∈SG x)(hw:∀c∈w,c∈x)(hn:w.length<=30000)
def KD:cu:=cR.pD
include hx hl hr
theorem Xz{c a s:Nat}(ha:a∈35::x)(hs:s∈35::x)(acc:List D)(hac:acc.length<=80000)(a0 a1 a2 a3:OD) :
  KD [a0,a1,a2,a3,Zf l,Zf r,Zs [c],Zl acc,Zs [a],Zs [s]] =
   .nx [a0,a1,a2,a3,Zf l,Zf r,Zs [c],Zl (acc++((if (fit l a&&fit r s)=true then [.str [c]] else [])++[.str [s]])),Zs [s],Zs [s]]:=by
 have t:eV (eO (au cX (Zv 4 (Zv 8 ak)))) (eO (au cX (Zv 5 (Zv 9 ak)))) [a0,a1,a2,a3,Zf l,Zf r,Zs [c],Zl acc,Zs [a],Zs [s]] = .ok (fit l a&&fit r s) [a0,a1,a2,a3,Zf l,Zf r,Zs [c],Zl acc,Zs [a],Zs [s]]:=
  jP (dh (aJ (ds:=[l,.str [a]]) rfl (fY x hx l hl a ha))) (dh (aJ (ds:=[r,.str [s]]) rfl (fY x hx r hr s hs)))
 have tl:∀acc:List D,acc.length<=80001->aF (dw 7 (aM 9)) (aQ (aM 9) (aj 8)) [a0,a1,a2,a3,Zf l,Zf r,Zs [c],Zl acc,Zs [a],Zs [s]] = .nx [a0,a1,a2,a3,Zf l,Zf r,Zs [c],Zl (acc++[.str [s]]),Zs [s],Zs [s]]:=λacc hac=>
  (az (Ev.mL (i:=7) (xs:=acc) (d:=.str [s]) (e:=[a0,a1,a2,a3,Zf l,Zf r,Zs [c],Zl acc,Zs [a],Zs [s]]) rfl rfl rfl (Qw4 hac (by decide)))).trans rfl
 unfold KD;cases hc:fit l a&&fit r s with
 | true=>
  rw[hc] at t;rw[if_pos rfl];refine(az (e:=[a0,a1,a2,a3,Zf l,Zf r,Zs [c],Zl (acc++[.str [c]]),Zs [a],Zs [s]]) ?_).trans ?_
  ·exact(ik t).trans ((Ev.mL (i:=7) (xs:=acc) (d:=.str [c]) (e:=[a0,a1,a2,a3,Zf l,Zf r,Zs [c],Zl acc,Zs [a],Zs [s]]) rfl rfl rfl (Qw4 hac (by decide))).trans rfl)
  ·rw[tl _ (by rw[Qqj,Qwq];omega),Qxv]
 | false=>
  rw[hc] at t;rw[if_neg Qw5];exact(az ((fB t).trans rfl)).trans (tl acc (by omega))
theorem YC(c n:Nat):((pin l r c w (n+1)).map D.str)=(pin l r c w n).map D.str++((if (fit l (sg w n)&&fit r (sg w (n+1)))=true then [.str [c]] else [])++[.str [sg w (n+1)]]):=by show(pin l r c w n++(pc l r c w n++[[sg w (n+1)]])).map D.str=_;rw[Qw6,Qw6];unfold pc;split<;>rfl
include hw hn
theorem with_put_in(wy:D)(c:Nat):jr [.tup [wy,.tup [.tup [.str [],.str [c]]],l,r],.str w]=some (.str (inn l r c w)):=by
 generalize hR:D.tup [wy,.tup [.tup [.str [],.str [c]]],l,r]=R;generalize hC:D.tup [.tup [.str [],.str [c]]]=ch;obtain⟨e',f1,hd,a9,rfl⟩:=lr (g:=aj 9) (b:=KD) (gB (w++[35]))
  (λdone env=>done.length<=w.length+1/\∃a9,env=[Zf R,Zs w,Zf wy,Zf ch,Zf l,Zf r,Zs [c],Zl ((pin l r c w done.length).map .str),Zs [sg w done.length],a9])
  (λdone s rest hall env ⟨hd,a9,he⟩=>by
   subst he;obtain⟨rfl,hdl⟩:=abN hall;have ajp:done.length<w.length+1:=by rw[Qqj,Qwq] at hdl;exact hdl
   have hp:=(Gf (l:=l) (r:=r) (w:=w) c done.length).1;refine⟨_,_,rfl,Xz hx hl hr (a:=sg w done.length) (s:=sg w (done.length+1)) (Fw (w:=w) hw (by omega)) (Fw (w:=w) hw (by omega)) _ (by rw[Qqx];omega) _ _ _ _,by rw[Qqj,Qwq];omega,Zs [sg w (done.length+1)],?_⟩;rw[Qqj,Qwq,YC hx hl hr])
  [Zf R,Zs w,Zf wy,Zf ch,Zf l,Zf r,Zs [c],Zl [],Zs [35],Zn] ⟨Qxy _,Zn,rfl⟩
 have hlen:(gB (w++[35])).length=w.length+1:=by unfold gB;rw[Qqx,Qqj,Qwq]
 rw[hlen] at f1;have hp:=Gf (l:=l) (r:=r) (w:=w) c (w.length+1);refine bV (env:=[Zf R,Zs w,Zf wy,Zf ch,Zf l,Zf r,Zs [c],Zf (.lst ((pin l r c w (w.length+1)).map .str)),Zs [sg w (w.length+1)],a9]) ?_;unfold gk;refine(az (e:=[Zf R,Zs w,Zf wy,Zf ch,Zf l,Zf r,Zn,Zn,Zn,Zn]) (by rw[<-hR,<-hC];rfl)).trans ?_;refine(az (e:=[Zf R,Zs w,Zf wy,Zf ch,Zf l,Zf r,Zs [c],Zn,Zn,Zn]) (by rw[<-hC];rfl)).trans ?_;refine(az (e:=[Zf R,Zs w,Zf wy,Zf ch,Zf l,Zf r,Zs [c],Zl [],Zn,Zn]) rfl).trans ?_;refine(az (e:=[Zf R,Zs w,Zf wy,Zf ch,Zf l,Zf r,Zs [c],Zl [],Zs [35],Zn]) rfl).trans ?_;refine(az ((dq (ds:=gB (w++[35])) (e:=[Zf R,Zs w,Zf wy,Zf ch,Zf l,Zf r,Zs [c],Zl [],Zs [35],Zn]) ?_).trans f1)).trans ?_
 ·refine zL (d:=.str (w++[35])) (iz (x:=.str w) (y:=.str [35]) rfl rfl rfl (mQ (by show w.length+1<=100000;omega))) rfl
 ·refine bH (bF (x:=.str []) (e1:=_) rfl (y:=.lst ((pin l r c w w.length++pc l r c w w.length).map .str)) ?_ ?_)
  ·have ec:cutD ((pin l r c w (w.length+1)).map D.str) none (some (-1))=(pin l r c w w.length++pc l r c w w.length).map D.str:=by
    rw[Wx,<-List.map_dropLast,Aq c]
   rw[<-ec]
   rfl
  ·rw[<-Aq c];unfold inn;rw[<-Aq c];refine V0 ?_ λz hz=>?_
   ·rw[List.length_dropLast];omega
   ·rw[hp.2 z (List.dropLast_subset _ hz)];decide
end
def wM(x:List Nat)(kvs:List (D×D)):Prop:=∀k v,(k,v)∈kvs->∃t:List Nat,v = .str t/\t.length<=1/\∀c∈t,c∈x
theorem wM.put{x:List Nat}{kvs:List (D×D)}(h:wM x kvs)(k:D)(q:Key)(t:List Nat)(h1:t.length<=1)(h2:∀c∈t,c∈x):wM x (putD kvs k q (.str t)):=by
 intro k' v hm;unfold putD at hm;split at hm
 ·rcases iu.Ab hm with hm|⟨_,rfl⟩
  ·exact h k' v hm
  ·exact⟨t,rfl,h1,h2⟩
 ·rcases Qw1.mp hm with hm|hm
  ·exact h k' v hm
  ·cases Qqy.mp hm;exact⟨t,rfl,h1,h2⟩
theorem wM.all{x:List Nat}:∀(ps:List Pr) (kvs:List (D×D)),wM x kvs->(∀p∈ps,p.1∈x/\p.2.length<=1/\∀c∈p.2,c∈x)->wM x (lE kvs (ps.map λp=>(.str [p.1],.str p.2)))
 | [],kvs,h,_=>h
 | p::ps,kvs,h,hp=>by
  have h1:=hp p (Qqv ..);exact wM.all ps _ (h.put (.str [p.1]) (.inr (strOf [p.1])) p.2 h1.2.1 h1.2.2) λp hm=>hp p (Qqk _ hm)
theorem DX:∀(ps:List Pr),pU (ps.map encC)=some (ps.map λp=>(.str [p.1],.str p.2))
 | []=>rfl
 | p::ps=>by
  rw[Qq8];unfold pU;rw[DX ps]
  rfl
theorem wA{x:List Nat}{ps:List Pr}(hp:∀p∈ps,p.1∈x/\p.2.length<=1/\∀c∈p.2,c∈x):∃kvs,tX [.tup (ps.map encC)]=some (.dct kvs)/\wM x kvs:=by
 refine⟨lE [] (ps.map λp=>(.str [p.1],.str p.2)),?_,wM.all ps [] (λk v h=>by simp at h) hp⟩;show(pU (ps.map encC)).map _=_;rw[DX]
 rfl
def look(kvs:List (D×D))(s:Nat):Option (List Nat):=match jQ kvs (.inr (strOf [s])) with
 | some (.str t)=>some t
 | _=>none
theorem zy{x:List Nat}{kvs:List (D×D)}(h:wM x kvs)(s:Nat):xQ (.str [s]) (.dct kvs)=some (.bl (look kvs s).isSome):=by
 show some (D.bl (jQ kvs (.inr (strOf [s]))).isSome)=_;unfold look;cases e:jQ kvs (.inr (strOf [s])) with
 | none=>rfl
 | some v=>
  obtain⟨k,hk,_⟩:=iu.mX e;obtain⟨t,rfl,_⟩:=h k v hk
  rfl
theorem jn{x:List Nat}{kvs:List (D×D)}(h:wM x kvs){s:Nat}{t:List Nat}(hs:look kvs s=some t):jq (.dct kvs) (.str [s])=some (.str t)/\t.length<=1/\∀c∈t,c∈x:=by
 unfold look at hs;split at hs
 ·rename_i u e;cases hs;obtain⟨k,hk,_⟩:=iu.mX e;obtain⟨t',h1,h2⟩:=h k _ hk;cases h1;exact⟨e,h2⟩
 ·cases hs
section
variable{x w:List Nat}{l r:D}{kvs:List (D×D)}
def nw(kvs:List (D×D))(l r:D)(w:List Nat)(near n:Nat):List Nat:=if ((look kvs (sg w (n+1))).isSome&&(fit l near&&fit r (sg w (n+2))))=true then (look kvs (sg w (n+1))).getD [] else [sg w (n+1)]
def dY(al:Bool)(w:List Nat)(made:List (List Nat))(n:Nat):Nat:=if al=true then (35::made.flatten).getLastD 0 else sg w n
def cg(al:Bool)(kvs:List (D×D))(l r:D)(w:List Nat):Nat->List (List Nat)
 | 0=>[]
 | n+1=>cg al kvs l r w n++[nw kvs l r w (dY al w (cg al kvs l r w n) n) n]
theorem N5(hw:∀c∈w,c∈x){n:Nat}(h:n<w.length):sg w (n+1)=w.getD n 0/\sg w (n+1)∈x:=by
 have e:sg w (n+1)=w.getD n 0:=by show(w++[35]).getD n 0=_;rw[Qq7,Qq7,Qxx h]
 exact⟨e,by rw[e];exact hw _ (Qww (getD_get h))⟩
theorem Vo(hk:wM x kvs)(hw:∀c∈w,c∈x){n:Nat}(h:n<w.length)(near:Nat):(nw kvs l r w near n).length<=1/\∀c∈nw kvs l r w near n,c∈x:=by
 unfold nw;split
 ·cases e:look kvs (sg w (n+1)) with
  | none=>exact⟨Qxy _,λc hc=>by simp at hc⟩
  | some t=>exact(jn hk e).2
 ·exact⟨Qq0 _,λc hc=>by rw[Qqy.mp hc];exact(N5 hw h).2⟩
theorem Eu(al:Bool)(hk:wM x kvs)(hw:∀c∈w,c∈x):∀n,n<=w.length->(cg al kvs l r w n).length=n/\∀z∈cg al kvs l r w n,z.length<=1/\∀c∈z,c∈x
 | 0,_=>⟨rfl,λz hz=>by simp[cg] at hz⟩
 | n+1,h=>by
  obtain⟨h1,h2⟩:=Eu al hk hw n (by omega);unfold cg;refine⟨by rw[Qqj,Qwq,h1],λz hz=>?_⟩;rcases Qw1.mp hz with hz|hz
  ·exact h2 z hz
  ·rw[Qqy.mp hz];exact Vo hk hw (by omega) _
theorem Z8(al:Bool)(hk:wM x kvs)(hw:∀c∈w,c∈x){n:Nat}(h:n<=w.length):(cg al kvs l r w n).flatten.length<=n:=by obtain⟨h1,h2⟩:=Eu (l:=l) (r:=r) al hk hw n h;rw[List.length_flatten];have:=cZ.uo (zs:=cg al kvs l r w n) (k:=1) λz hz=>(h2 z hz).1;omega
theorem Jw:∀(a:Nat) (z:List Nat),(a::z).getLastD 0∈a::z
 | a,[]=>Qqv ..
 | a,b::z=>Qqk _ (Jw b z)
theorem Vt(al:Bool)(hk:wM x kvs)(hw:∀c∈w,c∈x){n:Nat}(h:n<=w.length):dY al w (cg al kvs l r w n) n∈35::x:=by
 unfold dY;split
 ·rcases Qq1.mp (Jw 35 (cg al kvs l r w n).flatten) with e|e
  ·rw[e];exact Qqv ..
  ·obtain⟨z,hz,hc⟩:=List.mem_flatten.mp e;exact Qqk _ (((Eu (l:=l) (r:=r) al hk hw n h).2 z hz).2 _ hc)
 ·exact Fw hw (by omega)
theorem ah9(n:Nat):cL (.int (n:Int)) (.int 1)=some (.int ((n+1:Nat):Int)):=rfl
theorem Bb(made:List (List Nat))(t:List Nat)(n:Nat)(h:t.length<=1):dY true w (made++[t]) (n+1)=if t=[] then dY true w made n else t.headD 0:=by
 unfold dY;rw[if_pos rfl,if_pos rfl]
 match t,h with
 | [],_=>rw[if_pos rfl];simp
 | [a],_=>
  rw[if_neg (by simp)];rw[Qjw];have:∀(b:Nat) (z:List Nat),(b::(z++[a])).getLastD 0=a:=by
   intro b z
   induction z generalizing b with
   | nil=>rfl
   | cons c z ih=>exact ih c
  exact this 35 _
def cY(al:Bool):D:=if al=true then .str [97,108,111,110,103] else .str [111,110,99,101]
def KR:cu:=cR.oh
variable(hx:x∈XS)(hl:l∈SG x)(hr:r∈SG x)(hw:∀c∈w,c∈x)(hn:w.length<=30000)(hk:wM x kvs)
include hx hl hr hw hn hk
theorem XH(al:Bool)(n:Nat)(hnn:n<w.length)(a0 a1 a3 a12:OD) :
  ∃b12,KR [a0,a1,Zf (cY al),a3,Zf l,Zf r,Zf (.dct kvs),Zs (w++[35]),Zl ((cg al kvs l r w n).map .str),Zs [dY al w (cg al kvs l r w n) n],Zf (.int (n:Int)),Zs [sg w (n+1)],a12] =
   .nx [a0,a1,Zf (cY al),a3,Zf l,Zf r,Zf (.dct kvs),Zs (w++[35]),Zl ((cg al kvs l r w (n+1)).map .str),Zs [dY al w (cg al kvs l r w (n+1)) (n+1)],Zf (.int (n:Int)),Zs [sg w (n+1)],b12]:=by
 have hcl:=(Eu (l:=l) (r:=r) al hk hw n (by omega)).1;have hnm:=Vt (l:=l) (r:=r) al hk hw (n:=n) (by omega);have hno:=Vo (l:=l) (r:=r) hk hw hnn (dY al w (cg al kvs l r w n) n);have hcg:cg al kvs l r w (n+1)=cg al kvs l r w n++[nw kvs l r w (dY al w (cg al kvs l r w n) n) n]:=rfl;have i2:=afT (z:=w++[35]) (n:=n+1) (by rw[Qqj,Qwq];omega);have h2m:sg w (n+2)∈35::x:=Fw hw (by omega);rw[hcg];generalize hM:cg al kvs l r w n=made at *;generalize hN:dY al w made n=near at *;have hnw:nw kvs l r w near n=if ((look kvs (sg w (n+1))).isSome&&(fit l near&&fit r (sg w (n+2))))=true then (look kvs (sg w (n+1))).getD [] else [sg w (n+1)]:=rfl
 generalize hT:nw kvs l r w near n=t at *;refine⟨Zs t,?_⟩;unfold KR;refine(az (e:=[a0,a1,Zf (cY al),a3,Zf l,Zf r,Zf (.dct kvs),Zs (w++[35]),Zl (made.map .str),Zs [near],Zf (.int (n:Int)),Zs [sg w (n+1)],Zs [sg w (n+1)]]) rfl).trans ?_;refine(az (e:=[a0,a1,Zf (cY al),a3,Zf l,Zf r,Zf (.dct kvs),Zs (w++[35]),Zl (made.map .str),Zs [near],Zf (.int (n:Int)),Zs [sg w (n+1)],Zs t]) ?_).trans ?_
 ·have tt:eV (eO (aB xQ 11 (aV 6))) (eV (eO (au cX (Zv 4 (Zv 9 ak)))) (eO (au cX (Zv 5 (aa (aB dH 7 (aB cL 10 (Zi 1))) ak))))) [a0,a1,Zf (cY al),a3,Zf l,Zf r,Zf (.dct kvs),Zs (w++[35]),Zl (made.map .str),Zs [near],Zf (.int (n:Int)),Zs [sg w (n+1)],Zs [sg w (n+1)]] = .ok ((look kvs (sg w (n+1))).isSome&&(fit l near&&fit r (sg w (n+2)))) [a0,a1,Zf (cY al),a3,Zf l,Zf r,Zf (.dct kvs),Zs (w++[35]),Zl (made.map .str),Zs [near],Zf (.int (n:Int)),Zs [sg w (n+1)],Zs [sg w (n+1)]]:=by
   refine jP (dh (iz (x:=.str [sg w (n+1)]) (y:=.dct kvs) rfl rfl rfl (zy hk _))) (jP (dh (aJ (ds:=[l,.str [near]]) rfl (fY x hx l hl _ hnm))) (dh (aJ (ds:=[r,.str [sg w (n+2)]]) ?_ (fY x hx r hr _ h2m))));refine aH (d:=r) rfl (aH ?_ bz);exact iz (x:=.str (w++[35])) (y:=.int ((n+1:Nat):Int)) rfl (iz (x:=.int (n:Int)) (y:=.int 1) rfl rfl rfl (ah9 n)) rfl i2
  cases hc:(look kvs (sg w (n+1))).isSome&&(fit l near&&fit r (sg w (n+2))) with
  | true=>
   rw[hc] at tt hnw;rw[if_pos rfl] at hnw;obtain⟨u,hu⟩:=Qzy.mp (Qj5.mp hc).1;rw[hu] at hnw;cases hnw;exact(ik tt).trans (bC (iz (x:=.dct kvs) (y:=.str [sg w (n+1)]) rfl rfl rfl (jn hk hu).1) rfl)
  | false=>
   rw[hc] at tt hnw;rw[if_neg Qw5] at hnw;rw[hnw];exact(fB tt).trans rfl
 refine(az (e:=[a0,a1,Zf (cY al),a3,Zf l,Zf r,Zf (.dct kvs),Zs (w++[35]),Zl ((made++[t]).map .str),Zs [near],Zf (.int (n:Int)),Zs [sg w (n+1)],Zs t]) ?_).trans ?_
 ·rw[Qw6];exact(Ev.mL (i:=8) (xs:=made.map .str) (d:=.str t) (e:=[a0,a1,Zf (cY al),a3,Zf l,Zf r,Zf (.dct kvs),Zs (w++[35]),Zl (made.map .str),Zs [near],Zf (.int (n:Int)),Zs [sg w (n+1)],Zs t]) rfl rfl rfl (by rw[Qqx,hcl];exact Qw4 (show n<=30000 by omega) (by decide))).trans rfl
 cases al with
 | false=>exact(ik (e:=_) rfl).trans rfl
 | true=>
  refine(fB (e:=_) rfl).trans ?_;rw[Bb made t n hno.1,hN]
  match t,hno.1 with
  | [],_=>exact(fB (e:=_) rfl).trans rfl
  | [a],_=>exact(ik (e:=_) rfl).trans rfl
theorem ZX{done rest:List D}{d:D}(h:wu w=done++d::rest):d = .tup [.int (done.length:Int),.str [sg w (done.length+1)]]/\done.length<w.length:=by have h1:=Qg h;unfold wu at h1;rw[Qwv] at h1;obtain⟨p,hp,rfl⟩:=Qq6.mp h1;rw[List.getElem?_zipIdx] at hp;obtain⟨c,hc,rfl⟩:=Qq6.mp hp;have hl:done.length<w.length:=(Qq4.mp hc).1;rw[getD_get hl] at hc;cases hc;refine⟨?_,hl⟩;rw[(N5 hw hl).1,Nat.zero_add]
def out(al:Bool)(kvs:List (D×D))(l r:D)(w:List Nat):List Nat:=(cg al kvs l r w w.length).flatten
theorem with_changes(al:Bool)(ch:D)(hd:tX [ch]=some (.dct kvs)):iQ [.tup [cY al,ch,l,r],.str w]=some (.str (out al kvs l r w)):=by
 generalize hR:D.tup [cY al,ch,l,r]=R;obtain⟨e',f1,hdl,a10,a11,a12,rfl⟩:=lr (g:=bK 2 (aD (aj 10) (aD (aj 11) bN))) (b:=KR) (wu w)
  (λdone env=>done.length<=w.length/\∃a10 a11 a12,env=[Zf R,Zs w,Zf (cY al),Zf ch,Zf l,Zf r,Zf (.dct kvs),Zs (w++[35]),Zl ((cg al kvs l r w done.length).map .str),Zs [dY al w (cg al kvs l r w done.length) done.length],a10,a11,a12])
  (λdone s rest hall env ⟨hdl,a10,a11,a12,he⟩=>by
   subst he;obtain⟨rfl,hdl⟩:=ZX hx hl hr hw hn hk hall;obtain⟨b12,hb⟩:=XH hx hl hr hw hn hk al done.length hdl (Zf R) (Zs w) (Zf ch) a12;refine⟨_,_,rfl,hb,by rw[Qqj,Qwq];omega,Zf (.int (done.length:Int)),Zs [sg w (done.length+1)],b12,?_⟩;rw[Qqj,Qwq])
  [Zf R,Zs w,Zf (cY al),Zf ch,Zf l,Zf r,Zf (.dct kvs),Zs (w++[35]),Zl [],Zs [35],Zn,Zn,Zn] ⟨Qxy _,Zn,Zn,Zn,by cases al<;>rfl⟩
 have hlen:(wu w).length=w.length:=by unfold wu;rw[Qqx,List.length_zipIdx]
 rw[hlen] at f1;have hok:=Eu (l:=l) (r:=r) al hk hw w.length (Qq0 _);refine bV (env:=[Zf R,Zs w,Zf (cY al),Zf ch,Zf l,Zf r,Zf (.dct kvs),Zs (w++[35]),Zl ((cg al kvs l r w w.length).map .str),Zs [dY al w (cg al kvs l r w w.length) w.length],a10,a11,a12]) ?_;unfold fG;refine(az (e:=[Zf R,Zs w,Zf (cY al),Zf ch,Zf l,Zf r,Zn,Zn,Zn,Zn,Zn,Zn,Zn]) (by rw[<-hR];rfl)).trans ?_;refine(az (e:=[Zf R,Zs w,Zf (cY al),Zf ch,Zf l,Zf r,Zf (.dct kvs),Zn,Zn,Zn,Zn,Zn,Zn]) ?_).trans ?_
 ·exact bC (e:=[Zf R,Zs w,Zf (cY al),Zf ch,Zf l,Zf r,Zn,Zn,Zn,Zn,Zn,Zn,Zn]) (aJ (ds:=[ch]) rfl hd) rfl
 refine(az (e:=[Zf R,Zs w,Zf (cY al),Zf ch,Zf l,Zf r,Zf (.dct kvs),Zs (w++[35]),Zn,Zn,Zn,Zn,Zn]) ?_).trans ?_
 ·exact bC (d:=.str (w++[35])) (e:=[Zf R,Zs w,Zf (cY al),Zf ch,Zf l,Zf r,Zf (.dct kvs),Zn,Zn,Zn,Zn,Zn,Zn]) (iz (x:=.str w) (y:=.str [35]) rfl rfl rfl (mQ (by show w.length+1<=100000;omega))) rfl
 refine(az (e:=[Zf R,Zs w,Zf (cY al),Zf ch,Zf l,Zf r,Zf (.dct kvs),Zs (w++[35]),Zl [],Zn,Zn,Zn,Zn]) rfl).trans ?_;refine(az (e:=[Zf R,Zs w,Zf (cY al),Zf ch,Zf l,Zf r,Zf (.dct kvs),Zs (w++[35]),Zl [],Zs [35],Zn,Zn,Zn]) rfl).trans ?_;refine(az ((dq (ds:=wu w) (e:=[Zf R,Zs w,Zf (cY al),Zf ch,Zf l,Zf r,Zf (.dct kvs),Zs (w++[35]),Zl [],Zs [35],Zn,Zn,Zn]) rfl).trans f1)).trans ?_;refine bH (bF (x:=.str []) rfl (y:=.lst ((cg al kvs l r w w.length).map .str)) rfl ?_);exact V0 (by rw[hok.1];omega) λz hz=>Qq3 (hok.2 z hz).1 (by decide)
theorem acs(al:Bool):(∀c∈out al kvs l r w,c∈x)/\(out al kvs l r w).length<=2*w.length+1:=by
 unfold out;refine⟨λc hc=>?_,?_⟩
 ·obtain⟨z,hz,hcz⟩:=List.mem_flatten.mp hc;exact((Eu (l:=l) (r:=r) al hk hw w.length (Qq0 _)).2 z hz).2 c hcz
 ·have:=Z8 (l:=l) (r:=r) al hk hw (n:=w.length) (Qq0 _);omega
end
section
variable{x w:List Nat}{l r:D}
theorem aaU{c:Nat}(hc:c∈x)(n:Nat):∀z∈pc l r c w n,∀d∈z,d∈x:=by
 unfold pc;split
 ·intro z hz d hd;rw[Qqy.mp hz] at hd;rw[Qqy.mp hd];exact hc
 ·intro z hz;simp at hz
theorem UW{c:Nat}(hc:c∈x)(hw:∀c∈w,c∈x):∀n,n<=w.length->∀z∈pin l r c w n,∀d∈z,d∈x
 | 0,_=>λz hz=>by simp[pin] at hz
 | n+1,h=>by
  intro z hz d hd;unfold pin at hz;rcases Qw1.mp hz with hz|hz
  ·exact UW hc hw n (by omega) z hz d hd
  ·rcases Qw1.mp hz with hz|hz
   ·exact aaU hc n z hz d hd
   ·rw[Qqy.mp hz] at hd;rw[Qqy.mp hd];exact(N5 hw (by omega)).2
theorem adl{c:Nat}(hc:c∈x)(hw:∀c∈w,c∈x):(∀d∈inn l r c w,d∈x)/\(inn l r c w).length<=2*w.length+1:=by
 unfold inn;refine⟨λd hd=>?_,?_⟩
 ·obtain⟨z,hz,hdz⟩:=List.mem_flatten.mp hd;rcases Qw1.mp hz with hz|hz
  ·exact UW hc hw w.length (Qq0 _) z hz d hdz
  ·exact aaU hc _ z hz d hdz
 ·have h1:=Gf (l:=l) (r:=r) (w:=w) c w.length;have h2:=aaT (l:=l) (r:=r) (w:=w) c w.length;rw[agd λz hz=>(Qw1.mp hz).elim (h1.2 z) (h2.2 z),Qqj];omega
end
theorem aez{w:D}(h:w = .str [111,110,99,101]\/w = .str [97,108,111,110,103]):∃al,w=cY al:=by
 rcases h with rfl|rfl
 ·exact⟨false,rfl⟩
 ·exact⟨true,rfl⟩
def sides:List D:=[.str [108,101,102,116],.str [114,105,103,104,116]]
theorem Bq{x w:List Nat}{wy ch l r:D}(hx:x∈XS)(h:jF x wy ch l r)(hw:∀c∈w,c∈x)(hn:w.length<=30000):∃o:List Nat,iU [.tup [wy,ch,l,r],.str w]=some (.str o)/\(∀c∈o,c∈x)/\o.length<=2*w.length+1:=by
 obtain⟨al,rfl⟩:=aez h.way;cases h.chg with
 | put hc=>
  rename_i c;refine⟨inn l r c w,?_,adl hc hw⟩
  ·let E1:Ev.Env:=[Zf (.tup [cY al,.tup [.tup [.str [],.str [c]]],l,r]),Zs w]
   refine bV (env:=E1) ?_;unfold d7;refine lM ?_;refine(ik (e:=E1) (dh (aJ (ds:=[.tup [cY al,.tup [.tup [.str [],.str [c]]],l,r]]) rfl rfl))).trans ?_;exact bH (aJ (ds:=[.tup [cY al,.tup [.tup [.str [],.str [c]]],l,r],.str w]) rfl (with_put_in hx h.left h.right hw hn _ c))
 | chg h0 h4 hp=>
  rename_i ps;obtain⟨kvs,hd,hk⟩:=wA hp;refine⟨out al kvs l r w,?_,acs hx h.left h.right hw hn hk al⟩;have hpi:gw [.tup [cY al,.tup (ps.map encC),l,r]]=some (.bl false):=by
   match ps,h0 with
   | p::ps,_=>
    let E0:Ev.Env:=[Zf (.tup [cY al,.tup ((p::ps).map encC),l,r])]
    refine bV (env:=E0) (bH ?_);refine bF (x:=.str [p.1]) (y:=.str []) (e1:=E0) ?_ rfl rfl;refine bF (x:=encC p) (y:=.int 0) (e1:=E0) ?_ rfl rfl;refine bF (x:=.tup ((p::ps).map encC)) (y:=.int 0) (e1:=E0) rfl rfl (mW (xs:=(p::ps).map encC) (j:=0) (v:=encC p) rfl)
  let E2:Ev.Env:=[Zf (.tup [cY al,.tup (ps.map encC),l,r]),Zs w]
  refine bV (env:=E2) ?_;unfold d7;refine(az ((fB (e:=E2) (dh (aJ (ds:=[.tup [cY al,.tup (ps.map encC),l,r]]) rfl hpi))).trans rfl)).trans ?_;exact bH (aJ (ds:=[.tup [cY al,.tup (ps.map encC),l,r],.str w]) rfl (with_changes hx h.left h.right hw hn hk al _ hd))
theorem WM{x w:List Nat}{wy ch l r:D}(hx:x∈XS)(h:jF x wy ch l r)(hw:∀c∈w,c∈x)(hn:w.length<=30000):∀s∈sides,∃o:List Nat,ie [s,.tup [wy,ch,l,r],.str w]=some (.str o)/\(∀c∈o,c∈x)/\o.length<=2*w.length+1:=by
 intro s hs;rcases Qq1.mp hs with rfl|hs
 ·obtain⟨o,h1,h3⟩:=Bq hx h hw hn;refine⟨o,?_,h3⟩
  ·let E1:Ev.Env:=[Zs [108,101,102,116],Zf (.tup [wy,ch,l,r]),Zs w]
   refine bV (env:=E1) ?_;unfold gA;refine(az ((fB (e:=E1) (by rfl)).trans rfl)).trans ?_;exact bH (aJ (ds:=[.tup [wy,ch,l,r],.str w]) rfl h1)
 ·rw[Qqy.mp hs];obtain⟨o,h1,h3,h4⟩:=Bq (w:=w.reverse) hx (⟨h.way,h.chg,h.right,h.left⟩:jF x wy ch r l) (λc hc=>hw c (List.mem_reverse.mp hc)) (by rw[Qk6];exact hn);have rev:∀{a:Ev} {env:Ev.Env},a env = .ok (.str o) env->pH a env = .ok (.str o.reverse) env:=λ{a env} e=>by unfold pH;rw[e];rfl
  refine⟨o.reverse,?_,λc hc=>h3 c (List.mem_reverse.mp hc),by rw[Qk6] at h4 ⊢;exact h4⟩
  ·let E0:Ev.Env:=[Zs [114,105,103,104,116],Zf (.tup [wy,ch,l,r]),Zs w]
   refine bV (env:=E0) ?_;unfold gA;refine lM ((ik (e:=E0) rfl).trans (bH (rev ?_)));exact aJ (ds:=[.tup [wy,ch,r,l],.str w.reverse]) rfl h1
end lV
namespace uR
open Ev
def o8:cu:=cR.o8
def cX:LD:=cN 2 o8
def jt:cu:=cR.jt
def j6:LD:=cN 5 jt
def ig:cu:=cR.ig
def gw:LD:=cN 1 ig
def gk:cu:=lV.gk
def jr:LD:=cN 10 gk
def fG:cu:=lV.fG
def iQ:LD:=cN 13 fG
def d7:cu:=lV.d7
def iU:LD:=cN 2 d7
def gA:cu:=lV.gA
def ie:LD:=cN 3 gA
def G7:cu:=aF (aQ (aM 0) (bK 2 (aD (aj 2) (aD (aj 3) bN)))) (aF (cP 4 (cz (Zv 1 ak))) (aF (eZ (dW (aM 3)) (aj 5) (dw 4 (au ie (Zv 2 (Zv 5 (aa (aB dH 4 (wg MN (Zi 1))) ak)))))) (bI (au cI (aa (aV 4) ak)))))
def iR:LD:=cN 6 G7
def G8:cu:=cR.G8
def nG:LD:=cN 2 G8
open Ev PySem L2
open iu (du)
open lV (XS sides jF mQ)
def cG(x:List Nat)(R:D):Prop:=∃wy ch l r,R = .tup [wy,ch,l,r]/\jF x wy ch l r
def cF(s R:D)(w:List Nat):List Nat:=match lV.ie [s,R,.str w] with
 | some (.str o)=>o
 | _=>[]
section
variable{x:List Nat}{s:D}
theorem adY(hx:x∈XS)(hs:s∈sides){R:D}(hR:cG x R){w:List Nat}(hw:∀c∈w,c∈x)(hn:w.length<=30000) :
  ie [s,R,.str w]=some (.str (cF s R w))/\(∀c∈cF s R w,c∈x)/\(cF s R w).length<=2*w.length+1:=by
 obtain⟨wy,ch,l,r,rfl,h⟩:=hR;obtain⟨o,h1,h3⟩:=lV.WM hx h hw hn s hs;have e:cF s (.tup [wy,ch,l,r]) w=o:=by unfold cF;rw[h1]
 rw[e];exact⟨h1,h3⟩
def fin(s:D)(Rs:List D)(w:List Nat):List Nat:=Rs.foldl (λv R=>cF s R v) w
def qu(s:D):List Nat->List D->List (List Nat)
 | w,[]=>[w]
 | w,R::Rs=>w::qu s (cF s R w) Rs
theorem Hr:∀(Rs:List D) (w:List Nat) (R:D),qu s w (Rs++[R])=qu s w Rs++[cF s R (fin s Rs w)]
 | [],w,R=>rfl
 | Q::Rs,w,R=>by
  show w::qu s (cF s Q w) (Rs++[R])=w::qu s (cF s Q w) Rs++[cF s R (fin s Rs (cF s Q w))];rw[Hr Rs]
  rfl
theorem zU:∀(Rs:List D) (w:List Nat),∃pre,qu s w Rs=pre++[fin s Rs w]
 | [],w=>⟨[],rfl⟩
 | R::Rs,w=>by
  obtain⟨pre,e⟩:=zU Rs (cF s R w);refine⟨w::pre,?_⟩;show w::qu s (cF s R w) Rs=_;rw[e]
  rfl
theorem zc:∀(Rs:List D) (w:List Nat),(qu s w Rs).length=Rs.length+1
 | [],w=>rfl
 | R::Rs,w=>by show(w::qu s (cF s R w) Rs).length=_;rw[Qqw,zc Rs,Qqw]
theorem p8(hx:x∈XS)(hs:s∈sides):∀(Rs:List D) (w:List Nat),(∀R∈Rs,cG x R)->(∀c∈w,c∈x)->(w.length+1)*2^Rs.length<=301->(∀c∈fin s Rs w,c∈x)/\(fin s Rs w).length+1<=(w.length+1)*2^Rs.length
 | [],w,_,hw,hn=>⟨hw,by show w.length+1<=(w.length+1)*1;omega⟩
 | R::Rs,w,hR,hw,hn=>by
  have h2:(w.length+1)*2^(R::Rs).length=(2*w.length+1+1)*2^Rs.length:=by
   rw[Qqw,Nat.pow_succ,<-Nat.mul_assoc,Nat.mul_right_comm]
   congr 1
   omega
  have hp:1<=2^Rs.length:=Nat.one_le_two_pow;have hwl:w.length<=30000:=by have:2*w.length+1+1<=(2*w.length+1+1)*2^Rs.length:=Nat.le_mul_of_pos_right _ hp;omega
  obtain⟨_,h3,h4⟩:=adY hx hs (hR R (Qqv ..)) hw hwl;have h5:((cF s R w).length+1)*2^Rs.length<=(2*w.length+1+1)*2^Rs.length:=Qky _ (by omega);obtain⟨h6,h7⟩:=p8 hx hs Rs (cF s R w) (λQ hQ=>hR Q (Qqk _ hQ)) h3 (by omega);refine⟨h6,?_⟩;show(fin s Rs (cF s R w)).length+1<=_;omega
theorem ZS(hx:x∈XS)(hs:s∈sides)(Rs:List D)(w:List Nat)(hR:∀R∈Rs,cG x R)(hw:∀c∈w,c∈x)(hn:(w.length+1)*2^Rs.length<=301):(∀c∈fin s Rs w,c∈x)/\(fin s Rs w).length<=30000:=by obtain⟨h1,h2⟩:=p8 hx hs Rs w hR hw hn;exact⟨h1,by omega⟩
theorem acf{Rs done rest:List D}{R:D}(hall:Rs=done++R::rest){n:Nat}(hn:(n+1)*2^Rs.length<=301):(n+1)*2^done.length<=301:=by
 have hl:done.length<=Rs.length:=by rw[hall,Qqj];omega
 exact Qq3 (Qk5 _ (Qx7 (by decide) hl)) hn
theorem Kh{ds:List D}{d:D}:uf (ds++[d]) (-1)=some d:=by
 unfold uf Zu;rw[if_neg (by decide),if_pos (by rw[Qqj,Qwq];omega)];show(ds++[d])[((-1:Int)+((ds++[d]).length:Int)).toNat]? = _;have e1:((-1:Int)+((ds++[d]).length:Int)).toNat=ds.length:=by rw[Qqj,Qwq];omega
 rw[e1];simp
theorem VM(Rs:List D)(w:List Nat):dH (.lst ((qu s w Rs).map .str)) (.int (-1))=some (.str (fin s Rs w)):=by obtain⟨pre,e⟩:=zU (s:=s) Rs w;rw[e,Qw6];exact Kh
theorem VL(Rs:List D)(w:List Nat):dH (.tup ((qu s w Rs).map .str)) (.int (-1))=some (.str (fin s Rs w)):=by obtain⟨pre,e⟩:=zU (s:=s) Rs w;rw[e,Qw6];exact Kh
def abu:cu:=cR.Ed
variable(hx:x∈XS)(hs:s∈sides){Rs:List D}(hR:∀R∈Rs,cG x R)(h4:Rs.length<=10){w:List Nat}(hw:∀c∈w,c∈x)(hn:(w.length+1)*2^Rs.length<=301)
include hx hs hR h4 hw hn
theorem walk:iR [.tup [s,.tup Rs],.str w]=some (.tup ((qu s w Rs).map .str)):=by
 generalize hO:D.tup [s,.tup Rs]=O;obtain⟨e',f1,hd,a5,rfl⟩:=lr (g:=aj 5) (b:=abu) Rs
  (λdone env=>done.length<=Rs.length/\∃a5,env=[Zf O,Zs w,Zf s,Zf (.tup Rs),Zl ((qu s w done).map .str),a5])
  (λdone R rest hall env ⟨hd,a5,he⟩=>by
   subst he;have hm:∀Q∈done,cG x Q:=λQ hQ=>hR Q (by rw[hall];exact Qjx _ hQ);have hRm:cG x R:=hR R (by rw[hall];exact Qx0 _ (Qqv ..));obtain⟨q1,q2⟩:=ZS hx hs done w hm hw (acf hall hn);obtain⟨c1,_⟩:=adY hx hs hRm q1 q2;have hl:=Qx5 List.length hall;rw[Qqj,Qqw] at hl;refine⟨[Zf O,Zs w,Zf s,Zf (.tup Rs),Zl ((qu s w done).map .str),Zf R],[Zf O,Zs w,Zf s,Zf (.tup Rs),Zl ((qu s w (done++[R])).map .str),Zf R],rfl,?_,by rw[Qqj,Qwq];omega,_,rfl⟩;rw[Hr,Qw6];refine(du (i:=4) (env:=[Zf O,Zs w,Zf s,Zf (.tup Rs),Zl ((qu s w done).map .str),Zf R]) (x0:=(qu s w done).map .str) (xs:=(qu s w done).map .str) (d:=.str (cF s R (fin s done w))) (e:=[Zf O,Zs w,Zf s,Zf (.tup Rs),Zl ((qu s w done).map .str),Zf R]) rfl ?_ rfl (by rw[Qqx,zc];exact Qw4 (show done.length+1<=11 by omega) (by decide))).trans rfl;refine aJ (ds:=[s,R,.str (fin s done w)]) (aH (d:=s) (by rfl) (aH (d:=R) (by rfl) (aH ?_ bz))) c1;exact GQ (x:=.lst ((qu s w done).map .str)) (y:=.int (-1)) (by rfl) (by rfl) (by rfl) (VM done w))
  [Zf O,Zs w,Zf s,Zf (.tup Rs),Zl [.str w],Zn] ⟨Qxy _,Zn,rfl⟩
 refine bV (env:=[Zf O,Zs w,Zf s,Zf (.tup Rs),Zl ((qu s w Rs).map .str),a5]) ?_;unfold G7;refine(az (e:=[Zf O,Zs w,Zf s,Zf (.tup Rs),Zn,Zn]) (by rw[<-hO];rfl)).trans ?_;refine(az (e:=[Zf O,Zs w,Zf s,Zf (.tup Rs),Zl [.str w],Zn]) (by rfl)).trans ?_;exact(az ((dq (ds:=Rs) (e:=[Zf O,Zs w,Zf s,Zf (.tup Rs),Zl [.str w],Zn]) (by rfl)).trans f1)).trans rfl
theorem made:nG [.tup [s,.tup Rs],.str w]=some (.str (fin s Rs w)):=by refine bV (env:=[Zf (.tup [s,.tup Rs]),Zs w]) (bH ?_);exact bF (x:=.tup ((qu s w Rs).map .str)) (y:=.int (-1)) (aJ (ds:=[.tup [s,.tup Rs],.str w]) (by rfl) (walk hx hs hR h4 hw hn)) (by rfl) (VL Rs w)
end
theorem Ot(zs:List (List Nat)):okN 60 (.tup (zs.map .str))=true:=by
 refine Qxw.mpr λd hd=>?_;obtain⟨z,_,rfl⟩:=Qwy.mp hd
 rfl
theorem iM{d:D}(h:okN 60 d=true):xP d d=some (.bl false):=by
 show(bA 60 d d).map _=_;rw[Bw 60 d h]
 rfl
end uR
namespace K10
open Ev PySem L2
open lV (XS sides jF Dl mQ fit fY sg ed pc pin inn nw dY cg out look wM encC cY Pr)
def J(g:Nat->Nat->List Nat):Nat->List Nat->Nat->List Nat
 | p,[],q=>g p q
 | p,a::t,q=>g p a++a::J g a t q
section
variable{x w:List Nat}{l r:D}{c:Nat}{kvs:List (D×D)}
theorem drop_cons{n:Nat}(h:n<w.length):w.drop n=sg w (n+1)::w.drop (n+1):=by
 have e:sg w (n+1)=w[n]:=by
  have:=(lV.N5 (x:=w) (w:=w) (λc hc=>hc) h).1;rw[this,Qq7,Qq9 h]
  rfl
 rw[e];exact Qkw h
def gP(l r:D)(c a b:Nat):List Nat:=if (fit l a&&fit r b)=true then [c] else []
theorem Oq(n:Nat):(pc l r c w n).flatten=gP l r c (sg w n) (sg w (n+1)):=by unfold pc gP;split<;>rfl
theorem abO:sg w (w.length+1)=35:=by show(w++[35]).getD w.length 0=35;rw[Qq7];simp
theorem abj:∀n,n<=w.length->J (gP l r c) 35 w 35=(pin l r c w n).flatten++J (gP l r c) (sg w n) (w.drop n) 35
 | 0,_=>rfl
 | n+1,h=>by
  rw[abj n (by omega),drop_cons (by omega)];show _++(gP l r c (sg w n) (sg w (n+1))++sg w (n+1)::J (gP l r c) (sg w (n+1)) (w.drop (n+1)) 35)=(pin l r c w n++(pc l r c w n++[[sg w (n+1)]])).flatten++_;rw[Qjw,Qjw,Oq];simp
theorem aa2:inn l r c w=J (gP l r c) 35 w 35:=by
 rw[abj w.length (Qq0 _),List.drop_length];unfold inn;rw[Qjw,Oq,abO]
 rfl
def T(h:Nat->Nat->Nat->List Nat):Nat->List Nat->Nat->List Nat
 | _,[],_=>[]
 | p,a::t,q=>h p a (t.headD q)++T h a t q
def hC(kvs:List (D×D))(l r:D)(a b d:Nat):List Nat:=if ((look kvs b).isSome&&(fit l a&&fit r d))=true then (look kvs b).getD [] else [b]
end
end K10
namespace kh
open Ev
def o8:cu:=cR.o8
def cX:LD:=cN 2 o8
def jt:cu:=cR.jt
def j6:LD:=cN 5 jt
def ig:cu:=cR.ig
def gw:LD:=cN 1 ig
def jx:cu:=aF (aQ (aM 0) (bK 2 (aD (aj 1) (aD (aj 2) bN)))) (aF (iD (eO (aB qz 1 (Zw [114,105,103,104,116]))) (bI (au cI (aa (d9 3 4 (dW (aM 2)) (aj 3) bZ (au j6 (Zv 3 ak))) ak))) dG) (bI (aM 2)))
def cV:LD:=cN 3 jx
def lB:cu:=bI (au cI (aa (d9 1 5 (dW (au cV (Zv 0 ak))) (bK 4 (aD (aj 1) (aD (aj 2) (aD (aj 3) (aD (aj 4) bN))))) bZ (bY (aa (au cX (Zv 3 (aa (Zw [35]) ak))) (aa (Zw []) ak)))) ak))
def dU:LD:=cN 1 lB
def f9:cu:=cR.f9
def eE:LD:=cN 10 f9
def gW:cu:=cR.gW
def eG:LD:=cN 10 gW
def mV:cu:=aF (cP 3 (cz ak)) (aF (aQ (Ep (.bl false)) (aj 4)) (aF (eZ (dW (aM 2)) (aj 5) (aF (aQ (aB dH 1 (Zi 1)) (aj 6)) (aF (iD (eO (au gw (Zv 0 ak))) (aQ (au eE (Zv 0 (Zv 1 (Zv 5 ak)))) (bK 2 (aD (aj 1) (aD (aj 7) bN)))) (aQ (au eG (Zv 0 (Zv 1 (Zv 5 ak)))) (bK 2 (aD (aj 1) (aD (aj 7) bN))))) (aF (aQ (GD (aM 4) (aB xP 7 (aV 6))) (aj 4)) (dw 3 (aM 7)))))) (bI (bY (Zv 1 (aa (aO jN (Zw []) (aV 3)) (Zv 4 ak)))))))
def gR:LD:=cN 8 mV
def qj:cu:=aF (aQ (aM 2) (aj 3)) (aF (cP 4 (cz ak)) (aF (cP 5 (cz ak)) (aF (eZ (yr (aa (au cV (Zv 0 ak)) (Zv 1 ak))) (bK 2 (aD (aj 6) (aD (aj 7) bN))) (aF (aQ (au gR (Zv 6 (Zv 7 (Zv 3 ak)))) (bK 3 (aD (aj 8) (aD (aj 3) (aD (aj 9) bN))))) (aF (dw 4 (aM 8)) (dw 5 (aM 9))))) (bI (bY (aa (au cI (aa (aV 4) ak)) (Zv 3 (aa (au cI (aa (aV 5) ak)) ak))))))))
def qb:LD:=cN 10 qj
def oH:cu:=aF (aQ (Zw []) (aj 2)) (aF (cP 3 (cz ak)) (aF (eZ (yr (aa (au cV (Zv 0 ak)) (Zv 1 ak))) (bK 2 (aD (aj 4) (aD (aj 5) bN))) (aF (aQ (au gR (Zv 4 (Zv 5 (aa (aB cL 2 (Zw [35])) ak)))) (bK 3 (aD (aj 6) (aD (aj 2) (aD (aj 7) bN))))) (dw 3 (aM 7)))) (bI (bY (Zv 2 (aa (au cI (aa (aV 3) ak)) ak))))))
def oE:LD:=cN 8 oH
def pJ:cu:=cR.pJ
def pG:LD:=cN 6 pJ
def wF:cu:=cR.wF
def lR:LD:=cN 2 wF
def eN:cu:=cR.eN
def aY:List D->Option (D×D):=gV 3 eN
def gG:cu:=iu.gG
def gF:List D->Option (D×D):=gV 4 gG
def fj:cu:=iu.fj
def gZ:List D->Option (D×D):=gV 6 fj
def jE:cu:=iu.jE
def jC:List D->Option (D×D):=gV 4 jE
def oM:cu:=aF (aQ (aO dH (cz (aa (Zw [108,101,102,116]) (aa (Zw [114,105,103,104,116]) ak))) (di aY 0 (aa (Zi 2) ak))) (aj 3)) (bI (bY (Zv 3 (aa (au cI (aa (d9 4 5 (iV (aa (di aY 0 (aa (aB cL 2 (Zi 1)) ak)) ak)) (aj 4) bZ (di jC 0 (Zv 1 ak))) ak)) ak))))
def fZ:List D->Option (D×D):=gV 4 oM
def qm:cu:=lV.qm
def GC:LD:=cN 1 qm
open Ev PySem L2
open iu (SG du)
open lV (XS sides jF mQ fit fY wM look jn zy cY encC wA Dl jP)
open uR (cG iM)
abbrev St:=Bool×List Nat
def bG(s:St):D:=.tup [.bl s.1,.str s.2]
inductive Rl
 | put (c:Nat) (l r:D)
 | chg (al:Bool) (kvs:List (D×D)) (l r:D)
def IW(kvs:List (D×D))(s:Nat)(b:Bool):List Nat:=if b=true then (look kvs s).getD [s] else [s]
def nrC(al:Bool)(l:D)(s:Nat)(b:Bool)(p:List Nat):Bool:=if al=true then (if p=[] then b else fit l (p.headD 0)) else fit l s
def stp:Rl->St->Nat->St×List Nat
 | .put c l r,s,a=>((fit l a,[a]),s.2++(if (s.1&&fit r a)=true then [c] else []))
 | .chg al kvs l r,s,a=>match s.2 with
  | []=>((s.1,[a]),[])
  | h::_=>((nrC al l h s.1 (IW kvs h (s.1&&fit r a)),[a]),IW kvs h (s.1&&fit r a))
def rd(ρ:Rl):St->List Nat->St×List Nat
 | s,[]=>(s,[])
 | s,a::z=>((rd ρ (stp ρ s a).1 z).1,(stp ρ s a).2++(rd ρ (stp ρ s a).1 z).2)
theorem Al(ρ:Rl):∀(z:List Nat) (s:St) (y:List Nat),rd ρ s (z++y)=((rd ρ (rd ρ s z).1 y).1,(rd ρ s z).2++(rd ρ (rd ρ s z).1 y).2)
 | [],s,y=>rfl
 | a::z,s,y=>by
  show((rd ρ (stp ρ s a).1 (z++y)).1,(stp ρ s a).2++(rd ρ (stp ρ s a).1 (z++y)).2)=_;rw[Al ρ z];show _=((rd ρ (rd ρ (stp ρ s a).1 z).1 y).1,((stp ρ s a).2++(rd ρ (stp ρ s a).1 z).2)++_);rw[Qxv]
  rfl
theorem Gb(ρ:Rl)(s:St)(a:Nat):rd ρ s [a]=stp ρ s a:=by show((stp ρ s a).1,(stp ρ s a).2++[])=_;rw[Qxq]
theorem zr(ρ:Rl)(s:St)(z:List Nat)(a:Nat):rd ρ s (z++[a])=((stp ρ (rd ρ s z).1 a).1,(rd ρ s z).2++(stp ρ (rd ρ s z).1 a).2):=by rw[Al,Gb]
inductive Is (x:List Nat):D->Rl->Prop
 | put {wy l r:D} {c:Nat}:c∈x->l∈SG x->r∈SG x->Is x (.tup [wy,.tup [.tup [.str [],.str [c]]],l,r]) (.put c l r)
 | chg {al:Bool} {ps:List lV.Pr} {kvs:List (D×D)} {l r:D}:0<ps.length->tX [.tup (ps.map encC)]=some (.dct kvs)->wM x kvs->l∈SG x->r∈SG x->Is x (.tup [cY al,.tup (ps.map encC),l,r]) (.chg al kvs l r)
theorem abv{w:D}(h:w = .str [111,110,99,101]\/w = .str [97,108,111,110,103]):∃al,w=cY al:=by
 rcases h with rfl|rfl
 ·exact⟨false,rfl⟩
 ·exact⟨true,rfl⟩
theorem V2{x:List Nat}{R:D}(h:cG x R):∃ρ,Is x R ρ:=by
 obtain⟨wy,ch,l,r,rfl,h⟩:=h;obtain⟨h1,h2,h3,h4⟩:=h;cases h2 with
 | put hc=>exact⟨_,.put hc h3 h4⟩
 | chg hp hp4 hps=>
  obtain⟨al,rfl⟩:=abv h1;obtain⟨kvs,hd,hk⟩:=wA hps;exact⟨_,.chg hp hd hk h3 h4⟩
def pg(x:List Nat)(s:St):Prop:=s.2.length<=1/\∀c∈s.2,c∈35::x
theorem Uw{x:List Nat}{kvs:List (D×D)}(hk:wM x kvs)(s:Nat)(hs:s∈35::x)(b:Bool):(IW kvs s b).length<=1/\∀c∈IW kvs s b,c∈35::x:=by
 unfold IW;split
 ·cases e:look kvs s with
  | none=>exact⟨Qq0 _,λc hc=>by rw[Qqy.mp hc];exact hs⟩
  | some t=>exact⟨(jn hk e).2.1,λc hc=>Qqk _ ((jn hk e).2.2 c hc)⟩
 ·exact⟨Qq0 _,λc hc=>by rw[Qqy.mp hc];exact hs⟩
theorem Te{x:List Nat}{R:D}{ρ:Rl}(hR:Is x R ρ){s:St}(hs:pg x s){a:Nat}(ha:a∈35::x):pg x (stp ρ s a).1/\(stp ρ s a).2.length<=2/\∀c∈(stp ρ s a).2,c∈35::x:=by
 have h1:∀b:Bool,pg x (b,[a]):=λb=>⟨Qq0 _,λc hc=>by rw[Qqy.mp hc];exact ha⟩;cases hR with
 | put hc hl hr=>
  refine⟨h1 _,?_,?_⟩
  ·show(s.2++_).length<=2;have:=hs.1;rw[Qqj];split
   ·rw[Qwq];omega
   ·rw[Qx2];omega
  ·intro c hm;rcases Qw1.mp hm with hm|hm
   ·exact hs.2 c hm
   ·split at hm
    ·rw[Qqy.mp hm];exact Qqk _ hc
    ·simp at hm
 | chg hp hd hk hl hr=>
  obtain⟨b,h⟩:=s
  match h,hs with
  | [],hs=>exact⟨h1 _,Qxy _,λc hc=>by simp[stp] at hc⟩
  | s::h,hs=>
   exact⟨h1 _,Qq3 (Uw hk s (hs.2 s (Qqv ..)) _).1 (by decide),(Uw hk s (hs.2 s (Qqv ..)) _).2⟩
theorem yf{x:List Nat}{R:D}{ρ:Rl}(hR:Is x R ρ):∀(z:List Nat) {s:St},pg x s->(∀a∈z,a∈35::x)->pg x (rd ρ s z).1/\(rd ρ s z).2.length<=2*z.length/\∀c∈(rd ρ s z).2,c∈35::x
 | [],s,hs,_=>⟨hs,Qq0 _,λc hc=>by simp[rd] at hc⟩
 | a::z,s,hs,hz=>by
  obtain⟨h1,h2,h3⟩:=Te hR hs (hz a (Qqv ..));obtain⟨h4,h5,h6⟩:=yf hR z h1 λb hb=>hz b (Qqk _ hb);refine⟨h4,?_,?_⟩
  ·show((stp ρ s a).2++(rd ρ (stp ρ s a).1 z).2).length<=_;rw[Qqj,Qqw];omega
  ·intro c hc;rcases Qw1.mp (show c∈(stp ρ s a).2++(rd ρ (stp ρ s a).1 z).2 from hc) with hc|hc
   ·exact h3 c hc
   ·exact h6 c hc
theorem ahU{x:List Nat}{kvs:List (D×D)}(hk:wM x kvs)(s:Nat):We (.dct kvs) (.str [s]) (.str [s])=some (.str ((look kvs s).getD [s])):=by
 show some ((jQ kvs (.inr (strOf [s]))).getD (.str [s]))=_;unfold look;cases e:jQ kvs (.inr (strOf [s])) with
 | none=>rfl
 | some v=>
  obtain⟨k,hm,_⟩:=iu.mX e;obtain⟨t,rfl,_⟩:=hk k v hm
  rfl
theorem RD{a b c:Ev}{env e1 e2 e3:Ev.Env}{kvs:List (D×D)}{k t d:D}(h1:a env = .ok (.dct kvs) e1)(h2:b e1 = .ok k e2)(h3:c e2 = .ok t e3)(h:We (.dct kvs) k t=some d):Bu a b c env = .ok d e3:=by
 unfold Bu;rw[h1];simp only[bindR];rw[h2];simp only;rw[h3];simp only;rw[h]
 rfl
theorem Z7(wy ch l r:D)(b:Bool)(a:Nat):eG [.tup [wy,ch,l,r],bG (b,[]),.str [a]]=some (.tup [bG (b,[a]),.str []]):=rfl
section
variable{x:List Nat}{l r:D}(hx:x∈XS)(hl:l∈SG x)(hr:r∈SG x)
include hx hl hr
theorem TF(wy:D)(c:Nat)(b:Bool)(h:List Nat)(hh:h.length<=1)(a:Nat)(ha:a∈35::x) :
  eE [.tup [wy,.tup [.tup [.str [],.str [c]]],l,r],bG (b,h),.str [a]]=some (.tup [bG (stp (.put c l r) (b,h) a).1,.str (stp (.put c l r) (b,h) a).2]):=by
 generalize hR:D.tup [wy,.tup [.tup [.str [],.str [c]]],l,r]=R;generalize hS:bG (b,h)=S;have fl:=fY x hx l hl a ha;have fr:=fY x hx r hr a ha;show _=some (D.tup [.tup [.bl (fit l a),.str [a]],.str (h++(if (b&&fit r a)=true then [c] else []))]);generalize hP:(h++(if (b&&fit r a)=true then [c] else []))=p;refine bV (env:=[Zf R,Zf S,Zs [a],Zf wy,Zf (.tup [.tup [.str [],.str [c]]]),Zf l,Zf r,Zb b,Zs h,Zs p]) ?_;unfold f9;refine(az (e:=[Zf R,Zf S,Zs [a],Zf wy,Zf (.tup [.tup [.str [],.str [c]]]),Zf l,Zf r,Zn,Zn,Zn]) (by rw[<-hR];rfl)).trans ?_;refine(az (e:=[Zf R,Zf S,Zs [a],Zf wy,Zf (.tup [.tup [.str [],.str [c]]]),Zf l,Zf r,Zb b,Zs h,Zn]) (by rw[<-hS];rfl)).trans ?_;refine(az (e:=[Zf R,Zf S,Zs [a],Zf wy,Zf (.tup [.tup [.str [],.str [c]]]),Zf l,Zf r,Zb b,Zs h,Zs h]) rfl).trans ?_;refine(az (e:=[Zf R,Zf S,Zs [a],Zf wy,Zf (.tup [.tup [.str [],.str [c]]]),Zf l,Zf r,Zb b,Zs h,Zs p]) ?_).trans ?_
 ·have t:eV (eO (aM 7)) (eO (au cX (Zv 6 (Zv 2 ak)))) [Zf R,Zf S,Zs [a],Zf wy,Zf (.tup [.tup [.str [],.str [c]]]),Zf l,Zf r,Zb b,Zs h,Zs h] = .ok (b&&fit r a) [Zf R,Zf S,Zs [a],Zf wy,Zf (.tup [.tup [.str [],.str [c]]]),Zf l,Zf r,Zb b,Zs h,Zs h]:=
   jP rfl (dh (aJ (ds:=[r,.str [a]]) rfl fr))
  cases hc:b&&fit r a with
  | true=>
   rw[hc] at t hP;rw[if_pos rfl] at hP;rw[<-hP];exact(ik t).trans (bC (iz (x:=.str h) (y:=.str [c]) rfl rfl rfl (mQ (by show h.length+1<=100000;omega))) rfl)
  | false=>
   rw[hc] at t hP;rw[if_neg Qw5,Qxq] at hP;rw[<-hP];exact(fB t).trans rfl
 ·refine bH (cA (ds:=[.tup [.bl (fit l a),.str [a]],.str p]) (aH (cA (ds:=[.bl (fit l a),.str [a]]) (aH (aJ (ds:=[l,.str [a]]) (by rfl) fl) (aH (by rfl) bz)) Ev.zb) (aH (by rfl) bz)) Ev.zb)
theorem TJ(al:Bool){kvs:List (D×D)}(hk:wM x kvs)(ch:D)(hd:tX [ch]=some (.dct kvs))(b:Bool)(s:Nat)(hs:s∈35::x)(a:Nat)(ha:a∈35::x) :
  eG [.tup [cY al,ch,l,r],bG (b,[s]),.str [a]]=some (.tup [bG (stp (.chg al kvs l r) (b,[s]) a).1,.str (stp (.chg al kvs l r) (b,[s]) a).2]):=by
 generalize hR:D.tup [cY al,ch,l,r]=R;generalize hS:bG (b,[s])=S;have fs:=fY x hx l hl s hs;have fr:=fY x hx r hr a ha;have hp:=Uw hk s hs (b&&fit r a);show _=some (D.tup [.tup [.bl (nrC al l s b (IW kvs s (b&&fit r a))),.str [a]],.str (IW kvs s (b&&fit r a))]);have hP:IW kvs s (b&&fit r a)=if (b&&fit r a)=true then (look kvs s).getD [s] else [s]:=rfl
 generalize IW kvs s (b&&fit r a)=p at *;refine bV (env:=[Zf R,Zf S,Zs [a],Zf (cY al),Zf ch,Zf l,Zf r,Zb b,Zs [s],Zs p]) ?_;unfold gW;refine(az (e:=[Zf R,Zf S,Zs [a],Zf (cY al),Zf ch,Zf l,Zf r,Zn,Zn,Zn]) (by rw[<-hR];rfl)).trans ?_;refine(az (e:=[Zf R,Zf S,Zs [a],Zf (cY al),Zf ch,Zf l,Zf r,Zb b,Zs [s],Zn]) (by rw[<-hS];rfl)).trans ?_;refine(az (e:=[Zf R,Zf S,Zs [a],Zf (cY al),Zf ch,Zf l,Zf r,Zb b,Zs [s],Zn]) ((fB (e:=[Zf R,Zf S,Zs [a],Zf (cY al),Zf ch,Zf l,Zf r,Zb b,Zs [s],Zn]) (by rfl)).trans rfl)).trans ?_;refine(az (e:=[Zf R,Zf S,Zs [a],Zf (cY al),Zf ch,Zf l,Zf r,Zb b,Zs [s],Zs [s]]) rfl).trans ?_;refine(az (e:=[Zf R,Zf S,Zs [a],Zf (cY al),Zf ch,Zf l,Zf r,Zb b,Zs [s],Zs p]) ?_).trans ?_
 ·have t:eV (eO (aM 7)) (eO (au cX (Zv 6 (Zv 2 ak)))) [Zf R,Zf S,Zs [a],Zf (cY al),Zf ch,Zf l,Zf r,Zb b,Zs [s],Zs [s]] = .ok (b&&fit r a) [Zf R,Zf S,Zs [a],Zf (cY al),Zf ch,Zf l,Zf r,Zb b,Zs [s],Zs [s]]:=
   jP rfl (dh (aJ (ds:=[r,.str [a]]) rfl fr))
  cases hc:b&&fit r a with
  | true=>
   rw[hc] at t hP;rw[if_pos rfl] at hP;rw[hP];exact(ik t).trans (bC (RD (e1:=[Zf R,Zf S,Zs [a],Zf (cY al),Zf ch,Zf l,Zf r,Zb b,Zs [s],Zs [s]]) (e2:=[Zf R,Zf S,Zs [a],Zf (cY al),Zf ch,Zf l,Zf r,Zb b,Zs [s],Zs [s]]) (aJ (ds:=[ch]) rfl hd) rfl rfl (ahU hk s)) rfl)
  | false=>
   rw[hc] at t hP;rw[if_neg Qw5] at hP;rw[hP];exact(fB t).trans rfl
 ·cases al with
  | false=>
   refine(lM ?_).trans rfl;refine(ik (e:=[Zf R,Zf S,Zs [a],Zf (cY false),Zf ch,Zf l,Zf r,Zb b,Zs [s],Zs p]) rfl).trans ?_;refine bH (cA (ds:=[.tup [.bl (fit l s),.str [a]],.str p]) (aH (cA (ds:=[.bl (fit l s),.str [a]]) (aH (aJ (ds:=[l,.str [s]]) rfl fs) (aH rfl bz)) Ev.zb) (aH rfl bz)) Ev.zb)
  | true=>
   refine(az (e:=[Zf R,Zf S,Zs [a],Zf (cY true),Zf ch,Zf l,Zf r,Zb b,Zs [s],Zs p]) ((fB (e:=[Zf R,Zf S,Zs [a],Zf (cY true),Zf ch,Zf l,Zf r,Zb b,Zs [s],Zs p]) (by rfl)).trans rfl)).trans ?_
   match p,hp with
   | [],_=>rfl
   | [q],hp=>
    have fq:=fY x hx l hl q (hp.2 q (Qqv ..));refine(az (e:=[Zf R,Zf S,Zs [a],Zf (cY true),Zf ch,Zf l,Zf r,Zb b,Zs [s],Zs [q]]) ((fB (e:=[Zf R,Zf S,Zs [a],Zf (cY true),Zf ch,Zf l,Zf r,Zb b,Zs [s],Zs [q]]) (by rfl)).trans rfl)).trans ?_;exact bH (cA (ds:=[.tup [.bl (fit l q),.str [a]],.str [q]]) (aH (cA (ds:=[.bl (fit l q),.str [a]]) (aH (aJ (ds:=[l,.str [q]]) rfl fq) (aH rfl bz)) Ev.zb) (aH rfl bz)) Ev.zb)
   | _::_::_,hp=>exact absurd hp.1 (by simp)
end
theorem ZW{a b:Ev}{env:Ev.Env}{p q:Bool}(h1:a env = .ok (.bl p) env)(h2:b env = .ok (.bl q) env):GD a b env = .ok (.bl (p||q)) env:=by
 cases p with
 | true=>rw[adF h1];rfl
 | false=>rw[adG h1,h2];rfl
theorem vg:∀{y z:List Nat},gB y=gB z->y=z
 | [],[],_=>rfl
 | [],_::_,h=>by cases h
 | _::_,[],h=>by cases h
 | a::y,b::z,h=>by
  have h1:D.str [a]::gB y=D.str [b]::gB z:=h;injection h1 with h2 h3
  injection h2 with h4
  injection h4 with h5
  rw[h5,vg h3]
theorem vf(y:List Nat)(a:Nat):gB (y++[a])=gB y++[.str [a]]:=by unfold gB;rw[Qw6];rfl
theorem zm{z:List Nat}{done rest:List D}{d:D}(h:gB z=done++d::rest):∃a,d = .str [a]/\a∈z/\done.length<z.length:=by
 have hm:d∈gB z:=by rw[h];exact Qx0 _ (Qqv ..)
 obtain⟨a,ha,rfl⟩:=Qwy.mp hm;have:=Qx5 List.length h;unfold gB at this;rw[Qqx,Qqj,Qqw] at this;exact⟨a,rfl,ha,by omega⟩
theorem Wi{ps:List lV.Pr}(hp:0<ps.length){env:Ev.Env}{wy l r:D}(h:env[0]? = some (Zf (.tup [wy,.tup (ps.map encC),l,r]))):aO qz (aO dH (aO dH (aB dH 0 (Zi 1)) (Zi 0)) (Zi 0)) (Zw []) env = .ok (.bl false) env:=by
 match ps,hp with
 | p::ps,_=>
  refine bF (x:=.str [p.1]) (y:=.str []) (e1:=env) ?_ rfl rfl;refine bF (x:=encC p) (y:=.int 0) (e1:=env) ?_ rfl rfl;refine bF (x:=.tup ((p::ps).map encC)) (y:=.int 0) (e1:=env) ?_ rfl (mW (xs:=(p::ps).map encC) (j:=0) (v:=encC p) rfl);exact iz (x:=.tup [wy,.tup ((p::ps).map encC),l,r]) (y:=.int 1) h rfl h rfl
section
variable{x:List Nat}{R:D}{ρ:Rl}(hx:x∈XS)(hR:Is x R ρ)
include hx hR
theorem one_sign{s:St}(hs:pg x s){a:Nat}(ha:a∈35::x) :
  (gw [R]=some (.bl true)/\eE [R,bG s,.str [a]]=some (.tup [bG (stp ρ s a).1,.str (stp ρ s a).2]))\/(gw [R]=some (.bl false)/\eG [R,bG s,.str [a]]=some (.tup [bG (stp ρ s a).1,.str (stp ρ s a).2])):=by
 cases hR with
 | put hc hl hr=>exact .inl ⟨rfl,TF hx hl hr _ _ s.1 s.2 hs.1 a ha⟩
 | chg hp hd hk hl hr=>
  rename_i al ps kvs l r;refine .inr ⟨?_,?_⟩
  ·exact bV (env:=[(Zf (.tup [cY al,.tup (ps.map encC),l,r]))]) (bH (Wi hp rfl))
  ·obtain⟨b,h⟩:=s
   match h,hs with
   | [],hs=>exact Z7 _ _ _ _ _ _
   | [s],hs=>exact TJ hx hl hr al hk _ hd b s (hs.2 s (Qqv ..)) a ha
   | _::_::_,hs=>exact absurd hs.1 (by simp)
def LK:cu:=cR.qy
theorem Yb{s:St}(hs:pg x s){a:Nat}(ha:a∈35::x)(A2 a6 a7:OD)(ps:List D)(hp:ps.length<=400)(t:Bool) :
  ∃u,LK [Zf R,Zf (bG s),A2,Zl ps,Zb t,Zs [a],a6,a7] = .nx [Zf R,(Zf (bG (stp ρ s a).1)),A2,(Zl (ps++[.str (stp ρ s a).2])),Zb (t||u),Zs [a],Zs s.2,(Zs ((stp ρ s a).2))]:=by
 obtain⟨u,hu⟩:∃u,xP (.str (stp ρ s a).2) (.str s.2)=some (.bl u):=⟨_,rfl⟩;refine⟨u,?_⟩;have h1:=one_sign hx hR hs ha;generalize hq:(stp ρ s a).2=q at *;generalize hs':(stp ρ s a).1=s' at *;unfold LK
 let E0:Ev.Env:=[Zf R,Zf (bG s),A2,Zl ps,Zb t,Zs [a],Zs s.2,a7]
 refine(az (e:=E0) rfl).trans ?_
 let E2:Ev.Env:=[Zf R,Zf (bG s'),A2,Zl ps,Zb t,Zs [a],Zs s.2,Zs q]
 refine(az (e:=E2) ?_).trans ?_
 ·rcases h1 with ⟨g1,g2⟩|⟨g1,g2⟩
  ·refine(ik (e:=E0) (dh (aJ (ds:=[R]) rfl g1))).trans ?_;exact bC (e:=E0) (aJ (ds:=[R,bG s,.str [a]]) rfl g2) rfl
  ·refine(fB (e:=E0) (dh (aJ (ds:=[R]) rfl g1))).trans ?_;exact bC (e:=E0) (aJ (ds:=[R,bG s,.str [a]]) rfl g2) rfl
 let E1:Ev.Env:=[Zf R,Zf (bG s'),A2,Zl ps,Zb (t||u),Zs [a],Zs s.2,Zs q]
 refine(az (e:=E1) ?_).trans ?_
 ·refine bC (d:=.bl (t||u)) (e:=E2) (ZW rfl ?_) rfl;exact iz (x:=.str q) (y:=.str s.2) rfl rfl rfl hu
 ·exact(Ev.mL (i:=3) (xs:=ps) (d:=.str q) (e:=E1) rfl rfl rfl (Qw4 hp (by decide))).trans rfl
theorem read_signs{s:St}(hs:pg x s){z:List Nat}(hz:∀a∈z,a∈35::x)(hn:z.length<=150):∃t,gR [R,bG s,.str z]=some (.tup [bG (rd ρ s z).1,.str (rd ρ s z).2,.bl t]):=by
 obtain⟨e',f1,hd,dz,pl,t,a5,a6,a7,e1,hdz,e2,e3,e4,rfl⟩:=lr (g:=aj 5) (b:=LK) (gB z)
  (λdone env=>done.length<=z.length/\∃dz pl t a5 a6 a7,done=gB dz/\(∀a∈dz,a∈35::x)/\pl.flatten=(rd ρ s dz).2/\pl.length=done.length/\(∀q∈pl,q.length<=2)/\env=[Zf R,(Zf (bG (rd ρ s dz).1)),Zs z,Zl (pl.map .str),Zb t,a5,a6,a7])
  (λdone d rest hall env ⟨hd,dz,pl,t,a5,a6,a7,e1,hdz,e2,e3,e4,he⟩=>by
   subst he;obtain⟨a,rfl,ha,hl⟩:=zm hall;have hok:=yf hR dz hs hdz;have hst:=Te hR hok.1 (hz a ha);obtain⟨u,hb⟩:=Yb hx hR hok.1 (hz a ha) (Zs z) a6 a7 (pl.map .str) (by rw[Qqx];omega) t;refine⟨_,_,rfl,hb,by rw[Qqj,Qwq];omega,dz++[a],pl++[(stp ρ (rd ρ s dz).1 a).2],(t||u),Zs [a],(Zs ((rd ρ s dz).1.2)),(Zs ((stp ρ (rd ρ s dz).1 a).2)),by rw[vf,e1],?_,?_,?_,?_,?_⟩
   ·intro b hb;rcases Qw1.mp hb with hb|hb
    ·exact hdz b hb
    ·rw[Qqy.mp hb];exact hz a ha
   ·rw[zr,Qjw,e2];simp
   ·rw[Qqj,Qqj,e3]
    rfl
   ·intro q hq;rcases Qw1.mp hq with hq|hq
    ·exact e4 q hq
    ·rw[Qqy.mp hq];exact hst.2.1
   ·rw[zr,Qw6]
    rfl)
  [Zf R,Zf (bG s),Zs z,Zl [],Zb false,Zn,Zn,Zn] ⟨Qxy _,[],[],false,Zn,Zn,Zn,rfl,λa ha=>by simp at ha,rfl,rfl,λq hq=>by simp at hq,rfl⟩
 have hzz:=vg e1;subst hzz;refine⟨t,bV (env:=[Zf R,(Zf (bG (rd ρ s z).1)),Zs z,Zl (pl.map .str),Zb t,a5,a6,a7]) ?_⟩;unfold mV;refine(az (e:=[Zf R,Zf (bG s),Zs z,Zl [],Zn,Zn,Zn,Zn]) rfl).trans ?_
 let E0:Ev.Env:=[Zf R,Zf (bG s),Zs z,Zl [],Zb false,Zn,Zn,Zn]
 refine(az (e:=E0) rfl).trans ?_;refine(az ((dq (ds:=gB z) (e:=E0) rfl).trans f1)).trans ?_;have hj:jN (.str []) (.lst (pl.map .str))=some (.str (rd ρ s z).2):=by rw[lV.V0 (by rw[e3];omega) e4,e2]
 exact bH (cA (ds:=[bG (rd ρ s z).1,.str (rd ρ s z).2,.bl t]) (aH rfl (aH (bF (x:=.str []) (y:=.lst (pl.map .str)) rfl rfl hj) (aH rfl bz))) Ev.zz3)
end
theorem Em{g:GV}{b:cu}{d:D}{ds:List D}{env e1 e2:Ev.Env}(h1:g d env=some e1)(h2:b e1 = .nx e2):je g b (d::ds) env=je g b ds e2:=by
 conv=>lhs;unfold je
 rw[h1];simp only;rw[h2]
def tn:D->D
 | .tup [wy,ch,l,r]=>.tup [wy,ch,r,l]
 | d=>d
def lf:D->D
 | .tup [_,_,l,_]=>l
 | d=>d
def rt:D->Bool
 | .str (114::_)=>true
 | _=>false
def lay(s:D)(Rs:List D):List D:=if rt s=true then Rs.map tn else Rs
theorem S6{x:List Nat}{R:D}(h:cG x R):cG x (tn R)/\j6 [R]=some (tn R)/\GC [R]=some (tn R):=by obtain⟨wy,ch,l,r,rfl,h1,h2,h3,h4⟩:=h;exact⟨⟨wy,ch,r,l,rfl,h1,h2,h4,h3⟩,rfl,rfl⟩
theorem oA(s:D)(Rs:List D):(lay s Rs).length=Rs.length:=by
 unfold lay;split
 ·rw[Qqx]
 ·rfl
theorem xM{x:List Nat}{s:D}{Rs:List D}(h:∀R∈Rs,cG x R):∀R∈lay s Rs,cG x R:=by
 unfold lay;split
 ·intro R hR;obtain⟨Q,hQ,rfl⟩:=Qwy.mp hR;exact(S6 (h Q hQ)).1
 ·exact h
noncomputable def lW(x:List Nat)(R:D):Rl:=open Classical in if h:∃ρ,Is x R ρ then h.choose else .put 0 .non .non
theorem oZ{x:List Nat}{R:D}(h:cG x R):Is x R (lW x R):=by unfold lW;rw[dif_pos (V2 h)];exact(V2 h).choose_spec
noncomputable def jT(x:List Nat):List D->List St->List Nat->List St×List Nat
 | R::Rs,s::ss,z=>((rd (lW x R) s z).1::(jT x Rs ss (rd (lW x R) s z).2).1,(jT x Rs ss (rd (lW x R) s z).2).2)
 | _,_,z=>([],z)
noncomputable def t7(x:List Nat):List D->List St->List Nat->List Nat
 | R::Rs,s::ss,z=>t7 x Rs ss (rd (lW x R) s (z++[35])).2
 | _,_,z=>z
def tY(Rs:List D):List St:=Rs.map λR=>(fit (lf R) 35,[])
section
variable{x:List Nat}{s:D}(hx:x∈XS)(hs:s∈sides){Rs:List D}(hR:∀R∈Rs,cG x R)(h4:Rs.length<=10)
include hx hs hR h4
theorem reading_rules:cV [.tup [s,.tup Rs]]=some (.tup (lay s Rs)):=by
 rcases Qq1.mp hs with rfl|hs
 ·rfl
 ·cases Qqy.mp hs;obtain⟨env',g1,v5,rfl⟩:=zz (g:=aj 3) (e:=au j6 (Zv 3 ak)) (λenv=>∃v5,env=[Zf (.tup [.str [114,105,103,104,116],.tup Rs]),Zs [114,105,103,104,116],Zf (.tup Rs),v5]) tn Rs
   [Zf (.tup [.str [114,105,103,104,116],.tup Rs]),Zs [114,105,103,104,116],Zf (.tup Rs),Zn] ⟨none,rfl⟩
   (λd hd env ⟨v5,he⟩=>by
    subst he;exact⟨[Zf (.tup [.str [114,105,103,104,116],.tup Rs]),Zs [114,105,103,104,116],Zf (.tup Rs),Zf d],_,rfl,aJ (ds:=[d]) rfl (S6 (hR d hd)).2.1,_,rfl⟩)
  let E0:Ev.Env:=[Zf (.tup [.str [114,105,103,104,116],.tup Rs]),Zs [114,105,103,104,116],Zf (.tup Rs)]
  refine bV (env:=E0) ?_;unfold jx;refine(az (e:=E0) rfl).trans ?_;refine(lM ?_).trans rfl;refine(ik (e:=E0) rfl).trans ?_;refine bH (aJ (ds:=[.lst (Rs.map tn)]) (aH ?_ bz) rfl);exact oG (lo:=3) (n:=4) (ds:=Rs) (aL:=E0) rfl rfl g1 (by rw[Qqx];exact Qq3 h4 (by decide))
theorem first_standing:dU [.tup [s,.tup Rs]]=some (.tup ((tY (lay s Rs)).map bG)):=by
 have h1:=reading_rules hx hs hR h4;have h2:=xM (s:=s) hR;have h3:=oA s Rs;generalize lay s Rs=Ls at *;generalize D.tup [s,.tup Rs]=O at *;obtain⟨env',g1,v1,v2,v3,v4,rfl⟩:=zz (g:=bK 4 (aD (aj 1) (aD (aj 2) (aD (aj 3) (aD (aj 4) bN))))) (e:=bY (aa (au cX (Zv 3 (aa (Zw [35]) ak))) (aa (Zw []) ak))) (λenv=>∃v1 v2 v3 v4,env=[Zf O,v1,v2,v3,v4]) (λR=>bG (fit (lf R) 35,[])) Ls
  [Zf O,Zn,Zn,Zn,Zn] ⟨none,Zn,Zn,Zn,rfl⟩
  (λd hd env ⟨v1,v2,v3,v4,he⟩=>by
   subst he;obtain⟨wy,ch,l,r,rfl,hro⟩:=h2 d hd;exact⟨[Zf O,Zf wy,Zf ch,Zf l,Zf r],[Zf O,Zf wy,Zf ch,Zf l,Zf r],rfl,cA (ds:=[.bl (fit l 35),.str []]) (aH (aJ (ds:=[l,.str [35]]) rfl (fY x hx l hro.left 35 (Qqv ..))) rfl) Ev.zb,_,_,_,_,rfl⟩)
 refine bV (env:=[Zf O]) (bH (aJ (ds:=[.lst (Ls.map λR=>bG (fit (lf R) 35,[]))]) (aH ?_ bz) ?_))
 ·exact oG (lo:=1) (n:=5) (ds:=Ls) (aL:=[Zf O]) (zL (aJ (ds:=[O]) rfl h1) rfl) rfl g1 (by rw[Qqx,h3];exact Qq3 h4 (by decide))
 ·unfold tY;rw[Qxj]
  rfl
end
theorem adC(x:List Nat)(Rs:List D):∀s∈tY Rs,pg x s:=by intro s hs;obtain⟨R,_,rfl⟩:=Qwy.mp hs;exact⟨Qxy _,λc hc=>by simp at hc⟩
def KH:cu:=cR.tW
def KQ:cu:=cR.rT
section
variable{x:List Nat}(hx:x∈XS)
theorem Pz{n m k:Nat}(h:(n+2)*2^(k+1)<=150)(hm:m<=2*(n+1)):(m+2)*2^k<=150/\n<=73:=by
 have h1:(n+2)*2^(k+1)=(2*(n+1)+2)*2^k:=by
  rw[Nat.pow_succ,<-Nat.mul_assoc,Nat.mul_right_comm]
  congr 1
  omega
 have h2:(m+2)*2^k<=(2*(n+1)+2)*2^k:=Qky _ (by omega);have h3:1<=2^k:=Nat.one_le_two_pow;have h4:2*(n+1)+2<=(2*(n+1)+2)*2^k:=Nat.le_mul_of_pos_right _ h3;omega
include hx
theorem aaF(A0 A1 A2:OD):∀(Rs:List D) (ss:List St) (z:List Nat) (acc ts:List D) (v6 v7 v8 v9:OD),Rs.length=ss.length->(∀R∈Rs,cG x R)->(∀s∈ss,pg x s)->(∀a∈z,a∈35::x)->(z.length+2)*2^Rs.length<=150->acc.length+Rs.length<=100->ts.length+Rs.length<=100->
  ∃us w6 w7 w8 w9,je (bK 2 (aD (aj 6) (aD (aj 7) bN))) KH (oU Rs (ss.map bG)) [A0,A1,A2,Zs z,Zl acc,Zl ts,v6,v7,v8,v9] = .nx [A0,A1,A2,(Zs ((jT x Rs ss z).2)),(Zl (acc++(jT x Rs ss z).1.map bG)),Zl us,w6,w7,w8,w9]/\(∀s∈(jT x Rs ss z).1,pg x s)/\(jT x Rs ss z).1.length=Rs.length/\us.length<=100
 | [],[],z,acc,ts,v6,v7,v8,v9,_,_,_,_,_,_,ht=>by
  refine⟨ts,v6,v7,v8,v9,?_,λs hs=>by simp[jT] at hs,rfl,ht⟩;show Ev.Out.nx _=Ev.Out.nx [A0,A1,A2,Zs z,Zl (acc++[]),Zl ts,v6,v7,v8,v9];rw[Qxq]
 | [],_::_,_,_,_,_,_,_,_,h,_,_,_,_,_,_=>by simp at h
 | _::_,[],_,_,_,_,_,_,_,h,_,_,_,_,_,_=>by simp at h
 | R::Rs,s::ss,z,acc,ts,v6,v7,v8,v9,h,hR,hS,hz,hn,ha,ht=>by
  have hRi:=oZ (hR R (Qqv ..));have hso:=hS s (Qqv ..);obtain⟨o1,o2,o3⟩:=yf hRi z hso hz;obtain⟨n1,n2⟩:=Pz hn (m:=(rd (lW x R) s z).2.length) (by omega);obtain⟨t,hrs⟩:=read_signs hx hRi hso hz (by omega);rw[Qqw] at ha ht;obtain⟨us,w6,w7,w8,w9,g1,g2,g3,g4⟩:=aaF A0 A1 A2 Rs ss (rd (lW x R) s z).2 (acc++[bG (rd (lW x R) s z).1]) (ts++[.bl t]) (Zf R) (Zf (bG s)) (Zf (bG (rd (lW x R) s z).1)) (Zb t) (by simpa using h) (λQ hQ=>hR Q (Qqk _ hQ)) (λq hq=>hS q (Qqk _ hq)) o3 n1 (by rw[Qqj,Qwq];omega) (by rw[Qqj,Qwq];omega);refine⟨us,w6,w7,w8,w9,?_,?_,?_,g4⟩
  ·show je _ KH (.tup [R,bG s]::oU Rs (ss.map bG)) _=Ev.Out.nx [A0,A1,A2,(Zs ((jT x Rs ss (rd (lW x R) s z).2).2)),(Zl (acc++(bG (rd (lW x R) s z).1::(jT x Rs ss (rd (lW x R) s z).2).1.map bG))),Zl us,w6,w7,w8,w9]
   let E2:Ev.Env:=[A0,A1,A2,Zs z,Zl acc,Zl ts,Zf R,Zf (bG s),v8,v9]
   rw[Em (e1:=E2) (e2:=[A0,A1,A2,(Zs ((rd (lW x R) s z).2)),(Zl (acc++[bG (rd (lW x R) s z).1])),Zl (ts++[.bl t]),Zf R,Zf (bG s),(Zf (bG (rd (lW x R) s z).1)),Zb t]) rfl ?_,g1,Qxv]
   ·rfl
   ·generalize(rd (lW x R) s z).2=q at *;generalize(rd (lW x R) s z).1=s' at *;unfold KH
    let E1:Ev.Env:=[A0,A1,A2,Zs q,Zl acc,Zl ts,Zf R,Zf (bG s),Zf (bG s'),Zb t]
    refine(az (e:=E1) (bC (e:=E2) (aJ (ds:=[R,bG s,.str z]) rfl hrs) rfl)).trans ?_
    let E0:Ev.Env:=[A0,A1,A2,Zs q,Zl (acc++[bG s']),Zl ts,Zf R,Zf (bG s),Zf (bG s'),Zb t]
    refine(az (e:=E0) ?_).trans ?_
    ·exact(Ev.mL (i:=4) (xs:=acc) (d:=bG s') (e:=E1) rfl rfl rfl (Qw4 (show acc.length<=100 by omega) (by decide))).trans rfl
    ·exact(Ev.mL (i:=5) (xs:=ts) (d:=.bl t) (e:=E0) rfl rfl rfl (Qw4 (show ts.length<=100 by omega) (by decide))).trans rfl
  ·intro q hq;rcases Qq1.mp (show q∈(rd (lW x R) s z).1::(jT x Rs ss (rd (lW x R) s z).2).1 from hq) with rfl|hq
   ·exact o1
   ·exact g2 q hq
  ·show(_::(jT x Rs ss (rd (lW x R) s z).2).1).length=_;rw[Qqw,g3,Qqw]
theorem aaG(A0 A1:OD):∀(Rs:List D) (ss:List St) (z:List Nat) (ts:List D) (v6 v7 v8 v9:OD),Rs.length=ss.length->(∀R∈Rs,cG x R)->(∀s∈ss,pg x s)->(∀a∈z,a∈35::x)->(z.length+2)*2^Rs.length<=150->ts.length+Rs.length<=100->
  ∃us w6 w7 w8 w9,je (bK 2 (aD (aj 4) (aD (aj 5) bN))) KQ (oU Rs (ss.map bG)) [A0,A1,Zs z,Zl ts,v6,v7,v8,v9] = .nx [A0,A1,Zs (t7 x Rs ss z),Zl us,w6,w7,w8,w9]/\us.length<=100
 | [],[],z,ts,v6,v7,v8,v9,_,_,_,_,_,ht=>⟨ts,v6,v7,v8,v9,rfl,ht⟩
 | [],_::_,_,_,_,_,_,_,h,_,_,_,_,_=>by simp at h
 | _::_,[],_,_,_,_,_,_,h,_,_,_,_,_=>by simp at h
 | R::Rs,s::ss,z,ts,v6,v7,v8,v9,h,hR,hS,hz,hn,ht=>by
  have hRi:=oZ (hR R (Qqv ..));have hso:=hS s (Qqv ..);have hz':∀a∈z++[35],a∈35::x:=λa ha=>by
   rcases Qw1.mp ha with ha|ha
   ·exact hz a ha
   ·rw[Qqy.mp ha];exact Qqv ..
  have hzl:(z++[35]).length=z.length+1:=by rw[Qqj,Qwq]
  obtain⟨o1,o2,o3⟩:=yf hRi (z++[35]) hso hz';obtain⟨n1,n2⟩:=Pz hn (m:=(rd (lW x R) s (z++[35])).2.length) (by omega);obtain⟨t,hrs⟩:=read_signs hx hRi hso hz' (by omega);rw[Qqw] at ht;obtain⟨us,w6,w7,w8,w9,g1,g4⟩:=aaG A0 A1 Rs ss (rd (lW x R) s (z++[35])).2 (ts++[.bl t]) (Zf R) (Zf (bG s)) (Zf (bG (rd (lW x R) s (z++[35])).1)) (Zb t) (by simpa using h) (λQ hQ=>hR Q (Qqk _ hQ)) (λq hq=>hS q (Qqk _ hq)) o3 n1 (by rw[Qqj,Qwq];omega);refine⟨us,w6,w7,w8,w9,?_,g4⟩;show je _ KQ (.tup [R,bG s]::oU Rs (ss.map bG)) _=Ev.Out.nx [A0,A1,(Zs (t7 x Rs ss (rd (lW x R) s (z++[35])).2)),Zl us,w6,w7,w8,w9]
  let E1:Ev.Env:=[A0,A1,Zs z,Zl ts,Zf R,Zf (bG s),v8,v9]
  rw[Em (e1:=E1) (e2:=[A0,A1,(Zs ((rd (lW x R) s (z++[35])).2)),Zl (ts++[.bl t]),Zf R,Zf (bG s),(Zf (bG (rd (lW x R) s (z++[35])).1)),Zb t]) rfl ?_,g1];generalize(rd (lW x R) s (z++[35])).2=q at *;generalize(rd (lW x R) s (z++[35])).1=s' at *;unfold KQ
  let E0:Ev.Env:=[A0,A1,Zs q,Zl ts,Zf R,Zf (bG s),Zf (bG s'),Zb t]
  refine(az (e:=E0) (bC (e:=E1) (aJ (ds:=[R,bG s,.str (z++[35])]) (aH rfl (aH rfl (aH (iz (x:=.str z) (y:=.str [35]) rfl rfl rfl (mQ (by show z.length+1<=100000;omega))) bz))) hrs) rfl)).trans ?_;exact(Ev.mL (i:=3) (xs:=ts) (d:=.bl t) (e:=E0) rfl rfl rfl (Qw4 (show ts.length<=100 by omega) (by decide))).trans rfl
end
open lV (XS sides jF mQ Dl)
open iu (xX nH Hi PV SG RN prs one others IK G4 Gu Uv mR Hh jH)
open lV (Ge Qc)
theorem changes(n:Int)(x:List Nat)(hx:x∈XS):∃ch n',iu.gZ [.lst [.int n],.str x]=some (ch,.lst [.int n'])/\Dl x ch:=by
 obtain⟨d,hd,e⟩:=dig n 5 (by decide);have hp:=xX x hx;have hl4:=nH x hx;have t:eO (aO qz (di iu.aY 0 (aa (Zi 5) ak)) (Zi 0)) [Zl [.int n],Zs x,Zn,Zn,Zn,Zn] = .ok ((d:Int) == 0) [Zl [.int (n / 5)],Zs x,Zn,Zn,Zn,Zn]:=by
  rw[<-e]
  rfl
 by_cases h0:d=0
 ·subst h0;obtain⟨j,hj,ej⟩:=dig (n / 5) x.length hp
  let E0:Ev.Env:=[Zl [.int (n / 5 / (x.length:Int))],Zs x,Zn,Zn,Zn,Zn]
  refine⟨.tup [.tup [.str [],.str [x[j]]]],n / 5 / (x.length:Int),iH (env:=E0) ?_ rfl,.put (Qzv hj)⟩;unfold iu.fj;refine(lM (d:=.tup [.tup [.str [],.str [x[j]]]]) (o:=false) (e:=E0) ?_).trans rfl;refine(ik t).trans ?_;refine bH (cA (aH (cA (ds:=[.str [],.str [x[j]]]) (aH (d:=.str []) rfl (aH ?_ bz)) Ev.zb) bz) Ev.zz1);refine iz (x:=.str x) (y:=.int (n / 5 % (x.length:Int))) rfl ?_ rfl ?_
  ·exact Ev.wj (x:=.lst [.int (n / 5)]) (ds:=[.int (x.length:Int)]) (e1:=[Zl [.int (n / 5)],Zs x,Zn,Zn,Zn,Zn]) rfl rfl rfl (mR _ x.length hp (by omega))
  ·show(uf x (n / 5 % (x.length:Int))).map _=_;rw[ej,Hc hj]
   rfl
 ·have t0:((d:Int) == 0)=false:=by rw[Qz1];omega
  rw[t0] at t;obtain⟨j,hj,ej⟩:=dig (n / 5) 3 (by decide);obtain⟨ds,hds,hl1,hl2⟩:∃ds,yS [.int (1+(j:Int))]=some ds/\0<ds.length/\ds.length<=4:=by
   have hc:j=0\/j=1\/j=2:=by omega
   rcases hc with rfl|rfl|rfl
   ·exact⟨_,rfl,by decide,by decide⟩
   ·exact⟨_,rfl,by decide,by decide⟩
   ·exact⟨_,rfl,by decide,by decide⟩
  obtain⟨e',f1,n',kvs,zs,v3,v4,v5,rfl,hk,hz1,hz2⟩:=lr (g:=aj 3) (b:=aF one (aF others IK)) ds
   (λdone env=>∃n kvs zs v3 v4 v5,env=[Zl [.int n],Zs x,Zt (.dct kvs),v3,v4,v5]/\Hi x kvs zs/\zs.length<=done.length/\(0<done.length->0<zs.length))
   (λdone s rest hall env ⟨n,kvs,zs,v3,v4,v5,he,hk,hz1,hz2⟩=>by
    subst he;have hdl:done.length<=4:=by have:=Qx5 List.length hall;rw[Qqj,Qqw] at this;omega
    have hkl:kvs.length=zs.length:=by
     have:=Qx5 List.length hk.keys
     rwa [Qqx,Qqx] at this
    obtain⟨p,n',w4,w5,hpv,hb⟩:=iu.round n x hx kvs (by omega) (Zf s) v4 v5;obtain⟨zs',hk',z1,z2⟩:=hk.put hpv (Hh hpv);exact⟨_,_,rfl,hb,n',_,zs',_,_,_,rfl,hk',by rw[Qqj,Qwq];omega,λ_=>z1⟩)
   [Zl [.int (n / 5 / 3)],Zs x,Zt (.dct []),Zn,Zn,Zn] ⟨_,[],[],_,_,_,rfl,⟨rfl,.nil,λc hc=>by simp at hc,λk v h=>by simp at h⟩,Qq0 _,λh=>h⟩
  have hz3:zs.length<=4:=Qq3 hz1 hl2;have hok:Dl x (.tup (prs kvs ((jl (zs.map λc=>[c])).map D.str))):=by
   obtain⟨ps,e1,e2,e3⟩:=Ge hx _ (Gu hk);have hl:ps.length=zs.length:=by rw[e2,Qqx,(iG _).length_eq,Qqx]
   rw[e1];have:=hz2 hl1;exact .chg (by omega) (by omega) e3
  let E1:Ev.Env:=[Zl [.int n'],Zs x,Zt (.dct kvs),v3,v4,v5]
  refine⟨_,n',iH (env:=E1) ?_ rfl,hok⟩;unfold iu.fj;refine(az (e:=[Zl [.int (n / 5)],Zs x,Zn,Zn,Zn,Zn]) ((fB t).trans rfl)).trans ?_;refine(az (e:=[Zl [.int (n / 5)],Zs x,Zt (.dct []),Zn,Zn,Zn]) rfl).trans ?_;refine(az (e:=E1) ?_).trans ?_
  ·refine(dq (ds:=ds) (e:=[Zl [.int (n / 5 / 3)],Zs x,Zt (.dct []),Zn,Zn,Zn]) ?_).trans f1;have a1:aa (aO cL (Zi 1) (di iu.aY 0 (aa (Zi 3) ak))) ak [Zl [.int (n / 5)],Zs x,Zt (.dct []),Zn,Zn,Zn] = .ok [.int (1+n / 5 % 3)] [Zl [.int (n / 5 / 3)],Zs x,Zt (.dct []),Zn,Zn,Zn]:=by rfl
   unfold iV;rw[a1];show jf (yS [.int (1+n / 5 % ((3:Nat):Int))]) _=_;rw[ej,hds]
   rfl
  ·exact G4 (Qc hk hz3) _ _ _ _ _
theorem rule(n:Int)(x:List Nat)(hx:x∈XS):∃w ch l r n',iu.jC [.lst [.int n],.str x]=some (.tup [w,ch,l,r],.lst [.int n'])/\jF x w ch l r:=by
 obtain⟨d,hd,e⟩:=dig n 2 (by decide);obtain⟨w,hw,h1⟩:∃w,(w = .str [111,110,99,101]\/w = .str [97,108,111,110,103])/\dH (.lst [.str [111,110,99,101],.str [97,108,111,110,103]]) (.int (d:Int))=some w:=by
  have hc:d=0\/d=1:=by omega
  rcases hc with rfl|rfl
  ·exact⟨_,.inl rfl,rfl⟩
  ·exact⟨_,.inr rfl,rfl⟩
 obtain⟨ch,n1,h2,h3⟩:=changes (n / 2) x hx;obtain⟨l,n2,h5,h6⟩:=iu.signs n1 x hx;obtain⟨r,n3,h7,h8⟩:=iu.signs n2 x hx
 let E1:Ev.Env:=[Zl [.int n3],Zs x,Zf w,Zf ch]
 refine⟨w,ch,l,r,n3,iH (env:=E1) ?_ rfl,⟨hw,h3,h6,h8⟩⟩;unfold iu.jE
 let E3:Ev.Env:=[Zl [.int (n / 2)],Zs x,Zf w,Zn]
 refine(az (e:=E3) ?_).trans ?_
 ·refine bC (d:=w) (e:=[Zl [.int (n / 2)],Zs x,Zn,Zn]) ?_ rfl;refine bF (x:=.lst [.str [111,110,99,101],.str [97,108,111,110,103]]) (y:=.int (n % 2)) (e1:=[Zl [.int n],Zs x,Zn,Zn]) rfl rfl ?_;have e2:n % 2=(d:Int):=e;rw[e2];exact h1
 let E0:Ev.Env:=[Zl [.int n1],Zs x,Zf w,Zf ch]
 refine(az (e:=E0) ?_).trans ?_
 ·exact bC (d:=ch) (e:=[Zl [.int n1],Zs x,Zf w,Zn]) (Ev.wj (x:=.lst [.int (n / 2)]) (ds:=[.str x]) (e1:=E3) rfl rfl rfl h2) rfl
 ·let E2:Ev.Env:=[Zl [.int n2],Zs x,Zf w,Zf ch]
  refine bH (cA (ds:=[w,ch,l,r]) (aH (d:=w) (e1:=E0) rfl (aH (d:=ch) (e1:=E0) rfl (aH (d:=l) (e1:=E2) ?_ (aH (d:=r) (e1:=E1) ?_ bz)))) Ev.zz4)
  ·exact Ev.wj (x:=.lst [.int n1]) (ds:=[.str x]) (e1:=E0) rfl rfl rfl h5
  ·exact Ev.wj (x:=.lst [.int n2]) (ds:=[.str x]) (e1:=E2) rfl rfl rfl h7
theorem order(n:Int)(x:List Nat)(hx:x∈XS)(m:Nat)(hm:m<=10):∃s Rs n',fZ [.lst [.int n],.str x,.int (m:Int)]=some (.tup [s,.tup Rs],.lst [.int n'])/\s∈sides/\(∀R∈Rs,cG x R)/\Rs.length<=m:=by
 obtain⟨d,hd,e⟩:=dig n 2 (by decide);obtain⟨s,hs,h1⟩:∃s,s∈sides/\dH (.lst [.str [108,101,102,116],.str [114,105,103,104,116]]) (.int (d:Int))=some s:=by
  have hc:d=0\/d=1:=by omega
  rcases hc with rfl|rfl
  ·exact⟨_,Qqv ..,rfl⟩
  ·exact⟨_,Qqk _ (Qqv ..),rfl⟩
 obtain⟨j,hj,ej⟩:=dig (n / 2) (m+1) (by omega);obtain⟨Rs,env',g1,⟨n',v4,rfl⟩,g3,g4⟩:=cZ.Gr (g:=aj 4) (e:=di jC 0 (Zv 1 ak)) (λenv=>∃n v4,env=[Zl [.int n],Zs x,Zf (.int (m:Int)),Zf s,v4]) (cG x) (gf 0 1 j)
  [Zl [.int (n / 2 / ((m+1:Nat):Int))],Zs x,Zf (.int (m:Int)),Zf s,Zn] ⟨_,_,rfl⟩
  (λt _ env ⟨n,v4,he⟩=>by
   subst he;obtain⟨wy,ch,l,r,n',h2,h3⟩:=rule n x hx;refine⟨.tup [wy,ch,l,r],_,[Zl [.int n'],Zs x,Zf (.int (m:Int)),Zf s,Zf t],rfl,?_,⟨_,_,rfl⟩,_,_,_,_,rfl,h3⟩;exact Ev.wj (x:=.lst [.int n]) (ds:=[.str x]) (e1:=[Zl [.int n],Zs x,Zf (.int (m:Int)),Zf s,Zf t]) rfl rfl rfl h2)
 have hl:Rs.length=j:=by rw[kJ] at g4;exact g4
 refine⟨s,Rs,n',iH (env:=[Zl [.int n'],Zs x,Zf (.int (m:Int)),Zf s]) ?_ rfl,hs,g3,by omega⟩;unfold oM
 let E0:Ev.Env:=[Zl [.int (n / 2)],Zs x,Zf (.int (m:Int)),Zf s]
 refine(az (e:=E0) ?_).trans ?_
 ·refine bC (d:=s) (e:=[Zl [.int (n / 2)],Zs x,Zf (.int (m:Int)),Zn]) ?_ rfl;refine bF (x:=.lst [.str [108,101,102,116],.str [114,105,103,104,116]]) (y:=.int (n % 2)) (e1:=[Zl [.int n],Zs x,Zf (.int (m:Int)),Zn]) rfl rfl ?_;have e2:n % 2=(d:Int):=e;rw[e2];exact h1
 refine bH (cA (ds:=[s,.tup Rs]) (aH (d:=s) (e1:=E0) rfl (aH ?_ bz)) Ev.zb);refine aJ (ds:=[.lst Rs]) (aH ?_ bz) rfl
 let E1:Ev.Env:=[Zl [.int (n / 2 / ((m+1:Nat):Int))],Zs x,Zf (.int (m:Int)),Zf s]
 refine oG (lo:=4) (n:=5) (ds:=gf 0 1 j) (aL:=E1) (dX:=[Zl [.int n'],Zs x,Zf (.int (m:Int)),Zf s,v4]) ?_ rfl g1 (by rw[hl];exact Qq3 (show j<=10 by omega) (by decide));refine cZ.rW (ds:=[.int (n / 2 % ((m+1:Nat):Int))]) ?_ ?_
 ·refine aH (e1:=E1) ?_ bz;exact Ev.wj (x:=.lst [.int (n / 2)]) (ds:=[.int ((m+1:Nat):Int)]) (e1:=E0) rfl rfl rfl (iu.mR (n / 2) (m+1) (by omega) (by omega))
 ·have e2:n / 2 % ((m+1:Nat):Int)=(j:Int):=ej;rw[e2];exact cZ.Tv (by omega)
open lV (XS sides jF mQ fit fY)
theorem JV{a:dI}{env e:Ev.Env}{x y:List D}(h:a env = .ok [.tup x,.tup y] e):yr a env = .ok (oU x y) e:=by unfold yr;rw[h];rfl
structure xZ(x:List Nat)(s:D)(Rs:List D)(ss:List St):Prop where
 hx:x∈XS
 hs:s∈sides
 hR:∀R∈Rs,cG x R
 h4:Rs.length<=4
 hl:ss.length=Rs.length
 hS:∀t∈ss,pg x t
theorem aeB{n m:Nat}(h:n<=4)(hm:m<=7):(m+2)*2^n<=150:=by have h1:2^n<=2^4:=Qx7 (by decide) h;have h2:(m+2)*2^n<=9*2^4:=Qvy (by omega) h1;omega
section
variable{x:List Nat}{s:D}{Rs:List D}{ss:List St}(o:xZ x s Rs ss){z:List Nat}(hz:∀a∈z,a∈35::x)(hn:z.length<=7)
include o hz hn
theorem watch_on:∃us,qb [.tup [s,.tup Rs],.tup (ss.map bG),.str z]=some (.tup [.tup ((jT x (lay s Rs) ss z).1.map bG),.str (jT x (lay s Rs) ss z).2,.tup us])/\xZ x s Rs (jT x (lay s Rs) ss z).1:=by
 have h1:=reading_rules o.hx o.hs o.hR (Qq3 o.h4 (by decide));have h2:=xM (s:=s) o.hR;have h3:=oA s Rs;have h4:=o.h4;have hl:=o.hl;have hx:=o.hx;have hS:=o.hS;have hs:=o.hs;have hR:=o.hR;generalize lay s Rs=Ls at *;generalize D.tup [s,.tup Rs]=O at *;obtain⟨us,w6,w7,w8,w9,g1,g2,g3,g4⟩:=aaF hx (Zf O) (Zf (.tup (ss.map bG))) (Zs z) Ls ss z [] [] none none none none (by omega) h2 hS hz (aeB (by omega) hn) (by rw[Qx2];omega) (by rw[Qx2];omega);refine⟨us,bV (env:=[Zf O,(Zf (.tup (ss.map bG))),Zs z,(Zs ((jT x Ls ss z).2)),(Zl ([]++(jT x Ls ss z).1.map bG)),Zl us,w6,w7,w8,w9]) ?_,hx,hs,hR,h4,by omega,g2⟩;unfold qj;refine(az (e:=[Zf O,(Zf (.tup (ss.map bG))),Zs z,Zs z,Zn,Zn,Zn,Zn,Zn,Zn]) (by rfl)).trans ?_;refine(az (e:=[Zf O,(Zf (.tup (ss.map bG))),Zs z,Zs z,Zl [],Zn,Zn,Zn,Zn,Zn]) (by rfl)).trans ?_
 let E0:Ev.Env:=[Zf O,(Zf (.tup (ss.map bG))),Zs z,Zs z,Zl [],Zl [],Zn,Zn,Zn,Zn]
 refine(az (e:=E0) (by rfl)).trans ?_;refine(az ((dq (ds:=oU Ls (ss.map bG)) (e:=E0) ?_).trans g1)).trans ?_
 ·exact JV (aH (aJ (ds:=[O]) (by rfl) h1) (by rfl))
 ·rw[List.nil_append];exact bH (cA (ds:=[.tup ((jT x Ls ss z).1.map bG),.str (jT x Ls ss z).2,.tup us]) (by rfl) Ev.zz3)
theorem read_on:pG [.tup [s,.tup Rs],.tup (ss.map bG),.str z]=some (.tup [.tup ((jT x (lay s Rs) ss z).1.map bG),.str (jT x (lay s Rs) ss z).2])/\xZ x s Rs (jT x (lay s Rs) ss z).1:=by
 obtain⟨us,h1,h2⟩:=watch_on o hz hn;refine⟨?_,h2⟩;generalize(jT x (lay s Rs) ss z).1.map bG=T at *;generalize(jT x (lay s Rs) ss z).2=q at *;generalize D.tup [s,.tup Rs]=O at *
 let E0:Ev.Env:=[Zf O,(Zf (.tup (ss.map bG))),Zs z,Zf (.tup T),Zs q,Zf (.tup us)]
 refine bV (env:=E0) ?_;unfold pJ;refine(az (e:=E0) ?_).trans ?_
 ·exact bC (e:=[Zf O,(Zf (.tup (ss.map bG))),Zs z,Zn,Zn,Zn]) (aJ (ds:=[O,.tup (ss.map bG),.str z]) (by rfl) h1) (by rfl)
 ·exact bH (cA (ds:=[.tup T,.str q]) (by rfl) Ev.zb)
omit hz hn
theorem watch_end:∃us,oE [.tup [s,.tup Rs],.tup (ss.map bG)]=some (.tup [.str (t7 x (lay s Rs) ss []),.tup us]):=by
 have h1:=reading_rules o.hx o.hs o.hR (Qq3 o.h4 (by decide));have h2:=xM (s:=s) o.hR;have h3:=oA s Rs;have h4:=o.h4;have hl:=o.hl;have hx:=o.hx;have hS:=o.hS;generalize lay s Rs=Ls at *;generalize D.tup [s,.tup Rs]=O at *;obtain⟨us,w6,w7,w8,w9,g1,g4⟩:=aaG hx (Zf O) (Zf (.tup (ss.map bG))) Ls ss [] [] none none none none (by omega) h2 hS (λa ha=>by simp at ha) (aeB (m:=0) (by omega) (by decide)) (by rw[Qx2];omega);refine⟨us,bV (env:=[Zf O,(Zf (.tup (ss.map bG))),Zs (t7 x Ls ss []),Zl us,w6,w7,w8,w9]) ?_⟩;unfold oH;refine(az (e:=[Zf O,(Zf (.tup (ss.map bG))),Zs [],Zn,Zn,Zn,Zn,Zn]) (by rfl)).trans ?_
 let E0:Ev.Env:=[Zf O,(Zf (.tup (ss.map bG))),Zs [],Zl [],Zn,Zn,Zn,Zn]
 refine(az (e:=E0) (by rfl)).trans ?_;refine(az ((dq (ds:=oU Ls (ss.map bG)) (e:=E0) ?_).trans g1)).trans ?_
 ·exact JV (aH (aJ (ds:=[O]) (by rfl) h1) (by rfl))
 ·exact bH (cA (ds:=[.str (t7 x Ls ss []),.tup us]) (by rfl) Ev.zb)
theorem end_of:lR [.tup [s,.tup Rs],.tup (ss.map bG)]=some (.str (t7 x (lay s Rs) ss [])):=by obtain⟨us,h1⟩:=watch_end o;generalize t7 x (lay s Rs) ss []=q at *;generalize D.tup [s,.tup Rs]=O at *;exact bV (env:=[Zf O,(Zf (.tup (ss.map bG)))]) (bH (bF (x:=.tup [.str q,.tup us]) (y:=.int 0) (aJ (ds:=[O,.tup (ss.map bG)]) (by rfl) h1) (by rfl) (by rfl)))
end
end kh
namespace R8
open Ev PySem L2
open iu (SG du)
open lV (XS sides jF mQ fit fY wM look jn cY encC sg ed nw dY cg out inn pc pin)
open uR (cG iM cF fin qu p8)
open kh (Rl stp rd Al zr Gb Is V2 lW oZ jT t7 tY lay tn lf IW nrC bG pg xZ rt)
open K10 (J gP aa2)
section
variable{l r:D}{c:Nat}{kvs:List (D×D)}
theorem TQ:∀(w:List Nat) (p:Nat) (h:List Nat) (q:Nat),(rd (.put c l r) (fit l p,h) (w++[q])).2=h++J (gP l r c) p w q
 | [],p,h,q=>by
  show(rd (.put c l r) (fit l p,h) [q]).2=_;rw[Gb]
  rfl
 | a::t,p,h,q=>by
  show(stp (.put c l r) (fit l p,h) a).2++(rd (.put c l r) (fit l a,[a]) (t++[q])).2=h++(gP l r c p a++a::J (gP l r c) a t q);rw[TQ t a [a] q];show(h++gP l r c p a)++([a]++_)=_;simp
theorem afj(w:List Nat)(near n:Nat):IW kvs (sg w (n+1)) (fit l near&&fit r (sg w (n+2)))=nw kvs l r w near n:=by
 unfold IW nw;cases look kvs (sg w (n+1)) with
 | none=>
  simp
 | some t=>
  cases fit l near&&fit r (sg w (n+2))<;>rfl
theorem Ny(w:List Nat){n:Nat}(h:n<(w++[35]).length):(w++[35]).take (n+1)=(w++[35]).take n++[sg w (n+1)]:=by
 have e:sg w (n+1)=(w++[35])[n]:=by
  show(w++[35]).getD n 0=_;rw[Qq7,Qq9 h]
  rfl
 rw[e,List.take_succ_eq_append_getElem h]
theorem TV(al:Bool){x w:List Nat}(hk:wM x kvs)(hw:∀c∈w,c∈x):∀n,n<=w.length->rd (.chg al kvs l r) (fit l 35,[]) ((w++[35]).take (n+1))=((fit l (dY al w (cg al kvs l r w n) n),[sg w (n+1)]),(cg al kvs l r w n).flatten)
 | 0,_=>by
  rw[Ny w (by rw[Qqj];exact Nat.succ_pos _),List.take_zero,List.nil_append,Gb];show((fit l 35,[sg w 1]),([]:List Nat))=((fit l (dY al w [] 0),[sg w 1]),([]:List (List Nat)).flatten);cases al<;>rfl
 | n+1,h=>by
  have hl:n+1<(w++[35]).length:=by rw[Qqj,Qwq];omega
  rw[Ny w hl,zr,TV al hk hw n (by omega)];have hno:=lV.Vo (l:=l) (r:=r) hk hw (n:=n) (by omega) (dY al w (cg al kvs l r w n) n);show((nrC al l (sg w (n+1)) (fit l (dY al w (cg al kvs l r w n) n)) (IW kvs (sg w (n+1)) (fit l (dY al w (cg al kvs l r w n) n)&&fit r (sg w (n+2)))),[sg w (n+2)]),(cg al kvs l r w n).flatten++IW kvs (sg w (n+1)) (fit l (dY al w (cg al kvs l r w n) n)&&fit r (sg w (n+2))))=((fit l (dY al w (cg al kvs l r w n++[nw kvs l r w (dY al w (cg al kvs l r w n) n) n]) (n+1)),[sg w (n+2)]),(cg al kvs l r w n++[nw kvs l r w (dY al w (cg al kvs l r w n) n) n]).flatten);rw[afj];generalize cg al kvs l r w n=made at *;generalize hN:dY al w made n=near at *;generalize nw kvs l r w near n=t at *;have h2:nrC al l (sg w (n+1)) (fit l near) t=fit l (dY al w (made++[t]) (n+1)):=by
   cases al with
   | false=>rfl
   | true=>
    rw[lV.Bb made t n hno.1,hN];unfold nrC;rw[if_pos rfl];split<;>rfl
  rw[h2,Qjw];simp
end
section
variable{x:List Nat}{R:D}(hx:x∈XS)(hR:cG x R){w:List Nat}(hw:∀c∈w,c∈x)(hn:w.length<=30000)
noncomputable def S5(x:List Nat)(R:D)(w:List Nat):List Nat:=(rd (lW x R) (fit (lf R) 35,[]) (w++[35])).2
include hx hR hw hn
theorem from_left:lV.iU [R,.str w]=some (.str (S5 x R w)):=by
 have hi:=oZ hR;unfold S5;generalize lW x R=ρ at *;cases hi with
 | put hc hl hr=>
  rename_i wy l r c;have e:(rd (.put c l r) (fit (lf (.tup [wy,.tup [.tup [.str [],.str [c]]],l,r])) 35,[]) (w++[35])).2=inn l r c w:=by rw[aa2];exact TQ w 35 [] 35
  rw[e]
  let E0:Ev.Env:=[Zf (.tup [wy,.tup [.tup [.str [],.str [c]]],l,r]),Zs w]
  refine bV (env:=E0) ?_;unfold lV.d7;refine lM ?_;refine(ik (e:=E0) (dh (aJ (ds:=[.tup [wy,.tup [.tup [.str [],.str [c]]],l,r]]) rfl rfl))).trans ?_;exact bH (aJ (ds:=[.tup [wy,.tup [.tup [.str [],.str [c]]],l,r],.str w]) rfl (lV.with_put_in hx hl hr hw hn _ c))
 | chg hp hd hk hl hr=>
  rename_i al ps kvs l r;have e:(rd (.chg al kvs l r) (fit (lf (.tup [cY al,.tup (ps.map encC),l,r])) 35,[]) (w++[35])).2=out al kvs l r w:=by
   have h1:=TV (l:=l) (r:=r) al hk hw w.length (Qq0 _);rw[Qjj (by rw[Qqj];exact Qq0 _)] at h1;show(rd (.chg al kvs l r) (fit l 35,[]) (w++[35])).2=_;rw[h1]
   rfl
  rw[e]
  let E1:Ev.Env:=[(Zf (.tup [cY al,.tup (ps.map encC),l,r])),Zs w]
  refine bV (env:=E1) ?_;unfold lV.d7;have hpi:lV.gw [.tup [cY al,.tup (ps.map encC),l,r]]=some (.bl false):=bV (env:=[(Zf (.tup [cY al,.tup (ps.map encC),l,r]))]) (bH (kh.Wi hp rfl));refine(az ((fB (e:=E1) (dh (aJ (ds:=[.tup [cY al,.tup (ps.map encC),l,r]]) rfl hpi))).trans rfl)).trans ?_;exact bH (aJ (ds:=[.tup [cY al,.tup (ps.map encC),l,r],.str w]) rfl (lV.with_changes hx hl hr hw hn hk al _ hd))
theorem Zj:cF (.str [108,101,102,116]) R w=S5 x R w:=by
 have h1:=from_left hx hR hw hn;have h2:lV.ie [.str [108,101,102,116],R,.str w]=some (.str (S5 x R w)):=by
  let E0:Ev.Env:=[Zs [108,101,102,116],Zf R,Zs w]
  refine bV (env:=E0) ?_;unfold lV.gA;refine(az ((fB (e:=E0) (by rfl)).trans rfl)).trans ?_;exact bH (aJ (ds:=[R,.str w]) rfl h1)
 unfold cF;rw[h2]
theorem Tz:cF (.str [114,105,103,104,116]) R w=(S5 x (tn R) w.reverse).reverse:=by
 obtain⟨t1,t2,t3⟩:=kh.S6 hR;have h1:=from_left (w:=w.reverse) hx t1 (λc hc=>hw c (List.mem_reverse.mp hc)) (by rw[Qk6];exact hn);generalize S5 x (tn R) w.reverse=o at *;have h2:lV.ie [.str [114,105,103,104,116],R,.str w]=some (.str o.reverse):=by
  have rev:∀{a:Ev} {env:Ev.Env} {o:List Nat},a env = .ok (.str o) env->pH a env = .ok (.str o.reverse) env:=λ{a env o} e=>by unfold pH;rw[e];rfl
  let E0:Ev.Env:=[Zs [114,105,103,104,116],Zf R,Zs w]
  refine bV (env:=E0) ?_;unfold lV.gA;refine lM ((ik (e:=E0) rfl).trans (bH (rev ?_)));refine aJ (ds:=[tn R,.str w.reverse]) (aH (aJ (ds:=[R]) rfl t2) (aH (rev rfl) bz)) h1
 unfold cF;rw[h2]
end
noncomputable def Hv(x:List Nat)(Ls:List D)(w:List Nat):List Nat:=Ls.foldl (λv L=>S5 x L v) w
theorem GX{x:List Nat}:∀(Ls:List D) (w:List Nat),t7 x Ls (tY Ls) w=Hv x Ls w
 | [],w=>rfl
 | L::Ls,w=>by
  show t7 x Ls (tY Ls) (S5 x L w)=Hv x Ls (S5 x L w);exact GX Ls _
theorem zp{x:List Nat}:∀(Ls:List D) (ss:List kh.St) (z y:List Nat),Ls.length=ss.length->(jT x Ls ss z).2++t7 x Ls (jT x Ls ss z).1 y=t7 x Ls ss (z++y)
 | [],[],z,y,_=>rfl
 | [],_::_,_,_,h=>by simp at h
 | _::_,[],_,_,h=>by simp at h
 | L::Ls,s::ss,z,y,h=>by
  show(jT x Ls ss (rd (lW x L) s z).2).2++t7 x Ls (jT x Ls ss (rd (lW x L) s z).2).1 (rd (lW x L) (rd (lW x L) s z).1 (y++[35])).2=t7 x Ls ss (rd (lW x L) s (z++y++[35])).2;rw[zp Ls ss _ _ (by simpa using h),Qxv,Al (lW x L) z s (y++[35])]
theorem zq{x:List Nat}:∀(Ls:List D) (ss:List kh.St) (z y:List Nat),Ls.length=ss.length->jT x Ls ss (z++y)=((jT x Ls (jT x Ls ss z).1 y).1,(jT x Ls ss z).2++(jT x Ls (jT x Ls ss z).1 y).2)
 | [],[],z,y,_=>rfl
 | [],_::_,_,_,h=>by simp at h
 | _::_,[],_,_,h=>by simp at h
 | L::Ls,s::ss,z,y,h=>by
  show((rd (lW x L) s (z++y)).1::(jT x Ls ss (rd (lW x L) s (z++y)).2).1,(jT x Ls ss (rd (lW x L) s (z++y)).2).2)=_;rw[Al];simp only;rw[zq Ls ss _ _ (by simpa using h)]
  rfl
theorem vA{x:List Nat}:∀(Ls:List D) (ss:List kh.St),Ls.length=ss.length->jT x Ls ss []=(ss,[])
 | [],[],_=>rfl
 | [],_::_,h=>by simp at h
 | _::_,[],h=>by simp at h
 | L::Ls,s::ss,h=>by
  show(s::(jT x Ls ss []).1,(jT x Ls ss []).2)=_;rw[vA Ls ss (by simpa using h)]
def sr(s:D)(w:List Nat):List Nat:=if rt s=true then w.reverse else w
theorem zP(s:D)(w:List Nat):sr s (sr s w)=w:=by
 unfold sr;split
 ·rw[List.reverse_reverse]
 ·rfl
section
variable{x:List Nat}(hx:x∈XS)
include hx
theorem NQ{s R:D}(hs:s∈sides)(hR:cG x R){w:List Nat}(hw:∀c∈w,c∈x){n:Nat}(hn:(w.length+1)*2^(n+1)<=301):w.length<=30000/\(∀c∈cF s R w,c∈x)/\((cF s R w).length+1)*2^n<=301:=by
 have h2:(w.length+1)*2^(n+1)=(2*w.length+1+1)*2^n:=by
  rw[Nat.pow_succ,<-Nat.mul_assoc,Nat.mul_right_comm]
  congr 1
  omega
 have hp:1<=2^n:=Nat.one_le_two_pow;have hwl:w.length<=30000:=by have:2*w.length+1+1<=(2*w.length+1+1)*2^n:=Nat.le_mul_of_pos_right _ hp;omega
 obtain⟨_,h3,h4⟩:=uR.adY hx hs hR hw hwl;have h5:((cF s R w).length+1)*2^n<=(2*w.length+1+1)*2^n:=Qky _ (by omega);exact⟨hwl,h3,by omega⟩
theorem JT:∀(Rs:List D) (w:List Nat),(∀R∈Rs,cG x R)->(∀c∈w,c∈x)->(w.length+1)*2^Rs.length<=301->fin (.str [108,101,102,116]) Rs w=Hv x Rs w
 | [],w,_,_,_=>rfl
 | R::Rs,w,hR,hw,hn=>by
  have hR0:=hR R (Qqv ..);obtain⟨h1,h2,h3⟩:=NQ hx (s:=.str [108,101,102,116]) (Qqv ..) hR0 hw hn;show fin (.str [108,101,102,116]) Rs (cF (.str [108,101,102,116]) R w)=Hv x Rs (S5 x R w);rw[JT Rs _ (λQ hQ=>hR Q (Qqk _ hQ)) h2 h3,Zj hx hR0 hw h1]
theorem Eo:∀(Rs:List D) (w:List Nat),(∀R∈Rs,cG x R)->(∀c∈w,c∈x)->(w.length+1)*2^Rs.length<=301->fin (.str [114,105,103,104,116]) Rs w=(Hv x (Rs.map tn) w.reverse).reverse
 | [],w,_,_,_=>by
  show w=w.reverse.reverse;rw[List.reverse_reverse]
 | R::Rs,w,hR,hw,hn=>by
  have hR0:=hR R (Qqv ..);obtain⟨h1,h2,h3⟩:=NQ hx (s:=.str [114,105,103,104,116]) (Qqk _ (Qqv ..)) hR0 hw hn;show fin (.str [114,105,103,104,116]) Rs (cF (.str [114,105,103,104,116]) R w)=(Hv x (Rs.map tn) (S5 x (tn R) w.reverse)).reverse;rw[Eo Rs _ (λQ hQ=>hR Q (Qqk _ hQ)) h2 h3,Tz hx hR0 hw h1,List.reverse_reverse]
theorem Wl{s:D}(hs:s∈sides){Rs:List D}{w:List Nat}(hR:∀R∈Rs,cG x R)(hw:∀c∈w,c∈x)(hn:(w.length+1)*2^Rs.length<=301):fin s Rs w=sr s (Hv x (lay s Rs) (sr s w)):=by
 rcases Qq1.mp hs with rfl|hs
 ·exact JT hx Rs w hR hw hn
 ·cases Qqy.mp hs;exact Eo hx Rs w hR hw hn
theorem ad2{s:D}(hs:s∈sides){Rs:List D}{w:List Nat}(hR:∀R∈Rs,cG x R)(hw:∀c∈w,c∈x)(hn:(w.length+1)*2^Rs.length<=301) :
  (jT x (lay s Rs) (tY (lay s Rs)) (sr s w)).2++t7 x (lay s Rs) (jT x (lay s Rs) (tY (lay s Rs)) (sr s w)).1 []=sr s (fin s Rs w):=by
 rw[Wl hx hs hR hw hn,zP,zp _ _ _ _ (by unfold tY;rw[Qqx]),Qxq,GX]
end
open lV (XS sides jF mQ fit fY)
open kh (jT t7 tY lay bG pg xZ rt rd lW oZ yf vg vf zm)
theorem Ga{x:List Nat}:∀(Ls:List D) (ss:List kh.St) (z:List Nat),(∀R∈Ls,cG x R)->(∀s∈ss,pg x s)->(∀a∈z,a∈35::x)->(jT x Ls ss z).2.length<=2^Ls.length*z.length
 | [],[],z,_,_,_=>by show z.length<=1*z.length;omega
 | [],_::_,z,_,_,_=>by show z.length<=1*z.length;omega
 | L::Ls,[],z,_,_,_=>by
  show z.length<=2^(Ls.length+1)*z.length;exact Nat.le_mul_of_pos_left _ (Nat.two_pow_pos _)
 | L::Ls,s::ss,z,hR,hS,hz=>by
  obtain⟨o1,o2,o3⟩:=yf (oZ (hR L (Qqv ..))) z (hS s (Qqv ..)) hz;have h1:=Ga Ls ss (rd (lW x L) s z).2 (λQ hQ=>hR Q (Qqk _ hQ)) (λq hq=>hS q (Qqk _ hq)) o3;show(jT x Ls ss (rd (lW x L) s z).2).2.length<=2^(Ls.length+1)*z.length;have h2:2^Ls.length*(rd (lW x L) s z).2.length<=2^Ls.length*(2*z.length):=Qk5 _ o2;rw[Nat.pow_succ,Nat.mul_assoc];omega
theorem GZ{s:D}{w:List Nat}{c:Nat}(h:c∈sr s w):c∈w:=by
 unfold sr at h;split at h
 ·exact List.mem_reverse.mp h
 ·exact h
end R8
namespace K17
open Ev PySem L2
open iu (SG)
open lV (XS sides mQ fit)
open uR (cG iM fin p8)
open kh (bG xZ pg jT t7 tY lay tn lf rt vg vf zm)
open R8 (Hv sr zP GZ zq zp vA GX Wl)
def qS(ss:List kh.St):NK:=.tup (ss.map λs=>.tup [.num (if s.1 then 1 else 0),.txt (strOf s.2)])
theorem afC:∀ss:List kh.St,qN (ss.map bG)=some (ss.map λs=>.tup [.num (if s.1 then 1 else 0),.txt (strOf s.2)])
 | []=>rfl
 | (b,z)::ss=>by
  have ih:=afC ss;have h1:qP (bG (b,z))=some (.tup [.num (if b then 1 else 0),.txt (strOf z)]):=by simp[bG,qP,qN]
  rw[Qq8,Qq8];unfold qN;rw[h1,ih]
theorem aa7:∀ss:List kh.St,NK.nO (ss.map λs=>.tup [.num (if s.1 then 1 else 0),.txt (strOf s.2)])<=1
 | []=>by unfold NK.nO;simp
 | s::ss=>by
  have ih:=aa7 ss;rw[Qq8];unfold NK.nO;have:NK.dep (.tup [.num (if s.1 then 1 else 0),.txt (strOf s.2)])=1:=by simp[NK.dep,NK.nO]
  rw[this];omega
theorem afD(ss:List kh.St):qP (.tup (ss.map bG))=some (qS ss):=by
 unfold qP;rw[afC]
 rfl
theorem aaW(ss:List kh.St):Jo (.tup (ss.map bG))=some (qS ss):=by
 show(qP (.tup (ss.map bG))).bind _=_;rw[afD];have h:(qS ss).dep<=8:=by unfold qS NK.dep;have:=aa7 ss;omega
 exact if_pos h
theorem Ub:∀(ss tt:List kh.St),(ss.map λs=>NK.tup [.num (if s.1 then 1 else 0),.txt (strOf s.2)])=(tt.map λs=>NK.tup [.num (if s.1 then 1 else 0),.txt (strOf s.2)])->ss=tt
 | [],[],_=>rfl
 | [],_::_,h=>by cases h
 | _::_,[],h=>by cases h
 | (b,z)::ss,(c,y)::tt,h=>by
  rw[Qq8,Qq8] at h;obtain⟨h1,h2⟩:=Qj9 h;have h3:=NK.tup.inj h1;obtain⟨h4,h5⟩:=Qj9 h3;obtain⟨h6,_⟩:=Qj9 h5;have h7:z=y:=SX.mY (NK.txt.inj h6);have h8:=NK.num.inj h4;simp only at h8;have h9:b=c:=by cases b<;>cases c<;>first|rfl|(simp at h8)
  rw[h9,h7,Ub ss tt h2]
theorem Uc{ss tt:List kh.St}(h:qS ss=qS tt):ss=tt:=Ub ss tt (NK.tup.inj h)
theorem rZ{i:Nat}{k a:Ev}{env e1 e2:Ev.Env}{d kd z:D}{o:Bool}{q:NK}{kvs:List (D×D)}(h1:a env = .ok d e1)(h0:e1[i]? = some (some (o,z)))(h2:k e1 = .ok kd e2)(h3:e2[i]? = some (Zt (.gC kvs)))(h4:Jo kd=some q)(h5:kvs.length<sizeLine):sU i k a env = .nx (e2.set i (Zt (.gC (yg kvs kd q d)))):=by unfold sU;simp only[h1,iW,h0,h2,h3,h4,if_pos h5]
end K17
namespace K19
open Ev PySem L2
open lV (XS sides mQ fit)
open uR (cG iM)
open kh (bG xZ pg rd lW oZ yf jT t7 tY lay tn lf rt vg vf zm)
open R8 (zq zp vA Ga)
theorem Wr{x:List Nat}:∀(Ls:List D) (ss:List kh.St) (z:List Nat),(∀R∈Ls,cG x R)->(∀s∈ss,pg x s)->(∀a∈z,a∈35::x)->(∀a∈t7 x Ls ss z,a∈35::x)/\(t7 x Ls ss z).length+2<=2^Ls.length*(z.length+2)
 | [],[],z,_,_,h=>⟨h,by show z.length+2<=1*_;omega⟩
 | [],_::_,z,_,_,h=>⟨h,by show z.length+2<=1*_;omega⟩
 | L::Ls,[],z,_,_,h=>⟨h,by show z.length+2<=2^(Ls.length+1)*_;exact Nat.le_mul_of_pos_left _ (Nat.two_pow_pos _)⟩
 | L::Ls,s::ss,z,hR,hS,hz=>by
  obtain⟨o1,o2,o3⟩:=yf (oZ (hR L (Qqv ..))) (z++[35]) (hS s (Qqv ..)) (λa ha=>by
   rcases Qw1.mp ha with h|h
   ·exact hz a h
   ·rw[Qqy.mp h];exact Qqv ..)
  obtain⟨i1,i2⟩:=Wr Ls ss (rd (lW x L) s (z++[35])).2 (λQ hQ=>hR Q (Qqk _ hQ)) (λq hq=>hS q (Qqk _ hq)) o3;refine⟨i1,Qq3 i2 ?_⟩;rw[Qqj,Qwq] at o2;show _<=2^(Ls.length+1)*_;rw[Nat.pow_succ,Nat.mul_assoc];exact Qk5 _ (by omega)
end K19
namespace KB
section
variable{P:Type}(L:P->Nat->P)(S:P->Bool)(x:List Nat)(p0:P)
def pl(w:List Nat):P:=w.foldl L p0
variable{L S x p0}
theorem Pk{α:Type}{l:List α}{a b:α}{i:Nat}(h:l[i]? = some b):(l++[a])[i]? = some b:=by rw[Qxx (Qq4.mp h).1];exact h
theorem rJ{α:Type}[DecidableEq α]:∀(U ps:List α),ps.Nodup->(∀p∈ps,p∈U)->ps.length<=U.length
 | U,[],_,_=>Qxy _
 | U,p::ps,hn,hs=>by
  have hp:=hs p (Qqv ..);have h:=rJ (U.erase p) ps (Qzq.mp hn).2 λq hq=>by
   have hne:q≠p:=λe=>(Qzq.mp hn).1 (e ▸ hq);exact(List.mem_erase_of_ne hne).mpr (hs q (Qqk _ hq))
  have h2:=List.length_erase_of_mem hp;have h3:0<U.length:=Qjk hp;rw[Qqw];omega
end
open Ev PySem L2
open iu (du)
open lV (sides)
open kh (rt)
open R8 (sr)
open K17 (rZ)
section
variable{P:Type}[DecidableEq P]{Φ:Stmt->List D->LD}{sl ss:Stmt}{cl cs:List D}{x:List Nat}{jw side:D}{so:LD}{en:P->D}{key:P->NK}{L:P->Nat->P}{S:P->Bool}{Ok:P->Prop}{U:List P}{p0:P}
structure Gives(Φ:Stmt->List D->LD)(sl ss:Stmt)(cl cs:List D)(x:List Nat)(en:P->D)(key:P->NK)(L:P->Nat->P)(S:P->Bool)(Ok:P->Prop)(U:List P):Prop where
 lead:∀p a,Ok p->a∈x->Φ sl cl [en p,.str [a]]=some (en (L p a))/\Ok (L p a)
 shows:∀p,Ok p->Φ ss cs [en p]=some (.bl (S p))
 nk:∀p,Jo (en p)=some (key p)
 inj:∀p q,key p=key q->p=q
 all:∀p,Ok p->p∈U
 few:U.length<=6998
def kn(en:P->D)(ps:List P):List (D×D):=ps.map λp=>(en p,.bl true)
variable(G:Gives Φ sl ss cl cs x en key L S Ok U)
include G
omit G [DecidableEq P] in
end
section
variable{P:Type}[DecidableEq P]{Φ:Stmt->List D->LD}{sl ss:Stmt}{cl cs:List D}{x:List Nat}{jw side:D}{so:LD}{en:P->D}{key:P->NK}{L:P->Nat->P}{S:P->Bool}{Ok:P->Prop}{U:List P}{p0:P}
variable(G:Gives Φ sl ss cl cs x en key L S Ok U)
theorem p6{g:GV}{b:cu}{d:D}{ds:List D}{env e1 e2:Ev.Env}(h1:g d env=some e1)(h2:b e1 = .nx e2):je g b (d::ds) env=je g b ds e2:=by
 conv=>lhs;unfold je
 rw[h1];simp only;rw[h2]
theorem Dp{t:fU}{b:cu}{m:Nat}{env e1 e2:Ev.Env}(h:t env = .ok true e1)(h2:b e1 = .nx e2):fK t b (m+1) env=fK t b m e2:=by
 conv=>lhs;unfold fK
 rw[h];simp only[iW,if_true];rw[h2]
theorem KJ{t:fU}{b:cu}{m:Nat}{env e1:Ev.Env}(h:t env = .ok false e1):fK t b (m+1) env = .nx e1:=by
 conv=>lhs;unfold fK
 rw[h];rfl
include G
end
end KB
namespace KM
abbrev gb:=List Nat×List (List Nat×Nat)
def ir(M:List gb):Nat->List Nat->Option (List Nat)
 | i,[]=>M[i]?.map (·.1)
 | i,a::w=>match M[i]? with
  | none=>none
  | some st=>match st.2[a]? with
   | none=>none
   | some pt=>(ir M pt.2 w).map (pt.1 ++ ·)
structure Ql(M:List gb)(c:List (List Nat)):Prop where
 len:c.length=M.length
 fin:∀(i:Nat) (st:gb),M[i]? = some st->(c.getD i []) <+: st.1
 stp:∀(i:Nat) (st:gb) (pt:List Nat×Nat),M[i]? = some st->pt∈st.2->(c.getD i []) <+: pt.1++c.getD pt.2 []
def early(c:List (List Nat))(i:Nat)(st:gb):gb:=(st.1.drop (c.getD i []).length,st.2.map λpt=>((pt.1++c.getD pt.2 []).drop (c.getD i []).length,pt.2))
def abm(M M':List gb)(c:List (List Nat)):Prop:=∀i,M'[i]? = M[i]?.map (early c i)
theorem Ja{a b:List Nat}(h:a <+: b):b=a++b.drop a.length:=by obtain⟨t,rfl⟩:=h;rw[List.drop_left]
theorem QK{M M':List gb}{c:List (List Nat)}(C:Ql M c)(E:abm M M' c):∀(w:List Nat) (i:Nat) (r:List Nat),ir M i w=some r->∃r',ir M' i w=some r'/\r=c.getD i []++r':=by
 intro w
 induction w with
 | nil=>
  intro i r h;unfold ir at h;obtain⟨st,h1,rfl⟩:=Qq6.mp h;refine⟨st.1.drop (c.getD i []).length,?_,Ja (C.fin i st h1)⟩;unfold ir;rw[E i,h1]
  rfl
 | cons a w ih=>
  intro i r h;unfold ir at h;cases h1:M[i]? with
  | none=>rw[h1] at h;cases h
  | some st=>
   rw[h1] at h;simp only at h;cases h2:st.2[a]? with
   | none=>rw[h2] at h;cases h
   | some pt=>
    rw[h2] at h;obtain⟨r1,h3,rfl⟩:=Qq6.mp (show(ir M pt.2 w).map (pt.1 ++ ·)=some r from h);obtain⟨r2,h4,rfl⟩:=ih pt.2 r1 h3;have hp:=Ja (C.stp i st pt h1 (Qww h2));refine⟨(pt.1++c.getD pt.2 []).drop (c.getD i []).length++r2,?_,?_⟩
    ·unfold ir;rw[E i,h1];show(match (st.2.map λpt=>((pt.1++c.getD pt.2 []).drop (c.getD i []).length,pt.2))[a]? with|none=>none|some pt=>(ir M' pt.2 w).map (pt.1 ++ ·))=_;rw[Qwv,h2];show(ir M' pt.2 w).map _=_;rw[h4]
     rfl
    ·rw[<-Qxv,<-Qxv,<-hp]
structure Alike(M:List gb)(g:Nat->Nat):Prop where
 fin:∀(i j:Nat) (s t:gb),M[i]? = some s->M[j]? = some t->g i=g j->s.1=t.1/\s.2.map (·.1)=t.2.map (·.1)/\s.2.map (λpt=>g pt.2)=t.2.map (λpt=>g pt.2)
 inn:∀(i:Nat) (st:gb) (pt:List Nat×Nat),M[i]? = some st->pt∈st.2->pt.2<M.length
theorem QL{M:List gb}{g:Nat->Nat}(A:Alike M g):∀(w:List Nat) (i j:Nat),i<M.length->j<M.length->g i=g j->ir M i w=ir M j w:=by
 intro w
 induction w with
 | nil=>
  intro i j hi hj hg;unfold ir;rw[Qq9 hi,Qq9 hj];show some M[i].1=some M[j].1;rw[(A.fin i j _ _ (Qq9 hi) (Qq9 hj) hg).1]
 | cons a w ih=>
  intro i j hi hj hg;have h1:=Qq9 hi;have h2:=Qq9 hj;obtain⟨e1,e2,e3⟩:=A.fin i j _ _ h1 h2 hg;unfold ir;rw[h1,h2];have k2:=Qx5 (λl=>l[a]?) e2;have k3:=Qx5 (λl=>l[a]?) e3;simp only[Qwv] at k2 k3;show(match M[i].2[a]? with|none=>none|some pt=>(ir M pt.2 w).map (pt.1 ++ ·))=(match M[j].2[a]? with|none=>none|some pt=>(ir M pt.2 w).map (pt.1 ++ ·));cases p:M[i].2[a]? with
  | none=>
   rw[p] at k2;cases q:M[j].2[a]? with
   | none=>rfl
   | some t=>rw[q] at k2;cases k2
  | some s=>
   rw[p] at k2 k3;cases q:M[j].2[a]? with
   | none=>rw[q] at k2;cases k2
   | some t=>
    rw[q] at k2 k3;have u1:s.1=t.1:=Qw2 k2;have u2:g s.2=g t.2:=Qw2 k3;show(ir M s.2 w).map _=(ir M t.2 w).map _;rw[ih s.2 t.2 (A.inn i _ s h1 (Qww p)) (A.inn j _ t h2 (Qww q)) u2,u1]
structure Xj(M N:List gb)(g:Nat->Nat)(kept:List Nat)(pl:Nat->Nat):Prop where
 len:N.length=kept.length
 inn:∀k∈kept,k<M.length
 row:∀(j k:Nat) (st:gb),kept[j]? = some k->M[k]? = some st->N[j]? = some (st.1,st.2.map λpt=>(pt.1,pl (g pt.2)))
 led:∀k∈kept,∀(st:gb),M[k]? = some st->∀pt∈st.2,∃(k':Nat),kept[pl (g pt.2)]? = some k'/\g k'=g pt.2
theorem LC{M N:List gb}{g:Nat->Nat}{kept:List Nat}{pl:Nat->Nat}(A:Alike M g)(J:Xj M N g kept pl):∀(w:List Nat) (j k:Nat),kept[j]? = some k->ir N j w=ir M k w:=by
 intro w
 induction w with
 | nil=>
  intro j k h;have hk:=J.inn k (Qww h);unfold ir;rw[J.row j k _ h (Qq9 hk),Qq9 hk]
  rfl
 | cons a w ih=>
  intro j k h;have hm:=Qww h;have hk:=J.inn k hm;have h1:=Qq9 hk;unfold ir;rw[J.row j k _ h h1,h1];show(match (M[k].2.map λpt=>(pt.1,pl (g pt.2)))[a]? with|none=>none|some pt=>(ir N pt.2 w).map (pt.1 ++ ·))=(match M[k].2[a]? with|none=>none|some pt=>(ir M pt.2 w).map (pt.1 ++ ·));rw[Qwv];cases p:M[k].2[a]? with
  | none=>rfl
  | some pt=>
   have hp:=Qww p;obtain⟨k',e1,e2⟩:=J.led k hm _ h1 pt hp;show(ir N (pl (g pt.2)) w).map _=(ir M pt.2 w).map _;rw[ih _ k' e1,QL A w k' pt.2 (J.inn k' (Qww e1)) (A.inn k _ pt h1 hp) e2]
def cp:List Nat->List Nat->List Nat
 | a::as,b::bs=>if a=b then a::cp as bs else []
 | [],_=>[]
 | _::_,[]=>[]
theorem Z5:∀a b:List Nat,cp a b <+: a
 | [],b=>by cases b<;>exact Qk2
 | a::as,[]=>Qk2
 | a::as,b::bs=>by
  unfold cp;split
  ·exact(List.prefix_cons_inj a).mpr (Z5 as bs)
  ·exact Qk2
theorem agg:∀a b:List Nat,cp a b <+: b
 | [],b=>by cases b<;>exact Qk2
 | a::as,[]=>Qk2
 | a::as,b::bs=>by
  unfold cp;split
  ·rename_i h;rw[h];exact(List.prefix_cons_inj b).mpr (agg as bs)
  ·exact Qk2
theorem WK:∀{c a b:List Nat},c <+: a->c <+: b->c <+: cp a b
 | [],_,_,_,_=>Qk2
 | c::cs,a,b,h1,h2=>by
  obtain⟨t,rfl⟩:=h1;obtain⟨u,rfl⟩:=h2;show c::cs <+: cp (c::(cs++t)) (c::(cs++u));unfold cp;rw[if_pos rfl];exact(List.prefix_cons_inj c).mpr (WK (List.prefix_append ..) (List.prefix_append ..))
theorem adQ(a b:List Nat):(cp a b).length<=a.length:=(Z5 a b).length_le
def lcp(t:List Nat)(ts:List (List Nat)):List Nat:=(t::ts).foldl cp t
theorem Bs:∀(ts:List (List Nat)) (t:List Nat),ts.foldl cp t <+: t/\∀u∈ts,ts.foldl cp t <+: u
 | [],t=>⟨List.prefix_refl _,λu hu=>by simp at hu⟩
 | s::ts,t=>by
  obtain⟨h1,h2⟩:=Bs ts (cp t s);refine⟨h1.trans (Z5 t s),λu hu=>?_⟩;rcases Qq1.mp hu with rfl|hu
  ·exact h1.trans (agg t u)
  ·exact h2 u hu
theorem fold_max:∀(ts:List (List Nat)) (t c:List Nat),c <+: t->(∀u∈ts,c <+: u)->c <+: ts.foldl cp t
 | [],t,c,h,_=>h
 | s::ts,t,c,h,h2=>fold_max ts (cp t s) c (WK h (h2 s (Qqv ..))) λu hu=>h2 u (Qqk _ hu)
theorem VH(t:List Nat)(ts:List (List Nat)):lcp t ts <+: t:=(Bs _ _).1
theorem aaY(t:List Nat)(ts:List (List Nat)){u:List Nat}(h:u∈ts):lcp t ts <+: u:=(Bs _ _).2 u (Qqk _ h)
theorem Zk{t c:List Nat}{ts:List (List Nat)}(h:c <+: t)(h2:∀u∈ts,c <+: u):c <+: lcp t ts:=
 fold_max _ _ _ h λu hu=>by
  rcases Qq1.mp hu with rfl|hu
  ·exact h
  ·exact h2 u hu
def ends(M:List gb):List (List Nat):=M.map (·.1)
def gU(M:List gb)(c:List (List Nat)):List (List Nat):=M.map λst=>lcp st.1 (st.2.map λpt=>pt.1++c.getD pt.2 [])
def PW(c d:List (List Nat)):Prop:=c.length=d.length/\∀i,c.getD i [] <+: d.getD i []
theorem getD_map{α β:Type}(f:α->β)(l:List α)(i:Nat)(b:β):(l.map f).getD i b=(l[i]?.map f).getD b:=by rw[Qq7,Qwv]
theorem z7(M:List gb)(c:List (List Nat)):PW (gU M c) (ends M):=by
 refine⟨by unfold gU ends;rw[Qqx,Qqx],λi=>?_⟩;unfold gU ends;rw[getD_map,getD_map];cases M[i]? with
 | none=>exact List.prefix_refl _
 | some st=>exact VH ..
theorem Qy{M:List gb}{c d:List (List Nat)}(h:PW c d):PW (gU M c) (gU M d):=by
 refine⟨by unfold gU;rw[Qqx,Qqx],λi=>?_⟩;unfold gU;rw[getD_map,getD_map];cases M[i]? with
 | none=>exact List.prefix_refl _
 | some st=>
  refine Zk (VH ..) λu hu=>?_;obtain⟨pt,hp,rfl⟩:=Qwy.mp hu;refine(aaY st.1 (st.2.map λpt=>pt.1++c.getD pt.2 []) (Qwy.mpr ⟨pt,hp,rfl⟩)).trans ?_;exact(List.prefix_append_right_inj _).mpr (h.2 pt.2)
def tM(c:List (List Nat)):Nat:=(c.map List.length).sum
theorem PW.tail{a b:List Nat}{c d:List (List Nat)}(h:PW (a::c) (b::d)):a <+: b/\PW c d:=
 ⟨h.2 0,Nat.succ.inj h.1,λi=>h.2 (i+1)⟩
theorem PW.lt:∀{c d:List (List Nat)},PW c d->tM c<=tM d/\(c≠d->tM c<tM d)
 | [],[],_=>⟨Qq0 _,λh=>absurd rfl h⟩
 | [],_::_,h=>by cases h.1
 | _::_,[],h=>by cases h.1
 | a::c,b::d,h=>by
  obtain⟨h1,h2⟩:=h.tail;obtain⟨h3,h4⟩:=PW.lt h2;have h5:=h1.length_le;have e1:tM (a::c)=a.length+tM c:=by unfold tM;rw[Qq8,List.sum_cons]
  have e2:tM (b::d)=b.length+tM d:=by unfold tM;rw[Qq8,List.sum_cons]
  rw[e1,e2];refine⟨by omega,λhn=>?_⟩;by_cases hcd:c=d
  ·subst hcd;have hab:a≠b:=λz=>hn (by rw[z]);have:a.length≠b.length:=λz=>hab (h1.eq_of_length z);omega
  ·have:=h4 hcd;omega
theorem M6{M:List gb}{c:List (List Nat)}(h:c=gU M c):Ql M c:=by
 have row:∀(i:Nat) (st:gb),M[i]? = some st->c.getD i []=lcp st.1 (st.2.map λpt=>pt.1++c.getD pt.2 []):=λi st hs=>by
  have e:c.getD i []=(gU M c).getD i []:=by rw[<-h]
  rw[e];unfold gU;rw[getD_map,hs]
  rfl
 refine⟨by rw[h];unfold gU;rw[Qqx],λi st hs=>?_,λi st pt hs hp=>?_⟩
 ·rw[row i st hs];exact VH ..
 ·rw[row i st hs];exact aaY _ _ (Qwy.mpr ⟨pt,hp,rfl⟩)
section
variable{T:Type}[DecidableEq T]
def jR(ys:List T)(x:T):List T:=if x∈ys then ys else ys++[x]
def uniq(ts:List T):List T:=ts.foldl jR []
theorem pL(ys:List T)(x y:T):y∈jR ys x↔y∈ys\/y=x:=by
 unfold jR;split
 ·rename_i h;exact⟨.inl,λq=>q.elim id λe=>e ▸ h⟩
 ·rw[Qw1,Qqy]
theorem Hg{ys:List T}(x:T)(h:ys.Nodup):(jR ys x).Nodup:=by
 unfold jR;split
 ·exact h
 ·rename_i hn;rw[List.nodup_append];exact⟨h,Qzq.mpr ⟨by simp,.nil⟩,λa ha b hb e=>hn (by rw[Qqy.mp hb] at e;exact e ▸ ha)⟩
theorem JR:∀(ts ys:List T) (y:T),y∈ts.foldl jR ys↔y∈ys\/y∈ts
 | [],ys,y=>by simp
 | t::ts,ys,y=>by
  rw[Qj0,JR ts,pL,Qq1,or_assoc]
theorem Py:∀(ts ys:List T),ys.Nodup->(ts.foldl jR ys).Nodup
 | [],_,h=>h
 | t::ts,ys,h=>Py ts _ (Hg t h)
theorem jj{ts:List T}{y:T}:y∈uniq ts↔y∈ts:=by unfold uniq;rw[JR];simp
theorem Nv(ts:List T):(uniq ts).Nodup:=Py ts [] .nil
theorem qU(ts:List T):(uniq ts).length<=ts.length:=KB.rJ ts _ (Nv ts) λp hp=>jj.mp hp
def cU:List T->T->Nat
 | [],_=>0
 | u::us,t=>if u=t then 0 else cU us t+1
theorem jZ:∀{l:List T} {t:T},t∈l->l[cU l t]? = some t
 | u::us,t,h=>by
  unfold cU;split
  ·rename_i e;rw[e];rfl
  ·rename_i e;rw[List.getElem?_cons_succ];exact jZ ((Qq1.mp h).resolve_left λz=>e z.symm)
theorem zG{l:List T}{t:T}(h:t∈l):cU l t<l.length:=(Qq4.mp (jZ h)).1
theorem vQ:∀{l:List T} {t:T} (m:List T),t∈l->cU (l++m) t=cU l t
 | u::us,t,m,h=>by
  rw[List.cons_append];unfold cU;split
  ·rfl
  ·rename_i e;rw[vQ m ((Qq1.mp h).resolve_left λz=>e z.symm)]
theorem Pa:∀{l:List T} {i:Nat} {t:T},l.Nodup->l[i]? = some t->cU l t=i
 | u::us,0,t,_,h=>by cases h;unfold cU;rw[if_pos rfl]
 | u::us,i+1,t,hn,h=>by
  rw[List.getElem?_cons_succ] at h;obtain⟨h1,h2⟩:=Qzq.mp hn;unfold cU;have hne:¬u=t:=λe=>h1 (e ▸ Qww h);rw[if_neg hne,Pa h2 h]
theorem Rt{l:List T}{a b:T}(ha:a∈l)(hb:b∈l)(h:cU l a=cU l b):a=b:=by have h1:=jZ ha;have h2:=jZ hb;rw[h,h2] at h1;exact(Qw2 h1).symm
end
def nums{T:Type}[DecidableEq T](ts:List T):List Nat:=ts.map λt=>cU (uniq ts) t
theorem vI{T:Type}[DecidableEq T](ts:List T):(nums ts).length=ts.length:=by unfold nums;rw[Qqx]
theorem Jl{T:Type}[DecidableEq T]{ts:List T}{i:Nat}{t:T}(h:ts[i]? = some t):(nums ts).getD i 0=cU (uniq ts) t:=by
 unfold nums;rw[getD_map,h]
 rfl
theorem vJ{T:Type}[DecidableEq T]{ts:List T}{i j:Nat}{t u:T}(h1:ts[i]? = some t)(h2:ts[j]? = some u)(h:(nums ts).getD i 0=(nums ts).getD j 0):t=u:=by rw[Jl h1,Jl h2] at h;exact Rt (jj.mpr (Qww h1)) (jj.mpr (Qww h2)) h
theorem Ow{T:Type}[DecidableEq T](ts:List T):∀k∈nums ts,k<ts.length:=λk hk=>by
 obtain⟨t,ht,rfl⟩:=Qwy.mp hk;exact Qwx (zG (jj.mpr ht)) (qU ts)
def iZ(M:List gb):List (List Nat×List (List Nat)):=M.map λst=>(st.1,st.2.map (·.1))
def dg(M:List gb)(g:List Nat):List (Nat×List Nat):=M.zipIdx.map λp=>(g.getD p.2 0,p.1.2.map λpt=>g.getD pt.2 0)
def cnt(g:List Nat):Nat:=(uniq (g.map λ(k:Nat)=>(k:Int))).length
theorem ye{M:List gb}{i:Nat}{st:gb}(h:M[i]? = some st):(iZ M)[i]? = some (st.1,st.2.map (·.1)):=by unfold iZ;rw[Qwv,h];rfl
theorem jG{M:List gb}{g:List Nat}{i:Nat}{st:gb}(h:M[i]? = some st):(dg M g)[i]? = some (g.getD i 0,st.2.map λpt=>g.getD pt.2 0):=by unfold dg;rw[Qwv,List.getElem?_zipIdx,h];simp
theorem lK(M:List gb)(g:List Nat):(dg M g).length=M.length:=by unfold dg;rw[Qqx,List.length_zipIdx]
theorem adR(g:List Nat):cnt g<=g.length:=by unfold cnt;exact Qq3 (qU _) (by rw[Qqx];exact Qq0 _)
theorem Z6{g:List Nat}(h:0<g.length):0<cnt g:=by unfold cnt;refine Qjk (a:=((g[0]:Nat):Int)) (jj.mpr (Qwy.mpr ⟨g[0],Qzv h,rfl⟩))
theorem Im{g g':List Nat}(hl:g'.length=g.length)(hr:∀i j,i<g.length->j<g.length->g'.getD i 0=g'.getD j 0->g.getD i 0=g.getD j 0)(hc:cnt g'<=cnt g) :
  ∀i j,i<g.length->j<g.length->g.getD i 0=g.getD j 0->g'.getD i 0=g'.getD j 0:=by
 intro i j hi hj h;apply Classical.byContradiction;intro hne
 -- a way from the aiF groups to the others
 have gt:∀(l:List Nat) (k:Nat),k<l.length->l.getD k 0∈l:=λl k hk=>by
  rw[Qq7,Qq9 hk];exact Qzv hk
 let F:Int->Int:=λv=>((g.getD (cU g' v.toNat) 0:Nat):Int)
 have hF:∀k,k<g.length->F ((g'.getD k 0:Nat):Int)=((g.getD k 0:Nat):Int):=λk hk=>by
  show((g.getD (cU g' (((g'.getD k 0:Nat):Int)).toNat) 0:Nat):Int)=_;rw[Qk3];have hm:g'.getD k 0∈g':=gt g' k (by omega);have h1:=zG hm;have e:g'.getD (cU g' (g'.getD k 0)) 0=g'.getD k 0:=by
   rw[Qq7 (i:=cU g' _),jZ hm]
   rfl
  rw[hr _ k (by omega) hk e]
 have key:=KB.rJ (((uniq (g'.map λ(k:Nat)=>(k:Int))).erase ((g'.getD j 0:Nat):Int)).map F) (uniq (g.map λ(k:Nat)=>(k:Int))) (Nv _) λv hv=>by
  obtain⟨n,hn,rfl⟩:=Qwy.mp (jj.mp hv);obtain⟨k,hk⟩:=List.mem_iff_getElem?.mp hn;have hkl:k<g.length:=(Qq4.mp hk).1;have ek:g.getD k 0=n:=by rw[Qq7,hk];rfl
  by_cases hkj:g'.getD k 0=g'.getD j 0
  ·-- the place of j is taken by i
   have e1:g.getD k 0=g.getD j 0:=hr k j hkl hj hkj;refine Qwy.mpr ⟨((g'.getD i 0:Nat):Int),?_,?_⟩
   ·refine(List.mem_erase_of_ne ?_).mpr (jj.mpr (Qwy.mpr ⟨_,gt g' i (by omega),rfl⟩));exact λz=>hne (Int.ofNat.inj z)
   ·rw[hF i hi,h,<-e1,ek]
  ·refine Qwy.mpr ⟨((g'.getD k 0:Nat):Int),?_,?_⟩
   ·refine(List.mem_erase_of_ne ?_).mpr (jj.mpr (Qwy.mpr ⟨_,gt g' k (by omega),rfl⟩));exact λz=>hkj (Int.ofNat.inj z)
   ·rw[hF k hkl,ek]
 have hmem:((g'.getD j 0:Nat):Int)∈uniq (g'.map λ(k:Nat)=>(k:Int)):=jj.mpr (Qwy.mpr ⟨_,gt g' j (by omega),rfl⟩);rw[Qqx,List.length_erase_of_mem hmem] at key;have:=Qjk hmem;unfold cnt at hc;omega
structure nJ(M:List gb)(g:List Nat):Prop where
 len:g.length=M.length
 fst:∀(i j:Nat) (s t:gb),M[i]? = some s->M[j]? = some t->g.getD i 0=g.getD j 0->s.1=t.1/\s.2.map (·.1)=t.2.map (·.1)
 lt:∀k∈g,k<M.length
theorem YS(M:List gb):nJ M (nums (iZ M)):=by
 refine⟨by rw[vI];unfold iZ;rw[Qqx],λi j s t hs ht h=>?_,λk hk=>?_⟩
 ·have:=vJ (ye hs) (ye ht) h;exact Prod.mk.inj this
 ·have:=Ow _ k hk;unfold iZ at this;rw[Qqx] at this;exact this
theorem Ek{M:List gb}{i:Nat}(h:i<M.length):M[i]? = some M[i]:=Qq9 h
theorem nJ.next{M:List gb}{g:List Nat}(P:nJ M g):nJ M (nums (dg M g)):=by
 refine⟨by rw[vI,lK],λi j s t hs ht h=>?_,λk hk=>?_⟩
 ·have:=vJ (jG hs) (jG ht) h;exact P.fst i j s t hs ht (Qx5 Prod.fst this)
 ·have:=Ow _ k hk;rw[lK] at this;exact this
theorem W4{M:List gb}{g:List Nat}(P:nJ M g)(hin:∀(i:Nat) (st:gb) (pt:List Nat×Nat),M[i]? = some st->pt∈st.2->pt.2<M.length)(hc:cnt (nums (dg M g))<=cnt g) :
  Alike M λi=>(nums (dg M g)).getD i 0:=by
 have hl:(nums (dg M g)).length=g.length:=by rw[vI,lK,P.len]
 have hsame:=Im hl (λi j hi hj h=>by
  rw[P.len] at hi hj;have:=vJ (jG (g:=g) (Ek hi)) (jG (g:=g) (Ek hj)) h;exact Qx5 Prod.fst this) hc
 rw[P.len] at hsame;refine⟨λi j s t hs ht h=>?_,hin⟩;have:=vJ (jG (g:=g) hs) (jG (g:=g) ht) h;have h1:=Qx5 Prod.fst this;have h2:s.2.map (λpt=>g.getD pt.2 0)=t.2.map (λpt=>g.getD pt.2 0):=Qx5 Prod.snd this;obtain⟨e1,e2⟩:=P.fst i j s t hs ht h1;refine⟨e1,e2,?_⟩
 -- led to the same groups
 have hlen:s.2.length=t.2.length:=by have:=Qx5 List.length h2;rwa [Qqx,Qqx] at this
 refine List.ext_getElem? λk=>?_;have h3:=Qx5 (λl:List Nat=>l[k]?) h2;simp only[Qwv] at h3 ⊢;cases p:s.2[k]? with
 | none=>
  rw[p] at h3;cases q:t.2[k]? with
  | none=>rfl
  | some u=>rw[q] at h3;cases h3
 | some v=>
  rw[p] at h3;cases q:t.2[k]? with
  | none=>rw[q] at h3;cases h3
  | some u=>
   rw[q] at h3;have h4:g.getD v.2 0=g.getD u.2 0:=Qw2 h3;show some ((nums (dg M g)).getD v.2 0)=some ((nums (dg M g)).getD u.2 0);rw[hsame v.2 u.2 (hin i s v hs (Qww p)) (hin j t u ht (Qww q)) h4]
open Ev PySem L2
open lV (XS sides fit look jn wM)
open uR (cG)
open kh (Rl Is stp rd jT t7 tY lay lf lW oZ IW xZ pg)
theorem ahv{x:List Nat}{kvs:List (D×D)}(hk:wM x kvs){s:Nat}(hs:s∈x)(b:Bool):∀c∈IW kvs s b,c∈x:=by
 unfold IW;split
 ·cases e:look kvs s with
  | none=>exact λc hc=>by rw[Qqy.mp hc];exact hs
  | some t=>exact λc hc=>(jn hk e).2.2 c hc
 ·exact λc hc=>by rw[Qqy.mp hc];exact hs
theorem aeM{x:List Nat}{R:D}{ρ:Rl}(hR:Is x R ρ){s:kh.St}(hs:∀c∈s.2,c∈x){a:Nat}(ha:a∈x):(∃b,(stp ρ s a).1=(b,[a]))/\∀c∈(stp ρ s a).2,c∈x:=by
 cases hR with
 | put hc hl hr=>
  refine⟨⟨_,rfl⟩,λc hm=>?_⟩;rcases Qw1.mp hm with hm|hm
  ·exact hs c hm
  ·split at hm
   ·rw[Qqy.mp hm];exact hc
   ·simp at hm
 | chg hp hd hk hl hr=>
  obtain⟨b,h⟩:=s
  match h,hs with
  | [],hs=>exact⟨⟨_,rfl⟩,λc hc=>by simp[stp] at hc⟩
  | s::h,hs=>exact⟨⟨_,rfl⟩,ahv hk (hs s (Qqv ..)) _⟩
theorem aeT{x:List Nat}{R:D}{ρ:Rl}(hR:Is x R ρ):∀(z:List Nat) {s:kh.St},(∀c∈s.2,c∈x)->(∀a∈z,a∈x)->((rd ρ s z).1=s/\z=[]\/∃b,∃c∈x,(rd ρ s z).1=(b,[c]))/\∀c∈(rd ρ s z).2,c∈x
 | [],s,hs,_=>⟨.inl ⟨rfl,rfl⟩,λc hc=>by simp[rd] at hc⟩
 | a::z,s,hs,hz=>by
  have ha:=hz a (Qqv ..);obtain⟨⟨b,h1⟩,h2⟩:=aeM hR hs ha;have h1':∀c∈(stp ρ s a).1.2,c∈x:=λc hc=>by rw[h1] at hc;rw[Qqy.mp hc];exact ha
  obtain⟨h3,h4⟩:=aeT hR z h1' λb hb=>hz b (Qqk _ hb);refine⟨.inr ?_,λc hc=>?_⟩
  ·rcases h3 with ⟨e,_⟩|⟨b',c,hc,e⟩
   ·exact⟨b,a,ha,by show(rd ρ (stp ρ s a).1 z).1=_;rw[e,h1]⟩
   ·exact⟨b',c,hc,e⟩
  ·rcases Qw1.mp (show c∈(stp ρ s a).2++(rd ρ (stp ρ s a).1 z).2 from hc) with hc|hc
   ·exact h2 c hc
   ·exact h4 c hc
def U(x:List Nat):List D->List (List kh.St)
 | []=>[[]]
 | R::Ls=>tY (R::Ls)::([false,true].flatMap λb=>x.flatMap λc=>(U x Ls).map λu=>(b,[c])::u)
theorem Qi(x:List Nat)(Ls:List D):tY Ls∈U x Ls:=by
 cases Ls with
 | nil=>exact Qqv ..
 | cons R Ls=>exact Qqv ..
theorem aeb{x:List Nat}{R:D}{Ls:List D}{u:List kh.St}(b:Bool){c:Nat}(hc:c∈x)(h:u∈U x Ls):(b,[c])::u∈U x (R::Ls):=by refine Qqk _ (Qj3.mpr ⟨b,by cases b<;>simp,Qj3.mpr ⟨c,hc,Qwy.mpr ⟨u,h,rfl⟩⟩⟩)
theorem Qh{x:List Nat}{R:D}{Ls:List D}{p:List kh.St}(h:p∈U x (R::Ls)):∃s u,p=s::u/\u∈U x Ls/\(∀c∈s.2,c∈x)/\(s::u=tY (R::Ls)\/∃b,∃c∈x,s=(b,[c])):=by
 rcases Qq1.mp h with rfl|h
 ·exact⟨_,tY Ls,rfl,Qi x Ls,λc hc=>by simp at hc,.inl rfl⟩
 ·obtain⟨b,_,h⟩:=Qj3.mp h;obtain⟨c,hc,h⟩:=Qj3.mp h;obtain⟨u,hu,rfl⟩:=Qwy.mp h;exact⟨(b,[c]),u,rfl,hu,λd hd=>by rw[Qqy.mp hd];exact hc,.inr ⟨b,c,hc,rfl⟩⟩
theorem Xb{x:List Nat}:∀(Ls:List D) (p:List kh.St),p∈U x Ls->Ls.length=p.length
 | [],p,h=>by rw[Qqy.mp h];rfl
 | R::Ls,p,h=>by
  obtain⟨s,u,rfl,hu,_⟩:=Qh h;rw[Qqw,Qqw,Xb Ls u hu]
theorem aaK{x:List Nat}:∀(Ls:List D) (p:List kh.St) (z:List Nat),(∀R∈Ls,cG x R)->p∈U x Ls->(∀a∈z,a∈x)->(jT x Ls p z).1∈U x Ls
 | [],p,z,_,_,_=>Qqy.mpr rfl
 | R::Ls,p,z,hR,hp,hz=>by
  obtain⟨s,u,rfl,hu,hs,h⟩:=Qh hp;obtain⟨h1,h2⟩:=aeT (oZ (hR R (Qqv ..))) z hs hz;show(rd (lW x R) s z).1::(jT x Ls u (rd (lW x R) s z).2).1∈U x (R::Ls);have ht:=aaK Ls u (rd (lW x R) s z).2 (λQ hQ=>hR Q (Qqk _ hQ)) hu h2;rcases h1 with ⟨e,hzn⟩|⟨b,c,hc,e⟩
  ·subst hzn;have hl:=Xb Ls u hu;have e2:(jT x Ls u (rd (lW x R) s []).2).1=u:=by
    show(jT x Ls u []).1=u;rw[R8.vA Ls u hl]
   rw[e2];exact hp
  ·rw[e];exact aeb b hc ht
theorem p7{α β:Type}(f:α->List β)(k:Nat):∀l:List α,(∀a∈l,(f a).length=k)->(l.flatMap f).length=l.length*k
 | [],_=>by simp
 | a::l,h=>by
  rw[List.flatMap_cons,Qqj,h a (Qqv ..),p7 f k l λb hb=>h b (Qqk _ hb),Qqw,Nat.succ_mul,Nat.add_comm]
theorem aak(x:List Nat)(R:D)(Ls:List D):(U x (R::Ls)).length=1+2*(x.length*(U x Ls).length):=by show(tY (R::Ls)::([false,true].flatMap λb=>x.flatMap λc=>(U x Ls).map λu=>(b,[c])::u)).length=_;rw[Qqw,p7 _ (x.length*(U x Ls).length) _ λb _=>p7 _ (U x Ls).length _ λc _=>by rw[Qqx]];rw[Qqw,Qqw,Qx2];omega
theorem ago{x:List Nat}{Ls:List D}(h:x.length<=4)(h3:Ls.length<=3):(U x Ls).length<=585:=by
 have step:∀(R:D) (L:List D) (k:Nat),(U x L).length<=k->(U x (R::L)).length<=1+8*k:=λR L k hk=>by
  rw[aak];have:=Qvy h hk;omega
 match Ls,h3 with
 | [],_=>exact Qq3 (Qq0 1) (by decide)
 | [a],_=>exact Qq3 (step a [] 1 (Qq0 _)) (by decide)
 | [a,b],_=>exact Qq3 (step a _ 9 (step b [] 1 (Qq0 _))) (by decide)
 | [a,b,c],_=>exact step a _ 73 (step b _ 9 (step c [] 1 (Qq0 _)))
open iu (du)
open lV (XS sides fit)
open kh (bG jT t7 tY lay xZ pg)
open K17 (rZ qS Uc aaW)
theorem RJ:cR.lR=kh.lR:=rfl
theorem first_is:cR.dU=kh.dU:=rfl
theorem uZ:cR.dZ=iu.dZ:=rfl
section
variable{T:Type}[DecidableEq T]{en:T->D}{key:T->NK}
def qQ(en:T->D):Nat->List T->List (D×D)
 | _,[]=>[]
 | n,u::us=>(en u,.int (n:Int))::qQ en (n+1) us
omit [DecidableEq T] in
theorem Jx:∀(us:List T) (n:Nat) (t:T),qQ en n (us++[t])=qQ en n us++[(en t,.int ((n+us.length:Nat):Int))]
 | [],n,t=>rfl
 | u::us,n,t=>by
  show(en u,D.int (n:Int))::qQ en (n+1) (us++[t])=(en u,D.int (n:Int))::(qQ en (n+1) us++_);rw[Jx us (n+1) t,Qqw];have:n+1+us.length=n+(us.length+1):=by omega
  rw[this]
omit [DecidableEq T] in
theorem zE:∀(us:List T) (n:Nat),(qQ en n us).length=us.length
 | [],n=>rfl
 | u::us,n=>by
  show(qQ en (n+1) us).length+1=us.length+1;rw[zE us]
structure Xi(en:T->D)(key:T->NK):Prop where
 nk:∀t,Jo (en t)=some (key t)
 inj:∀p q,key p=key q->p=q
variable(Y:Xi en key)
include Y
theorem zB:∀(us:List T) (n:Nat) (t:T),nW (qQ en n us) (key t)=if t∈us then some (.int ((n+cU us t:Nat):Int)) else none
 | [],n,t=>by simp[qQ,nW]
 | u::us,n,t=>by
  have ih:=zB us (n+1) t;unfold nW at ih ⊢;unfold qQ;rw[Qz6];have hu:qP (en u)=some (key u):=(Gj (Y.nk u)).1;by_cases h:u=t
  ·subst h;simp only[hu,decide_true];have ei:cU (u::us) u=0:=by unfold cU;rw[if_pos rfl]
   rw[if_pos (Qqv ..),ei]
   rfl
  ·have hne:¬(some (key u)=some (key t)):=λe=>h (Y.inj u t (Qw2 e));simp only[hu,Qw0 hne];have ei:cU (u::us) t=cU us t+1:=by conv=>lhs;unfold cU;rw[if_neg h]
   rw[ih,ei];by_cases hm:t∈us
   ·rw[if_pos hm,if_pos (Qqk _ hm)];have:n+1+cU us t=n+(cU us t+1):=by omega
    rw[this]
   ·rw[if_neg hm,if_neg λz=>(Qq1.mp z).elim (λe=>h e.symm) hm]
theorem O5(us:List T)(t:T)(h:t ∉ us):yg (qQ en 0 us) (en t) (key t) (.int (us.length:Int))=qQ en 0 (us++[t]):=by
 unfold yg;rw[zB Y,if_neg h,Jx,Nat.zero_add]
 rfl
theorem Ef(us:List T)(t:T)[dc:Decidable (t∈us)]:pZ (en t) (.gC (qQ en 0 us))=some (.bl (!decide (t∈us))):=by
 show(Jo (en t)).map _=_;rw[Y.nk];show some (D.bl (!(nW (qQ en 0 us) (key t)).isSome))=_;rw[zB Y];by_cases h:t∈us
 ·rw[if_pos h,Qw8 h];rfl
 ·rw[if_neg h,Qw0 h];rfl
theorem O6(us:List T)(t:T)(h:t∈us):vW (.gC (qQ en 0 us)) (en t)=some (.int (cU us t:Int)):=by show(Jo (en t)).bind _=_;rw[Y.nk];show nW (qQ en 0 us) (key t)=_;rw[zB Y,if_pos h,Nat.zero_add]
omit Y
theorem EY(us:List T)(t:T):t∈jR us t:=(pL us t t).mpr (.inr rfl)
theorem W7{us:List T}{t u:T}(h:u∈us):cU (jR us t) u=cU us u:=by
 unfold jR;split
 ·rfl
 ·exact vQ _ h
theorem W6(us:List T)(t:T):(jR us t).length<=us.length+1:=by
 unfold jR;split
 ·omega
 ·rw[Qqj];exact Qq0 _
theorem Kl{us:List T}{t u:T}{i:Nat}(h:us[i]? = some u):(jR us t)[i]? = some u:=by
 unfold jR;split
 ·exact h
 ·exact KB.Pk h
end
abbrev P:=List kh.St
def km(p:P):D:=.tup (p.map bG)
theorem Jz:Xi km qS:=⟨aaW,λ_ _ h=>Uc h⟩
def aW(pt:List Nat×Nat):D:=.tup [.str pt.1,.int (pt.2:Int)]
def bQ(st:gb):D:=.tup [.str st.1,.tup (st.2.map aW)]
noncomputable def Ej(x:List Nat)(Ls:List D)(p:P)(a:Nat):P:=(jT x Ls p [a]).1
noncomputable def Mm(x:List Nat)(Ls:List D)(p:P)(a:Nat):List Nat:=(jT x Ls p [a]).2
noncomputable def lL(x:List Nat)(Ls:List D)(ps:List P)(p:P)(a:Nat):List Nat×Nat:=(Mm x Ls p a,cU ps (Ej x Ls p a))
structure OkP(x:List Nat)(s:D)(Rs:List D)(p:P):Prop where
 o:xZ x s Rs p
 u:p∈U x (lay s Rs)
abbrev Cw(jw ord:D)(ps:List P)(rows:List D)(a5 a6 a7 a8:OD):Ev.Env:=
 [Zf jw,Zf ord,Zl (ps.map km),Zt (.gC (qQ km 0 ps)),Zl rows,a5,a6,a7,a8]
structure Xl(x:List Nat)(s:D)(Rs:List D)(ps:List P):Prop where
 nd:ps.Nodup
 z0:ps[0]? = some (tY (lay s Rs))
 ok:∀p∈ps,OkP x s Rs p
 reach:∀p∈ps,∃w:List Nat,(∀a∈w,a∈x)/\w.foldl (Ej x (lay s Rs)) (tY (lay s Rs))=p
section
variable{x:List Nat}{s:D}{Rs:List D}{jw:D}
theorem OkP.next{p:P}(h:OkP x s Rs p){a:Nat}(ha:a∈x):cR.pG [.tup [s,.tup Rs],km p,.str [a]]=some (.tup [km (Ej x (lay s Rs) p a),.str (Mm x (lay s Rs) p a)])/\OkP x s Rs (Ej x (lay s Rs) p a):=by
 have hz:∀b ∈ [a],b∈35::x:=λb hb=>by rw[Qqy.mp hb];exact Qqk _ ha
 obtain⟨h1,h2⟩:=kh.read_on h.o hz (by show 1<=7;decide);exact⟨h1,h2,aaK _ _ _ (kh.xM h.o.hR) h.u λb hb=>by rw[Qqy.mp hb];exact ha⟩
theorem Xl.add{ps:List P}(F:Xl x s Rs ps){p:P}(hp:p∈ps){a:Nat}(ha:a∈x):Xl x s Rs (jR ps (Ej x (lay s Rs) p a)):=by
 refine⟨Hg _ F.nd,Kl F.z0,λq hq=>?_,λq hq=>?_⟩
 ·rcases(pL _ _ _).mp hq with hq|rfl
  ·exact F.ok q hq
  ·exact((F.ok p hp).next ha).2
 ·rcases(pL _ _ _).mp hq with hq|rfl
  ·exact F.reach q hq
  ·obtain⟨w,h1,h2⟩:=F.reach p hp;refine⟨w++[a],λb hb=>?_,by rw[List.foldl_append,h2];rfl⟩;rcases Qw1.mp hb with hb|hb
   ·exact h1 b hb
   ·rw[Qqy.mp hb];exact ha
theorem Xl.few{ps:List P}(F:Xl x s Rs ps)(hu:(U x (lay s Rs)).length<=600):ps.length<=600:=Qq3 (KB.rJ _ ps F.nd λq hq=>(F.ok q hq).u) hu
theorem aeV{ps:List P}(F:Xl x s Rs ps)(hu:(U x (lay s Rs)).length<=600){rows steps:List D}{p:P}(hp:ps[rows.length]? = some p)(hs:steps.length<=100){a:Nat}(ha:a∈x)(a7 a8:OD) :
  cR.lH (Cw jw (.tup [s,.tup Rs]) ps rows (Zl steps) (Zs [a]) a7 a8) =
   .nx (Cw jw (.tup [s,.tup Rs]) (jR ps (Ej x (lay s Rs) p a)) rows (Zl (steps++[aW (lL x (lay s Rs) (jR ps (Ej x (lay s Rs) p a)) p a)])) (Zs [a]) (Zf (km (Ej x (lay s Rs) p a))) (Zs (Mm x (lay s Rs) p a))):=by
 obtain⟨h1,_⟩:=(F.ok p (Qww hp)).next ha;have hlen:=F.few hu;unfold lL aW;generalize Ej x (lay s Rs) p a=q at *;generalize Mm x (lay s Rs) p a=o at *;generalize D.tup [s,.tup Rs]=O at *;have hix:dH (.lst (ps.map km)) (.int (rows.length:Int))=some (km p):=by show uf (ps.map km) (rows.length:Int)=_;exact mW (by rw[Qwv,hp];rfl)
 unfold cR.lH
 let E0:Ev.Env:=Cw jw O ps rows (Zl steps) (Zs [a]) (Zf (km q)) (Zs o)
 refine(az (e:=E0) ?_).trans ?_
 ·let E1:Ev.Env:=Cw jw O ps rows (Zl steps) (Zs [a]) a7 a8
  refine bC (d:=.tup [km q,.str o]) (e:=E1) ?_ rfl;refine aJ (ds:=[O,km p,.str [a]]) (aH (e1:=E1) rfl (aH (e1:=E1) ?_ rfl)) h1;exact GQ (x:=.lst (ps.map km)) (y:=.int (rows.length:Int)) rfl rfl rfl hix
 have fin:∀qs:List P,q∈qs->dw 5 (bY (Zv 8 (aa (aB vW 3 (aV 7)) ak))) (Cw jw O qs rows (Zl steps) (Zs [a]) (Zf (km q)) (Zs o)) =
   .nx (Cw jw O qs rows (Zl (steps++[.tup [.str o,.int (cU qs q:Int)]])) (Zs [a]) (Zf (km q)) (Zs o)):=λqs hq=>by
  let E2:Ev.Env:=Cw jw O qs rows (Zl steps) (Zs [a]) (Zf (km q)) (Zs o)
  refine(Ev.mL (i:=5) (xs:=steps) (d:=.tup [.str o,.int (cU qs q:Int)]) (e:=E2) rfl ?_ rfl (Qw4 hs (by decide))).trans rfl;refine cA (ds:=[.str o,.int (cU qs q:Int)]) (aH (e1:=E2) rfl (aH ?_ bz)) Ev.zb;exact GQ (x:=.gC (qQ km 0 qs)) (y:=km q) rfl rfl rfl (O6 Jz qs q hq)
 have ht:eO (aB pZ 7 (aV 3)) (Cw jw O ps rows (Zl steps) (Zs [a]) (Zf (km q)) (Zs o)) = .ok (!decide (q∈ps)) (Cw jw O ps rows (Zl steps) (Zs [a]) (Zf (km q)) (Zs o)):=
  dh (iz (x:=km q) (y:=.gC (qQ km 0 ps)) rfl rfl rfl (Ef Jz ps q))
 by_cases hq:q∈ps
 ·rw[Qw8 hq] at ht;refine(az (e:=E0) (fB ht)).trans ?_;have e:jR ps q=ps:=if_pos hq;rw[e];exact fin ps hq
 ·rw[Qw0 hq] at ht;have e:jR ps q=ps++[q]:=if_neg hq;rw[e];refine(az (e:=Cw jw O (ps++[q]) rows (Zl steps) (Zs [a]) (Zf (km q)) (Zs o)) ?_).trans (fin (ps++[q]) (by simp));refine(ik ht).trans ?_;have s4:=rZ (i:=3) (k:=aM 7) (a:=au d8 (aa (aV 2) ak)) (env:=E0) (e1:=E0) (e2:=E0) (d:=.int ((ps.map km).length:Int)) (kd:=km q) (z:=.gC (qQ km 0 ps)) (o:=true) (q:=qS q) (kvs:=qQ km 0 ps) rfl rfl rfl rfl (Jz.nk q)
   (by rw[zE];exact Qw4 hlen (by decide))
  rw[Qqx,O5 Jz ps q hq] at s4;rw[az s4];refine(Ev.mL (i:=2) (xs:=ps.map km) (d:=km q) (e:=[Zf jw,Zf O,Zl (ps.map km),Zt (.gC (qQ km 0 (ps++[q]))),Zl rows,Zl steps,Zs [a],Zf (km q),Zs o]) rfl rfl rfl (by rw[Qqx];exact Qw4 hlen (by decide))).trans ?_;have e5:ps.map km++[km q]=(ps++[q]).map km:=by rw[Qw6];rfl
  rw[e5]
  rfl
theorem aeW(hu:(U x (lay s Rs)).length<=600){rows:List D}{p:P}(hx4:x.length<=50):∀(rest done:List Nat) (ps:List P) (a6 a7 a8:OD),x=done++rest->Xl x s Rs ps->ps[rows.length]? = some p->(∀a∈done,Ej x (lay s Rs) p a∈ps)->
  ∃ps' b6 b7 b8,je (aj 6) cR.lH (gB rest) (Cw jw (.tup [s,.tup Rs]) ps rows (Zl (done.map λa=>aW (lL x (lay s Rs) ps p a))) a6 a7 a8) =
   .nx (Cw jw (.tup [s,.tup Rs]) ps' rows (Zl (x.map λa=>aW (lL x (lay s Rs) ps' p a))) b6 b7 b8)/\Xl x s Rs ps'/\(∀a∈x,Ej x (lay s Rs) p a∈ps')/\∃more,ps'=ps++more:=by
 intro rest
 induction rest with
 | nil=>
  intro done ps a6 a7 a8 hx F hp hd;rw[Qxq] at hx;subst hx;exact⟨ps,a6,a7,a8,rfl,F,hd,[],by rw[Qxq]⟩
 | cons a rest ih=>
  intro done ps a6 a7 a8 hx F hp hd;have ha:a∈x:=by rw[hx];simp
  have hx':x=(done++[a])++rest:=by rw[hx];simp
  have hdl:done.length<=50:=by have:=Qx5 List.length hx;rw[Qqj] at this;omega
  have h1:=aeV (jw:=jw) F hu (steps:=done.map λa=>aW (lL x (lay s Rs) ps p a)) hp (by rw[Qqx];omega) ha a7 a8;have F':=F.add (Qww hp) ha;have hs:(done.map λb=>aW (lL x (lay s Rs) ps p b))++[aW (lL x (lay s Rs) (jR ps (Ej x (lay s Rs) p a)) p a)]=(done++[a]).map λb=>aW (lL x (lay s Rs) (jR ps (Ej x (lay s Rs) p a)) p b):=by
   rw[Qw6]
   congr 1
   refine Qx9 λb hb=>?_;unfold lL;rw[W7 (hd b hb)]
  rw[hs] at h1;obtain⟨ps',b6,b7,b8,g1,g2,g3,more,g4⟩:=ih (done++[a]) (jR ps (Ej x (lay s Rs) p a)) _ _ _ hx' F' (Kl hp) (λb hb=>by
   rcases Qw1.mp hb with hb|hb
   ·exact(pL _ _ _).mpr (.inl (hd b hb))
   ·rw[Qqy.mp hb];exact EY _ _)
  refine⟨ps',b6,b7,b8,?_,g2,g3,?_⟩
  ·rw[<-g1];exact KB.p6 rfl h1
  ·rw[g4];unfold jR;split
   ·exact⟨more,rfl⟩
   ·exact⟨_,Qxv ..⟩
noncomputable def kE(x:List Nat)(Ls:List D)(ps:List P)(p:P):D:=.tup (x.map λa=>aW (lL x Ls ps p a))
structure All(x:List Nat)(s:D)(Rs:List D)(ps:List P):Prop extends Xl x s Rs ps where
 clo:∀p∈ps,∀a∈x,Ej x (lay s Rs) p a∈ps
theorem V6{ps more:List P}{q:P}(h:q∈ps):cU (ps++more) q=cU ps q:=vQ _ h
theorem Yh(hu:(U x (lay s Rs)).length<=600)(hx4:x.length<=50)(hso:cR.dZ [jw]=some (.tup (gB x))):∀(m n:Nat) (ps:List P) (a5 a6 a7 a8:OD),n+m=7000->n<=ps.length->Xl x s Rs ps->(∀p∈ps.take n,∀a∈x,Ej x (lay s Rs) p a∈ps)->
  ∃ps' b5 b6 b7 b8,fK (eO (aO Hl (au d8 (aa (aV 4) ak)) (au d8 (aa (aV 2) ak)))) cR.lC m (Cw jw (.tup [s,.tup Rs]) ps ((ps.take n).map (kE x (lay s Rs) ps)) a5 a6 a7 a8) =
   .nx (Cw jw (.tup [s,.tup Rs]) ps' (ps'.map (kE x (lay s Rs) ps')) b5 b6 b7 b8)/\All x s Rs ps':=by
 intro m
 induction m with
 | zero=>
  intro n ps a5 a6 a7 a8 hm hn F hc;have:=F.few hu;omega
 | succ m ih=>
  intro n ps a5 a6 a7 a8 hm hn F hc;have hrl:((ps.take n).map (kE x (lay s Rs) ps)).length=n:=by rw[Qqx,Qzj];omega
  have ht:eO (aO Hl (au d8 (aa (aV 4) ak)) (au d8 (aa (aV 2) ak))) (Cw jw (.tup [s,.tup Rs]) ps ((ps.take n).map (kE x (lay s Rs) ps)) a5 a6 a7 a8) = .ok (decide (n<ps.length)) (Cw jw (.tup [s,.tup Rs]) ps ((ps.take n).map (kE x (lay s Rs) ps)) a5 a6 a7 a8):=by
   refine dh (bF (x:=.int (((ps.take n).map (kE x (lay s Rs) ps)).length:Int)) (y:=.int ((ps.map km).length:Int)) rfl rfl ?_);rw[hrl,Qqx];show some (D.bl (decide ((n:Int)<(ps.length:Int))))=_
   congr 2
   simp
  by_cases hlt:n<ps.length
  ·rw[Qw8 hlt] at ht;have hp:ps[n]? = some ps[n]:=Qq9 hlt;obtain⟨ps',b6,b7,b8,g1,g2,g3,more,g4⟩:=aeW (jw:=jw) (p:=ps[n]) (rows:=(ps.take n).map (kE x (lay s Rs) ps)) hu hx4 x [] ps a6 a7 a8 rfl F (by rw[hrl];exact hp) (λa ha=>by simp at ha);have hn':n+1<=ps'.length:=by rw[g4,Qqj];omega
   have hf:=g2.few hu;have e1:(ps.take n).map (kE x (lay s Rs) ps)++[kE x (lay s Rs) ps' ps[n]]=(ps'.take (n+1)).map (kE x (lay s Rs) ps'):=by
    have e2:ps'.take (n+1)=ps.take n++[ps[n]]:=by rw[g4,List.take_append_of_le_length (by omega),List.take_succ_eq_append_getElem hlt]
    rw[e2,Qw6]
    congr 1
    refine Qx9 λp hpm=>?_;unfold kE
    congr 1
    refine Qx9 λa ha=>?_;unfold lL;rw[g4,V6 (hc p hpm a ha)]
   have hb:cR.lC (Cw jw (.tup [s,.tup Rs]) ps ((ps.take n).map (kE x (lay s Rs) ps)) a5 a6 a7 a8) = .nx (Cw jw (.tup [s,.tup Rs]) ps' ((ps'.take (n+1)).map (kE x (lay s Rs) ps')) (Zl (x.map λa=>aW (lL x (lay s Rs) ps' ps[n] a))) b6 b7 b8):=by
    rw[<-e1];generalize(ps.take n).map (kE x (lay s Rs) ps)=rows at *;unfold cR.lC
    let E0:Ev.Env:=Cw jw (.tup [s,.tup Rs]) ps rows (Zl []) a6 a7 a8
    refine(az (e:=E0) rfl).trans ?_;refine(az ((dq (ds:=gB x) (e:=E0) (zL (aJ (ds:=[jw]) rfl hso) rfl)).trans g1)).trans ?_;have t6:eO (aO gGt (au d8 (aa (aV 2) ak)) (Zi 600)) (Cw jw (.tup [s,.tup Rs]) ps' rows (Zl (x.map λa=>aW (lL x (lay s Rs) ps' ps[n] a))) b6 b7 b8) = .ok false (Cw jw (.tup [s,.tup Rs]) ps' rows (Zl (x.map λa=>aW (lL x (lay s Rs) ps' ps[n] a))) b6 b7 b8):=by refine dh (bF (x:=.int ((ps'.map km).length:Int)) (y:=.int 600) rfl rfl ?_);rw[Qqx];show some (D.bl (decide ((600:Int)<(ps'.length:Int))))=_;rw[Qw0 (by omega)]
    refine(az (fB t6)).trans ?_;exact(Ev.mL (i:=4) (xs:=rows) (d:=kE x (lay s Rs) ps' ps[n]) (e:=Cw jw (.tup [s,.tup Rs]) ps' rows (Zl (x.map λa=>aW (lL x (lay s Rs) ps' ps[n] a))) b6 b7 b8) rfl rfl rfl (by rw[hrl];exact Qwx hlt (Qq3 (F.few hu) (by decide)))).trans rfl
   rw[KB.Dp ht hb];refine ih (n+1) ps' _ _ _ _ (by omega) hn' g2 λp hpm a ha=>?_;have e2:ps'.take (n+1)=ps.take n++[ps[n]]:=by rw[g4,List.take_append_of_le_length (by omega),List.take_succ_eq_append_getElem hlt]
   rw[e2] at hpm;rcases Qw1.mp hpm with hpm|hpm
   ·rw[g4];exact Qjx _ (hc p hpm a ha)
   ·rw[Qqy.mp hpm];exact g3 a ha
  ·rw[Qw0 hlt] at ht;have e:n=ps.length:=by omega
   have e2:ps.take n=ps:=by rw[e,List.take_length]
   rw[e2] at hc;refine⟨ps,a5,a6,a7,a8,?_,F,hc⟩;rw[KB.KJ ht,e2]
theorem Iu(hx:x∈XS)(hs:s∈sides)(hR:∀R∈Rs,cG x R)(h4:Rs.length<=4)(hu:(U x (lay s Rs)).length<=600)(hso:cR.dZ [jw]=some (.tup (gB x))) :
  ∃ps,cR.uL [jw,.tup [s,.tup Rs]]=some (.tup [.lst (ps.map km),.lst (ps.map (kE x (lay s Rs) ps))])/\All x s Rs ps:=by
 have hx4:x.length<=50:=Qq3 (iu.nH x hx) (by decide);have hf:cR.dU [.tup [s,.tup Rs]]=some (km (tY (lay s Rs))):=by rw[first_is];exact kh.first_standing hx hs hR (by omega)
 have o0:xZ x s Rs (tY (lay s Rs)):=⟨hx,hs,hR,h4,by unfold tY;rw[Qqx,kh.oA],kh.adC x _⟩;have F0:Xl x s Rs [tY (lay s Rs)]:=⟨Qzq.mpr ⟨by simp,.nil⟩,rfl,λp hp=>by rw[Qqy.mp hp];exact⟨o0,Qi _ _⟩,λp hp=>by rw[Qqy.mp hp];exact⟨[],λa ha=>by simp at ha,rfl⟩⟩;obtain⟨ps,b5,b6,b7,b8,g1,g2⟩:=Yh (jw:=jw) hu hx4 hso 7000 0 [tY (lay s Rs)] none none none none rfl (Qxy _) F0 (λp hp=>by simp at hp);refine⟨ps,?_,g2⟩;generalize tY (lay s Rs)=f at *;generalize D.tup [s,.tup Rs]=O at *;refine bV (env:=[Zf jw,Zf O,Zf (.lst (ps.map km)),Zt (.gC (qQ km 0 ps)),Zf (.lst (ps.map (kE x (lay s Rs) ps))),b5,b6,b7,b8]) ?_;unfold cR.Ca
 let E0:Ev.Env:=[Zf jw,Zf O,Zl [km f],Zn,Zn,Zn,Zn,Zn,Zn]
 refine(az (e:=E0) ?_).trans ?_
 ·exact(lN (d:=.lst [km f]) (e:=[Zf jw,Zf O,Zn,Zn,Zn,Zn,Zn,Zn,Zn]) (JX (ds:=[km f]) (aH (aJ (ds:=[O]) rfl hf) bz) Ev.zz1)).trans rfl
 refine(az (e:=[Zf jw,Zf O,Zl [km f],Zt (.gC [(km f,.int 0)]),Zn,Zn,Zn,Zn,Zn]) ?_).trans ?_
 ·refine(lN (d:=.gC [(km f,.int 0)]) (e:=E0) ?_).trans rfl;unfold GK;show(match Jo (km f) with|some _=>_|none=>_)=_;rw[Jz.nk]
 refine(az (e:=Cw jw O [f] [] none none none none) rfl).trans ?_;refine(az g1).trans ?_;exact bH (cA (ds:=[.lst (ps.map km),.lst (ps.map (kE x (lay s Rs) ps))]) rfl Ev.zb)
end
theorem W0{a b:fU}{env e:Ev.Env}(h:a env = .ok false e):eV a b env = .ok false e:=by unfold eV;rw[h];rfl
theorem Ng{a b:fU}{env e:Ev.Env}(h:a env = .ok true e):eV a b env=b e:=by unfold eV;rw[h];rfl
theorem Gq(a b:Nat):Hl (.int (a:Int)) (.int (b:Int))=some (.bl (decide (a<b))):=by
 show some (D.bl (decide ((a:Int)<(b:Int))))=_
 congr 2
 simp
theorem add_str{a b:List Nat}(h:a.length+b.length<=5000):cL (.str a) (.str b)=some (.str (a++b)):=by unfold cL;exact if_pos (Qq3 h (by decide))
theorem uJ{α:Type}(f:α->D)(l:List α){q:Nat}{a:α}(h:l[q]? = some a):dH (.lst (l.map f)) (.int (q:Int))=some (f a):=by show uf (l.map f) (q:Int)=_;exact mW (by rw[Qwv,h];rfl)
def tS:fU:=eV (eO (aB Hl 3 (au d8 (aa (aV 1) ak)))) (eV (eO (aB Hl 3 (au d8 (aa (aV 2) ak)))) (eO (aO qz (aB dH 1 (aV 3)) (aB dH 2 (aV 3)))))
abbrev yI(A0:OD)(u t:List Nat)(k:Nat):Ev.Env:=[A0,Zs u,Zs t,Zf (.int (k:Int))]
theorem abF(A0:OD)(u t:List Nat)(k:Nat):eO (aB Hl 3 (au d8 (aa (aV 1) ak))) (yI A0 u t k) = .ok (decide (k<u.length)) (yI A0 u t k):=
 dh (iz (i:=3) (b:=au d8 (aa (aV 1) ak)) (env:=yI A0 u t k) (e2:=yI A0 u t k) (x:=.int (k:Int)) (y:=.int (u.length:Int)) rfl rfl rfl (Gq k u.length))
theorem aeF(A0:OD)(u t:List Nat)(k:Nat):eO (aB Hl 3 (au d8 (aa (aV 2) ak))) (yI A0 u t k) = .ok (decide (k<t.length)) (yI A0 u t k):=
 dh (iz (i:=3) (b:=au d8 (aa (aV 2) ak)) (env:=yI A0 u t k) (e2:=yI A0 u t k) (x:=.int (k:Int)) (y:=.int (t.length:Int)) rfl rfl rfl (Gq k t.length))
theorem ag7(A0:OD)(u t:List Nat)(k a b:Nat)(h1:u[k]? = some a)(h2:t[k]? = some b):eO (aO qz (aB dH 1 (aV 3)) (aB dH 2 (aV 3))) (yI A0 u t k) = .ok (decide (a=b)) (yI A0 u t k):=by
 have gx:∀(z:List Nat) (c:Nat),z[k]? = some c->dH (.str z) (.int (k:Int))=some (.str [c]):=λz c h=>by
  show(uf z (k:Int)).map _=_;rw[mW h]
  rfl
 have e:qz (.str [a]) (.str [b])=some (.bl (decide (a=b))):=by
  show some (D.bl ([a] == [b]))=_
  congr 2
  by_cases h:a=b
  ·rw[h];simp
  ·rw[Qw0 h];exact Qz1.mpr λz=>h (Qj9 z).1
 exact dh (bF (x:=.str [a]) (y:=.str [b]) (e1:=yI A0 u t k) (iz (i:=1) (b:=aV 3) (env:=yI A0 u t k) (e2:=yI A0 u t k) (x:=.str u) (y:=.int (k:Int)) rfl rfl rfl (gx u a h1))
  (iz (i:=2) (b:=aV 3) (env:=yI A0 u t k) (e2:=yI A0 u t k) (x:=.str t) (y:=.int (k:Int)) rfl rfl rfl (gx t b h2)) e)
theorem HS(A0:OD):∀(u t pre:List Nat) (m:Nat),u.length<m->
  fK tS cR.jU m (yI A0 (pre++u) (pre++t) pre.length) = .nx (yI A0 (pre++u) (pre++t) (pre++cp u t).length)
 | [],t,pre,0,hm=>absurd hm (Qk1 _)
 | _::_,t,pre,0,hm=>absurd hm (Qk1 _)
 | [],t,pre,m+1,hm=>by
  have h1:=abF A0 (pre++[]) (pre++t) pre.length;rw[Qw0 (by rw[Qxq];exact Qzw _)] at h1;have:cp [] t=[]:=by cases t<;>rfl
  have ht:tS (yI A0 (pre++[]) (pre++t) pre.length) = .ok false (yI A0 (pre++[]) (pre++t) pre.length):=W0 h1;rw[KB.KJ ht,this,Qxq]
 | a::u,[],pre,m+1,hm=>by
  have h1:=abF A0 (pre++a::u) (pre++[]) pre.length;have h2:=aeF A0 (pre++a::u) (pre++[]) pre.length;rw[Qw8 (by rw[Qqj,Qqw];omega)] at h1;rw[Qw0 (by rw[Qxq];exact Qzw _)] at h2;have:cp (a::u) []=[]:=rfl;have ht:tS (yI A0 (pre++a::u) (pre++[]) pre.length) = .ok false (yI A0 (pre++a::u) (pre++[]) pre.length):=(Ng h1).trans (W0 h2);rw[KB.KJ ht,this,Qxq]
 | a::u,b::t,pre,m+1,hm=>by
  have h1:=abF A0 (pre++a::u) (pre++b::t) pre.length;have h2:=aeF A0 (pre++a::u) (pre++b::t) pre.length;have h3:=ag7 A0 (pre++a::u) (pre++b::t) pre.length a b (by simp) (by simp);rw[Qw8 (by rw[Qqj,Qqw];omega)] at h1 h2;have ht:tS (yI A0 (pre++a::u) (pre++b::t) pre.length) = .ok (decide (a=b)) (yI A0 (pre++a::u) (pre++b::t) pre.length):=(Ng h1).trans ((Ng h2).trans h3);by_cases hab:a=b
  ·subst hab;rw[Qw8 rfl] at ht;have e1:∀v:List Nat,pre++a::v=(pre++[a])++v:=λv=>by simp
   have e2:((pre++[a]).length:Int)=(pre.length:Int)+1:=by rw[Qqj,Qwq];rfl
   have hb:cR.jU (yI A0 (pre++a::u) (pre++a::t) pre.length) = .nx (yI A0 ((pre++[a])++u) ((pre++[a])++t) (pre++[a]).length):=by
    unfold yI;rw[<-e1 u,<-e1 t,e2]
    rfl
   rw[Qqw] at hm;rw[KB.Dp ht hb,HS A0 u t (pre++[a]) m (by omega),<-e1 u,<-e1 t];have e3:cp (a::u) (a::t)=a::cp u t:=by conv=>lhs;unfold cp;rw[if_pos rfl]
   rw[e3,e1 (cp u t)]
  ·rw[Qw0 hab] at ht;have e3:cp (a::u) (b::t)=[]:=by conv=>lhs;unfold cp;rw[if_neg hab]
   rw[KB.KJ ht,e3,Qxq]
theorem abK(A0 a3:OD)(u t:List Nat)(hu:u.length<=5000):cR.iy [A0,Zs u,Zs t,a3] = .nx [A0,Zs (cp u t),Zs t,Zf (.int ((cp u t).length:Int))]:=by
 unfold cR.iy;refine(az (e:=[A0,Zs u,Zs t,Zf (.int 0)]) rfl).trans ?_;refine(az (HS A0 u t [] 7000 (by omega))).trans ?_;have e:cutD u none (some ((cp u t).length:Int))=cp u t:=by rw[Z4];exact(List.prefix_iff_eq_take.mp (Z5 u t)).symm
 refine bC (d:=.str (cp u t)) (e:=[A0,Zs u,Zs t,Zf (.int ((cp u t).length:Int))]) ?_ rfl;show Ev.R.ok (D.str (cutD u none (some ((cp u t).length:Int)))) _=_;rw[e]
 rfl
theorem Th(A0:OD):∀(ts:List (List Nat)) (u:List Nat) (a2 a3:OD),u.length<=5000->∃b2 b3,je (aj 2) cR.iy (ts.map .str) [A0,Zs u,a2,a3] = .nx [A0,Zs (ts.foldl cp u),b2,b3]
 | [],u,a2,a3,_=>⟨a2,a3,rfl⟩
 | t::ts,u,a2,a3,hu=>by
  obtain⟨b2,b3,h⟩:=Th A0 ts (cp u t) (Zs t) (Zf (.int ((cp u t).length:Int))) (Qq3 (adQ u t) hu);exact⟨b2,b3,by rw[Qj0,<-h,Qq8];exact KB.p6 rfl (abK A0 a3 u t hu)⟩
theorem shared_start(t:List Nat)(ts:List (List Nat))(h:t.length<=5000):cR.j8 [.lst ((t::ts).map .str)]=some (.str (lcp t ts)):=by
 obtain⟨b2,b3,g⟩:=Th (Zf (.lst ((t::ts).map .str))) (t::ts) t none none h;refine bV (env:=[Zf (.lst ((t::ts).map .str)),Zs (lcp t ts),b2,b3]) ?_;unfold cR.sH
 let E0:Ev.Env:=[Zf (.lst ((t::ts).map .str)),Zs t,Zn,Zn]
 refine(az (e:=E0) (bC (d:=.str t) (e:=[Zf (.lst ((t::ts).map .str)),Zn,Zn,Zn]) (iz (i:=0) (b:=Zi 0) (x:=.lst ((t::ts).map .str)) (y:=.int 0) rfl rfl rfl (uJ (q:=0) D.str (t::ts) rfl)) rfl)).trans ?_;refine(az ((dq (ds:=(t::ts).map .str) (e:=E0) rfl).trans g)).trans ?_
 rfl
structure MB(M:List gb):Prop where
 pos:0<M.length
 few:M.length<=600
 fin:∀st∈M,st.1.length<=30
 stp:∀st∈M,st.2.length<=50
 put:∀st∈M,∀pt∈st.2,pt.1.length<=200
 inn:∀st∈M,∀pt∈st.2,pt.2<M.length
theorem MB.ahI{M:List gb}(B:MB M):∀(i:Nat) (st:gb) (pt:List Nat×Nat),M[i]? = some st->pt∈st.2->pt.2<M.length:=λi st pt h hp=>B.inn st (Qww h) pt hp
theorem xG{lo n:Nat}{it:dI}{g:GV}{e:Ev}{env:Ev.Env}(M:List gb)(out:gb->D)(hit:it env = .ok (M.map bQ) env)(hlo:env.length=lo)(hn:n=lo+2)(hg:∀(st:gb) (u v:OD),g (bQ st) (env++[u,v])=some (env++[Zs st.1,Zf (.tup (st.2.map aW))]))
  (h:∀st∈M,e (env++[Zs st.1,Zf (.tup (st.2.map aW))]) = .ok (out st) (env++[Zs st.1,Zf (.tup (st.2.map aW))])) (hz:M.length<=600):d9 lo n it g bZ e env = .ok (.lst (M.map out)) env:=by
 subst hn hlo;have:=Bt (lo:=env.length) (n:=env.length+2) (it:=it) (g:=g) (c:=bZ) (e:=e) (env:=env) (aL:=env) M bQ (λst=>[Zs st.1,Zf (.tup (st.2.map aW))]) (λ_=>true) out hit rfl (λst hst=>⟨by simp,λvs hv=>?_,rfl,λ_=>h st hst⟩) (Qq3 hz (by decide))
 ·rw[this,Qk7.mpr (λ_ _=>rfl)]
 ·have hv:vs.length=2:=by omega
  match vs,hv with
  | [u,v],_=>exact hg st u v
theorem vM{lo n:Nat}{it:dI}{g:GV}{e:Ev}{env:Ev.Env}(S:List (List Nat×Nat))(out:List Nat×Nat->D)(hit:it env = .ok (S.map aW) env)(hlo:env.length=lo)(hn:n=lo+2)(hg:∀(pt:List Nat×Nat) (u v:OD),g (aW pt) (env++[u,v])=some (env++[Zs pt.1,Zf (.int (pt.2:Int))]))
  (h:∀pt∈S,e (env++[Zs pt.1,Zf (.int (pt.2:Int))]) = .ok (out pt) (env++[Zs pt.1,Zf (.int (pt.2:Int))])) (hz:S.length<=50):d9 lo n it g bZ e env = .ok (.lst (S.map out)) env:=by
 subst hn hlo;have:=Bt (lo:=env.length) (n:=env.length+2) (it:=it) (g:=g) (c:=bZ) (e:=e) (env:=env) (aL:=env) S aW (λpt=>[Zs pt.1,Zf (.int (pt.2:Int))]) (λ_=>true) out hit rfl (λst hst=>⟨by simp,λvs hv=>?_,rfl,λ_=>h st hst⟩) (Qq3 hz (by decide))
 ·rw[this,Qk7.mpr (λ_ _=>rfl)]
 ·have hv:vs.length=2:=by omega
  match vs,hv with
  | [u,v],_=>exact hg st u v
def encM(M:List gb):D:=.lst (M.map bQ)
def CB(M:List gb)(c:List (List Nat)):Prop:=c.length=M.length/\∀i,(c.getD i []).length<=30
theorem getD_some{c:List (List Nat)}{i:Nat}(h:i<c.length):c[i]? = some (c.getD i []):=by rw[Qq7,Qq9 h];rfl
theorem CB.of{M:List gb}(B:MB M){c:List (List Nat)}(h:PW c (ends M)):CB M c:=by
 refine⟨by rw[h.1];unfold ends;rw[Qqx],λi=>Qq3 (h.2 i).length_le ?_⟩;unfold ends;rw[getD_map];cases e:M[i]? with
 | none=>exact Qxy _
 | some st=>exact B.fin st (Qww e)
theorem uo{k:Nat}:∀c:List (List Nat),(∀z∈c,z.length<=k)->tM c<=c.length*k
 | [],_=>Qxy _
 | a::c,h=>by
  have ih:=uo c λz hz=>h z (Qqk _ hz);have h1:=h a (Qqv ..);have e1:tM (a::c)=a.length+tM c:=by unfold tM;rw[Qq8,List.sum_cons]
  rw[e1,Qqw,Nat.succ_mul];omega
abbrev EnC(M:List gb)(k c:List (List Nat))(o:Bool):Ev.Env:=[Zf (encM M),Zf (.lst (k.map .str)),some (o,.lst (c.map .str))]
theorem WD{M:List gb}(B:MB M){k:List (List Nat)}(hk:CB M k)(d:D)(o:Bool):cR.jh [Zf (encM M),Zf (.lst (k.map .str)),some (o,d)] = .ok (.lst ((gU M k).map .str)) [Zf (encM M),Zf (.lst (k.map .str)),some (o,d)]:=by
 unfold cR.jh;have:=xG (lo:=3) (n:=5) (it:=dW (aM 0)) (g:=bK 2 (aD (aj 3) (aD (aj 4) bN))) (e:=au cR.j8 (aa (aO cL (cz (Zv 3 ak)) (cR.gr)) ak)) (env:=[Zf (encM M),Zf (.lst (k.map .str)),some (o,d)]) M
  (λst=>.str (lcp st.1 (st.2.map λpt=>pt.1++k.getD pt.2 []))) rfl rfl rfl (λst u v=>rfl) (λst hst=>?_) B.few
 ·rw[this];unfold gU;rw[Qxj]
  rfl
 ·have h2:cR.gr [Zf (encM M),Zf (.lst (k.map .str)),some (o,d),Zs st.1,Zf (.tup (st.2.map aW))] = .ok (.lst (st.2.map λpt=>.str (pt.1++k.getD pt.2 []))) [Zf (encM M),Zf (.lst (k.map .str)),some (o,d),Zs st.1,Zf (.tup (st.2.map aW))]:=by
   unfold cR.gr;refine vM (lo:=5) (n:=7) (env:=[Zf (encM M),Zf (.lst (k.map .str)),some (o,d),Zs st.1,Zf (.tup (st.2.map aW))]) st.2 (λpt=>.str (pt.1++k.getD pt.2 [])) rfl rfl rfl (λpt u v=>rfl) (λpt sY=>?_) (B.stp st hst);have hlt:pt.2<k.length:=by rw[hk.1];exact B.inn st hst pt sY
   refine iz (x:=.str pt.1) (y:=.str (k.getD pt.2 [])) rfl ?_ rfl (add_str ?_)
   ·exact iz (x:=.lst (k.map .str)) (y:=.int (pt.2:Int)) rfl rfl rfl (uJ D.str k (getD_some hlt))
   ·have h1:=B.put st hst pt sY;have h2:=hk.2 pt.2;omega
  refine aJ (ds:=[.lst ((st.1::st.2.map λpt=>pt.1++k.getD pt.2 []).map .str)]) (aH (bF (x:=.lst [.str st.1]) (y:=.lst (st.2.map λ(pt:List Nat×Nat)=>.str (pt.1++k.getD pt.2 []))) rfl h2 ?_) bz) (shared_start _ _ (Qq3 (B.fin st hst) (by decide)));unfold cL;refine(if_pos ?_).trans ?_
  ·rw[Qqx];have:=B.stp st hst;exact Qq3 (show 1+st.2.length<=51 by omega) (by decide)
  ·rw[Qq8,Qxj]
   rfl
theorem Y9(a b:List (List Nat)):xP (.lst (a.map .str)) (.lst (b.map .str))=some (.bl (!(a == b))):=by
 have h:=Wf a b;unfold qz at h;unfold xP;cases e:bA 60 (.lst (a.map .str)) (.lst (b.map .str)) with
 | none=>rw[e] at h;cases h
 | some r=>
  rw[e] at h;have:r=(a == b):=by injection h with h;injection h
  rw[this]
  rfl
theorem PQ(M:List gb)(k c:List (List Nat)):eO (aB xP 2 (aV 1)) (EnC M k c true) = .ok (!(c == k)) (EnC M k c true):=
 dh (GQ (x:=.lst (c.map .str)) (y:=.lst (k.map .str)) rfl rfl rfl (Y9 c k))
theorem PN{M:List gb}(B:MB M)(k c:List (List Nat))(hc:CB M c):cR.gq (EnC M k c true) = .nx (EnC M c (gU M c) true):=by unfold cR.gq;refine(az (e:=EnC M c c false) rfl).trans ?_;exact(lN (WD B hc (.lst (c.map .str)) false)).trans rfl
theorem Wz{M:List gb}(B:MB M):∀(m:Nat) (k:List (List Nat)),CB M k->PW (gU M k) k->tM k<m->∃c,fK (eO (aB xP 2 (aV 1))) cR.gq m (EnC M k (gU M k) true) = .nx (EnC M c c true)/\c=gU M c/\CB M c:=by
 intro m
 induction m with
 | zero=>intro k _ _ h;omega
 | succ m ih=>
  intro k hk hp hs;have ht:=PQ M k (gU M k);by_cases e:gU M k=k
  ·rw[e,Qk9] at ht;refine⟨k,?_,e.symm,hk⟩;rw[e];exact KB.KJ ht
  ·have hb:(gU M k == k)=false:=Qz1.mpr e;rw[hb] at ht;have hc:CB M (gU M k):=CB.of B (z7 M k);obtain⟨c,h1,h2,h3⟩:=ih (gU M k) hc (Qy hp) (by have:=(PW.lt hp).2 e;omega);exact⟨c,by rw[KB.Dp ht (PN B k (gU M k) hc)];exact h1,h2,h3⟩
theorem certain_starts{M:List gb}(B:MB M):∃c,cR.lz [encM M]=some (.lst (c.map .str))/\c=gU M c/\CB M c:=by
 have he:CB M (ends M):=CB.of B ⟨rfl,λi=>List.prefix_refl _⟩;have hsum:tM (ends M)<=18000:=by
  have h1:=uo (k:=30) (ends M) λz hz=>by
   obtain⟨st,hst,rfl⟩:=Qwy.mp hz;exact B.fin st hst
  have h2:(ends M).length<=600:=by rw[he.1];exact B.few
  have h3:=Qky 30 h2;omega
 obtain⟨c,h1,h2,h3⟩:=Wz B 19999 (ends M) he (z7 M (ends M)) (by omega);refine⟨c,?_,h2,h3⟩;refine bV (env:=EnC M c c false) ?_;unfold cR.pK
 let E0:Ev.Env:=[Zf (encM M),Zf (.lst []),Zn]
 refine(az (e:=E0) rfl).trans ?_;refine(az (e:=EnC M [] (ends M) true) ?_).trans ?_
 ·refine(lN (d:=.lst ((ends M).map .str)) (e:=E0) ?_).trans rfl;unfold cR.mO;refine(xG (lo:=3) (n:=5) (it:=dW (aM 0)) (g:=bK 2 (aD (aj 3) (aD (aj 4) bN))) (e:=aM 3) (env:=E0) M (λst=>.str st.1) rfl rfl rfl (λst u v=>rfl) (λst hst=>rfl) B.few).trans ?_;unfold ends;rw[Qxj]
  rfl
 refine(az ((KB.Dp ?_ (PN B [] (ends M) he)).trans h1)).trans ?_
 ·rw[PQ];have:(ends M == [])=false:=Qz1.mpr λz=>by
   have h1:=he.1;have h2:=B.pos;rw[z,Qx2] at h1;omega
  rw[this]
  rfl
 ·rfl
def mH(c:List (List Nat))(q:List Nat×gb):gb:=(q.2.1.drop q.1.length,q.2.2.map λpt=>((pt.1++c.getD pt.2 []).drop q.1.length,pt.2))
def gh(c:List (List Nat))(M:List gb):List gb:=(c.zip M).map (mH c)
theorem Xu(c:List (List Nat))(M:List gb):oU (c.map .str) (M.map bQ)=(c.zip M).map λq=>.tup [.str q.1,bQ q.2]:=by
 unfold oU;rw[List.zip_map,Qxj]
 rfl
abbrev R9(M:List gb)(c:List (List Nat))(acc:List D)(a3 a4 a5 a6:OD):Ev.Env:=[Zf (encM M),Zf (.lst (c.map .str)),Zl acc,a3,a4,a5,a6]
theorem Ml{M:List gb}(B:MB M){c:List (List Nat)}(hc:CB M c){acc:List D}(ha:acc.length<=600)(u:List Nat){st:gb}(hst:st∈M)(a6:OD) :
  cR.gO (R9 M c acc (Zs u) (Zs st.1) (Zf (.tup (st.2.map aW))) a6) = .nx (R9 M c (acc++[bQ (mH c (u,st))]) (Zs u) (Zs st.1) (Zf (.tup (st.2.map aW))) (Zf (.int (u.length:Int)))):=by
 unfold cR.gO
 let E0:Ev.Env:=R9 M c acc (Zs u) (Zs st.1) (Zf (.tup (st.2.map aW))) (Zf (.int (u.length:Int)))
 refine(az (e:=E0) rfl).trans ?_;have h2:cR.jy (R9 M c acc (Zs u) (Zs st.1) (Zf (.tup (st.2.map aW))) (Zf (.int (u.length:Int)))) = .ok (.lst (st.2.map λpt=>aW ((pt.1++c.getD pt.2 []).drop u.length,pt.2))) (R9 M c acc (Zs u) (Zs st.1) (Zf (.tup (st.2.map aW))) (Zf (.int (u.length:Int)))):=by
  unfold cR.jy;refine vM (lo:=7) (n:=9) (env:=E0) st.2 (λpt=>aW ((pt.1++c.getD pt.2 []).drop u.length,pt.2)) rfl rfl rfl (λpt a b=>rfl) (λpt sY=>?_) (B.stp st hst);have hlt:pt.2<c.length:=by rw[hc.1];exact B.inn st hst pt sY
  refine cA (ds:=[.str ((pt.1++c.getD pt.2 []).drop u.length),.int (pt.2:Int)]) (aH (e1:=R9 M c acc (Zs u) (Zs st.1) (Zf (.tup (st.2.map aW))) (Zf (.int (u.length:Int)))++[Zs pt.1,Zf (.int (pt.2:Int))]) ?_ rfl) Ev.zb;have h3:aB cL 7 (aB dH 1 (aV 8)) (R9 M c acc (Zs u) (Zs st.1) (Zf (.tup (st.2.map aW))) (Zf (.int (u.length:Int)))++[Zs pt.1,Zf (.int (pt.2:Int))]) = .ok (.str (pt.1++c.getD pt.2 [])) (R9 M c acc (Zs u) (Zs st.1) (Zf (.tup (st.2.map aW))) (Zf (.int (u.length:Int)))++[Zs pt.1,Zf (.int (pt.2:Int))]):=by
   refine iz (x:=.str pt.1) (y:=.str (c.getD pt.2 [])) rfl ?_ rfl (add_str ?_)
   ·exact iz (x:=.lst (c.map .str)) (y:=.int (pt.2:Int)) rfl rfl rfl (uJ D.str c (getD_some hlt))
   ·have h1:=B.put st hst pt sY;have h2:=hc.2 pt.2;omega
  unfold tZ;rw[h3];show Ev.R.ok (D.str (cutD (pt.1++c.getD pt.2 []) (some (u.length:Int)) none)) _=_;rw[xU]
 refine(Ev.mL (i:=2) (xs:=acc) (d:=bQ (mH c (u,st))) (e:=E0) rfl ?_ rfl (Qw4 ha (by decide))).trans rfl;refine cA (ds:=[.str (st.1.drop u.length),.tup (st.2.map λpt=>aW ((pt.1++c.getD pt.2 []).drop u.length,pt.2))]) (aH (e1:=E0) ?_ (aH (aJ (aH h2 bz) rfl) bz)) Ev.zb |>.trans ?_
 ·show Ev.R.ok (D.str (cutD st.1 (some (u.length:Int)) none)) _=_;rw[xU]
 ·unfold bQ mH;rw[Qxj]
  rfl
theorem U8{M:List gb}(B:MB M){c:List (List Nat)}(hc:CB M c):∀(l:List (List Nat×gb)) (acc:List D) (a3 a4 a5 a6:OD),acc.length+l.length<=600->(∀q∈l,q.2∈M)->
  ∃b3 b4 b5 b6,je (bK 2 (aD (aj 3) (aD (bK 2 (aD (aj 4) (aD (aj 5) bN))) bN))) cR.gO (l.map λq=>.tup [.str q.1,bQ q.2]) (R9 M c acc a3 a4 a5 a6) = .nx (R9 M c (acc++l.map λq=>bQ (mH c q)) b3 b4 b5 b6)
 | [],acc,a3,a4,a5,a6,_,_=>⟨a3,a4,a5,a6,by rw[Qv1,Qv1,Qxq];rfl⟩
 | q::l,acc,a3,a4,a5,a6,hl,hm=>by
  rw[Qqw] at hl;obtain⟨b3,b4,b5,b6,h⟩:=U8 B hc l (acc++[bQ (mH c q)]) (Zs q.1) (Zs q.2.1) (Zf (.tup (q.2.2.map aW))) (Zf (.int (q.1.length:Int))) (by rw[Qqj,Qwq];omega) λr hr=>hm r (Qqk _ hr);refine⟨b3,b4,b5,b6,?_⟩;rw[Qq8,Qq8];have e:acc++bQ (mH c q)::(l.map λq=>bQ (mH c q))=(acc++[bQ (mH c q)])++l.map λq=>bQ (mH c q):=by simp
  rw[e,<-h];exact KB.p6 rfl (Ml B hc (by omega) q.1 (hm q (Qqv ..)) a6)
theorem put_out_early{M:List gb}(B:MB M):∃c,cR.mF [encM M]=some (.tup [.str (c.getD 0 []),encM (gh c M)])/\c=gU M c/\CB M c:=by
 obtain⟨c,h1,h2,h3⟩:=certain_starts B;refine⟨c,?_,h2,h3⟩;obtain⟨b3,b4,b5,b6,g⟩:=U8 B h3 (c.zip M) [] none none none none (by rw[Qx2,List.length_zip,h3.1];have:=B.few;omega) λq hq=>(List.of_mem_zip hq).2;have hc0:c[0]? = some (c.getD 0 []):=getD_some (by rw[h3.1];exact B.pos);refine bV (env:=[Zf (encM M),Zf (.lst (c.map .str)),Zf (encM (gh c M)),b3,b4,b5,b6]) ?_;unfold cR.qD;refine(az (e:=[Zf (encM M),Zf (.lst (c.map .str)),Zn,Zn,Zn,Zn,Zn]) (bC (d:=.lst (c.map .str)) (e:=[Zf (encM M),Zn,Zn,Zn,Zn,Zn,Zn]) (aJ (ds:=[encM M]) rfl h1) rfl)).trans ?_;refine(az (e:=R9 M c [] none none none none) rfl).trans ?_;refine(az ((dq (ds:=(c.zip M).map λq=>.tup [.str q.1,bQ q.2]) (e:=R9 M c [] none none none none) ?_).trans g)).trans ?_
 ·show Ev.R.ok (oU (c.map .str) (M.map bQ)) _=_;rw[Xu]
 ·have e:[]++(c.zip M).map (λq=>bQ (mH c q))=(gh c M).map bQ:=by
   unfold gh;rw[List.nil_append,Qxj]
   rfl
  rw[e];refine bH (cA (ds:=[.str (c.getD 0 []),encM (gh c M)]) (aH (e1:=R9 M c ((gh c M).map bQ) b3 b4 b5 b6) ?_ rfl) Ev.zb);exact iz (x:=.lst (c.map .str)) (y:=.int 0) rfl rfl rfl (uJ (q:=0) D.str c hc0)
theorem Ws{c:List (List Nat)}{M:List gb}(h:c.length=M.length):abm M (gh c M) c:=by
 intro i;unfold gh;rw[Qwv];cases e:M[i]? with
 | none=>
  have:(c.zip M)[i]? = none:=Qkz (by
   have:=List.getElem?_eq_none_iff.mp e;rw[List.length_zip];omega)
  rw[this]
  rfl
 | some st=>
  have hi:i<c.length:=by rw[h];exact(Qq4.mp e).1
  have:(c.zip M)[i]? = some (c.getD i [],st):=by rw[List.getElem?_zip_eq_some];exact⟨getD_some hi,e⟩
  rw[this]
  rfl
theorem RK{c:List (List Nat)}{M:List gb}(h:c.length=M.length):(gh c M).length=M.length:=by unfold gh;rw[Qqx,List.length_zip,h,Nat.min_self]
open K17 (rZ)
def o5(l:List Nat):List D:=l.map λ(k:Nat)=>.int (k:Int)
section
variable{T:Type}[DecidableEq T]{en:T->D}{key:T->NK}(Y:Xi en key)
include Y
theorem acZ(A0:OD)(us:List T)(t:T)(h:us.length<=700):cR.lJ [A0,Zt (.gC (qQ en 0 us)),Zf (en t)] = .nx [A0,Zt (.gC (qQ en 0 (jR us t))),Zf (en t)]:=by
 have ht:eO (aB pZ 2 (aV 1)) [A0,Zt (.gC (qQ en 0 us)),Zf (en t)] = .ok (!decide (t∈us)) [A0,Zt (.gC (qQ en 0 us)),Zf (en t)]:=
  dh (iz (i:=2) (b:=aV 1) (x:=en t) (y:=.gC (qQ en 0 us)) rfl rfl rfl (Ef Y us t))
 unfold cR.lJ;by_cases hm:t∈us
 ·rw[Qw8 hm] at ht;rw[fB ht];have e:jR us t=us:=if_pos hm;rw[e]
  rfl
 ·rw[Qw0 hm] at ht;rw[ik ht];have e:jR us t=us++[t]:=if_neg hm
  let E0:Ev.Env:=[A0,Zt (.gC (qQ en 0 us)),Zf (en t)]
  have s4:=rZ (i:=1) (k:=aM 2) (a:=au JM (aa (aV 1) ak)) (env:=E0) (e1:=E0) (e2:=E0) (d:=.int ((qQ en 0 us).length:Int)) (kd:=en t) (z:=.gC (qQ en 0 us)) (o:=true) (q:=key t) (kvs:=qQ en 0 us) rfl rfl rfl rfl (Y.nk t)
   (by rw[zE];exact Qw4 h (by decide))
  rw[zE,O5 Y us t hm] at s4;rw[s4,e]
  rfl
theorem Vv(A0:OD):∀(ts us:List T) (a2:OD),us.length+ts.length<=700->∃b2,je (aj 2) cR.lJ (ts.map en) [A0,Zt (.gC (qQ en 0 us)),a2] = .nx [A0,Zt (.gC (qQ en 0 (ts.foldl jR us))),b2]
 | [],us,a2,_=>⟨a2,rfl⟩
 | t::ts,us,a2,h=>by
  rw[Qqw] at h;have hl:=W6 us t;obtain⟨b2,g⟩:=Vv A0 ts (jR us t) (Zf (en t)) (by omega);exact⟨b2,by rw[Qq8,Qj0,<-g];exact KB.p6 rfl (acZ Y A0 us t (by omega))⟩
theorem numbered(ts:List T)(h:ts.length<=600):cR.qd [.lst (ts.map en)]=some (.lst (o5 (nums ts))):=by
 obtain⟨b2,g⟩:=Vv Y (Zf (.lst (ts.map en))) ts [] none (by rw[Qx2];omega)
 let E0:Ev.Env:=[Zf (.lst (ts.map en)),Zt (.gC (qQ en 0 (uniq ts))),b2]
 refine bV (env:=E0) ?_;unfold cR.Ce
 let E1:Ev.Env:=[Zf (.lst (ts.map en)),Zt (.gC []),Zn]
 refine(az (e:=E1) rfl).trans ?_;refine(az ((dq (ds:=ts.map en) (e:=E1) rfl).trans g)).trans ?_;refine bH ?_;unfold cR.tV;refine(GJ (lo:=3) (n:=4) (it:=dW (aM 0)) (e:=aB vW 1 (aV 3)) (env:=E0) (aL:=E0) ts en (λt=>.int (cU (uniq ts) t:Int)) rfl rfl rfl (λt ht=>?_) (Qq3 h (by decide))).trans ?_
 ·exact GQ (i:=1) (b:=aV 3) (x:=.gC (qQ en 0 (uniq ts))) (y:=en t) rfl rfl rfl (O6 Y (uniq ts) t (jj.mpr ht))
 ·unfold o5 nums;rw[Qxj]
  rfl
end
theorem Ba{α:Type}{f:α->D}{k:α->NK}(h:∀a,qP (f a)=some (k a)):∀l:List α,qN (l.map f)=some (l.map k)
 | []=>rfl
 | a::l=>by
  rw[Qq8];unfold qN;rw[h a,Ba h l]
  rfl
theorem BP{α:Type}{k:α->NK}(h:∀a,(k a).dep=0):∀l:List α,NK.nO (l.map k)=0
 | []=>by unfold NK.nO;rfl
 | a::l=>by
  rw[Qq8];unfold NK.nO;rw[h a,BP h l]
  rfl
theorem Vr{xs:List D}{q:NK}(h:qP (.tup xs)=some q)(hd:q.dep<=8):Jo (.tup xs)=some q:=by unfold Jo;simp only[h,Option.bind_some];exact if_pos hd
def en1(t:List Nat×List (List Nat)):D:=.tup [.str t.1,.tup (t.2.map .str)]
def afP(t:List Nat×List (List Nat)):NK:=.tup [.txt (strOf t.1),.tup (t.2.map λz=>.txt (strOf z))]
def en2(t:Nat×List Nat):D:=.tup [.int (t.1:Int),.tup (o5 t.2)]
def afO(t:Nat×List Nat):NK:=.tup [.num (t.1:Int),.tup (t.2.map λ(z:Nat)=>.num (z:Int))]
theorem map_inj{α β:Type}{f:α->β}(h:∀a b,f a=f b->a=b):∀{l m:List α},l.map f=m.map f->l=m
 | [],[],_=>rfl
 | [],_::_,e=>by cases e
 | _::_,[],e=>by cases e
 | a::l,b::m,e=>by
  obtain⟨e1,e2⟩:=Qj9 e;rw[h a b e1,map_inj h e2]
theorem afN:Xi en1 afP:=by
 refine⟨λt=>Vr ?_ ?_,λp q h=>?_⟩
 ·have h1:qN (t.2.map D.str)=some (t.2.map λz=>NK.txt (strOf z)):=Ba (λz=>by unfold qP;rfl) t.2;unfold qP qN qN qN;unfold qP;rw[h1]
  rfl
 ·unfold afP;have:NK.nO (t.2.map λz=>NK.txt (strOf z))=0:=BP (λz=>by unfold NK.dep;rfl) t.2;simp[NK.dep,NK.nO,this]
 ·obtain⟨h1,h2⟩:=Qj9 (NK.tup.inj h);obtain⟨h3,_⟩:=Qj9 h2;have e1:p.1=q.1:=SX.mY (NK.txt.inj h1);have e2:p.2=q.2:=map_inj (λa b e=>SX.mY (NK.txt.inj e)) (NK.tup.inj h3);exact Prod.ext e1 e2
theorem afM:Xi en2 afO:=by
 refine⟨λt=>Vr ?_ ?_,λp q h=>?_⟩
 ·have h1:qN (o5 t.2)=some (t.2.map λ(z:Nat)=>NK.num (z:Int)):=Ba (λz=>by unfold qP;rfl) t.2;unfold qP qN qN qN;unfold qP;rw[h1]
  rfl
 ·unfold afO;have:NK.nO (t.2.map λ(z:Nat)=>NK.num (z:Int))=0:=BP (λz=>by unfold NK.dep;rfl) t.2;simp[NK.dep,NK.nO,this]
 ·obtain⟨h1,h2⟩:=Qj9 (NK.tup.inj h);obtain⟨h3,_⟩:=Qj9 h2;have e1:p.1=q.1:=Int.ofNat.inj (NK.num.inj h1);have e2:p.2=q.2:=map_inj (λa b e=>Int.ofNat.inj (NK.num.inj e)) (NK.tup.inj h3);exact Prod.ext e1 e2
theorem Gw{l:List Nat}{q:Nat}(h:q<l.length):dH (.lst (o5 l)) (.int (q:Int))=some (.int ((l.getD q 0:Nat):Int)):=
 uJ (λ(k:Nat)=>D.int (k:Int)) l (by rw[Qq7,Qq9 h];rfl)
theorem VD{M:List gb}(B:MB M):cR.kZ [Zf (encM M),Zn,Zn] = .ok (.lst ((iZ M).map en1)) [Zf (encM M),Zn,Zn]:=by
 unfold cR.kZ;refine(xG (lo:=3) (n:=5) (it:=dW (aM 0)) (g:=bK 2 (aD (aj 3) (aD (aj 4) bN))) (e:=bY (Zv 3 (aa (au cI (aa (cR.jc) ak)) ak))) (env:=[Zf (encM M),Zn,Zn]) M (λst=>en1 (st.1,st.2.map (·.1))) rfl rfl rfl (λst u v=>rfl) (λst hst=>?_) B.few).trans ?_
 ·have h2:cR.jc [Zf (encM M),Zn,Zn,Zs st.1,Zf (.tup (st.2.map aW))] = .ok (.lst (st.2.map λpt=>.str pt.1)) [Zf (encM M),Zn,Zn,Zs st.1,Zf (.tup (st.2.map aW))]:=by
   unfold cR.jc;exact vM (lo:=5) (n:=7) (it:=dW (aM 4)) (g:=bK 2 (aD (aj 5) (aD (aj 6) bN))) (e:=aM 5) (env:=[Zf (encM M),Zn,Zn,Zs st.1,Zf (.tup (st.2.map aW))]) st.2 (λpt=>.str pt.1) rfl rfl rfl (λpt u v=>rfl) (λpt sY=>rfl) (B.stp st hst)
  refine(cA (ds:=[.str st.1,.tup (st.2.map λpt=>.str pt.1)]) (aH (e1:=[Zf (encM M),Zn,Zn,Zs st.1,Zf (.tup (st.2.map aW))]) rfl (aH (aJ (aH h2 bz) rfl) bz)) Ev.zb).trans ?_;unfold en1;rw[Qxj]
  rfl
 ·unfold iZ;rw[Qxj]
  rfl
abbrev Dj(M:List gb)(g:List Nat)(m:Nat):Ev.Env:=[Zf (encM M),Zf (.lst (o5 g)),Zf (.int (m:Int))]
theorem Wo(M:List gb):Er (M.map bQ)=M.zipIdx.map λp=>.tup [.int (p.2:Nat),bQ p.1]:=by
 unfold Er;rw[List.zipIdx_map,Qxj]
 rfl
theorem Zh{M:List gb}(B:MB M){g:List Nat}(hg:g.length=M.length)(m:Nat):cR.kY (Dj M g m) = .ok (.lst ((dg M g).map en2)) (Dj M g m):=by
 unfold cR.kY;have:=Bt (lo:=3) (n:=6) (it:=zM (Zv 0 ak)) (g:=bK 2 (aD (aj 3) (aD (bK 2 (aD (aj 4) (aD (aj 5) bN))) bN))) (c:=bZ) (e:=bY (aa (aB dH 1 (aV 3)) (aa (au cI (aa (cR.jb) ak)) ak))) (env:=Dj M g m) (aL:=Dj M g m) M.zipIdx (λp=>.tup [.int (p.2:Nat),bQ p.1])
  (λp=>[Zf (.int (p.2:Nat)),Zs p.1.1,Zf (.tup (p.1.2.map aW))]) (λ_=>true) (λp=>en2 (g.getD p.2 0,p.1.2.map λpt=>g.getD pt.2 0)) (by
   show Ev.R.ok (Er (M.map bQ)) _=_;rw[Wo]) rfl (λp hp=>⟨rfl,λvs hv=>?_,rfl,λ_=>?_⟩) (by rw[List.length_zipIdx];exact Qq3 B.few (by decide))
 ·rw[this,Qk7.mpr (λ_ _=>rfl)];unfold dg;rw[Qxj]
  rfl
 ·match vs,hv with
  | [u,v,w],_=>rfl
 ·obtain⟨st,i⟩:=p;have hi:M[i]? = some st:=by
   have:=List.mem_zipIdx_iff_getElem?.mp hp;exact this
  have hst:=Qww hi;have hil:i<g.length:=by rw[hg];exact(Qq4.mp hi).1
  have h2:cR.jb (Dj M g m++[Zf (.int (i:Nat)),Zs st.1,Zf (.tup (st.2.map aW))]) = .ok (.lst (st.2.map λpt=>.int ((g.getD pt.2 0:Nat):Int))) (Dj M g m++[Zf (.int (i:Nat)),Zs st.1,Zf (.tup (st.2.map aW))]):=by unfold cR.jb;refine vM (lo:=6) (n:=8) (it:=dW (aM 5)) (g:=bK 2 (aD (aj 6) (aD (aj 7) bN))) (e:=aB dH 1 (aV 7)) (env:=Dj M g m++[Zf (.int (i:Nat)),Zs st.1,Zf (.tup (st.2.map aW))]) st.2 (λpt=>.int ((g.getD pt.2 0:Nat):Int)) rfl rfl rfl (λpt u v=>rfl) (λpt sY=>?_) (B.stp st hst);exact iz (i:=1) (b:=aV 7) (x:=.lst (o5 g)) (y:=.int (pt.2:Int)) rfl rfl rfl (Gw (by rw[hg];exact B.inn st hst pt sY))
  refine(cA (ds:=[.int ((g.getD i 0:Nat):Int),.tup (st.2.map λpt=>.int ((g.getD pt.2 0:Nat):Int))]) (aH (e1:=Dj M g m++[Zf (.int (i:Nat)),Zs st.1,Zf (.tup (st.2.map aW))]) ?_ (aH (aJ (aH h2 bz) rfl) bz)) Ev.zb).trans ?_
  ·exact iz (i:=1) (b:=aV 3) (x:=.lst (o5 g)) (y:=.int (i:Int)) rfl rfl rfl (Gw hil)
  ·unfold en2 o5;rw[Qxj]
   rfl
theorem VG(g:List Nat)(h:g.length<=600):j0 (.lst (o5 g))=some (.int (cnt g:Int)):=by
 have e:o5 g=(g.map λ(k:Nat)=>(k:Int)).map D.int:=by unfold o5;rw[Qxj];rfl
 rw[e];show(Bl ((g.map λ(k:Nat)=>(k:Int)).map D.int)).bind _=_;rw[JC];show(if (g.map λ(k:Nat)=>(k:Int)).length<4000 then _ else _)=_;rw[if_pos (by rw[Qqx];omega)]
 rfl
theorem VB{M:List gb}(B:MB M):∀(m n:Nat) (g:List Nat),7000<=n+m->n<=600->nJ M g->(n=0\/∃g0,nJ M g0/\g=nums (dg M g0)/\n=cnt g0)->
  ∃g' g0 n',fK (eO (aB Hl 2 (wg j0 (aM 1)))) cR.iY m (Dj M g n) = .nx (Dj M g' n')/\nJ M g0/\g'=nums (dg M g0)/\cnt g'<=cnt g0:=by
 intro m
 induction m with
 | zero=>intro n g h1 h2;omega
 | succ m ih=>
  intro n g hm hn P hw;have hg6:g.length<=600:=by rw[P.len];exact B.few
  have ht:eO (aB Hl 2 (wg j0 (aM 1))) (Dj M g n) = .ok (decide (n<cnt g)) (Dj M g n):=by
   refine dh (iz (i:=2) (b:=wg j0 (aM 1)) (env:=Dj M g n) (e2:=Dj M g n) (x:=.int (n:Int)) (y:=.int (cnt g:Int)) rfl ?_ rfl (Gq n (cnt g)));show jf (j0 (.lst (o5 g))) _=_;rw[VG g hg6]
   rfl
  by_cases hlt:n<cnt g
  ·rw[Qw8 hlt] at ht;have hb:cR.iY (Dj M g n) = .nx (Dj M (nums (dg M g)) (cnt g)):=by
    unfold cR.iY;refine(az (e:=Dj M g (cnt g)) (bC (d:=.int (cnt g:Int)) (e:=Dj M g n) ?_ rfl)).trans ?_
    ·show jf (j0 (.lst (o5 g))) _=_;rw[VG g hg6]
     rfl
    ·exact bC (d:=.lst (o5 (nums (dg M g)))) (e:=Dj M g (cnt g)) (aJ (aH (Zh B P.len (cnt g)) bz) (numbered afM (dg M g) (by rw[lK];exact B.few))) rfl
   rw[KB.Dp ht hb];have hc:=adR g;exact ih (cnt g) (nums (dg M g)) (by omega) (by omega) P.next (.inr ⟨g,P,rfl,rfl⟩)
  ·rw[Qw0 hlt] at ht;rcases hw with h0|⟨g0,P0,e1,e2⟩
   ·have:=Z6 (g:=g) (by rw[P.len];exact B.pos);omega
   ·exact⟨g,g0,n,KB.KJ ht,P0,e1,by omega⟩
theorem like_states{M:List gb}(B:MB M):∃g g0,cR.o7 [encM M]=some (.lst (o5 g))/\nJ M g0/\g=nums (dg M g0)/\cnt g<=cnt g0:=by obtain⟨g,g0,n,h1,h2,h3,h4⟩:=VB B 7000 0 (nums (iZ M)) (by omega) (by omega) (YS M) (.inl rfl);refine⟨g,g0,bV (env:=Dj M g n) ?_,h2,h3,h4⟩;unfold cR.ue;refine(az (e:=[Zf (encM M),Zf (.lst (o5 (nums (iZ M)))),Zn]) (bC (d:=.lst (o5 (nums (iZ M)))) (e:=[Zf (encM M),Zn,Zn]) (aJ (aH (VD B) bz) (numbered afN (iZ M) (by unfold iZ;rw[Qqx];exact B.few))) rfl)).trans ?_;refine(az (e:=Dj M (nums (iZ M)) 0) rfl).trans ?_;exact(az h1).trans rfl
def Dc:Nat->List Nat->List (D×D)
 | _,[]=>[]
 | n,v::vs=>(.int (v:Int),.int (n:Int))::Dc (n+1) vs
theorem Jy:∀(us:List Nat) (n:Nat) (t:Nat),Dc n (us++[t])=Dc n us++[(.int (t:Int),.int ((n+us.length:Nat):Int))]
 | [],n,t=>rfl
 | u::us,n,t=>by
  show(D.int (u:Int),D.int (n:Int))::Dc (n+1) (us++[t])=(D.int (u:Int),D.int (n:Int))::(Dc (n+1) us++_);rw[Jy us (n+1) t,Qqw];have:n+1+us.length=n+(us.length+1):=by omega
  rw[this]
theorem O7:∀(us:List Nat) (n:Nat),(Dc n us).length=us.length
 | [],n=>rfl
 | u::us,n=>by
  show(Dc (n+1) us).length+1=us.length+1;rw[O7 us]
theorem zF:∀(us:List Nat) (n t:Nat),jQ (Dc n us) (.inl (t:Int))=if t∈us then some (.int ((n+cU us t:Nat):Int)) else none
 | [],n,t=>by simp[Dc,jQ]
 | u::us,n,t=>by
  have ih:=zF us (n+1) t;show(if mD (.int (u:Int))=some (.inl (t:Int)) then _ else _)=_;by_cases h:u=t
  ·subst h;have ei:cU (u::us) u=0:=by unfold cU;rw[if_pos rfl]
   rw[if_pos (show mD (.int (u:Int))=some (.inl (u:Int)) from rfl),if_pos (Qqv ..),ei]
   rfl
  ·have hne:¬(mD (.int (u:Int))=some (.inl (t:Int))):=λe=>h (by
    have e1:=Qw2 (show some (Sum.inl (u:Int):Key)=some (.inl (t:Int)) from e);exact Int.ofNat.inj (Sum.inl.inj e1))
   have ei:cU (u::us) t=cU us t+1:=by conv=>lhs;unfold cU;rw[if_neg h]
   rw[if_neg hne,ih,ei];by_cases hm:t∈us
   ·rw[if_pos hm,if_pos (Qqk _ hm)];have:n+1+cU us t=n+(cU us t+1):=by omega
    rw[this]
   ·rw[if_neg hm,if_neg λz=>(Qq1.mp z).elim (λe=>h e.symm) hm]
theorem Rj(us:List Nat)(t:Nat):pF (.int (t:Int)) (.dct (Dc 0 us))=some (.bl (!decide (t∈us))):=by
 show some (D.bl (!(jQ (Dc 0 us) (.inl (t:Int))).isSome))=_;rw[zF];by_cases h:t∈us
 ·rw[if_pos h,Qw8 h];rfl
 ·rw[if_neg h,Qw0 h];rfl
theorem Zo{us:List Nat}{t:Nat}(h:t∈us):jq (.dct (Dc 0 us)) (.int (t:Int))=some (.int (cU us t:Int)):=by show jQ (Dc 0 us) (.inl (t:Int))=_;rw[zF,if_pos h,Nat.zero_add]
theorem Zm{us:List Nat}{t:Nat}(h:t ∉ us):putD (Dc 0 us) (.int (t:Int)) (.inl (t:Int)) (.int (us.length:Int))=Dc 0 (us++[t]):=by
 unfold putD;rw[zF,if_neg h,Jy,Nat.zero_add]
 rfl
theorem ZZ{i:Nat}{k a:Ev}{env e1 e2:Ev.Env}{d kd z:D}{o:Bool}{q:Key}{kvs:List (D×D)}(h1:a env = .ok d e1)(h0:e1[i]? = some (some (o,z)))(h2:k e1 = .ok kd e2)(h3:e2[i]? = some (Zt (.dct kvs)))(h4:mD kd=some q)(h5:kvs.length<sizeLine):oV i k a env = .nx (e2.set i (Zt (.dct (putD kvs kd q d)))):=by unfold oV;simp only[h1,iW,h0,h2,h3,h4,if_pos h5]
def grp(g:List Nat)(i:Nat):Nat:=g.getD i 0
def gs(g kept:List Nat):List Nat:=kept.map (grp g)
def qO(g kept:List Nat)(to:Nat):List Nat:=if grp g to∈gs g kept then kept else kept++[to]
theorem Wa(g kept:List Nat)(to:Nat):gs g (qO g kept to)=jR (gs g kept) (grp g to):=by
 unfold qO jR;split
 ·rfl
 ·unfold gs;rw[Qw6];rfl
def jk(g kept:List Nat)(pt:List Nat×Nat):List Nat×Nat:=(pt.1,cU (gs g kept) (grp g pt.2))
abbrev yJ(M:List gb)(g kept:List Nat)(told:List D)(a5 a6 a7 a8 a9:OD):Ev.Env:=
 [Zf (encM M),Zf (.lst (o5 g)),Zt (.dct (Dc 0 (gs g kept))),Zl (o5 kept),Zl told,a5,a6,a7,a8,a9]
structure Xh(M:List gb)(g kept:List Nat):Prop where
 nd:(gs g kept).Nodup
 z0:kept[0]? = some 0
 inn:∀k∈kept,k<M.length
theorem Xh.few{M:List gb}(B:MB M){g kept:List Nat}(K:Xh M g kept):kept.length<=600:=by
 have hn:kept.Nodup:=by have:=K.nd;unfold gs at this;exact(List.pairwise_map.mp this).imp λh e=>h (Qx5 _ e)
 have:=KB.rJ (List.range M.length) kept hn λk hk=>Qkk.mpr (K.inn k hk);rw[List.length_range] at this;exact Qq3 this B.few
theorem Xh.add{M:List gb}{g kept:List Nat}(K:Xh M g kept){to:Nat}(h:to<M.length):Xh M g (qO g kept to):=by
 refine⟨by rw[Wa];exact Hg _ K.nd,?_,λk hk=>?_⟩
 ·unfold qO;split
  ·exact K.z0
  ·exact KB.Pk K.z0
 ·unfold qO at hk;split at hk
  ·exact K.inn k hk
  ·rcases Qw1.mp hk with hk|hk
   ·exact K.inn k hk
   ·rw[Qqy.mp hk];exact h
theorem afR{M:List gb}(B:MB M){g kept:List Nat}(hg:g.length=M.length)(K:Xh M g kept){told steps:List D}(hs:steps.length<=100){pt:List Nat×Nat}(hp:pt.2<M.length)(a5 a6:OD) :
  cR.ou (yJ M g kept told a5 a6 (Zl steps) (Zs pt.1) (Zf (.int (pt.2:Int)))) =
   .nx (yJ M g (qO g kept pt.2) told a5 a6 (Zl (steps++[aW (jk g (qO g kept pt.2) pt)])) (Zs pt.1) (Zf (.int (pt.2:Int)))):=by
 obtain⟨put,to⟩:=pt;have hfew:=K.few B;have gx:dH (.lst (o5 g)) (.int (to:Int))=some (.int ((grp g to:Nat):Int)):=Gw (by rw[hg];exact hp);have ix:∀(kp:List Nat) (st:List D),aB dH 1 (aV 9) (yJ M g kp told a5 a6 (Zl st) (Zs put) (Zf (.int (to:Int)))) = .ok (.int ((grp g to:Nat):Int)) (yJ M g kp told a5 a6 (Zl st) (Zs put) (Zf (.int (to:Int)))):=λkp st=>
  iz (i:=1) (b:=aV 9) (x:=.lst (o5 g)) (y:=.int (to:Int)) rfl rfl rfl gx
 have fin:∀kp:List Nat,grp g to∈gs g kp->dw 7 (bY (Zv 8 (aa (aB jq 2 (aB dH 1 (aV 9))) ak))) (yJ M g kp told a5 a6 (Zl steps) (Zs put) (Zf (.int (to:Int)))) =
   .nx (yJ M g kp told a5 a6 (Zl (steps++[aW (jk g kp (put,to))])) (Zs put) (Zf (.int (to:Int)))):=λkp hm=>by
  let E1:Ev.Env:=yJ M g kp told a5 a6 (Zl steps) (Zs put) (Zf (.int (to:Int)))
  refine(Ev.mL (i:=7) (xs:=steps) (d:=aW (jk g kp (put,to))) (e:=E1) rfl ?_ rfl (Qw4 hs (by decide))).trans rfl;refine cA (ds:=[.str put,.int (cU (gs g kp) (grp g to):Int)]) (aH (e1:=E1) rfl (aH ?_ bz)) Ev.zb;exact GQ (i:=2) (x:=.dct (Dc 0 (gs g kp))) (y:=.int ((grp g to:Nat):Int)) rfl (ix kp steps) rfl (Zo hm)
 have ht:eO (aO pF (aB dH 1 (aV 9)) (aV 2)) (yJ M g kept told a5 a6 (Zl steps) (Zs put) (Zf (.int (to:Int)))) = .ok (!decide (grp g to∈gs g kept)) (yJ M g kept told a5 a6 (Zl steps) (Zs put) (Zf (.int (to:Int)))):=
  dh (bF (x:=.int ((grp g to:Nat):Int)) (y:=.dct (Dc 0 (gs g kept))) (ix kept steps) rfl (Rj (gs g kept) (grp g to)))
 unfold cR.ou;by_cases hm:grp g to∈gs g kept
 ·rw[Qw8 hm] at ht;have e:qO g kept to=kept:=if_pos hm;show _=Out.nx (yJ M g (qO g kept to) told a5 a6 (Zl (steps++[aW (jk g (qO g kept to) (put,to))])) (Zs put) (Zf (.int (to:Int))));rw[e];exact(az (fB ht)).trans (fin kept hm)
 ·rw[Qw0 hm] at ht;have e:qO g kept to=kept++[to]:=if_neg hm;show _=Out.nx (yJ M g (qO g kept to) told a5 a6 (Zl (steps++[aW (jk g (qO g kept to) (put,to))])) (Zs put) (Zf (.int (to:Int))));rw[e];have e2:gs g (kept++[to])=gs g kept++[grp g to]:=by unfold gs;rw[Qw6];rfl
  refine(az ?_).trans (fin (kept++[to]) (by rw[e2];simp));refine(ik ht).trans ?_
  let E0:Ev.Env:=yJ M g kept told a5 a6 (Zl steps) (Zs put) (Zf (.int (to:Int)))
  have s4:=ZZ (i:=2) (k:=aB dH 1 (aV 9)) (a:=au d8 (aa (aV 3) ak)) (env:=E0) (e1:=E0) (e2:=E0) (d:=.int ((o5 kept).length:Int)) (kd:=.int ((grp g to:Nat):Int)) (z:=.dct (Dc 0 (gs g kept))) (o:=true) (q:=.inl ((grp g to:Nat):Int)) (kvs:=Dc 0 (gs g kept)) rfl rfl (ix kept steps) rfl rfl
   (by rw[O7];unfold gs;rw[Qqx];exact Qw4 hfew (by decide))
  have e3:(o5 kept).length=(gs g kept).length:=by unfold o5 gs;rw[Qqx,Qqx]
  rw[e3,Zm hm,<-e2] at s4;rw[az s4];refine(Ev.mL (i:=3) (xs:=o5 kept) (d:=.int (to:Int)) (e:=[Zf (encM M),Zf (.lst (o5 g)),Zt (.dct (Dc 0 (gs g (kept++[to])))),Zl (o5 kept),Zl told,a5,a6,Zl steps,Zs put,Zf (.int (to:Int))]) rfl rfl rfl (by unfold o5;rw[Qqx];exact Qw4 hfew (by decide))).trans ?_;have e5:o5 kept++[.int (to:Int)]=o5 (kept++[to]):=by unfold o5;rw[Qw6];rfl
  rw[e5]
  rfl
theorem z8{g kept more:List Nat}{pt:List Nat×Nat}(h:grp g pt.2∈gs g kept):jk g (kept++more) pt=jk g kept pt:=by
 unfold jk;have e:gs g (kept++more)=gs g kept++gs g more:=by unfold gs;rw[Qw6]
 rw[e,vQ _ h]
theorem R5(g kept:List Nat)(to:Nat):∃more,qO g kept to=kept++more:=by
 unfold qO;split
 ·exact⟨[],(Qxq _).symm⟩
 ·exact⟨_,rfl⟩
theorem afS{M:List gb}(B:MB M){g:List Nat}(hg:g.length=M.length){told:List D}(a5 a6:OD)(S:List (List Nat×Nat))(hS:S.length<=50)(hin:∀pt∈S,pt.2<M.length):∀(rest done:List (List Nat×Nat)) (kept:List Nat) (a8 a9:OD),S=done++rest->Xh M g kept->(∀pt∈done,grp g pt.2∈gs g kept)->
  ∃kept' b8 b9,je (bK 2 (aD (aj 8) (aD (aj 9) bN))) cR.ou (rest.map aW) (yJ M g kept told a5 a6 (Zl (done.map λpt=>aW (jk g kept pt))) a8 a9) =
   .nx (yJ M g kept' told a5 a6 (Zl (S.map λpt=>aW (jk g kept' pt))) b8 b9)/\Xh M g kept'/\(∀pt∈S,grp g pt.2∈gs g kept')/\∃more,kept'=kept++more:=by
 intro rest
 induction rest with
 | nil=>
  intro done kept a8 a9 hx K hd;rw[Qxq] at hx;subst hx;exact⟨kept,a8,a9,rfl,K,hd,[],by rw[Qxq]⟩
 | cons pt rest ih=>
  intro done kept a8 a9 hx K hd;have sY:pt∈S:=by rw[hx];simp
  have hx':S=(done++[pt])++rest:=by rw[hx];simp
  have hdl:done.length<=50:=by have:=Qx5 List.length hx;rw[Qqj] at this;omega
  have h1:=afR B hg K (told:=told) (steps:=done.map λpt=>aW (jk g kept pt)) (by rw[Qqx];omega) (hin pt sY) a5 a6;have K':=K.add (hin pt sY);obtain⟨m1,em⟩:=R5 g kept pt.2;have hs:(done.map λq=>aW (jk g kept q))++[aW (jk g (qO g kept pt.2) pt)]=(done++[pt]).map λq=>aW (jk g (qO g kept pt.2) q):=by
   rw[Qw6]
   congr 1
   refine Qx9 λq hq=>?_;rw[em,z8 (hd q hq)]
  rw[hs] at h1;obtain⟨kept',b8,b9,g1,g2,g3,more,g4⟩:=ih (done++[pt]) (qO g kept pt.2) (Zs pt.1) (Zf (.int (pt.2:Int))) hx' K' (λq hq=>by
   rw[Wa];rcases Qw1.mp hq with hq|hq
   ·exact(pL _ _ _).mpr (.inl (hd q hq))
   ·rw[Qqy.mp hq];exact EY _ _)
  refine⟨kept',b8,b9,?_,g2,g3,m1++more,by rw[g4,em,Qxv]⟩;rw[<-g1,Qq8];exact KB.p6 rfl h1
def my(M:List gb)(g kept:List Nat)(k:Nat):gb:=((M.getD k ([],[])).1,(M.getD k ([],[])).2.map (jk g kept))
structure Led(M:List gb)(g kept:List Nat):Prop extends Xh M g kept where
 led:∀k∈kept,∀pt∈(M.getD k ([],[])).2,grp g pt.2∈gs g kept
theorem getM{M:List gb}{k:Nat}(h:k<M.length):M[k]? = some (M.getD k ([],[])):=by rw[Qq7,Qq9 h];rfl
theorem Zq{M:List gb}(B:MB M){g:List Nat}(hg:g.length=M.length):∀(m n:Nat) (kept:List Nat) (a5 a6 a7 a8 a9:OD),n+m=7000->n<=kept.length->Xh M g kept->(∀k∈kept.take n,∀pt∈(M.getD k ([],[])).2,grp g pt.2∈gs g kept)->
  ∃kept' b5 b6 b7 b8 b9,fK (eO (aO Hl (au d8 (aa (aV 4) ak)) (au d8 (aa (aV 3) ak)))) cR.nU m (yJ M g kept ((kept.take n).map λk=>bQ (my M g kept k)) a5 a6 a7 a8 a9) =
   .nx (yJ M g kept' (kept'.map λk=>bQ (my M g kept' k)) b5 b6 b7 b8 b9)/\Led M g kept':=by
 intro m
 induction m with
 | zero=>
  intro n kept a5 a6 a7 a8 a9 hm hn K hc;have:=K.few B;omega
 | succ m ih=>
  intro n kept a5 a6 a7 a8 a9 hm hn K hc;have hrl:((kept.take n).map λk=>bQ (my M g kept k)).length=n:=by rw[Qqx,Qzj];omega
  have ht:eO (aO Hl (au d8 (aa (aV 4) ak)) (au d8 (aa (aV 3) ak))) (yJ M g kept ((kept.take n).map λk=>bQ (my M g kept k)) a5 a6 a7 a8 a9) = .ok (decide (n<kept.length)) (yJ M g kept ((kept.take n).map λk=>bQ (my M g kept k)) a5 a6 a7 a8 a9):=by
   refine dh (bF (x:=.int (((kept.take n).map λk=>bQ (my M g kept k)).length:Int)) (y:=.int ((o5 kept).length:Int)) rfl rfl ?_);have:(o5 kept).length=kept.length:=by unfold o5;rw[Qqx]
   rw[hrl,this];exact Gq n kept.length
  by_cases hlt:n<kept.length
  ·rw[Qw8 hlt] at ht;have hk:kept[n]? = some kept[n]:=Qq9 hlt;have hkl:=K.inn kept[n] (Qzv hlt);generalize kept[n]=k at *;have hM:=getM hkl;have hst:=Qww hM;have row:∀kp,my M g kp k=((M.getD k ([],[])).1,(M.getD k ([],[])).2.map (jk g kp)):=λkp=>rfl;generalize M.getD k ([],[])=st at hM hst row;obtain⟨kept',b8,b9,g1,g2,g3,more,g4⟩:=afS B hg (told:=(kept.take n).map λk=>bQ (my M g kept k)) (Zs st.1) (Zf (.tup (st.2.map aW))) st.2 (B.stp st hst) (B.inn st hst) st.2 [] kept a8 a9 rfl K (λa ha=>by simp at ha);have hn':n+1<=kept'.length:=by rw[g4,Qqj];omega
   have hf:=g2.few B;have e2:kept'.take (n+1)=kept.take n++[k]:=by
    rw[g4,List.take_append_of_le_length (by omega),List.take_add_one,hk]
    rfl
   have e1:(kept.take n).map (λk=>bQ (my M g kept k))++[bQ (my M g kept' k)]=(kept'.take (n+1)).map λk=>bQ (my M g kept' k):=by
    rw[e2,Qw6]
    congr 1
    refine Qx9 λj hj=>?_;unfold my
    congr 2
    refine Qx9 λpt sY=>?_;rw[g4,z8 (hc j hj pt sY)]
   have hb:cR.nU (yJ M g kept ((kept.take n).map λk=>bQ (my M g kept k)) a5 a6 a7 a8 a9) = .nx (yJ M g kept' ((kept'.take (n+1)).map λk=>bQ (my M g kept' k)) (Zs st.1) (Zf (.tup (st.2.map aW))) (Zl (st.2.map λpt=>aW (jk g kept' pt))) b8 b9):=by
    rw[<-e1,row];generalize(kept.take n).map (λk=>bQ (my M g kept k))=told at *;unfold cR.nU;refine(az (e:=yJ M g kept told (Zs st.1) (Zf (.tup (st.2.map aW))) a7 a8 a9) (bC (d:=bQ st) (e:=yJ M g kept told a5 a6 a7 a8 a9) ?_ rfl)).trans ?_
    ·refine iz (i:=0) (x:=encM M) (y:=.int (k:Int)) rfl ?_ rfl (uJ bQ M hM);refine GQ (i:=3) (x:=.lst (o5 kept)) (y:=.int (told.length:Int)) rfl rfl rfl ?_;rw[hrl];exact uJ (λ(k:Nat)=>D.int (k:Int)) kept hk
    let E0:Ev.Env:=yJ M g kept told (Zs st.1) (Zf (.tup (st.2.map aW))) (Zl []) a8 a9
    refine(az (e:=E0) rfl).trans ?_;refine(az ((dq (ds:=st.2.map aW) (e:=E0) rfl).trans g1)).trans ?_;refine(Ev.mL (i:=4) (xs:=told) (d:=.tup [.str st.1,.tup (st.2.map λpt=>aW (jk g kept' pt))]) (e:=yJ M g kept' told (Zs st.1) (Zf (.tup (st.2.map aW))) (Zl (st.2.map λpt=>aW (jk g kept' pt))) b8 b9) rfl rfl rfl (by rw[hrl];exact Qwx hlt (Qq3 (K.few B) (by decide)))).trans ?_;have e6:bQ (st.1,st.2.map (jk g kept')) = .tup [.str st.1,.tup (st.2.map λpt=>aW (jk g kept' pt))]:=by
     unfold bQ;rw[Qxj]
     rfl
    rw[e6]
    rfl
   rw[KB.Dp ht hb];refine ih (n+1) kept' _ _ _ _ _ (by omega) hn' g2 λj hj pt sY=>?_;rw[e2] at hj;rcases Qw1.mp hj with hj|hj
   ·rw[g4];have e:gs g (kept++more)=gs g kept++gs g more:=by unfold gs;rw[Qw6]
    rw[e];exact Qjx _ (hc j hj pt sY)
   ·rw[Qqy.mp hj] at sY;have hst2:M.getD k ([],[])=st:=by
     rw[Qq7,hM];rfl
    rw[hst2] at sY;exact g3 pt sY
  ·rw[Qw0 hlt] at ht;have e:n=kept.length:=by omega
   have e2:kept.take n=kept:=by rw[e,List.take_length]
   rw[e2] at hc;refine⟨kept,a5,a6,a7,a8,a9,?_,K,hc⟩;rw[KB.KJ ht,e2]
theorem joined{M:List gb}(B:MB M):∃g g0 kept,cR.vY [encM M]=some (.tup (kept.map λk=>bQ (my M g kept k)))/\nJ M g0/\g=nums (dg M g0)/\cnt g<=cnt g0/\Led M g kept:=by
 obtain⟨g,g0,h1,h2,h3,h4⟩:=like_states B;have hg:g.length=M.length:=by rw[h3,vI,lK]
 have K0:Xh M g [0]:=⟨Qzq.mpr ⟨by simp,.nil⟩,rfl,λk hk=>by rw[Qqy.mp hk];exact B.pos⟩;obtain⟨kept,b5,b6,b7,b8,b9,g1,g2⟩:=Zq B hg 7000 0 [0] none none none none none rfl (Qxy _) K0 (λk hk=>by simp at hk);refine⟨g,g0,kept,bV (env:=yJ M g kept (kept.map λk=>bQ (my M g kept k)) b5 b6 b7 b8 b9) ?_,h2,h3,h4,g2⟩;unfold cR.Kf
 let E0:Ev.Env:=[Zf (encM M),Zf (.lst (o5 g)),Zn,Zn,Zn,Zn,Zn,Zn,Zn,Zn]
 refine(az (e:=E0) (bC (d:=.lst (o5 g)) (e:=[Zf (encM M),Zn,Zn,Zn,Zn,Zn,Zn,Zn,Zn,Zn]) (aJ (ds:=[encM M]) rfl h1) rfl)).trans ?_;refine(az (e:=[Zf (encM M),Zf (.lst (o5 g)),Zt (.dct [(.int ((grp g 0:Nat):Int),.int 0)]),Zn,Zn,Zn,Zn,Zn,Zn,Zn]) ?_).trans ?_
 ·refine(lN (d:=.dct [(.int ((grp g 0:Nat):Int),.int 0)]) (e:=E0) ?_).trans rfl;have:aB dH 1 (Zi 0) [Zf (encM M),Zf (.lst (o5 g)),Zn,Zn,Zn,Zn,Zn,Zn,Zn,Zn] = .ok (.int ((grp g 0:Nat):Int)) [Zf (encM M),Zf (.lst (o5 g)),Zn,Zn,Zn,Zn,Zn,Zn,Zn,Zn]:=
   iz (i:=1) (b:=Zi 0) (x:=.lst (o5 g)) (y:=.int 0) rfl rfl rfl (Gw (q:=0) (by rw[hg];exact B.pos))
  unfold zN;rw[this]
  rfl
 refine(az (e:=[Zf (encM M),Zf (.lst (o5 g)),Zt (.dct [(.int ((grp g 0:Nat):Int),.int 0)]),Zl [.int 0],Zn,Zn,Zn,Zn,Zn,Zn]) rfl).trans ?_;refine(az (e:=yJ M g [0] [] none none none none none) rfl).trans ?_;exact(az g1).trans rfl
theorem Ro{M:List gb}(B:MB M){g g0 kept:List Nat}(P:nJ M g0)(hg:g=nums (dg M g0))(hc:cnt g<=cnt g0)(L:Led M g kept):∀w,ir (kept.map (my M g kept)) 0 w=ir M 0 w:=by
 subst hg;have A:=W4 P B.ahI hc;have J:Xj M (kept.map (my M (nums (dg M g0)) kept)) (λi=>(nums (dg M g0)).getD i 0) kept (λv=>cU (gs (nums (dg M g0)) kept) v):=by
  refine⟨by rw[Qqx],L.inn,λj k st hj hs=>?_,λk hk st hs pt sY=>?_⟩
  ·rw[Qwv,hj];show some (my M _ kept k)=_;unfold my;rw[Qq7,hs]
   rfl
  ·have hm:=L.led k hk pt (by rw[Qq7,hs];exact sY);have h1:=jZ hm;unfold gs at h1;rw[Qwv] at h1;obtain⟨k',e1,e2⟩:=Qq6.mp h1;exact⟨k',e1,e2⟩
 exact λw=>LC A J w 0 0 L.z0
open cZ (State Step iw pA Bm uN zJ res Dw isR HX abV idx V5 jH sX)
structure SO(x:List Nat)(m:Nat)(s:State):Prop where
 fin:s.1.length<=300
 len:s.2.length=x.length
 stp:∀p∈s.2,p.1.length<=300/\p.2<m
structure MO(x:List Nat)(m:Nat)(first:List Nat)(ss:List State):Prop where
 fst:first.length<=300
 pos:0<m
 len:ss.length=m
 sts:∀s∈ss,SO x m s
theorem VP{zs:List (List Nat)}(h1:zs.length<=2000)(h2:∀z∈zs,z.length<=300):jN (.str []) (.lst (zs.map .str))=some (.str zs.flatten):=by have h3:=cZ.uo h2;have h4:zs.length*300<=2000*300:=Qky _ h1;have hf:joinFits [] zs=true:=Qw8 (by rw[Qx2,Nat.mul_zero];omega);show(match iC (zs.map D.str) with|some xs=>if joinFits [] xs=true then some (D.str (vP [] xs)) else none|none=>none)=_;rw[jH];show(if joinFits [] zs=true then _ else _)=_;rw[if_pos hf,sX]
section
variable{x:List Nat}{ss:List State}{m:Nat}{first:List Nat}
theorem Dt(hx:x∈cZ.XS)(ok:MO x m first ss){q c:Nat}(hq:q<m)(hc:c∈x):∃(s:State) (j:Nat),ss[q]? = some s/\s.2[j]? = some (iw x ss q c)/\sZ (.tup (gB x)) (.str [c])=some (.int (j:Int))/\Pn (.str x) (.str [c])=some (.int (j:Int))/\(iw x ss q c).1.length<=300/\(iw x ss q c).2<m:=by
 obtain⟨j,h1,h2,h3,h4⟩:=V5 x hx c hc;have hql:q<ss.length:=by rw[ok.len];exact hq
 have hs:ss[q]? = some ss[q]:=Qq9 hql;have st:=ok.sts ss[q] (Qzv hql);have hjl:j<ss[q].2.length:=by rw[st.len];exact h2
 have e:iw x ss q c=ss[q].2[j]:=by
  have e1:ss.getD q ([],[])=ss[q]:=by rw[Qq7,hs];rfl
  unfold iw;rw[e1,h1];show(ss[q].2).getD j ([],0)=_;rw[Qq7,Qq9 hjl]
  rfl
 refine⟨ss[q],j,hs,by rw[e];exact Qq9 hjl,h3,h4,?_⟩;rw[e];exact st.stp _ (Qzv hjl)
theorem Wq(ok:MO x m first ss){q:Nat}(hq:q<m):∃s,ss[q]? = some s/\uN ss q=s.1/\s.1.length<=300:=by
 have hql:q<ss.length:=by rw[ok.len];exact hq
 have hs:ss[q]? = some ss[q]:=Qq9 hql;exact⟨ss[q],hs,by unfold uN;rw[Qq7,hs];rfl,(ok.sts ss[q] (Qzv hql)).fin⟩
theorem Wc(hx:x∈cZ.XS)(ok:MO x m first ss)(v:List Nat)(hv:∀c∈v,c∈x):(pA x ss v).2<m/\(∀z∈(pA x ss v).1,z.length<=300)/\(pA x ss v).1.length=v.length:=by
 have key:∀(n:Nat) (v:List Nat),v.length=n->(∀c∈v,c∈x)->(pA x ss v).2<m/\(∀z∈(pA x ss v).1,z.length<=300)/\(pA x ss v).1.length=v.length:=by
  intro n
  induction n with
  | zero=>
   intro v hl _;cases v with
   | nil=>exact⟨ok.pos,λz hz=>by simp[pA] at hz,rfl⟩
   | cons _ _=>cases hl
  | succ n ih=>
   intro v hl hv;obtain⟨u,c,rfl⟩:∃u c,v=u++[c]:=⟨v.dropLast,v.getLast (by intro z;rw[z] at hl;cases hl),(List.dropLast_concat_getLast _).symm⟩;have hl':u.length=n:=by simpa using hl
   obtain⟨h1,h2,h3⟩:=ih u hl' λc hc=>hv c (Qjx _ hc);obtain⟨s,j,_,_,_,_,h4,h5⟩:=Dt hx ok h1 (hv c (by simp));rw[Bm];refine⟨h5,λz hz=>?_,by simp[h3]⟩;rcases Qw1.mp hz with hz|hz
   ·exact h2 z hz
   ·rw[Qqy.mp hz];exact h4
 exact key v.length v rfl hv
theorem Tu(hx:x∈cZ.XS)(ok:MO x m first ss){q c:Nat}(hq:q<m)(hc:c∈x)(acc:List D)(ha:acc.length<=2000)(a0 a1 a2 a3 a4 a9 a11 a12:OD) :
  cZ.FZ [a0,a1,a2,a3,a4,Zf (.tup (ss.map cZ.bG)),Zf (.tup (gB x)),Zl acc,Zf (.int (q:Int)),a9,Zs [c],a11,a12] =
   .nx [a0,a1,a2,a3,a4,Zf (.tup (ss.map cZ.bG)),Zf (.tup (gB x)),Zl (acc++[.str (iw x ss q c).1]),Zf (.int ((iw x ss q c).2:Int)),a9,Zs [c],Zs ((iw x ss q c).1),a12]:=by
 obtain⟨s,j,h1,h2,h3,_,_,_⟩:=Dt hx ok hq hc;generalize hE:([a0,a1,a2,a3,a4,Zf (.tup (ss.map cZ.bG)),Zf (.tup (gB x)),Zl acc,Zf (.int (q:Int)),a9,Zs [c],a11,a12]:Ev.Env)=env;unfold cZ.FZ
 let E0:Ev.Env:=[a0,a1,a2,a3,a4,Zf (.tup (ss.map cZ.bG)),Zf (.tup (gB x)),Zl acc,Zf (.int ((iw x ss q c).2:Int)),a9,Zs [c],Zs ((iw x ss q c).1),a12]
 refine(az (e:=E0) ?_).trans ?_
 ·refine bC (d:=cZ.encP (iw x ss q c)) (e:=env) ?_ (by rw[<-hE];rfl);refine bF (x:=.tup (s.2.map cZ.encP)) (y:=.int (j:Int)) (e1:=env) ?_ ?_ (zJ cZ.encP s.2 j _ h2)
  ·refine bF (x:=cZ.bG s) (y:=.int 1) (e1:=env) ?_ (by rfl) rfl;exact iz (x:=.tup (ss.map cZ.bG)) (y:=.int (q:Int)) (by rw[<-hE];rfl) (by rw[<-hE];rfl) (by rw[<-hE];rfl) (zJ cZ.bG ss q s h1)
  ·exact bF (x:=.tup (gB x)) (y:=.str [c]) (e1:=env) (by rw[<-hE];rfl) (by rw[<-hE];rfl) h3
 ·exact(Ev.mL (i:=7) (xs:=acc) (d:=.str (iw x ss q c).1) (e:=E0) rfl rfl rfl (Qw4 ha (by decide))).trans rfl
theorem run_eq(hx:x∈cZ.XS){rs:List D}(hr:iu.Rows (gB x) rs)(ok:MO x m first ss)(side w:List Nat)(hw:∀c∈w,c∈x)(hl:w.length<=1000) :
  cR.qC [.tup rs,cZ.encM first ss,.str side,.str w]=some (.str (cZ.rd side (res x first ss (cZ.rd side w)))):=by
 have hr1:∀c∈cZ.rd side w,c∈x:=λc hc=>by
  unfold cZ.rd at hc;split at hc
  ·exact hw c (List.mem_reverse.mp hc)
  ·exact hw c hc
 have hr2:(cZ.rd side w).length<=1000:=by
  unfold cZ.rd;split
  ·rw[Qk6];exact hl
  ·exact hl
 generalize hv:cZ.rd side w=v at hr1 hr2;obtain⟨e',f1,u,a10,a11,hdone,rfl⟩:=lr (g:=aj 10) (b:=cZ.FZ) (gB v) (λdone env=>∃(u:List Nat) (a10 a11:OD),done=gB u/\env=[Zf (.tup rs),Zf (cZ.encM first ss),Zs side,Zs w,Zs first,Zf (.tup (ss.map cZ.bG)),Zf (.tup (gB x)),Zl ((first::(pA x ss u).1).map .str),Zf (.int ((pA x ss u).2:Int)),Zs v,a10,a11,Zn])
  (λdone s rest hall env ⟨u,a10,a11,hd,he⟩=>by
   subst he;obtain⟨u',c,h1,h2,h3,h4,h5⟩:=Dw hall;have hu:u=u':=by have:gB u=gB u':=hd.symm.trans h1;unfold gB at this;exact List.map_inj_right (λa b h=>by cases h;rfl) |>.mp this
   subst hu;have hux:∀e∈u,e∈x:=λe he=>hr1 e (h4 e he);obtain⟨g1,g2,g3⟩:=Wc hx ok u hux;subst h2;refine⟨_,_,rfl,Tu hx ok g1 (hr1 c h3) ((first::(pA x ss u).1).map .str) (by rw[Qqx,Qqw,g3];omega) _ _ _ _ _ _ _ _,u++[c],Zs [c],Zs ((iw x ss (pA x ss u).2 c).1),?_,?_⟩
   ·rw[hd];unfold gB;rw[Qw6];rfl
   ·rw[Bm];simp only[Qq8,Qw6,Qv1,List.cons_append])
  [Zf (.tup rs),Zf (cZ.encM first ss),Zs side,Zs w,Zs first,Zf (.tup (ss.map cZ.bG)),Zf (.tup (gB x)),Zl [.str first],Zf (.int 0),Zs v,Zn,Zn,Zn] ⟨[],Zn,Zn,rfl,rfl⟩
 have huv:u=v:=by have:gB u=gB v:=hdone.symm;unfold gB at this;exact List.map_inj_right (λa b h=>by cases h;rfl) |>.mp this
 subst huv;obtain⟨g1,g2,g3⟩:=Wc hx ok u hr1;obtain⟨s,q1,q2,q3⟩:=Wq ok g1;have hall:∀z∈(first::(pA x ss u).1)++[uN ss (pA x ss u).2],z.length<=300:=λz hz=>by
  rcases Qw1.mp hz with hz|hz
  ·rcases Qq1.mp hz with rfl|hz
   ·exact ok.fst
   ·exact g2 z hz
  ·rw[Qqy.mp hz,q2];exact q3
 have af5:((first::(pA x ss u).1)++[uN ss (pA x ss u).2]).flatten=res x first ss u:=by unfold res;simp
 have af3:jN (.str []) (.lst ((first::(pA x ss u).1).map D.str++[.str (uN ss (pA x ss u).2)]))=some (.str (res x first ss u)):=by have:=VP (zs:=(first::(pA x ss u).1)++[uN ss (pA x ss u).2]) (by rw[Qqj,Qqw,g3,Qwq];omega) hall;rw[af5,Qw6] at this;exact this
 let E0:Ev.Env:=[Zf (.tup rs),Zf (cZ.encM first ss),Zs side,Zs w,Zs first,Zf (.tup (ss.map cZ.bG)),Zf (.tup (gB x)),Zl ((first::(pA x ss u).1).map D.str++[.str (uN ss (pA x ss u).2)]),Zf (.int ((pA x ss u).2:Int)),Zs u,a10,a11,Zs (res x first ss u)]
 refine bV (env:=E0) ?_;unfold cR.aba
 let E3:Ev.Env:=[Zf (.tup rs),Zf (cZ.encM first ss),Zs side,Zs w,Zs first,Zf (.tup (ss.map cZ.bG)),Zn,Zn,Zn,Zn,Zn,Zn,Zn]
 refine(az (e:=E3) (by rfl)).trans ?_;refine(az (e:=[Zf (.tup rs),Zf (cZ.encM first ss),Zs side,Zs w,Zs first,Zf (.tup (ss.map cZ.bG)),Zf (.tup (gB x)),Zn,Zn,Zn,Zn,Zn,Zn]) ?_).trans ?_
 ·exact bC (d:=.tup (gB x)) (e:=E3) (aJ (ds:=[.tup rs]) (by rfl) (by rw[uZ];exact iu.sounds_of hx hr)) (by rfl)
 refine(az (e:=[Zf (.tup rs),Zf (cZ.encM first ss),Zs side,Zs w,Zs first,Zf (.tup (ss.map cZ.bG)),Zf (.tup (gB x)),Zl [.str first],Zn,Zn,Zn,Zn,Zn]) (by rfl)).trans ?_
 let E2:Ev.Env:=[Zf (.tup rs),Zf (cZ.encM first ss),Zs side,Zs w,Zs first,Zf (.tup (ss.map cZ.bG)),Zf (.tup (gB x)),Zl [.str first],Zf (.int 0),Zn,Zn,Zn,Zn]
 refine(az (e:=E2) (by rfl)).trans ?_;refine(az (e:=[Zf (.tup rs),Zf (cZ.encM first ss),Zs side,Zs w,Zs first,Zf (.tup (ss.map cZ.bG)),Zf (.tup (gB x)),Zl [.str first],Zf (.int 0),Zs u,Zn,Zn,Zn]) ?_).trans ?_
 ·refine bC (d:=.str u) (e:=E2) ?_ (by rfl);rw[<-hv];exact abV 3 side w _ rfl rfl
 refine(az (e:=_) ((dq (ds:=gB u) (by rfl)).trans f1)).trans ?_
 let E1:Ev.Env:=[Zf (.tup rs),Zf (cZ.encM first ss),Zs side,Zs w,Zs first,Zf (.tup (ss.map cZ.bG)),Zf (.tup (gB x)),Zl ((first::(pA x ss u).1).map D.str++[.str (uN ss (pA x ss u).2)]),Zf (.int ((pA x ss u).2:Int)),Zs u,a10,a11,Zn]
 refine(az (e:=E1) ?_).trans ?_
 ·generalize hE:([Zf (.tup rs),Zf (cZ.encM first ss),Zs side,Zs w,Zs first,Zf (.tup (ss.map cZ.bG)),Zf (.tup (gB x)),Zl ((first::(pA x ss u).1).map D.str),Zf (.int ((pA x ss u).2:Int)),Zs u,a10,a11,Zn]:Ev.Env)=env;refine(cZ.du (i:=7) (x0:=(first::(pA x ss u).1).map D.str) (xs:=(first::(pA x ss u).1).map D.str) (d:=.str (uN ss (pA x ss u).2)) (e:=env) (by rw[<-hE];rfl) ?_ (by rw[<-hE];rfl) (by rw[Qqx,Qqw,g3];exact Qw4 (show u.length+1<=1001 by omega) (by decide))).trans (by rw[<-hE];rfl);refine bF (x:=cZ.bG s) (y:=.int 0) (e1:=env) ?_ (by rfl) (by rw[q2];rfl);exact iz (x:=.tup (ss.map cZ.bG)) (y:=.int ((pA x ss u).2:Int)) (by rw[<-hE];rfl) (by rw[<-hE];rfl) (by rw[<-hE];rfl) (zJ cZ.bG ss _ s q1)
 refine(az (e:=E0) ?_).trans ?_
 ·exact bC (d:=.str (res x first ss u)) (e:=E1) (bF (x:=.str []) (y:=.lst ((first::(pA x ss u).1).map D.str++[.str (uN ss (pA x ss u).2)])) (by rfl) (by rfl) af3) (by rfl)
 ·exact bH (abV 12 side (res x first ss u) _ rfl rfl)
end
open lV (sides)
open kh (jT t7 tY lay xZ)
section
variable{x:List Nat}{s:D}{Rs:List D}{jw:D}{ps:List P}
noncomputable def QR(x:List Nat)(Ls:List D)(p:P)(w:List Nat):List Nat:=(jT x Ls p w).2++t7 x Ls (jT x Ls p w).1 []
noncomputable def uq(x:List Nat)(Ls:List D)(ps:List P)(p:P):gb:=(t7 x Ls p [],x.map (lL x Ls ps p))
theorem standing_states(hx:x∈cZ.XS)(hs:s∈sides)(hR:∀R∈Rs,cG x R)(h4:Rs.length<=4)(hu:(U x (lay s Rs)).length<=600)(hso:cR.dZ [jw]=some (.tup (gB x))) :
  ∃ps,cR.j7 [jw,.tup [s,.tup Rs]]=some (KM.encM (ps.map (uq x (lay s Rs) ps)))/\All x s Rs ps:=by
 obtain⟨ps,h1,A⟩:=Iu (jw:=jw) hx hs hR h4 hu hso;refine⟨ps,?_,A⟩;have he:∀p∈ps,cR.lR [.tup [s,.tup Rs],km p]=some (.str (t7 x (lay s Rs) p [])):=λp hp=>by
  rw[RJ];exact kh.end_of (A.ok p hp).o
 have hf:=A.few hu;generalize D.tup [s,.tup Rs]=O at *
 let E0:Ev.Env:=[Zf jw,Zf O,Zf (.lst (ps.map km)),Zf (.lst (ps.map (kE x (lay s Rs) ps)))]
 refine bV (env:=E0) ?_;unfold cR.oJ;refine(az (e:=E0) (bC (d:=.tup [.lst (ps.map km),.lst (ps.map (kE x (lay s Rs) ps))]) (e:=[Zf jw,Zf O,Zn,Zn]) (aJ (ds:=[jw,O]) rfl h1) rfl)).trans ?_;refine bH ?_;unfold cR.lQ;have ez:oU (ps.map km) (ps.map (kE x (lay s Rs) ps))=ps.map λp=>.tup [km p,kE x (lay s Rs) ps p]:=by
  unfold oU;rw[List.zip_map',Qxj]
  rfl
 refine(Bt (lo:=4) (n:=6) (it:=vZ (Zv 2 (Zv 3 ak))) (g:=bK 2 (aD (aj 4) (aD (aj 5) bN))) (c:=bZ) (e:=bY (aa (au cR.lR (Zv 1 (Zv 4 ak))) (Zv 5 ak))) (env:=E0) (aL:=E0) ps (λp=>.tup [km p,kE x (lay s Rs) ps p])
  (λp=>[Zf (km p),Zf (kE x (lay s Rs) ps p)]) (λ_=>true) (λp=>bQ (uq x (lay s Rs) ps p)) (by
   show Ev.R.ok (oU (ps.map km) (ps.map (kE x (lay s Rs) ps))) _=_;rw[ez]) rfl (λp hp=>⟨rfl,λvs hv=>?_,rfl,λ_=>?_⟩) (Qq3 hf (by decide))).trans ?_
 ·match vs,hv with
  | [u,v],_=>rfl
 ·have er:bQ (uq x (lay s Rs) ps p) = .tup [.str (t7 x (lay s Rs) p []),kE x (lay s Rs) ps p]:=by
   unfold bQ uq kE;rw[Qxj]
   rfl
  rw[er];exact cA (ds:=[.str (t7 x (lay s Rs) p []),kE x (lay s Rs) ps p]) (aH (aJ (ds:=[O,km p]) rfl (he p hp)) rfl) Ev.zb
 ·rw[Qk7.mpr (λ_ _=>rfl)];unfold KM.encM;rw[Qxj]
  rfl
theorem afl{n:Nat}(h:n<=4):2^n<=16:=Qx7 (n:=2) (by decide) h
theorem HR(hR:∀R∈Rs,cG x R)(h4:Rs.length<=4){p:P}(hp:OkP x s Rs p):(t7 x (lay s Rs) p []).length<=30/\∀a∈x,(Mm x (lay s Rs) p a).length<=16:=by
 have hl:=kh.oA s Rs;have h16:=afl (n:=(lay s Rs).length) (by omega);refine⟨?_,λa ha=>?_⟩
 ·have:=(K19.Wr (lay s Rs) p [] (kh.xM hR) hp.o.hS (λa ha=>by simp at ha)).2;rw[Qx2] at this;omega
 ·have:=R8.Ga (lay s Rs) p [a] (kh.xM hR) hp.o.hS (λb hb=>by rw[Qqy.mp hb];exact Qqk _ ha);rw[Qwq] at this;unfold Mm;omega
theorem agt(hx:x∈cZ.XS)(hR:∀R∈Rs,cG x R)(h4:Rs.length<=4)(hu:(U x (lay s Rs)).length<=600)(A:All x s Rs ps):MB (ps.map (uq x (lay s Rs) ps))/\∀st∈ps.map (uq x (lay s Rs) ps),st.2.length=x.length/\∀pt∈st.2,pt.1.length<=16:=by
 have hx4:x.length<=4:=iu.nH x hx;have hp:∀st∈ps.map (uq x (lay s Rs) ps),st.2.length=x.length/\∀pt∈st.2,pt.1.length<=16:=λst hst=>by
  obtain⟨p,hp,rfl⟩:=Qwy.mp hst;refine⟨by unfold uq;rw[Qqx],λpt sY=>?_⟩;obtain⟨a,ha,rfl⟩:=Qwy.mp sY;exact(HR hR h4 (A.ok p hp)).2 a ha
 refine⟨⟨?_,by rw[Qqx];exact A.few hu,λst hst=>?_,λst hst=>by have:=(hp st hst).1;omega,λst hst pt sY=>Qq3 ((hp st hst).2 pt sY) (by decide),λst hst pt sY=>?_⟩,hp⟩
 ·rw[Qqx];exact Qjk (Qww A.z0)
 ·obtain⟨p,hp,rfl⟩:=Qwy.mp hst;exact(HR hR h4 (A.ok p hp)).1
 ·obtain⟨p,hp,rfl⟩:=Qwy.mp hst;obtain⟨a,ha,rfl⟩:=Qwy.mp sY;rw[Qqx];exact zG (A.clo p hp a ha)
theorem Oa(A:All x s Rs ps):∀(w:List Nat) (p:P),p∈ps->(∀a∈w,a∈x)->ir (ps.map (uq x (lay s Rs) ps)) (cU ps p) (w.map (cU x))=some (QR x (lay s Rs) p w)
 | [],p,hp,_=>by
  have hl:(lay s Rs).length=p.length:=by rw[kh.oA];exact(A.ok p hp).o.hl.symm
  show(ps.map (uq x (lay s Rs) ps))[cU ps p]?.map (·.1)=_;rw[Qwv,jZ hp];unfold QR;rw[R8.vA _ _ hl]
  rfl
 | a::w,p,hp,hw=>by
  have hl:(lay s Rs).length=p.length:=by rw[kh.oA];exact(A.ok p hp).o.hl.symm
  have ha:=hw a (Qqv ..);have ih:=Oa A w (Ej x (lay s Rs) p a) (A.clo p hp a ha) λb hb=>hw b (Qqk _ hb);have e1:(ps.map (uq x (lay s Rs) ps))[cU ps p]? = some (uq x (lay s Rs) ps p):=by rw[Qwv,jZ hp];rfl
  have e2:(uq x (lay s Rs) ps p).2[cU x a]? = some (lL x (lay s Rs) ps p a):=by
   unfold uq;rw[Qwv,jZ ha]
   rfl
  rw[Qq8];unfold ir;rw[e1];simp only;rw[e2];show(ir _ (cU ps (Ej x (lay s Rs) p a)) (w.map (cU x))).map _=_;rw[ih];unfold QR;have:=R8.zq (x:=x) (lay s Rs) p [a] w hl;rw[List.singleton_append] at this;rw[this];show some (Mm x (lay s Rs) p a++((jT x (lay s Rs) (Ej x (lay s Rs) p a) w).2++t7 x (lay s Rs) (jT x (lay s Rs) (Ej x (lay s Rs) p a) w).1 []))=_;rw[<-Qxv]
  rfl
theorem Wt{M:List gb}{c:List (List Nat)}(B:MB M)(hp:∀st∈M,st.2.length=x.length/\∀pt∈st.2,pt.1.length<=16)(hc:CB M c):MB (gh c M)/\∀st∈gh c M,st.2.length=x.length:=by
 have hl:=RK hc.1;have key:∀st'∈gh c M,∃st∈M,∃u,st'=mH c (u,st):=λst' h=>by
  obtain⟨q,hq,rfl⟩:=Qwy.mp h;exact⟨q.2,(List.of_mem_zip hq).2,q.1,rfl⟩
 refine⟨⟨by rw[hl];exact B.pos,by rw[hl];exact B.few,λst' h=>?_,λst' h=>?_,λst' h pt sY=>?_,λst' h pt sY=>?_⟩,λst' h=>?_⟩
 all_goals obtain⟨st,hst,u,rfl⟩:=key st' h
 ·show(st.1.drop u.length).length<=30;rw[Qzk];have:=B.fin st hst;omega
 ·show(st.2.map _).length<=50;rw[Qqx];exact B.stp st hst
 ·obtain⟨q,hq,rfl⟩:=Qwy.mp sY;show((q.1++c.getD q.2 []).drop u.length).length<=200;rw[Qzk,Qqj];have h1:=(hp st hst).2 q hq;have h2:=hc.2 q.2;omega
 ·obtain⟨q,hq,rfl⟩:=Qwy.mp sY;show q.2<_;rw[hl];exact B.inn st hst q hq
 ·show(st.2.map _).length=_;rw[Qqx];exact(hp st hst).1
theorem least_machine(hx:x∈cZ.XS)(hs:s∈sides)(hR:∀R∈Rs,cG x R)(h4:Rs.length<=4)(hu:(U x (lay s Rs)).length<=600)(hso:cR.dZ [jw]=some (.tup (gB x))) :
  ∃first N,cR.fQ [jw,.tup [s,.tup Rs]]=some (cZ.encM first N)/\MO x N.length first N/\∀w,(∀a∈w,a∈x)->∃r,ir N 0 (w.map (cU x))=some r/\QR x (lay s Rs) (tY (lay s Rs)) w=first++r:=by
 obtain⟨ps,h1,A⟩:=standing_states (jw:=jw) hx hs hR h4 hu hso;obtain⟨B,hp⟩:=agt hx hR h4 hu A;have hra:=λw hw=>Oa A w (tY (lay s Rs)) (Qww A.z0) hw;rw[Pa A.nd A.z0] at hra;generalize ps.map (uq x (lay s Rs) ps)=M at *;obtain⟨c,h2,h3,h5⟩:=put_out_early B;obtain⟨B',hp'⟩:=Wt B hp h5;obtain⟨g,g0,kept,j1,j2,j3,j4,j5⟩:=joined B';have hJ:=Ro B' j2 j3 j4 j5;have hC:=M6 h3;have hE:=Ws h5.1;refine⟨c.getD 0 [],kept.map (my (gh c M) g kept),?_,⟨Qq3 (h5.2 0) (by decide),?_,rfl,λst hst=>?_⟩,λw hw=>?_⟩
 ·generalize D.tup [s,.tup Rs]=O at *;have j1':cR.vY [KM.encM (gh c M)]=some (.tup ((kept.map (my (gh c M) g kept)).map bQ)):=by rw[j1,Qxj];rfl
  let E0:Ev.Env:=[Zf jw,Zf O,Zs (c.getD 0 []),Zf (KM.encM (gh c M))]
  refine bV (env:=E0) ?_;unfold cR.qF;refine(az (e:=E0) (bC (d:=.tup [.str (c.getD 0 []),KM.encM (gh c M)]) (e:=[Zf jw,Zf O,Zn,Zn]) (aJ (ds:=[KM.encM M]) (aH (aJ (ds:=[jw,O]) rfl h1) bz) h2) rfl)).trans ?_;exact bH (cA (ds:=[.str (c.getD 0 []),.tup ((kept.map (my (gh c M) g kept)).map bQ)]) (aH (e1:=E0) rfl (aH (aJ (ds:=[KM.encM (gh c M)]) rfl j1') bz)) Ev.zb)
 ·rw[Qqx];exact Qjk (Qww j5.z0)
 ·obtain⟨k,hk,rfl⟩:=Qwy.mp hst;have hM:=getM (j5.inn k hk);have hmem:=Qww hM;have ahO:=j5.led k hk;unfold my;generalize(gh c M).getD k ([],[])=st at *;refine⟨Qq3 (B'.fin st hmem) (by decide),by show(st.2.map _).length=_;rw[Qqx];exact hp' st hmem,λpt sY=>?_⟩;obtain⟨q,hq,rfl⟩:=Qwy.mp sY;refine⟨Qq3 (B'.put st hmem q hq) (by decide),?_⟩;have:=zG (ahO q hq);unfold gs at this;rw[Qqx] at this;rw[Qqx];exact this
 ·obtain⟨r,e1,e2⟩:=QK hC hE (w.map (cU x)) 0 _ (hra w hw);exact⟨r,by rw[hJ];exact e1,e2⟩
end
theorem adm:∀x∈cZ.XS,∀c∈x,idx x c=some (cU x c):=by
 intro x hx c hc;unfold cZ.XS iu.XS at hx;simp only[Qq1,Qwk,Qx6] at hx;rcases hx with rfl|rfl|rfl|rfl|rfl<;>simp only[Qq1,Qwk,Qx6] at hc
 ·subst hc;kernel_rfl
 ·rcases hc with rfl|rfl<;>kernel_rfl
 ·rcases hc with rfl|rfl|rfl<;>kernel_rfl
 ·rcases hc with rfl|rfl|rfl|rfl<;>kernel_rfl
 ·rcases hc with rfl|rfl|rfl<;>kernel_rfl
theorem Wb{x:List Nat}(hx:x∈cZ.XS){N:List State}:∀(w:List Nat) (q:Nat) (acc:List (List Nat)) (r:List Nat),(∀a∈w,a∈x)->ir N q (w.map (cU x))=some r->
  (w.foldl (λs c=>(s.1++[(iw x N s.2 c).1],(iw x N s.2 c).2)) (acc,q)).1.flatten++uN N (w.foldl (λs c=>(s.1++[(iw x N s.2 c).1],(iw x N s.2 c).2)) (acc,q)).2=acc.flatten++r
 | [],q,acc,r,_,h=>by
  obtain⟨st,h1,rfl⟩:=Qq6.mp (show N[q]?.map (·.1)=some r from h);show acc.flatten++uN N q=_;unfold uN;rw[Qq7,h1]
  rfl
 | a::w,q,acc,r,hw,h=>by
  have ha:=hw a (Qqv ..);rw[Qq8] at h;unfold ir at h;cases h1:N[q]? with
  | none=>rw[h1] at h;cases h
  | some st=>
   rw[h1] at h;simp only at h;cases h2:st.2[cU x a]? with
   | none=>rw[h2] at h;cases h
   | some pt=>
    rw[h2] at h;obtain⟨r1,h3,rfl⟩:=Qq6.mp (show(ir N pt.2 (w.map (cU x))).map (pt.1 ++ ·)=some r from h);have e:iw x N q a=pt:=by
     unfold iw;have e1:N.getD q ([],[])=st:=by rw[Qq7,h1];rfl
     rw[adm x hx a ha,e1];show st.2.getD (cU x a) ([],0)=pt;rw[Qq7,h2]
     rfl
    rw[Qj0,e,Wb hx w pt.2 (acc++[pt.1]) r1 (λb hb=>hw b (Qqk _ hb)) h3];rw[Qjw];simp
theorem Yd{x:List Nat}(hx:x∈cZ.XS){N:List State}{first r w:List Nat}(hw:∀a∈w,a∈x)(h:ir N 0 (w.map (cU x))=some r):res x first N w=first++r:=by
 unfold res;have:=Wb hx w 0 [] r hw h;unfold pA;rw[this]
 rfl
open uR (cG fin qu p8 cF)
open kh (jT t7 tY lay xZ rt)
open R8 (sr zP GZ)
def m9(x:List Nat):Nat->List (List Nat)
 | 0=>[[]]
 | n+1=>(m9 x n).flatMap λw=>x.map λa=>w++[a]
def o9(x:List Nat):Nat->List (List Nat)
 | 0=>[[]]
 | n+1=>o9 x n++m9 x (n+1)
theorem vo{x:List Nat}:∀{n:Nat} {w:List Nat},w∈m9 x n↔w.length=n/\∀a∈w,a∈x
 | 0,w=>by
  constructor
  ·intro h;rw[Qqy.mp h];exact⟨rfl,λa ha=>by simp at ha⟩
  ·intro h;rw[List.length_eq_zero_iff.mp h.1];exact Qqy.mpr rfl
 | n+1,w=>by
  constructor
  ·intro h;obtain⟨v,hv,h⟩:=Qj3.mp h;obtain⟨a,ha,rfl⟩:=Qwy.mp h;obtain⟨h1,h2⟩:=vo.mp hv;refine⟨by rw[Qqj,h1];rfl,λb hb=>?_⟩;rcases Qw1.mp hb with hb|hb
   ·exact h2 b hb
   ·rw[Qqy.mp hb];exact ha
  ·rintro⟨h1,h2⟩;rcases List.eq_nil_or_concat w with rfl|⟨v,a,rfl⟩
   ·cases h1
   ·rw[List.concat_eq_append] at *;rw[Qqj,Qwq] at h1;exact Qj3.mpr ⟨v,vo.mpr ⟨by omega,λb hb=>h2 b (Qjx _ hb)⟩,Qwy.mpr ⟨a,h2 a (by simp),rfl⟩⟩
theorem wG{x:List Nat}:∀{n:Nat} {w:List Nat},w∈o9 x n↔w.length<=n/\∀a∈w,a∈x
 | 0,w=>by
  constructor
  ·intro h;rw[Qqy.mp h];exact⟨Qq0 _,λa ha=>by simp at ha⟩
  ·intro h;rw[List.length_eq_zero_iff.mp (Nat.le_zero.mp h.1)];exact Qqy.mpr rfl
 | n+1,w=>by
  show w∈o9 x n++m9 x (n+1)↔_;rw[Qw1,wG,vo];constructor
  ·rintro(h|h)
   ·exact⟨by omega,h.2⟩
   ·exact⟨by omega,h.2⟩
  ·intro h;by_cases e:w.length<=n
   ·exact .inl ⟨e,h.2⟩
   ·exact .inr ⟨by omega,h.2⟩
theorem vp{x:List Nat}:∀n,(m9 x n).length=x.length^n
 | 0=>rfl
 | n+1=>by
  show((m9 x n).flatMap λw=>x.map λa=>w++[a]).length=_;rw[p7 _ x.length _ λw _=>by rw[Qqx],vp n,Nat.pow_succ]
theorem Cg{x:List Nat}(h:x.length<=4):∀n,(o9 x n).length<=(n+1)*4^n
 | 0=>Qq0 _
 | n+1=>by
  show(o9 x n++m9 x (n+1)).length<=_;rw[Qqj,vp];have h1:=Cg h n;have h2:x.length^(n+1)<=4^(n+1):=Nat.pow_le_pow_left h _;have h3:(n+1)*4^n<=(n+1)*4^(n+1):=Qk5 _ (Qx7 (by decide) (Qvx _));rw[Nat.succ_mul (n+1)];omega
theorem adE{i:Nat}{a:Ev}{env e:Ev.Env}{xs x0 zs:List D}(h0:env[i]? = some (Zl x0))(h1:a env = .ok (.lst zs) e)(h2:e[i]? = some (Zl xs))(hz:xs.length+zs.length<=sizeLine):Du i a env = .nx (e.set i (Zl (xs++zs))):=by unfold Du;simp only[h0,h1,iW,h2,if_pos hz]
theorem ad0(x w:List Nat)(hx:x.length<=4)(hw:w.length<=20)(acc:List D)(ha:acc.length<=10000)(A1 A2 A3 A4:OD) :
  cR.gQ [Zs x,A1,A2,A3,A4,Zl acc,Zs w] = .nx [Zs x,A1,A2,A3,A4,Zl (acc++(x.map λa=>w++[a]).map .str),Zs w]:=by
 unfold cR.gQ;have h1:cR.jz [Zs x,A1,A2,A3,A4,Zl acc,Zs w] = .ok (.lst ((x.map λa=>w++[a]).map .str)) [Zs x,A1,A2,A3,A4,Zl acc,Zs w]:=by
  unfold cR.jz
  let E0:Ev.Env:=[Zs x,A1,A2,A3,A4,Zl acc,Zs w]
  refine(GJ (lo:=7) (n:=8) (it:=dW (aM 0)) (e:=aB cL 6 (aV 7)) (env:=E0) (aL:=E0) x (λa=>.str [a]) (λa=>.str (w++[a])) rfl rfl rfl (λa ha=>?_) (Qq3 hx (by decide))).trans ?_
  ·exact iz (i:=6) (b:=aV 7) (x:=.str w) (y:=.str [a]) rfl rfl rfl (add_str (by rw[Qwq];omega))
  ·rw[Qxj]
   rfl
 refine(adE (x0:=acc) (xs:=acc) rfl h1 rfl ?_).trans rfl;rw[Qqx,Qqx];exact Qq3 (show acc.length+x.length<=10004 by omega) (by decide)
theorem WX(x:List Nat)(hx:x.length<=4)(A1 A2 A3 A4:OD):∀(ws acc:List (List Nat)) (a6:OD),(∀w∈ws,w.length<=20)->acc.length+4*ws.length<=10000->∃b6,je (aj 6) cR.gQ (ws.map .str) [Zs x,A1,A2,A3,A4,Zl (acc.map .str),a6] = .nx [Zs x,A1,A2,A3,A4,Zl ((acc++ws.flatMap λw=>x.map λa=>w++[a]).map .str),b6]
 | [],acc,a6,_,_=>⟨a6,by rw[List.flatMap_nil,Qxq];rfl⟩
 | w::ws,acc,a6,hw,hl=>by
  rw[Qqw] at hl;obtain⟨b6,h⟩:=WX x hx A1 A2 A3 A4 ws (acc++x.map λa=>w++[a]) (Zs w) (λv hv=>hw v (Qqk _ hv)) (by rw[Qqj,Qqx];omega);refine⟨b6,?_⟩;rw[List.flatMap_cons,<-Qxv,<-h,Qq8];have h1:=ad0 x w hx (hw w (Qqv ..)) (acc.map .str) (by rw[Qqx];omega) A1 A2 A3 A4;rw[<-Qw6] at h1;exact KB.p6 rfl h1
theorem Kg(x:List Nat)(hx:x.length<=4)(A1:OD):∀(ds:List D) (j:Nat) (a4 a5 a6:OD),j+ds.length<=5->∃b4 b5 b6,je (aj 4) cR.jA ds [Zs x,A1,Zf (.lst ((o9 x j).map .str)),Zf (.lst ((m9 x j).map .str)),a4,a5,a6] = .nx [Zs x,A1,Zf (.lst ((o9 x (j+ds.length)).map .str)),Zf (.lst ((m9 x (j+ds.length)).map .str)),b4,b5,b6]
 | [],j,a4,a5,a6,_=>⟨a4,a5,a6,rfl⟩
 | d::ds,j,a4,a5,a6,hl=>by
  rw[Qqw] at hl;have hr4:(m9 x j).length<=1024:=by rw[vp];exact Qq3 (Nat.pow_le_pow_left hx j) (Qq3 (Qx7 (by decide) (show j<=5 by omega)) (by decide))
  have hr5:(m9 x (j+1)).length<=1024:=by rw[vp];exact Qq3 (Nat.pow_le_pow_left hx _) (Qq3 (Qx7 (by decide) (show j+1<=5 by omega)) (by decide))
  have ha4:(o9 x j).length<=6*1024:=Qq3 (Cg hx j) (Qvy (by omega) (Qq3 (Qx7 (by decide) (show j<=5 by omega)) (by decide)));obtain⟨c6,g⟩:=WX x hx A1 (Zf (.lst ((o9 x j).map .str))) (Zf (.lst ((m9 x j).map .str))) (Zf d) (m9 x j) [] a6 (λw hw=>by have:=(vo.mp hw).1;omega) (by rw[Qx2];omega);obtain⟨b4,b5,b6,h⟩:=Kg x hx A1 ds (j+1) (Zf d) (Zf (.lst ((m9 x (j+1)).map .str))) c6 (by omega);have e:j+(d::ds).length=j+1+ds.length:=by rw[Qqw];omega
  refine⟨b4,b5,b6,?_⟩;rw[e,<-h];refine KB.p6 rfl ?_;unfold cR.jA
  let E1:Ev.Env:=[Zs x,A1,Zf (.lst ((o9 x j).map .str)),Zf (.lst ((m9 x j).map .str)),Zf d,Zl [],a6]
  refine(az (e:=E1) rfl).trans ?_;refine(az ((dq (ds:=(m9 x j).map .str) (e:=E1) rfl).trans g)).trans ?_;rw[List.nil_append];have er:((m9 x j).flatMap λw=>x.map λa=>w++[a])=m9 x (j+1):=rfl;rw[er];generalize hrw:m9 x (j+1)=rw1 at *;generalize ajj:m9 x j=rw0 at *
  let E0:Ev.Env:=[Zs x,A1,Zf (.lst ((o9 x j).map .str)),Zf (.lst (rw1.map .str)),Zf d,Zf (.lst (rw1.map .str)),c6]
  refine(az (e:=E0) rfl).trans ?_;refine bC (d:=.lst ((o9 x (j+1)).map .str)) (e:=E0) ?_ rfl;refine iz (i:=2) (b:=aV 3) (x:=.lst ((o9 x j).map .str)) (y:=.lst (rw1.map .str)) rfl rfl rfl ?_;unfold cL;refine(if_pos ?_).trans ?_
  ·rw[Qqx,Qqx];exact Qq3 (Nat.add_le_add ha4 hr5) (by decide)
  ·rw[<-Qw6,<-hrw]
   rfl
theorem xW(x:List Nat)(hx:x.length<=4)(m:Nat)(hm:m<=5):cR.mG [.str x,.int (m:Int)]=some (.lst ((o9 x m).map .str)):=by
 obtain⟨b4,b5,b6,h⟩:=Kg x hx (Zf (.int (m:Int))) ((List.range m).map λ(i:Nat)=>.int (i:Int)) 0 none none none (by rw[Qqx,List.length_range];omega);rw[Qqx,List.length_range,Nat.zero_add] at h;refine bV (env:=[Zs x,Zf (.int (m:Int)),Zf (.lst ((o9 x m).map .str)),Zf (.lst ((m9 x m).map .str)),b4,b5,b6]) ?_;unfold cR.qG;refine(az (e:=[Zs x,Zf (.int (m:Int)),Zf (.lst [.str []]),Zn,Zn,Zn,Zn]) rfl).trans ?_
 let E0:Ev.Env:=[Zs x,Zf (.int (m:Int)),Zf (.lst [.str []]),Zf (.lst [.str []]),Zn,Zn,Zn]
 refine(az (e:=E0) rfl).trans ?_;refine(az ((dq (ds:=(List.range m).map λ(i:Nat)=>.int (i:Int)) (e:=E0) ?_).trans h)).trans ?_
 ·exact cZ.rW (ds:=[.int (m:Int)]) rfl (Tv (Qw4 hm (by decide)))
 ·rfl
structure Nm(x:List Nat)(s:D)(Rs:List D)(first:List Nat)(N:List gb):Prop where
 mo:MO x N.length first N
 run:∀w,(∀a∈w,a∈x)->∃r,ir N 0 (w.map (cU x))=some r/\QR x (lay s Rs) (tY (lay s Rs)) w=first++r
section
variable{x:List Nat}{s:D}{Rs rs:List D}{first:List Nat}{N:List gb}{w:List Nat}
theorem X3(hs:s∈sides):∃side,s = .str side/\∀v,cZ.rd side v=sr s v:=by
 simp only[sides,Qq1,Qwk,Qx6] at hs;rcases hs with rfl|rfl
 ·exact⟨_,rfl,λv=>rfl⟩
 ·exact⟨_,rfl,λv=>rfl⟩
theorem xu(hx:x∈iu.XS)(hs:s∈sides)(hR:∀R∈Rs,cG x R)(hr:iu.Rows (gB x) rs)(K:Nm x s Rs first N)(hw:∀c∈w,c∈x)(hn:(w.length+1)*2^Rs.length<=301):cR.qC [.tup rs,cZ.encM first N,s,.str w]=some (.str (fin s Rs w)):=by
 obtain⟨side,rfl,hd⟩:=X3 hs;have hp:0<2^Rs.length:=Nat.pow_pos (by decide);have hwl:w.length<=300:=by have:=Qk5 (w.length+1) hp;rw[Nat.mul_one] at this;omega
 have h1:=run_eq hx hr K.mo side w hw (by omega);have hdw:∀c∈sr (.str side) w,c∈x:=λc hc=>hw c (GZ hc);obtain⟨r,e1,e2⟩:=K.run (sr (.str side) w) hdw;rw[hd,hd,Yd hx hdw e1,<-e2] at h1;rw[h1];unfold QR;rw[R8.ad2 hx hs hR hw hn,zP]
end
theorem jM{x:List Nat}{s:D}{Rs rs:List D}(hx:x∈iu.XS)(hs:s∈sides)(hR:∀R∈Rs,cG x R)(h3:Rs.length<=3)(hr:iu.Rows (gB x) rs):∃first N,cR.fQ [.tup rs,.tup [s,.tup Rs]]=some (cZ.encM first N)/\Nm x s Rs first N:=by have hu:(U x (lay s Rs)).length<=600:=Qq3 (ago (iu.nH x hx) (by rw[kh.oA];exact h3)) (by decide);obtain⟨first,N,h1,h2,h3⟩:=least_machine (jw:=.tup rs) hx hs hR (by omega) hu (by rw[uZ];exact iu.sounds_of hx hr);exact⟨first,N,h1,h2,h3⟩
end KM
namespace cR
open Ev PySem L2
open iu (XS)
open lV (sides)
open uR (cG fin qu p8 cF)
open KM (Nm xu jM o9 wG xW m9)
theorem Zg:nG=uR.nG:=rfl
theorem XJ:iR=uR.iR:=rfl
theorem YT:jD=iu.jD:=rfl
theorem Tf:jO=iu.jO:=rfl
theorem Dv:eU=iu.eU:=rfl
theorem Vg:fZ=kh.fZ:=rfl
theorem XD:jB=cZ.jB:=rfl
abbrev En(A0 A1 A2 A3 A4 A5 A6 A7 A8 A9 A10 A11 A12:OD):Ev.Env:=[A0,A1,A2,A3,A4,A5,A6,A7,A8,A9,A10,A11,A12]
theorem lbr{ST O1 O2 OB S M1 M2 M3:D}{w mid due:List Nat}{W1 W2 W2' W3:List D}(A0 A4 A8 a10 a11 a12:OD)(r1:qC [ST,M1,S,.str w]=some (.str mid))(r2:qC [ST,M2,S,.str mid]=some (.str due))(r3:qC [ST,M3,S,.str w]=some (.str due))(m1:nG [O1,.str w]=some (.str mid))(m2:nG [OB,.str w]=some (.str due))(k1:iR [O1,.str w]=some (.tup W1))(k2:iR [O2,.str mid]=some (.tup W2))(k3:iR [OB,.str w]=some (.tup W3))(c1:cutD W2 (some 1) none=W2')(hadd:cL (.tup W1) (.tup W2')=some (.tup W3))(hne:xP (.tup W3) (.tup W3)=some (.bl false)) :
  iK (En A0 (Zf ST) (Zf O1) (Zf O2) A4 (Zf S) (Zf OB) (Zl [M1,M2,M3]) A8 (Zs w) a10 a11 a12) = .nx (En A0 (Zf ST) (Zf O1) (Zf O2) A4 (Zf S) (Zf OB) (Zl [M1,M2,M3]) A8 (Zs w) (Zs mid) (Zs due) a12):=by
 unfold iK;have ne:∀z:List Nat,xP (.str z) (.str z)=some (.bl false):=λz=>by
  show some (D.bl (!(z == z)))=_;rw[Qk9]
  rfl
 let E0:Ev.Env:=(En A0 (Zf ST) (Zf O1) (Zf O2) A4 (Zf S) (Zf OB) (Zl [M1,M2,M3]) A8 (Zs w) (Zs mid) a11 a12)
 refine(az (e:=E0) (bC (d:=.str mid) (e:=(En A0 (Zf ST) (Zf O1) (Zf O2) A4 (Zf S) (Zf OB) (Zl [M1,M2,M3]) A8 (Zs w) a10 a11 a12)) (aJ (ds:=[ST,M1,S,.str w]) rfl r1) rfl)).trans ?_;refine(az (e:=(En A0 (Zf ST) (Zf O1) (Zf O2) A4 (Zf S) (Zf OB) (Zl [M1,M2,M3]) A8 (Zs w) (Zs mid) (Zs due) a12)) (bC (d:=.str due) (e:=E0) (aJ (ds:=[ST,M2,S,.str mid]) rfl r2) rfl)).trans ?_;have t1:eO (aO xP (au nG (Zv 2 (Zv 9 ak))) (aV 10)) (En A0 (Zf ST) (Zf O1) (Zf O2) A4 (Zf S) (Zf OB) (Zl [M1,M2,M3]) A8 (Zs w) (Zs mid) (Zs due) a12) = .ok false (En A0 (Zf ST) (Zf O1) (Zf O2) A4 (Zf S) (Zf OB) (Zl [M1,M2,M3]) A8 (Zs w) (Zs mid) (Zs due) a12):=dh (bF (x:=.str mid) (y:=.str mid) (aJ (ds:=[O1,.str w]) rfl m1) rfl (ne mid));have t2:eO (aO xP (au nG (Zv 6 (Zv 9 ak))) (aV 11)) (En A0 (Zf ST) (Zf O1) (Zf O2) A4 (Zf S) (Zf OB) (Zl [M1,M2,M3]) A8 (Zs w) (Zs mid) (Zs due) a12) = .ok false (En A0 (Zf ST) (Zf O1) (Zf O2) A4 (Zf S) (Zf OB) (Zl [M1,M2,M3]) A8 (Zs w) (Zs mid) (Zs due) a12):=dh (bF (x:=.str due) (y:=.str due) (aJ (ds:=[OB,.str w]) rfl m2) rfl (ne due));have t3:eO (aO xP (au qC (Zv 1 (aa (aB dH 7 (Zi 2)) (Zv 5 (Zv 9 ak))))) (aV 11)) (En A0 (Zf ST) (Zf O1) (Zf O2) A4 (Zf S) (Zf OB) (Zl [M1,M2,M3]) A8 (Zs w) (Zs mid) (Zs due) a12) = .ok false (En A0 (Zf ST) (Zf O1) (Zf O2) A4 (Zf S) (Zf OB) (Zl [M1,M2,M3]) A8 (Zs w) (Zs mid) (Zs due) a12):=dh (bF (x:=.str due) (y:=.str due) (aJ (ds:=[ST,M3,S,.str w]) rfl r3) rfl (ne due));refine(az (fB ((PJ t1).trans ((PJ t2).trans t3)))).trans ?_;have h:au iR (Zv 3 (Zv 10 ak)) (En A0 (Zf ST) (Zf O1) (Zf O2) A4 (Zf S) (Zf OB) (Zl [M1,M2,M3]) A8 (Zs w) (Zs mid) (Zs due) a12) = .ok (.tup W2) (En A0 (Zf ST) (Zf O1) (Zf O2) A4 (Zf S) (Zf OB) (Zl [M1,M2,M3]) A8 (Zs w) (Zs mid) (Zs due) a12):=aJ (ds:=[O2,.str mid]) rfl k2;have h2:tZ (au iR (Zv 3 (Zv 10 ak))) (zK (Zi 1)) pI (En A0 (Zf ST) (Zf O1) (Zf O2) A4 (Zf S) (Zf OB) (Zl [M1,M2,M3]) A8 (Zs w) (Zs mid) (Zs due) a12) = .ok (.tup W2') (En A0 (Zf ST) (Zf O1) (Zf O2) A4 (Zf S) (Zf OB) (Zl [M1,M2,M3]) A8 (Zs w) (Zs mid) (Zs due) a12):=by unfold tZ;rw[h];show Ev.R.ok (D.tup (cutD W2 (some 1) none)) _=_;rw[c1]
 have t4:eO (aO xP (au iR (Zv 6 (Zv 9 ak))) (aO cL (au iR (Zv 2 (Zv 9 ak))) (tZ (au iR (Zv 3 (Zv 10 ak))) (zK (Zi 1)) pI))) (En A0 (Zf ST) (Zf O1) (Zf O2) A4 (Zf S) (Zf OB) (Zl [M1,M2,M3]) A8 (Zs w) (Zs mid) (Zs due) a12) = .ok false (En A0 (Zf ST) (Zf O1) (Zf O2) A4 (Zf S) (Zf OB) (Zl [M1,M2,M3]) A8 (Zs w) (Zs mid) (Zs due) a12):=
  dh (bF (x:=.tup W3) (y:=.tup W3) (aJ (ds:=[OB,.str w]) rfl k3) (bF (x:=.tup W1) (y:=.tup W2') (aJ (ds:=[O1,.str w]) rfl k1) h2 hadd) hne)
 exact(fB t4).trans rfl
open uR (cG fin qu p8 cF iM Ot)
theorem XF(s:D)(R2:List D)(w:List Nat):qu s w R2=w::(qu s w R2).drop 1:=by cases R2<;>rfl
theorem Nu(s:D)(R2:List D):∀(R1:List D) (w:List Nat),qu s w (R1++R2)=qu s w R1++(qu s (fin s R1 w) R2).drop 1
 | [],w=>XF s R2 w
 | R::R1,w=>by
  show w::qu s (cF s R w) (R1++R2)=(w::qu s (cF s R w) R1)++_;rw[Nu s R2 R1 (cF s R w)]
  rfl
theorem ZV(s:D)(R1 R2:List D)(w:List Nat):fin s (R1++R2) w=fin s R2 (fin s R1 w):=by unfold fin;rw[List.foldl_append]
section
variable{x:List Nat}{s:D}{R1 R2 rs:List D}(hx:x∈XS)(hs:s∈sides)(hr:iu.Rows (gB x) rs)(h1:∀R∈R1,cG x R)(h2:∀R∈R2,cG x R)(l1:R1.length<=2)(l2:R2.length<=1)
include hx hs hr h1 h2 l1 l2
theorem Qe:∀R∈R1++R2,cG x R:=λR hR=>(Qw1.mp hR).elim (h1 R) (h2 R)
theorem XC{f1 f2 f3:List Nat}{N1 N2 N3:List KM.gb}(K1:Nm x s R1 f1 N1)(K2:Nm x s R2 f2 N2)(K3:Nm x s (R1++R2) f3 N3){w:List Nat}(hw:∀c∈w,c∈x)(hn:w.length<=6)(A0 A4 A8 a10 a11 a12:OD) :
  ∃b10 b11,iK (En A0 (Zf (.tup rs)) (Zf (.tup [s,.tup R1])) (Zf (.tup [s,.tup R2])) A4 (Zf s) (Zf (.tup [s,.tup (R1++R2)])) (Zl [cZ.encM f1 N1,cZ.encM f2 N2,cZ.encM f3 N3]) A8 (Zs w) a10 a11 a12) =
   .nx (En A0 (Zf (.tup rs)) (Zf (.tup [s,.tup R1])) (Zf (.tup [s,.tup R2])) A4 (Zf s) (Zf (.tup [s,.tup (R1++R2)])) (Zl [cZ.encM f1 N1,cZ.encM f2 N2,cZ.encM f3 N3]) A8 (Zs w) b10 b11 a12):=by
 have hb:=Qe hx hs hr h1 h2 l1 l2;have p1:2^R1.length<=4:=Qx7 (n:=2) (j:=2) (by decide) l1;have p2:2^R2.length<=2:=Qx7 (n:=2) (j:=1) (by decide) l2;have n1:(w.length+1)*2^R1.length<=28:=Qvy (show w.length+1<=7 by omega) p1;obtain⟨q1,q2⟩:=p8 hx hs R1 w h1 hw (by omega);have n2:((fin s R1 w).length+1)*2^R2.length<=56:=Qvy (show(fin s R1 w).length+1<=28 by omega) p2;have p3:2^(R1++R2).length<=8:=Qx7 (n:=2) (j:=3) (by decide) (by rw[Qqj];omega);have n3:(w.length+1)*2^(R1++R2).length<=56:=Qvy (show w.length+1<=7 by omega) p3;have r1:=xu hx hs h1 hr K1 hw (by omega);have r2:=xu hx hs h2 hr K2 q1 (by omega);have r3:=xu hx hs hb hr K3 hw (by omega);have m1:=uR.made hx hs h1 (by omega) hw (by omega);have m2:=uR.made hx hs hb (by rw[Qqj];omega) hw (by omega);have k1:=uR.walk hx hs h1 (by omega) hw (by omega);have k2:=uR.walk hx hs h2 (by omega) q1 (by omega);have k3:=uR.walk hx hs hb (by rw[Qqj];omega) hw (by omega);rw[ZV] at r3 m2;rw[<-Zg] at m1 m2;rw[<-XJ] at k1 k2 k3;have c1:cutD ((qu s (fin s R1 w) R2).map D.str) (some 1) none=((qu s (fin s R1 w) R2).drop 1).map D.str:=by rw[List.map_drop];exact xU _ 1
 have hadd:cL (.tup ((qu s w R1).map D.str)) (.tup (((qu s (fin s R1 w) R2).drop 1).map D.str))=some (.tup ((qu s w (R1++R2)).map D.str)):=by
  unfold cL;refine(if_pos ?_).trans ?_
  ·rw[Qqx,Qqx,Qzk,uR.zc,uR.zc];exact Qq3 (show R1.length+1+(R2.length+1 - 1)<=10 by omega) (by decide)
  ·rw[Nu,Qw6]
 exact⟨_,_,lbr A0 A4 A8 a10 a11 a12 r1 r2 r3 m1 m2 k1 k2 k3 c1 hadd (iM (Ot _))⟩
theorem abt(n:Int)(A1 A2 A3 A5 A6 A7 A8 A9 A10 A11 A12:OD):∃(ws:List (List Nat)) (n':Int),nD (En (Zl [.int n]) A1 A2 A3 (Zs x) A5 A6 A7 A8 A9 A10 A11 A12) = .ok (.lst (ws.map .str)) (En (Zl [.int n']) A1 A2 A3 (Zs x) A5 A6 A7 A8 A9 A10 A11 A12)/\(∀w∈ws,(∀c∈w,c∈x)/\w.length<=6)/\ws.length=4:=by
 obtain⟨ys,env',g1,⟨n',v,rfl⟩,g3,g4⟩:=cZ.Gr (g:=aj 13) (e:=di jB 0 (Zv 4 (aa (Zi 6) ak))) (λenv=>∃n v,env=[Zl [.int n],A1,A2,A3,Zs x,A5,A6,A7,A8,A9,A10,A11,A12,v]) (λy=>∃w,y = .str w/\(∀c∈w,c∈x)/\w.length<=6) (gf 0 1 4)
  [Zl [.int n],A1,A2,A3,Zs x,A5,A6,A7,A8,A9,A10,A11,A12,Zn] ⟨_,_,rfl⟩
  (λt _ env ⟨n,v,he⟩=>by
   subst he;obtain⟨w,n',e1,e2,e3⟩:=cZ.word n x hx 6 (by decide);rw[<-XD] at e1;refine⟨.str w,_,[Zl [.int n'],A1,A2,A3,Zs x,A5,A6,A7,A8,A9,A10,A11,A12,Zf t],rfl,?_,⟨_,_,rfl⟩,w,rfl,e2,e3⟩;exact Ev.wj (x:=.lst [.int n]) (ds:=[.str x,.int 6]) (e1:=[Zl [.int n],A1,A2,A3,Zs x,A5,A6,A7,A8,A9,A10,A11,A12,Zf t]) rfl rfl rfl e1)
 obtain⟨ws,rfl,hws⟩:∃ws:List (List Nat),ys=ws.map .str/\∀w∈ws,(∀c∈w,c∈x)/\w.length<=6:=by
  clear g1 g4
  induction ys with
  | nil=>exact⟨[],rfl,λw hw=>by simp at hw⟩
  | cons y ys ih=>
   obtain⟨w,rfl,hw⟩:=g3 y (Qqv ..);obtain⟨ws,rfl,h⟩:=ih λz hz=>g3 z (Qqk _ hz);refine⟨w::ws,rfl,λv hv=>?_⟩;rcases Qq1.mp hv with rfl|hv
   ·exact hw
   ·exact h v hv
 rw[Qqx,kJ] at g4;refine⟨ws,n',?_,hws,g4⟩;unfold nD;exact oG (lo:=13) (n:=14) (aL:=En (Zl [.int n]) A1 A2 A3 (Zs x) A5 A6 A7 A8 A9 A10 A11 A12) (cZ.rW (ds:=[.int 4]) rfl (cZ.Tv (j:=4) (by decide))) rfl g1 (by rw[Qqx,g4];decide)
theorem right(n:Int):∃n',oF [.lst [.int n],.tup rs,.tup [s,.tup R1],.tup [s,.tup R2]]=some (.bl true,.lst [.int n']):=by
 have hb:=Qe hx hs hr h1 h2 l1 l2;obtain⟨f1,N1,e1,K1⟩:=jM hx hs h1 (by omega) hr;obtain⟨f2,N2,e2,K2⟩:=jM hx hs h2 (by omega) hr;obtain⟨f3,N3,e3,K3⟩:=jM hx hs hb (by rw[Qqj];omega) hr;obtain⟨f0,N0,e0,K0⟩:=jM (Rs:=[]) hx hs (λR hR=>by simp at hR) (by decide) hr;have hx4:=iu.nH x hx;have hl:eU [.tup rs]=some (.str x):=by rw[Dv];exact iu.Bj hx hr
 obtain⟨ws,n',g1,g2,g3⟩:=abt hx hs hr h1 h2 l1 l2 n (Zf (.tup rs)) (Zf (.tup [s,.tup R1])) (Zf (.tup [s,.tup R2])) (Zf s) (Zf (.tup [s,.tup (R1++R2)])) (Zl [cZ.encM f1 N1,cZ.encM f2 N2,cZ.encM f3 N3]) none none none none none;have hall:∀w∈o9 x 2++ws,(∀c∈w,c∈x)/\w.length<=6:=λw hw=>by
  rcases Qw1.mp hw with hw|hw
  ·obtain⟨q1,q2⟩:=wG.mp hw;exact⟨q2,by omega⟩
  ·exact g2 w hw
 have hal:(o9 x 2++ws).length<=100:=by rw[Qqj,g3];have:=KM.Cg hx4 2;omega
 generalize hV:o9 x 2++ws=V at *;obtain⟨e',fl,a9,a10,a11,rfl⟩:=Br (g:=aj 9) (b:=iK) (λenv=>∃a9 a10 a11,env=En (Zl [.int n']) (Zf (.tup rs)) (Zf (.tup [s,.tup R1])) (Zf (.tup [s,.tup R2])) (Zs x) (Zf s) (Zf (.tup [s,.tup (R1++R2)])) (Zl [cZ.encM f1 N1,cZ.encM f2 N2,cZ.encM f3 N3]) (Zf (.lst (V.map .str))) a9 a10 a11 none) (V.map .str)
  (λd hd env ⟨a9,a10,a11,he⟩=>by
   subst he;obtain⟨w,hw,rfl⟩:=Qwy.mp hd;obtain⟨b10,b11,h⟩:=XC hx hs hr h1 h2 l1 l2 K1 K2 K3 (hall w hw).1 (hall w hw).2 (Zl [.int n']) (Zs x) (Zf (.lst (V.map .str))) a10 a11 none;exact⟨_,_,rfl,h,_,_,_,rfl⟩)
  (En (Zl [.int n']) (Zf (.tup rs)) (Zf (.tup [s,.tup R1])) (Zf (.tup [s,.tup R2])) (Zs x) (Zf s) (Zf (.tup [s,.tup (R1++R2)])) (Zl [cZ.encM f1 N1,cZ.encM f2 N2,cZ.encM f3 N3]) (Zf (.lst (V.map .str))) none none none none) ⟨_,_,_,rfl⟩
 let E0:Ev.Env:=En (Zl [.int n']) (Zf (.tup rs)) (Zf (.tup [s,.tup R1])) (Zf (.tup [s,.tup R2])) (Zs x) (Zf s) (Zf (.tup [s,.tup (R1++R2)])) (Zl [cZ.encM f1 N1,cZ.encM f2 N2,cZ.encM f3 N3]) (Zf (.lst (V.map .str))) a9 a10 a11 (Zf (cZ.encM f0 N0))
 refine⟨n',iH (env:=E0) ?_ rfl⟩;unfold yw;refine(az (e:=En (Zl [.int n]) (Zf (.tup rs)) (Zf (.tup [s,.tup R1])) (Zf (.tup [s,.tup R2])) (Zs x) none none none none none none none none) (bC (d:=.str x) (e:=En (Zl [.int n]) (Zf (.tup rs)) (Zf (.tup [s,.tup R1])) (Zf (.tup [s,.tup R2])) none none none none none none none none none) (aJ (ds:=[.tup rs]) rfl hl) rfl)).trans ?_
 let E2:Ev.Env:=En (Zl [.int n]) (Zf (.tup rs)) (Zf (.tup [s,.tup R1])) (Zf (.tup [s,.tup R2])) (Zs x) (Zf s) none none none none none none none
 refine(az (e:=E2) rfl).trans ?_
 let E1:Ev.Env:=En (Zl [.int n]) (Zf (.tup rs)) (Zf (.tup [s,.tup R1])) (Zf (.tup [s,.tup R2])) (Zs x) (Zf s) (Zf (.tup [s,.tup (R1++R2)])) none none none none none none
 refine(az (e:=E1) ?_).trans ?_
 ·refine bC (d:=.tup [s,.tup (R1++R2)]) (e:=E2) ?_ rfl;refine cA (ds:=[s,.tup (R1++R2)]) (aH (e1:=E2) rfl (aH ?_ bz)) Ev.zb;refine bF (x:=.tup R1) (y:=.tup R2) (e1:=E2) rfl rfl ?_;unfold cL;exact if_pos (Qq3 (show R1.length+R2.length<=10 by omega) (by decide))
 refine(az (e:=En (Zl [.int n]) (Zf (.tup rs)) (Zf (.tup [s,.tup R1])) (Zf (.tup [s,.tup R2])) (Zs x) (Zf s) (Zf (.tup [s,.tup (R1++R2)])) (Zl [cZ.encM f1 N1,cZ.encM f2 N2,cZ.encM f3 N3]) none none none none none) ?_).trans ?_
 ·refine(lN (d:=.lst [cZ.encM f1 N1,cZ.encM f2 N2,cZ.encM f3 N3]) (e:=E1) ?_).trans rfl;unfold rR;refine GJ (lo:=13) (n:=14) (it:=dW (cz (Zv 2 (Zv 3 (Zv 6 ak))))) (e:=au fQ (Zv 1 (Zv 13 ak))) (env:=E1) (aL:=E1) [(D.tup [s,.tup R1],cZ.encM f1 N1),(.tup [s,.tup R2],cZ.encM f2 N2),(.tup [s,.tup (R1++R2)],cZ.encM f3 N3)] (·.1) (·.2) rfl rfl rfl (λp hp=>?_) Ev.zz3;simp only[Qq1,Qwk,Qx6] at hp;rcases hp with rfl|rfl|rfl
  ·exact aJ (ds:=[.tup rs,.tup [s,.tup R1]]) rfl e1
  ·exact aJ (ds:=[.tup rs,.tup [s,.tup R2]]) rfl e2
  ·exact aJ (ds:=[.tup rs,.tup [s,.tup (R1++R2)]]) rfl e3
 let E3:Ev.Env:=En (Zl [.int n']) (Zf (.tup rs)) (Zf (.tup [s,.tup R1])) (Zf (.tup [s,.tup R2])) (Zs x) (Zf s) (Zf (.tup [s,.tup (R1++R2)])) (Zl [cZ.encM f1 N1,cZ.encM f2 N2,cZ.encM f3 N3]) (Zf (.lst (V.map .str))) none none none none
 refine(az (e:=E3) ?_).trans ?_
 ·refine bC (d:=.lst (V.map .str)) (e:=En (Zl [.int n']) (Zf (.tup rs)) (Zf (.tup [s,.tup R1])) (Zf (.tup [s,.tup R2])) (Zs x) (Zf s) (Zf (.tup [s,.tup (R1++R2)])) (Zl [cZ.encM f1 N1,cZ.encM f2 N2,cZ.encM f3 N3]) none none none none none) ?_ rfl;refine bF (x:=.lst ((o9 x 2).map .str)) (y:=.lst (ws.map .str)) (aJ (ds:=[.str x,.int 2]) rfl (xW x hx4 2 (by decide))) g1 ?_;unfold cL;refine(if_pos ?_).trans ?_
  ·rw[Qqx,Qqx,<-Qqj,hV];exact Qq3 hal (by decide)
  ·rw[<-Qw6,hV]
 refine(az ((dq (ds:=V.map .str) (e:=E3) rfl).trans fl)).trans ?_;refine(az (e:=E0) (bC (d:=cZ.encM f0 N0) (e:=En (Zl [.int n']) (Zf (.tup rs)) (Zf (.tup [s,.tup R1])) (Zf (.tup [s,.tup R2])) (Zs x) (Zf s) (Zf (.tup [s,.tup (R1++R2)])) (Zl [cZ.encM f1 N1,cZ.encM f2 N2,cZ.encM f3 N3]) (Zf (.lst (V.map .str))) a9 a10 a11 none) (aJ (ds:=[.tup rs,.tup [s,.tup []]]) rfl e0) rfl)).trans ?_;refine bH (aJ (ds:=[.lst (V.map λ_=>.bl true)]) (aH ?_ bz) ?_)
 ·unfold rQ;refine GJ (lo:=13) (n:=14) (it:=dW (aM 8)) (e:=aO qz (au qC (Zv 1 (Zv 12 (Zv 5 (Zv 13 ak))))) (aV 13)) (env:=E0) (aL:=E0) V .str (λ_=>.bl true) rfl rfl rfl (λw hw=>?_) (Qq3 hal (by decide));have r0:=xu hx hs (Rs:=[]) (λR hR=>by simp at hR) hr K0 (hall w hw).1 (by have:=(hall w hw).2;rw[Qx2];omega);refine bF (x:=.str w) (y:=.str w) (aJ (ds:=[.tup rs,cZ.encM f0 N0,s,.str w]) rfl r0) rfl ?_;show some (D.bl (w == w))=_;rw[Qk9]
 ·rw[agb (λ_=>true) V];have:(V.all λ_=>true)=true:=Qxw.mpr λ_ _=>rfl;rw[this]
end
theorem afL(ns:List Int)(hl:ns.length<=63)(hb:Np ns)(k:Int)(h0:0<=k)(h1:k<=400)(a2 a3 a4 a5 a6:OD):∃b2 b3 b4 b5 b6,vN [Zf (.arr (ns.map .int)),Zf (.int k),a2,a3,a4,a5,a6] = .nx [Zf (.arr (ns.map .int)),Zf (.int k),b2,b3,b4,b5,b6]:=by
 obtain⟨p,hp⟩:=iu.pack ns hl hb k h0 (by omega);obtain⟨p2,hp2⟩:=iu.pack ns hl hb (k+2) (by omega) (by omega);obtain⟨x,rs,n1,hx,e1,hr⟩:=iu.stock p;obtain⟨s,R1,n2,e2,hs,hR1,l1⟩:=kh.order n1 x hx 2 (by decide);obtain⟨s',R2,n3,e3,hs',hR2,l2⟩:=kh.order p2 x hx 1 (by decide);have hsn:eU [.tup rs]=some (.str x):=by rw[Dv];exact iu.Bj hx hr
 obtain⟨n4,e4⟩:=right hx hs hr hR1 hR2 l1 l2 n3;rw[<-YT] at hp hp2;rw[<-Tf] at e1;rw[<-Vg] at e2 e3;refine⟨Zl [.int n2],Zf (.tup rs),Zs x,Zf (.tup [s,.tup R1]),Zl [.int n4],?_⟩;generalize D.arr (ns.map .int)=AR at *;unfold vN
 let E4:Ev.Env:=[Zf AR,Zf (.int k),Zl [.int p],a3,a4,a5,a6]
 refine(az (e:=E4) ((lN (d:=.lst [.int p]) (e:=[Zf AR,Zf (.int k),a2,a3,a4,a5,a6]) (aJ (ds:=[AR,.int k]) rfl hp)).trans rfl)).trans ?_
 let E3:Ev.Env:=[Zf AR,Zf (.int k),Zl [.int n1],Zf (.tup rs),a4,a5,a6]
 refine(az (e:=E3) (bC (d:=.tup rs) (e:=[Zf AR,Zf (.int k),Zl [.int n1],a3,a4,a5,a6]) (Ev.wj (x:=.lst [.int p]) (ds:=[]) (e1:=E4) rfl rfl rfl e1) rfl)).trans ?_
 let E2:Ev.Env:=[Zf AR,Zf (.int k),Zl [.int n1],Zf (.tup rs),Zs x,a5,a6]
 refine(az (e:=E2) (bC (d:=.str x) (e:=E3) (aJ (ds:=[.tup rs]) rfl hsn) rfl)).trans ?_
 let E1:Ev.Env:=[Zf AR,Zf (.int k),Zl [.int n2],Zf (.tup rs),Zs x,Zf (.tup [s,.tup R1]),a6]
 refine(az (e:=E1) (bC (d:=.tup [s,.tup R1]) (e:=[Zf AR,Zf (.int k),Zl [.int n2],Zf (.tup rs),Zs x,a5,a6]) (qe (i:=2) (a:=Zv 4 (aa (Zi 2) ak)) (x:=.lst [.int n1]) (x0:=.lst [.int n1]) (ds:=[.str x,.int ((2:Nat):Int)]) (e1:=E2) rfl rfl rfl e2) rfl)).trans ?_
 let E0:Ev.Env:=[Zf AR,Zf (.int k),Zl [.int n2],Zf (.tup rs),Zs x,Zf (.tup [s,.tup R1]),Zl [.int p2]]
 refine(az (e:=E0) ((lN (d:=.lst [.int p2]) (e:=E1) (aJ (ds:=[AR,.int (k+2)]) rfl hp2)).trans rfl)).trans ?_;have hio:di fZ 6 (Zv 4 (aa (Zi 1) ak)) [Zf AR,Zf (.int k),Zl [.int n2],Zf (.tup rs),Zs x,Zf (.tup [s,.tup R1]),Zl [.int p2]] = .ok (.tup [s',.tup R2]) [Zf AR,Zf (.int k),Zl [.int n2],Zf (.tup rs),Zs x,Zf (.tup [s,.tup R1]),Zl [.int n3]]:=
  Ev.wj (x:=.lst [.int p2]) (ds:=[.str x,.int ((1:Nat):Int)]) (e1:=E0) rfl rfl rfl e3
 have hr0:di oF 6 (Zv 3 (Zv 5 (aa (bY (aa (aB dH 5 (Zi 0)) (aa (aO dH (di fZ 6 (Zv 4 (aa (Zi 1) ak))) (Zi 1)) ak))) ak))) [Zf AR,Zf (.int k),Zl [.int n2],Zf (.tup rs),Zs x,Zf (.tup [s,.tup R1]),Zl [.int p2]] = .ok (.bl true) [Zf AR,Zf (.int k),Zl [.int n2],Zf (.tup rs),Zs x,Zf (.tup [s,.tup R1]),Zl [.int n4]]:=by refine qe (x:=.lst [.int n3]) (x0:=.lst [.int p2]) (ds:=[.tup rs,.tup [s,.tup R1],.tup [s,.tup R2]]) (e1:=[Zf AR,Zf (.int k),Zl [.int n2],Zf (.tup rs),Zs x,Zf (.tup [s,.tup R1]),Zl [.int n3]]) rfl ?_ rfl e4;refine aH (e1:=E0) rfl (aH (e1:=E0) rfl (aH ?_ bz));refine cA (ds:=[s,.tup R2]) (aH (e1:=E0) rfl (aH ?_ bz)) Ev.zb;exact bF (x:=.tup [s',.tup R2]) (y:=.int 1) hio rfl rfl
 exact(fB (e:=[Zf AR,Zf (.int k),Zl [.int n2],Zf (.tup rs),Zs x,Zf (.tup [s,.tup R1]),Zl [.int n4]]) (RB (dh hr0))).trans rfl
theorem SQ(ns:List Int)(hl:ns.length<=63)(hb:Np ns):PB [.arr (ns.map .int)]=some (.bl true):=by
 have hlen:au d8 (aa (aV 0) ak) [Zf (D.arr (ns.map .int)),Zn,Zn,Zn,Zn,Zn,Zn] = .ok (.int (ns.length:Int)) [Zf (D.arr (ns.map .int)),Zn,Zn,Zn,Zn,Zn,Zn]:=by show R.ok (D.int ((ns.map D.int).length:Int)) _=_;rw[Qqx]
 obtain⟨ds,hds,hk⟩:∃ds,iV (aa (Zi 0) (aa (au Ry (aa (Zi 1) (aa (au Rx (aa (au d8 (aa (aV 0) ak)) (aa (Zi 12) ak))) ak))) (aa (Zi 3) ak))) [Zf (D.arr (ns.map .int)),Zn,Zn,Zn,Zn,Zn,Zn] = .ok ds [Zf (D.arr (ns.map .int)),Zn,Zn,Zn,Zn,Zn,Zn]/\∀d∈ds,∃k:Int,d = .int k/\0<=k/\k<=400:=by
  generalize hE:([Zf (D.arr (ns.map .int)),Zn,Zn,Zn,Zn,Zn,Zn]:Ev.Env)=env at hlen ⊢;have a1:aa (Zi 0) (aa (au Ry (aa (Zi 1) (aa (au Rx (aa (au d8 (aa (aV 0) ak)) (aa (Zi 12) ak))) ak))) (aa (Zi 3) ak)) env = .ok [.int 0,.int (if (if (12:Int)<ns.length then 12 else (ns.length:Int)) > 1 then (if (12:Int)<ns.length then 12 else (ns.length:Int)) else 1),.int 3] env:=
   aH (d:=.int 0) rfl (aH (aJ (ds:=[.int 1,.int (if (12:Int)<ns.length then 12 else (ns.length:Int))]) (aH (d:=.int 1) rfl (aH (aJ (ds:=[.int (ns.length:Int),.int 12]) (aH hlen rfl) rfl) bz)) rfl) rfl)
  generalize hm:(if (if (12:Int)<ns.length then 12 else (ns.length:Int)) > 1 then (if (12:Int)<ns.length then 12 else (ns.length:Int)) else 1)=m at a1;have hm1:1<=m/\m<=12:=by rw[<-hm];split<;>split<;>omega
  obtain⟨j,rfl⟩:∃j:Nat,m=(j:Int):=⟨m.toNat,by omega⟩;have hsm:(3:Int)≠0/\(3:Int).natAbs<1073741824/\Builtin.Range.small 0 (j:Int) 3=true:=by
   refine⟨by decide,by decide,?_⟩;have hall:((List.range 21).all λj=>Builtin.Range.small 0 (j:Int) 3)=true:=by decide +kernel
   exact Qxw.mp hall j (Qkk.mpr (by omega))
  have hsz:(Builtin.Range.rangeSize 0 (j:Int) 3).toNat<=20:=by
   have hall:((List.range 21).all λj=>decide ((Builtin.Range.rangeSize 0 (j:Int) 3).toNat<=20))=true:=by decide +kernel
   exact Qxk (Qxw.mp hall j (Qkk.mpr (by omega)))
  refine⟨gf 0 3 (Builtin.Range.rangeSize 0 (j:Int) 3).toNat,cZ.rW a1 (cZ.aeR hsm),λd hd=>?_⟩;unfold gf at hd;obtain⟨i,hi,rfl⟩:=Qwy.mp hd;have:=Qkk.mp hi;exact⟨0+(i:Int)*3,rfl,by omega,by omega⟩
 obtain⟨e',f1,b1,b2,b3,b4,b5,b6,rfl⟩:=Br (g:=aj 1) (b:=vN) (λenv=>∃b1 b2 b3 b4 b5 b6,env=[Zf (.arr (ns.map .int)),b1,b2,b3,b4,b5,b6]) ds
  (λd hd env ⟨b1,b2,b3,b4,b5,b6,he⟩=>by
   subst he;obtain⟨k,rfl,h0,h1⟩:=hk d hd;obtain⟨c2,c3,c4,c5,c6,hb⟩:=afL ns hl hb k h0 h1 b2 b3 b4 b5 b6;exact⟨_,_,rfl,hb,_,_,_,_,_,_,rfl⟩)
  [Zf (.arr (ns.map .int)),Zn,Zn,Zn,Zn,Zn,Zn] ⟨_,_,_,_,_,_,rfl⟩
 let E0:Ev.Env:=[Zf (.arr (ns.map .int)),b1,b2,b3,b4,b5,b6]
 refine bV (env:=E0) ?_;unfold abd;refine(az (e:=E0) ?_).trans rfl;exact(dq hds).trans f1
open PySem PySem.Spec PyProof.Rows L2 Ev
theorem all_mk{P:Program}{w:World}{K:Fg}{h:Heap}{mg:Str->Option Value}{fa:Addr}(X:K.In h)(G:h.Ns mainGlobals mg)(hfa:mg "law" = some (.ref fa))
  {abD:Tok} {wV:Tok}
  (aaE:PySem.W.nsIn K mainGlobals "all" = some none) (Su:PySem.W.nsIn K mainGlobals "dict" = some none) (Hn:PySem.W.nsIn K mainGlobals "divmod" = some none) (yc:PySem.W.nsIn K mainGlobals "enumerate" = some none) (aaD:PySem.W.nsIn K mainGlobals "len" = some none) (Ss:PySem.W.nsIn K mainGlobals "list" = some none) (aaC:PySem.W.nsIn K mainGlobals "max" = some none) (aaB:PySem.W.nsIn K mainGlobals "min" = some none) (Nr:PySem.W.nsIn K mainGlobals "range" = some none) (aaA:PySem.W.nsIn K mainGlobals "set" = some none) (Hm:PySem.W.nsIn K mainGlobals "sorted" = some none) (Nq:PySem.W.nsIn K mainGlobals "tuple" = some none) (aaz:PySem.W.nsIn K mainGlobals "zip" = some none) (MJ:PySem.W.nsIn K mainGlobals "EDGE" = some (some (.str "#" abD))) (lq:PySem.W.nsIn K mainGlobals "MOST_STANDINGS" = some (some (.int 600 wV))) (yz:FA K "sounds_of" qZ) (Xa:FA K "fits" Ly) (Km:FA K "turned" Af) (Fd:FA K "puts_in" xq) (qH:FA K "reading_rules" lX) (pM:FA K "first_standing" kO) (oR:FA K "read_putting_in" jW) (qI:FA K "read_changing" lY) (wH:FA K "read_signs" pQ) (Cj:FA K "watch_on" uy) (yx:FA K "watch_end" qY) (Fb:FA K "read_on" xn) (Kp:FA K "end_of" Ah) (Ck:FA K "readings" uz) (abf:FA K "run" Tq) (oO:FA K "standing_states" jV) (sJ:FA K "shared_start" m8) (pN:FA K "certain_starts" kW) (qJ:FA K "put_out_early" lZ) (Cp:FA K "numbered" uA) (uh:FA K "like_states" oX) (Ko:FA K "joined" Ag) (qK:FA K "least_machine" mj) (ug:FA K "with_put_in" oW) (sI:FA K "with_changes" m7) (yH:FA K "from_left" rD) (Fe:FA K "changed" xr) (W8:FA K "walk" Lw) (W9:FA K "made" Lx) (yG:FA K "_law_mixed" rC) (Cv:FA K "_law_pack" uE) (Cr:FA K "_law_take" uC) (yC:FA K "_law_stock" rm) (wI:FA K "_law_sounds" pR) (yD:FA K "_law_signs" rn) (um:FA K "_law_changes" oY) (Cu:FA K "_law_rule" uD) (yF:FA K "_law_order" rB) (Cq:FA K "_law_word" uB) (qL:FA K "_law_all_words" mq) (yE:FA K "_law_right" rA) (abg:FA K "law" Tr) :
  ∃fd:FuncData,(∀(s:Shared) (v:Value),BindsTo s fd ⟨[v],[]⟩ [("_law_script",v)])/\∀base:Heap,K.In base->base.Ns mainGlobals mg->pP P w K mg base Hj 10 fa fd ["_law_script"] (nY K 1 PB):=
 abg.law X G hfa (λs v=>.of_eq rfl) λbase F=>adD ⟨xE X G aaE,
  xE X G Su,
  xE X G Hn,
  xE X G yc,
  xE X G aaD,
  xE X G Ss,
  xE X G aaC,
  xE X G aaB,
  xE X G Nr,
  xE X G aaA,
  xE X G Hm,
  xE X G Nq,
  xE X G aaz,
  ZM X G MJ (by decide +kernel) (by decide),
  ZP X G lq,
  yz.at X G (fun|[_],_=>rfl),
  Xa.at X G (fun|[_,_],_=>rfl),
  Km.at X G (fun|[_],_=>rfl),
  Fd.at X G (fun|[_],_=>rfl),
  qH.at X G (fun|[_],_=>rfl),
  pM.at X G (fun|[_],_=>rfl),
  oR.at X G (fun|[_,_,_],_=>rfl),
  qI.at X G (fun|[_,_,_],_=>rfl),
  wH.at X G (fun|[_,_,_],_=>rfl),
  Cj.at X G (fun|[_,_,_],_=>rfl),
  yx.at X G (fun|[_,_],_=>rfl),
  Fb.at X G (fun|[_,_,_],_=>rfl),
  Kp.at X G (fun|[_,_],_=>rfl),
  Ck.at X G (fun|[_,_],_=>rfl),
  abf.at X G (fun|[_,_,_,_],_=>rfl),
  oO.at X G (fun|[_,_],_=>rfl),
  sJ.at X G (fun|[_],_=>rfl),
  pN.at X G (fun|[_],_=>rfl),
  qJ.at X G (fun|[_],_=>rfl),
  Cp.at X G (fun|[_],_=>rfl),
  uh.at X G (fun|[_],_=>rfl),
  Ko.at X G (fun|[_],_=>rfl),
  qK.at X G (fun|[_,_],_=>rfl),
  ug.at X G (fun|[_,_],_=>rfl),
  sI.at X G (fun|[_,_],_=>rfl),
  yH.at X G (fun|[_,_],_=>rfl),
  Fe.at X G (fun|[_,_,_],_=>rfl),
  W8.at X G (fun|[_,_],_=>rfl),
  W9.at X G (fun|[_,_],_=>rfl),
  yG.at X G (fun|[_],_=>rfl),
  Cv.at X G (fun|[_,_],_=>rfl),
  Cr.at X G (fun|[_,_],_=>rfl),
  yC.at X G (fun|[_],_=>rfl),
  wI.at X G (fun|[_],_=>rfl),
  yD.at X G (fun|[_,_],_=>rfl),
  um.at X G (fun|[_,_],_=>rfl),
  Cu.at X G (fun|[_,_],_=>rfl),
  yF.at X G (fun|[_,_,_],_=>rfl),
  Cq.at X G (fun|[_,_,_],_=>rfl),
  qL.at X G (fun|[_,_],_=>rfl),
  yE.at X G (fun|[_,_,_,_],_=>rfl)⟩ F
end cR
theorem PySem.W.Fast.tw11157071716784501902:True:=trivial
theorem PySem.W.Fast.tw2864867339734636449:True:=trivial
theorem PySem.W.Fast.tw9000344958210512499:True:=trivial
theorem PySem.W.Fast.tw12425139895341297804:True:=trivial
theorem PySem.W.Fast.tw8287837544645130804:True:=trivial
theorem PySem.W.Fast.tw13497992617686378092:True:=trivial
theorem PySem.W.Fast.tw14765947813307849434:True:=trivial
theorem PySem.W.Fast.tw4959202117745303167:True:=trivial
theorem PySem.W.Fast.tw16954733337985862487:True:=trivial
theorem PySem.W.Fast.tw8781880518555668095:True:=trivial
theorem PySem.W.Fast.tw1135656607021090155:True:=trivial
theorem PySem.W.Fast.tw16061893895621097572:True:=trivial
theorem PySem.W.Fast.tw1216467155697915791:True:=trivial
theorem PySem.W.Fast.tw2244984733445771317:True:=trivial
theorem PySem.W.Fast.tw16675293458324009778:True:=trivial
theorem PySem.W.Fast.tw1352214758692765198:True:=trivial
theorem PySem.W.Fast.tw13238813708071594396:True:=trivial
theorem PySem.W.Fast.tw17968350276880475548:True:=trivial
theorem PySem.W.Fast.tw1174585177570945208:True:=trivial
theorem PySem.W.Fast.tw4677376779350023545:True:=trivial
theorem PySem.W.Fast.tw9644426605746725298:True:=trivial
theorem PySem.W.Fast.tw14209721223577790812:True:=trivial
theorem PySem.W.Fast.tw15766331463403959171:True:=trivial
theorem PySem.W.Fast.tw12271768696148580541:True:=trivial
theorem PySem.W.Fast.tw16865531667251622209:True:=trivial
theorem PySem.W.Fast.tw10922121245100621859:True:=trivial
theorem PySem.W.Fast.tw8730823146877618990:True:=trivial
theorem PySem.W.Fast.tw7072618517988737724:True:=trivial
theorem PySem.W.Fast.tw14214899939588974549:True:=trivial
theorem PySem.W.Fast.tw6526991091289856879:True:=trivial
theorem PySem.W.Fast.tw15702780798773657374:True:=trivial
theorem PySem.W.Fast.tw14492571603481470737:True:=trivial
theorem PySem.W.Fast.tw4618416143393964561:True:=trivial
theorem PySem.W.Fast.tw4288003911291775321:True:=trivial
theorem PySem.W.Fast.tw3527703426536287491:True:=trivial
theorem PySem.W.Fast.tw15484301553877840222:True:=trivial
theorem PySem.W.Fast.tw13862194560811899818:True:=trivial
theorem PySem.W.Fast.tw7619942904334159227:True:=trivial
theorem PySem.W.Fast.tw15803489077845705836:True:=trivial
theorem PySem.W.Fast.tw6725828799389677747:True:=trivial
theorem PySem.W.Fast.tw13584050557504948657:True:=trivial
theorem PySem.W.Fast.tw3569082241281176600:True:=trivial
theorem PySem.W.Fast.tw7005995570926793168:True:=trivial
theorem PySem.W.Fast.tw14799212587010003571:True:=trivial
theorem PySem.W.Fast.tw17218896343141387626:True:=trivial
theorem PySem.W.Fast.tw210396592453407454:True:=trivial
theorem PySem.W.Fast.tw6819957078521883702:True:=trivial
theorem PySem.W.Fast.tw590826644929449744:True:=trivial
theorem PySem.W.Fast.tw5965412768605107925:True:=trivial
theorem PySem.W.Fast.tw1346651631269955506:True:=trivial
theorem PySem.W.Fast.tw12299796281857285414:True:=trivial
theorem PySem.W.Fast.tw3723708518459012093:True:=trivial
theorem PySem.W.Fast.tw17441887636622892800:True:=trivial
theorem PySem.W.Fast.tw5267065216026559509:True:=trivial
theorem PySem.W.Fast.tw9328729434610533537:True:=trivial
theorem PySem.W.Fast.tw7007131185918642501:True:=trivial
theorem PySem.W.Fast.tw11005693361702836485:True:=trivial
theorem PySem.W.Fast.tw15799170607850926312:True:=trivial
theorem PySem.W.Fast.tw14812829514675206193:True:=trivial
theorem PySem.W.Fast.tw15759978328777385636:True:=trivial
open PySem PySem.W PyProof.Rows
set_option maxRecDepth 100000 in
set_option maxHeartbeats 0 in
theorem PySem.Challenge.cw_soundrules_k27_whole_orders_behind_one_a_holds : PySem.Challenge.rw_soundrules_k27_whole_orders_behind_one_a.Holds := by
 w_on;o_law;k_head;(case hw=>w_witness2)
 k_fill
 refine Ev.aeA (l:=PySem.Challenge.rw_soundrules_k27_whole_orders_behind_one_a) (k:=10) (x:="_law_script") (f:=cR.PB) rfl (by decide) rfl ⟨rfl,by decide,by decide⟩ (λw h Y=>PySem.W.kIn_of Y) cR.SQ ?F
 case F=>
  intro w mg fa h KX G hmg
  refine' cR.all_mk KX G hmg ?aaE ?Su ?Hn ?yc ?aaD ?Ss ?aaC ?aaB ?Nr ?aaA ?Hm ?Nq ?aaz ?MJ ?lq ?yz ?Xa ?Km ?Fd ?qH ?pM ?oR ?qI ?wH ?Cj ?yx ?Fb ?Kp ?Ck ?abf ?oO ?sJ ?pN ?qJ ?Cp ?uh ?Ko ?qK ?ug ?sI ?yH ?Fe ?W8 ?W9 ?yG ?Cv ?Cr ?yC ?wI ?yD ?um ?Cu ?yF ?Cq ?qL ?yE ?abg
  (case MJ=>k_is)
  (case lq=>k_is)
  all_goals first|k_is|(refine' Ev.FA.mk ?a ?l ?c ?k;(case a=>k_is);(case l=>k_is);(case c=>k_is);(case k=>k_is))|(refine' Ev.FC.mk ?a ?l ?c ?k ?lc ?v;(case a=>k_is);(case l=>k_is);(case c=>k_is);(case k=>k_is);(case lc=>k_is);(case v=>exact rfl))
