import PyProof.Rows.All
import Wide.All
import OpenK.AllK
import Wide.FinOn
import Lean
import PyProof.EqAt
import PyProof.EqKinds
import PyProof.TupleCall
import PyProof.TupleKey
import PyProof.DictRoadsH
import PyProof.FactsAll.bool_1
import PyProof.AttrMissHeap
import KE.KDictOf
import PyProof.ListMulRoad
import PyProof.FactsAll.tuple_2
import KE.KSortTup
import PyProof.TupleOfSeq
import PyProof.ListRange
import PyProof.DictTable
import PyProof.Rows.TupTab
import PyProof.FactsAll.range_1
import KE.KDictList
import PyProof.SetRoads
import PyProof.DictTruth
import PySem.Challenge.RW_soundrules_k22_least_machines
noncomputable section
set_option Elab.async false
set_option linter.all false
set_option maxRecDepth 100000
set_option maxHeartbeats 4000000
theorem Qqq:type_of% @List.length_map:=@List.length_map
theorem Qqx:type_of% @PySem.wpAny_bind:=@PySem.wpAny_bind
theorem Qqz:type_of% @PySem.Heap.get?_push_of_some:=@PySem.Heap.get?_push_of_some
theorem Qqj:type_of% @List.mem_cons_of_mem:=@List.mem_cons_of_mem
theorem Qqk:type_of% @List.mem_cons_self:=@List.mem_cons_self
theorem Qqv:type_of% @List.length_cons:=@List.length_cons
theorem Qqw:type_of% @Nat.le_refl:=@Nat.le_refl
theorem Qqy:type_of% @List.length_append:=@List.length_append
theorem Qq0:type_of% @Nat.le_trans:=@Nat.le_trans
theorem Qq1:type_of% @PySem.wpAny_pure:=@PySem.wpAny_pure
theorem Qq2:type_of% @List.map_cons:=@List.map_cons
theorem Qq3:type_of% @List.size_toArray:=@List.size_toArray
theorem Qq4:type_of% @List.getElem?_eq_some_iff:=@List.getElem?_eq_some_iff
theorem Qq5:type_of% @List.mem_cons:=@List.mem_cons
theorem Qq6:type_of% @List.mem_singleton:=@List.mem_singleton
theorem Qq7:type_of% @List.getElem?_eq_getElem:=@List.getElem?_eq_getElem
theorem Qq8:type_of% @List.mem_of_getElem?:=@List.mem_of_getElem?
theorem Qq9:type_of% @List.getD_eq_getElem?_getD:=@List.getD_eq_getElem?_getD
theorem Qwq:type_of% @Nat.lt_of_lt_of_le:=@Nat.lt_of_lt_of_le
theorem Qwx:type_of% @List.getElem?_map:=@List.getElem?_map
theorem Qwz:type_of% @List.mem_map:=@List.mem_map
theorem Qwj:type_of% @PySem.Heap.lt_size:=@PySem.Heap.lt_size
theorem Qwk:type_of% @decide_eq_false:=@decide_eq_false
theorem Qwv:type_of% @Option.some.inj:=@Option.some.inj
theorem Qww:type_of% @Option.map_eq_some_iff:=@Option.map_eq_some_iff
theorem Qwy:type_of% @PySem.Heap.get?_push_size:=@PySem.Heap.get?_push_size
theorem Qw0:type_of% @List.getElem?_set_ne:=@List.getElem?_set_ne
theorem Qw1:type_of% @List.not_mem_nil:=@List.not_mem_nil
theorem Qw2:type_of% @decide_eq_true:=@decide_eq_true
theorem Qw3:type_of% @List.getElem?_set_self:=@List.getElem?_set_self
theorem Qw4:type_of% @Nat.lt_of_le_of_lt:=@Nat.lt_of_le_of_lt
theorem Qw5:type_of% @List.map_map:=@List.map_map
theorem Qw6:type_of% @List.mem_append:=@List.mem_append
theorem Qw7:type_of% @Nat.ne_of_lt:=@Nat.ne_of_lt
theorem Qw8:type_of% @List.append_nil:=@List.append_nil
theorem Qw9:type_of% @List.length_singleton:=@List.length_singleton
theorem Qxq:type_of% @List.getElem?_append_left:=@List.getElem?_append_left
theorem Qxx:type_of% @Bool.false_ne_true:=@Bool.false_ne_true
theorem Qxz:type_of% @List.map_append:=@List.map_append
theorem Qxj:type_of% @Option.some.injEq:=@Option.some.injEq
theorem Qxk:type_of% @List.append_assoc:=@List.append_assoc
theorem Qxv:type_of% @List.all_eq_true:=@List.all_eq_true
theorem Qxw:type_of% @of_decide_eq_true:=@of_decide_eq_true
theorem Qxy:type_of% @congrArg:=@congrArg
theorem Qx0:type_of% @List.getElem?_append_right:=@List.getElem?_append_right
theorem Qx1:type_of% @List.mem_append_right:=@List.mem_append_right
theorem Qx2:type_of% @List.getElem_mem:=@List.getElem_mem
theorem Qx3:type_of% @Nat.zero_le:=@Nat.zero_le
theorem Qx4:type_of% @List.map_congr_left:=@List.map_congr_left
theorem Qx5:type_of% @PySem.Heap.size_push:=@PySem.Heap.size_push
theorem Qx6:type_of% @Option.bind_eq_some_iff:=@Option.bind_eq_some_iff
theorem Qx7:type_of% @beq_eq_false_iff_ne:=@beq_eq_false_iff_ne
theorem Qx8:type_of% @List.length_nil:=@List.length_nil
theorem Qx9:type_of% @List.nodup_cons:=@List.nodup_cons
theorem Qzq:type_of% @List.length_set:=@List.length_set
theorem Qzx:type_of% @Int.toNat_natCast:=@Int.toNat_natCast
theorem Qzz:type_of% @List.length_replicate:=@List.length_replicate
theorem Qzj:type_of% @Nat.lt_irrefl:=@Nat.lt_irrefl
theorem Qzk:type_of% @List.lookup_cons:=@List.lookup_cons
theorem Qzv:type_of% @List.length_take:=@List.length_take
theorem Qzw:type_of% @List.nil_prefix:=@List.nil_prefix
theorem Qzy:type_of% @or_false:=@or_false
theorem Qz0:type_of% @PyProof.Rows.callWith_type1:=@PyProof.Rows.callWith_type1
theorem Qz1:type_of% @Array.length_toList:=@Array.length_toList
theorem Qz2:type_of% @List.length_drop:=@List.length_drop
theorem Qz3:type_of% @PySem.wpAny_holding:=@PySem.wpAny_holding
theorem Qz4:type_of% @PySem.wpAny_callSpecial?_slot:=@PySem.wpAny_callSpecial?_slot
theorem Qz5:type_of% @List.getElem?_replicate:=@List.getElem?_replicate
theorem Qz6:type_of% @List.find?_cons:=@List.find?_cons
theorem Qz7:type_of% @List.foldl_cons:=@List.foldl_cons
theorem Qz8:type_of% @List.drop_eq_getElem_cons:=@List.drop_eq_getElem_cons
theorem Qz9:type_of% @List.eq_nil_of_length_eq_zero:=@List.eq_nil_of_length_eq_zero
theorem Qjq:type_of% @List.cons.inj:=@List.cons.inj
theorem Qjx:type_of% @Option.isSome_iff_exists:=@Option.isSome_iff_exists
theorem Qjz:type_of% @List.getElem?_take_of_lt:=@List.getElem?_take_of_lt
theorem Qjj:type_of% @List.getElem?_eq_none:=@List.getElem?_eq_none
theorem Qjk:type_of% @PySem.wpAny_field:=@PySem.wpAny_field
theorem Qjv:type_of% @Nat.ne_of_gt:=@Nat.ne_of_gt
theorem Qjw:type_of% @PySem.wpAny_call_entry:=@PySem.wpAny_call_entry
theorem Qjy:type_of% @Bool.and_eq_true:=@Bool.and_eq_true
theorem Qj0:type_of% @beq_self_eq_true:=@beq_self_eq_true
theorem Qj1:type_of% @List.length_pos_of_mem:=@List.length_pos_of_mem
theorem Qj2:type_of% @PyProof.Rows.slot_tuple_getitem:=@PyProof.Rows.slot_tuple_getitem
theorem Qj3:type_of% @List.mem_range:=@List.mem_range
theorem Qj4:type_of% @List.getElem?_toArray:=@List.getElem?_toArray
theorem Qj5:type_of% @PySem.wpAny_mono:=@PySem.wpAny_mono
theorem Qj6:type_of% @Nat.le_add_right:=@Nat.le_add_right
theorem Qj7:type_of% @PySem.wpAny_seqItems:=@PySem.wpAny_seqItems
theorem Qj8:type_of% @PySem.wpAny_newObj_type:=@PySem.wpAny_newObj_type
theorem Qj9:type_of% @PySem.wpAny_truthy_bool:=@PySem.wpAny_truthy_bool
theorem Qkq:type_of% @Array.getD_eq_getD_getElem?:=@Array.getD_eq_getD_getElem?
theorem Qkx:type_of% @Bool.eq_iff_iff:=@Bool.eq_iff_iff
theorem Qkz:type_of% @List.take_of_length_le:=@List.take_of_length_le
theorem Qkj:type_of% @List.mem_flatMap:=@List.mem_flatMap
theorem Qkk:type_of% @PySem.wpAny_setField_rec:=@PySem.wpAny_setField_rec
theorem Qkv:type_of% @Nat.le_of_ble_eq_true:=@Nat.le_of_ble_eq_true
theorem Qkw:type_of% @Array.getElem?_toList:=@Array.getElem?_toList
theorem Qky:type_of% @List.forIn_nil:=@List.forIn_nil
theorem Qk0:type_of% @Bool.and_eq_true_iff:=@Bool.and_eq_true_iff
theorem Qk1:type_of% @PySem.wpAny_passesOwn:=@PySem.wpAny_passesOwn
theorem Qk2:type_of% @PySem.mem_of_lookup:=@PySem.mem_of_lookup
theorem Qk3:type_of% @List.filter_eq_self:=@List.filter_eq_self
theorem Qk4:type_of% @List.filterMap_cons:=@List.filterMap_cons
theorem Qk5:type_of% @List.pairwise_cons:=@List.pairwise_cons
theorem Qk6:type_of% @Nat.not_lt_zero:=@Nat.not_lt_zero
theorem Qk7:type_of% @List.forIn_cons:=@List.forIn_cons
theorem Qk8:type_of% @List.of_mem_zip:=@List.of_mem_zip
theorem Qk9:type_of% @Nat.lt_succ_of_lt:=@Nat.lt_succ_of_lt
theorem Qvq:type_of% @Nat.le_of_succ_le:=@Nat.le_of_succ_le
theorem Qvx:type_of% @Int.ofNat.inj:=@Int.ofNat.inj
theorem Qvz:type_of% @Nat.le_of_lt:=@Nat.le_of_lt
abbrev nH(x:PySem.Str):Prop:=(x == ("__debug__" : PySem.Str))=false
abbrev vB(x:PySem.Str):Prop:=(x == ("__classdict__" : PySem.Str))=false
open PySem PySem.Spec PyProof.Rows in
abbrev Ig(e:Expr)(E:PySem.Env):Prop:=starEach [e] E=(false,eval e E)::starEach [] E
namespace L2
open PySem PySem.Spec PyProof.Rows
inductive NK where
 | num (i:Int)
 | txt (x:Str)
 | tup (xs:List NK)
noncomputable instance:DecidableEq NK:=λ_ _=>Classical.propDecidable _
mutual
def Dv(h:Heap):NK->Value->Prop
 | .num i,v=>(∃t,v = .int i t)\/∃b:Bool,v = .bool b/\i=if b then 1 else 0
 | .txt x,v=>∃t,v = .str x t
 | .tup ks,v=>∃a o items n,v = .ref a/\h.get? a=some o/\o.cls = .type "tuple"/\o.data = .seq items n/\qt h ks items.toList
def qt(h:Heap):List NK->List Value->Prop
 | [],vs=>vs=[]
 | k::ks,vs=>∃v r,vs=v::r/\Dv h k v/\qt h ks r
end
mutual
def NK.dep:NK->Nat
 | .num _=>0
 | .txt _=>0
 | .tup ks=>1+NK.jZ ks
def NK.jZ:List NK->Nat
 | []=>0
 | k::ks=>max (NK.dep k) (NK.jZ ks)
end
mutual
def NK.draws:NK->Nat
 | .num _=>1
 | .txt _=>1
 | .tup ks=>NK.rJ ks+1
def NK.rJ:List NK->Nat
 | []=>0
 | k::ks=>NK.draws k+NK.rJ ks
end
section
variable(P:Program)(w:World)
mutual
def NK.hash:NK->Int
 | .num i=>hashInt i
 | .txt x=>(strKind P w).hash x
 | .tup ks=>reduceHash (Builtin.Tuple.tupleHashOf (NK.hashes ks))
def NK.hashes:List NK->List Int
 | []=>[]
 | k::ks=>NK.hash k::NK.hashes ks
end
end
theorem qt.length{h:Heap}:∀{ks:List NK} {vs:List Value},qt h ks vs->vs.length=ks.length
 | [],_,e=>by cases e;rfl
 | k::ks,_,e=>by obtain⟨v,r,rfl,_,q⟩:=e;rw[Qqv,Qqv,q.length]
theorem qt.get{h:Heap}:∀{ks:List NK} {vs:List Value} {j:Nat} {v:Value},qt h ks vs->vs[j]? = some v->∃k,ks[j]? = some k/\Dv h k v
 | [],_,_,_,e,g=>by cases e;simp at g
 | k::ks,_,j,v,e,g=>by
  obtain⟨u,r,rfl,h1,h2⟩:=e;cases j with
  | zero=>simp at g;subst g;exact⟨k,rfl,h1⟩
  | succ j=>obtain⟨k',e1,e2⟩:=qt.get h2 (j:=j) (by simpa using g);exact⟨k',by simpa using e1,e2⟩
theorem NK.Dc:∀{ks:List NK} {j:Nat} {k:NK},ks[j]? = some k->k.dep<=NK.jZ ks
 | [],_,_,e=>by simp at e
 | c::ks,j,k,e=>by
  unfold NK.jZ;cases j with
  | zero=>simp at e;subst e;exact Nat.le_max_left _ _
  | succ j=>exact Qq0 (NK.Dc (j:=j) (by simpa using e)) (Nat.le_max_right _ _)
mutual
theorem Dv.inj{h:Heap}:∀{x y:NK} {v:Value},Dv h x v->Dv h y v->x=y
 | .num i,.num j,v,a,b=>by
  rcases a with ⟨t,rfl⟩|⟨c,rfl,rfl⟩
  ·rcases b with ⟨t',e⟩|⟨c,e,_⟩
   ·cases e;rfl
   ·cases e
  ·rcases b with ⟨t',e⟩|⟨c,e,rfl⟩
   ·cases e
   ·cases e;rfl
 | .num i,.txt x,v,a,b=>by obtain⟨t,rfl⟩:=b;rcases a with ⟨t',e⟩|⟨c,e,_⟩<;>cases e
 | .num i,.tup ks,v,a,b=>by obtain⟨_,_,_,_,rfl,_⟩:=b;rcases a with ⟨t',e⟩|⟨c,e,_⟩<;>cases e
 | .txt x,.num i,v,a,b=>by obtain⟨t,rfl⟩:=a;rcases b with ⟨t',e⟩|⟨c,e,_⟩<;>cases e
 | .txt x,.txt y,v,a,b=>by obtain⟨t,rfl⟩:=a;obtain⟨t',e⟩:=b;cases e;rfl
 | .txt x,.tup ks,v,a,b=>by obtain⟨t,rfl⟩:=a;obtain⟨_,_,_,_,e,_⟩:=b;cases e
 | .tup ks,.num i,v,a,b=>by obtain⟨_,_,_,_,rfl,_⟩:=a;rcases b with ⟨t',e⟩|⟨c,e,_⟩<;>cases e
 | .tup ks,.txt y,v,a,b=>by obtain⟨_,_,_,_,rfl,_⟩:=a;obtain⟨t',e⟩:=b;cases e
 | .tup ks,.tup ls,v,a,b=>by
  obtain⟨p,o,items,n,rfl,h1,_,h3,h4⟩:=a;obtain⟨p',o',items',n',e,h1',_,h3',h4'⟩:=b;cases e;rw[h1] at h1';cases h1';rw[h3] at h3';cases h3';rw[qt.inj h4 h4']
theorem qt.inj{h:Heap}:∀{x y:List NK} {v:List Value},qt h x v->qt h y v->x=y
 | [],[],_,_,_=>rfl
 | [],k::ks,_,a,b=>by cases a;obtain⟨_,_,e,_⟩:=b;cases e
 | k::ks,[],_,a,b=>by cases b;obtain⟨_,_,e,_⟩:=a;cases e
 | k::ks,l::ls,_,a,b=>by
  obtain⟨v,r,rfl,h1,h2⟩:=a;obtain⟨v',r',e,h1',h2'⟩:=b;cases e;rw[Dv.inj h1 h1',qt.inj h2 h2']
end
mutual
theorem Dv.keeps{h h':Heap}{d:Addr}{o:Obj}{es ep}(ho:h.get? d=some o)(hd:o.data = .dict es ep)(hs:Heap.SameBut d h h'):∀{k:NK} {v:Value},Dv h k v->Dv h' k v
 | .num _,_,e=>e
 | .txt _,_,e=>e
 | .tup ks,_,e=>by
  obtain⟨a,o',items,n,rfl,h1,h2,h3,h4⟩:=e;have hne:a≠d:=by rintro rfl;rw[h1] at ho;cases ho;rw[h3] at hd;cases hd
  exact⟨a,o',items,n,rfl,(hs.2 a hne).trans h1,h2,h3,qt.keeps ho hd hs h4⟩
theorem qt.keeps{h h':Heap}{d:Addr}{o:Obj}{es ep}(ho:h.get? d=some o)(hd:o.data = .dict es ep)(hs:Heap.SameBut d h h'):∀{ks:List NK} {vs:List Value},qt h ks vs->qt h' ks vs
 | [],_,e=>e
 | k::ks,_,e=>by obtain⟨v,r,rfl,h1,h2⟩:=e;exact⟨v,r,rfl,Dv.keeps ho hd hs h1,qt.keeps ho hd hs h2⟩
end
section
variable{P:Program}{w:World}
theorem Su{A:Around}{E:Value->Shared->Prop}{s:Shared}{b:Bool}{Q:Int->Shared->Prop}(h:Q (hashInt (if b then 1 else 0)) { s with toks:=s.toks+1 }):wpAny (model P w) A (pyHash (.bool b)) Q E s:=by
 have hT:s.TypeIs (.bool b) "bool":=rfl;have hr:=rawHash_range (if b then 1 else 0);unfold pyHash;have hv:[Value.bool b].any Value.onHeap=false:=rfl;refine Qqx ?_;rw[cRoomFor,if_neg (by rw[hv];exact Qxx)];refine Qq1 ?_;refine Qqx (wpAny_specialOf hT F.slot_bool_hash.lookup ?_);show wpAny _ _ (if (some (Value.builtin "int.__hash__") == some Value.none)=true then _ else _) Q E s;rw[if_neg (by rw[beq_builtin_none];exact Qxx)];refine Qqx (wpAny_specialOf hT F.slot_bool_hash.lookup ?_);show wpAny _ _ (callSpecialIfBoundUnlessNone? (.bool b) "__hash__" _ >>= _) Q E s;refine Qqx (wpAny_callSpecialIfBoundUnlessNone?_slot hT F.slot_bool_hash
  (Qjw F.slot_bool_hash hT entry_int_hash
   (show wpAny _ _ (do ret (<-mkInt (rawHash (if b then 1 else 0)))) _ _ s from wpAny_ret_mkInt ?_) (args_int_hash _)))
 show wpAny _ _ (if (decide (-(2:Int)^63<=rawHash (if b then 1 else 0))&&decide (rawHash (if b then 1 else 0)<2^63))=true then _ else _) Q E _;rw[if_pos (by rw[Qw2 hr.1,Qw2 hr.2];rfl)];exact Qq1 h
mutual
theorem V8:∀(k:NK) (v:Value) (A:Around) (E:Value->Shared->Prop) (s:Shared) (Q:Int->Shared->Prop),A.units+k.dep<cLine->Dv s.heap k v->Q (k.hash P w) { s with toks:=s.toks+k.draws }->wpAny (model P w) A (pyHash v) Q E s
 | .num i,v,A,E,s,Q,hu,e,h=>by
  rcases e with ⟨t,rfl⟩|⟨b,rfl,rfl⟩
  ·exact wpAny_pyHash_int h
  ·exact Su h
 | .txt x,v,A,E,s,Q,hu,e,h=>by
  obtain⟨t,rfl⟩:=e;exact wpAny_pyHash_str h
 | .tup ks,v,A,E,s,Q,hu,e,h=>by
  obtain⟨a,o,items,n,rfl,ho,hc,hd,hi⟩:=e;have hT:s.TypeIs (.ref a) "tuple":=⟨o,ho,hc⟩;have adt:(NK.tup ks).dep=1+NK.jZ ks:=by rw[NK.dep]
  rw[adt] at hu;have hu0:A.units<cLine:=by omega
  have hin:A.in1.units+NK.jZ ks<cLine:=by show A.units+1+NK.jZ ks<cLine;omega
  unfold pyHash
  first|unfold pyHashByItsType|skip
  first|refine Qqx (wpAny_cRoomFor_or (.inr hu0) ?_)|skip
  refine Qqx (wpAny_specialOf hT F.slot_tuple_hash.lookup ?_);show wpAny _ _ (if (some (Value.builtin "tuple.__hash__") == some Value.none)=true then _ else _) Q E s;rw[if_neg (by rw[beq_builtin_none];exact Qxx)];refine Qqx (wpAny_specialOf hT F.slot_tuple_hash.lookup ?_);show wpAny _ _ (callSpecialIfBoundUnlessNone? (.ref a) "__hash__" _ >>= _) Q E s;refine Qqx (wpAny_callSpecialIfBoundUnlessNone?_slot hT F.slot_tuple_hash (Qjw F.slot_tuple_hash hT F.entry_tuple_hash ?_ (F.args_tuple_hash_1 _)));show wpAny _ _ (Builtin.Tuple.tupleItemsOf (.ref a) >>= _) _ _ s;refine Qqx (wpAny_tupleItemsOf ho hd ?_);refine Qqx ?_;rw[<-Array.forIn_toList];refine JX ks items.toList A.in1 _ s _ _ #[] hin hi (λx b s' R q=>?_) ?_
  ·first
    | exact Qqx (Qj5 q (λz s2 hz=>Qq1 hz) λ_ _ z=>z)
    | exact Qqx (Qj5 q (λz s2 hz=>Qqx (Qq1 (Qq1 hz))) λ_ _ z=>z)
  ·show wpAny _ _ (retInt (Builtin.Tuple.tupleHashOf ((#[]:Array Int).toList++NK.hashes P w ks))) _ _ _;have hh:(NK.tup ks).hash P w=reduceHash (Builtin.Tuple.tupleHashOf (NK.hashes P w ks)):=by rw[NK.hash]
   have hdr:(NK.tup ks).draws=NK.rJ ks+1:=by rw[NK.draws]
   rw[hh,hdr] at h;rw[show(#[]:Array Int).toList++NK.hashes P w ks=NK.hashes P w ks from rfl];refine wpAny_ret_mkInt ?_;show wpAny _ _ (if (decide (-(2:Int)^63<=Builtin.Tuple.tupleHashOf (NK.hashes P w ks))&&decide (Builtin.Tuple.tupleHashOf (NK.hashes P w ks)<2^63))=true then _ else _) Q E _;unfold reduceHash at h;by_cases hr:(decide (-(2:Int)^63<=Builtin.Tuple.tupleHashOf (NK.hashes P w ks))&&decide (Builtin.Tuple.tupleHashOf (NK.hashes P w ks)<2^63))=true
   ·rw[if_pos hr];rw[if_pos hr] at h;exact Qq1 (by simpa[Nat.add_assoc] using h)
   ·rw[if_neg hr];rw[if_neg hr] at h;exact Qqx (wpAny_rule (Qq1 (by simpa[Nat.add_assoc] using h)))
theorem JX:∀(ks:List NK) (vs:List Value) (A:Around) (E:Value->Shared->Prop) (s:Shared) (body:Value->Array Int->Sem (ForInStep (Array Int))) (Q:Array Int->Shared->Prop) (acc:Array Int),A.units+NK.jZ ks<cLine->qt s.heap ks vs->
  (∀x b s' (R:ForInStep (Array Int)->Shared->Prop),wpAny (model P w) A (pyHash x) (λz s2=>R (.yield (b.push z)) s2) E s'->wpAny (model P w) A (body x b) R E s')->
  Q (acc.toList++NK.hashes P w ks).toArray { s with toks:=s.toks+NK.rJ ks }->wpAny (model P w) A (forIn vs acc body) Q E s
 | [],vs,A,E,s,body,Q,acc,hu,e,hb,q=>by
  cases e;rw[Qky];refine Qq1 ?_;have:(acc.toList++NK.hashes P w []).toArray=acc:=by rw[NK.hashes];simp
  rw[this] at q;have e0:NK.rJ []=0:=by rw[NK.rJ]
  rw[e0] at q;exact q
 | k::ks,vs,A,E,s,body,Q,acc,hu,e,hb,q=>by
  obtain⟨v,r,rfl,h1,h2⟩:=e;have adt:NK.jZ (k::ks)=max k.dep (NK.jZ ks):=by rw[NK.jZ]
  rw[adt] at hu;rw[Qk7];refine Qqx (hb v acc s _ (V8 k v A E s _ (by omega) h1 ?_));refine JX ks r A E { s with toks:=s.toks+k.draws } body Q (acc.push (k.hash P w)) (by omega) h2 hb ?_;have e1:NK.hashes P w (k::ks)=k.hash P w::NK.hashes P w ks:=by rw[NK.hashes]
  have e2:NK.rJ (k::ks)=k.draws+NK.rJ ks:=by rw[NK.rJ]
  rw[e1,e2] at q
  simpa[Nat.add_assoc] using q
end
theorem afB:∀(n:Nat) (x y:NK) (u v:Value) (A:Around) (s:Shared),x.dep<=n->A.units+n+1<cLine->Dv s.heap x u->Dv s.heap y v->SeqAt.EqAt A s u v (decide (x=y))
 | n,.num i,.num j,u,v,A,s,hn,hu,hx,hy=>by
  have e:decide (NK.num i=NK.num j)=(i == j):=by rw[Qkx];simp
  rw[e];rcases hx with ⟨t,rfl⟩|⟨b,rfl,rfl⟩
  ·rcases hy with ⟨t',rfl⟩|⟨c,rfl,rfl⟩
   ·exact SeqAt.EqAt.int_int i t j t'
   ·exact SeqAt.EqAt.int_bool i t c
  ·rcases hy with ⟨t',rfl⟩|⟨c,rfl,rfl⟩
   ·exact SeqAt.EqAt.bool_int b j t'
   ·have:((if b then (1:Int) else 0) == (if c then 1 else 0))=(b == c):=by cases b<;>cases c<;>rfl
    rw[this];exact SeqAt.EqAt.bool_bool b c
 | n,.num i,.txt z,u,v,A,s,hn,hu,hx,hy=>by
  rw[Qwk (λe=>by cases e)];obtain⟨t,rfl⟩:=hy;rcases hx with ⟨t',rfl⟩|⟨b,rfl,rfl⟩
  ·exact SeqAt.EqAt.int_str i t' _ t
  ·exact SeqAt.EqAt.bool_str b _ t
 | n,.num i,.tup ks,u,v,A,s,hn,hu,hx,hy=>by
  rw[Qwk (λe=>by cases e)];obtain⟨a,o,items,m,rfl,h1,h2,h3,_⟩:=hy;have p:s.heap.IsTuple a items:=⟨o,h1,h2,m,h3⟩;rcases hx with ⟨t',rfl⟩|⟨b,rfl,rfl⟩
  ·exact SeqAt.EqAt.int_tuple i t' p (by omega)
  ·exact SeqAt.EqAt.bool_tuple b p (by omega)
 | n,.txt z,.num i,u,v,A,s,hn,hu,hx,hy=>by
  rw[Qwk (λe=>by cases e)];obtain⟨t,rfl⟩:=hx;rcases hy with ⟨t',rfl⟩|⟨b,rfl,rfl⟩
  ·exact SeqAt.EqAt.str_int _ t i t'
  ·exact SeqAt.EqAt.str_bool _ t b
 | n,.txt z,.txt z',u,v,A,s,hn,hu,hx,hy=>by
  have e:decide (NK.txt z=NK.txt z')=(z == z'):=by rw[Qkx];simp
  rw[e];obtain⟨t,rfl⟩:=hx;obtain⟨t',rfl⟩:=hy;exact SeqAt.EqAt.str_str _ t _ t'
 | n,.txt z,.tup ks,u,v,A,s,hn,hu,hx,hy=>by
  rw[Qwk (λe=>by cases e)];obtain⟨t,rfl⟩:=hx;obtain⟨a,o,items,m,rfl,h1,h2,h3,_⟩:=hy;have p:s.heap.IsTuple a items:=⟨o,h1,h2,m,h3⟩;exact SeqAt.EqAt.str_tuple _ t p (by omega)
 | n,.tup ks,.num i,u,v,A,s,hn,hu,hx,hy=>by
  rw[Qwk (λe=>by cases e)];obtain⟨a,o,items,m,rfl,h1,h2,h3,_⟩:=hx;have p:s.heap.IsTuple a items:=⟨o,h1,h2,m,h3⟩;rcases hy with ⟨t',rfl⟩|⟨b,rfl,rfl⟩
  ·exact SeqAt.EqAt.tuple_int i t' p (by omega)
  ·exact SeqAt.EqAt.tuple_bool b p (by omega)
 | n,.tup ks,.txt z,u,v,A,s,hn,hu,hx,hy=>by
  rw[Qwk (λe=>by cases e)];obtain⟨a,o,items,m,rfl,h1,h2,h3,_⟩:=hx;have p:s.heap.IsTuple a items:=⟨o,h1,h2,m,h3⟩;obtain⟨t,rfl⟩:=hy;exact SeqAt.EqAt.tuple_str _ t p (by omega)
 | 0,.tup ks,.tup ls,u,v,A,s,hn,hu,hx,hy=>by
  rw[NK.dep] at hn;omega
 | n+1,.tup ks,.tup ls,u,v,A,s,hn,hu,hx,hy=>by
  have hx0:=hx;have hy0:=hy;obtain⟨a,o,items,m,rfl,h1,h2,h3,h4⟩:=hx;obtain⟨a',o',items',m',rfl,h1',h2',h3',h4'⟩:=hy;have p:s.heap.IsTuple a items:=⟨o,h1,h2,m,h3⟩;have p':s.heap.IsTuple a' items':=⟨o',h1',h2',m',h3'⟩;rw[NK.dep] at hn;by_cases haa:a=a'
  ·subst haa;rw[Qw2 (Dv.inj hx0 hy0)];exact SeqAt.EqAt.same _
  ·refine SeqAt.EqAt.of_refs haa ?_;have l1:=h4.length;have l2:=h4'.length;rw[Qz1] at l1 l2;have hu0:A.units<cLine:=by omega
   have:=SeqAt.RcAt.tuples (e:=λj=>decide (ks[j]? = ls[j]?)) p p' hu0 λj q1 q2=>?_
   ·have e:((List.range (min items.size items'.size)).all (λj=>decide (ks[j]? = ls[j]?))&&items.size == items'.size)=decide (NK.tup ks=NK.tup ls):=by
     rw[Qkx];simp only[Qjy,Qxv,Qj3,decide_eq_true_eq,beq_iff_eq,NK.tup.injEq];constructor
     ·rintro⟨g1,g2⟩;apply List.ext_getElem?;intro j;by_cases hj:j<min items.size items'.size
      ·exact g1 j hj
      ·rw[Qjj (by omega),Qjj (by omega)]
     ·rintro rfl;exact⟨λ_ _=>rfl,by omega⟩
    rw[<-e];exact this
   ·have g1:items.toList[j]? = some items[j]:=by simp
    have g2:items'.toList[j]? = some items'[j]:=by simp
    obtain⟨k,r1,r2⟩:=h4.get g1;obtain⟨l,r3,r4⟩:=h4'.get g2;have e:decide (ks[j]? = ls[j]?)=decide (k=l):=by rw[r1,r3];simp
    rw[e];exact afB n k l _ _ A.in1 s (Qq0 (NK.Dc r1) (by omega)) (by show A.units+1+n+1<cLine;omega) r2 r4
theorem PJ:∀(n:Nat) (k:NK) (v:Value) (A:Around) (E:Value->Shared->Prop) (s:Shared) (Q:Bool->Shared->Prop),k.dep<=n->Dv s.heap k v->Q true s->wpAny (model P w) A (eqIsQuiet n v) Q E s
 | n,.num i,v,A,E,s,Q,hn,e,h=>by
  rcases e with ⟨t,rfl⟩|⟨b,rfl,rfl⟩
  ·rw[eqIsQuiet_byValue n rfl];exact Qq1 h
  ·rw[eqIsQuiet_byValue n rfl];exact Qq1 h
 | n,.txt x,v,A,E,s,Q,hn,e,h=>by
  obtain⟨t,rfl⟩:=e;rw[eqIsQuiet_byValue n rfl];exact Qq1 h
 | 0,.tup ks,v,A,E,s,Q,hn,e,h=>by
  rw[NK.dep] at hn;omega
 | n+1,.tup ks,v,A,E,s,Q,hn,e,h=>by
  obtain⟨a,o,items,m,rfl,ho,hc,hd,hi⟩:=e;rw[NK.dep] at hn;have hT:s.TypeIs (.ref a) "tuple":=⟨o,ho,hc⟩;unfold eqIsQuiet;refine Qqx (wpAny_specialOf hT F.slot_tuple_eq.lookup ?_);show wpAny _ _ (isInstance (.ref a) (.type "tuple") >>= _) _ _ s;refine Qqx (wpAny_isInstance hT isSubtype_tuple_tuple ?_);simp only[Bool.not_true,Bool.false_eq_true,if_false];refine Qqx (Qj7 ho hd ?_);refine Qqx ?_;show wpAny _ _ (forIn items _ _) _ _ s;rw[<-Array.forIn_toList];refine wpAny_forIn_list _ (λrest r s'=>r.1=none/\s'=s/\∀v∈rest,∃k:NK,k.dep<=n/\Dv s.heap k v) _ ?_ ?_ _ _ ⟨rfl,rfl,λv hv=>?_⟩
  ·rintro v rest r s' ⟨hr,rfl,hall⟩;obtain⟨k,hk1,hk2⟩:=hall v Qqk;refine Qqx (PJ n k v A E _ _ hk1 hk2 ?_);simp only[Bool.not_true,Bool.false_eq_true,if_false];exact Qq1 ⟨rfl,rfl,λu hu'=>hall u (Qqj _ hu')⟩
  ·rintro⟨r1,r2⟩ s' ⟨hr,rfl,_⟩;simp only at hr;subst hr;exact Qq1 h
  ·obtain⟨j,hj,rfl⟩:=List.mem_iff_getElem.mp hv;obtain⟨k,r1,r2⟩:=hi.get (Qq7 hj);exact⟨k,Qq0 (NK.Dc r1) (by omega),r2⟩
noncomputable def qH(P:Program)(w:World):HeapKind P w NK where
 is:=λh k a=>Dv h k (.ref a)/\k.dep<=8
 hash:=NK.hash P w
 draws:=NK.draws
 room:=λA=>A.units+10<cLine
 inj:=λhx hy=>hx.1.inj hy.1
 keeps:=λx ho hd hs=>⟨x.1.keeps ho hd hs,x.2⟩
 pyHash:=λhu hk h=>V8 _ _ _ _ _ _ (by have:=hk.2;omega) hk.1 h
 eqBool:=λhu hx hy h=>afB 8 _ _ _ _ _ _ hx.2 (by omega) hx.1 hy.1 P w _ _ h
 quiet:=λhk h=>PJ 8 _ _ _ _ _ _ hk.2 hk.1 h
end
abbrev Key:=Sum Int Str
def Cg:Key->Value->Bool
 | .inl k,v=>Value.isInt k v
 | .inr x,v=>Value.isStrOf x v
def ahn(w:World):Key->Int
 | .inl k=>hashInt k
 | .inr x=>hashStr w x
theorem fP:∀{k:Key} {v:Value},Cg k v=true->(∃i t,k=Sum.inl i/\v=Value.int i t)\/(∃x t,k=Sum.inr x/\v=Value.str x t)
 | .inl i,v,h=>by
  obtain⟨t,e⟩:=Value.isInt_shape (k:=i) (v:=v) h;exact .inl ⟨i,t,rfl,e⟩
 | .inr x,v,h=>by
  obtain⟨t,e⟩:=Value.isStrOf_shape (x:=x) (v:=v) h;exact .inr ⟨x,t,rfl,e⟩
theorem R7(i:Int)(t:Tok):Cg (.inl i) (.int i t)=true:=by simp[Cg,Value.isInt]
theorem R6(x:Str)(t:Tok):Cg (.inr x) (.str x t)=true:=by simp[Cg,Value.isStrOf]
theorem adb(a b:Int):decide ((Sum.inl a:Key)=Sum.inl b)=(a == b):=by
 by_cases e:a=b
 ·subst e;simp
 ·have h:¬(Sum.inl a:Key)=Sum.inl b:=λq=>e (Sum.inl.inj q);rw[Qwk h];exact(Qx7.mpr e).symm
theorem ac8(a b:Str):decide ((Sum.inr a:Key)=Sum.inr b)=decide (a=b):=by
 by_cases e:a=b
 ·subst e;simp
 ·have h:¬(Sum.inr a:Key)=Sum.inr b:=λq=>e (Sum.inr.inj q);rw[Qwk h,Qwk e]
theorem ada(a:Int)(b:Str):decide ((Sum.inl a:Key)=Sum.inr b)=false:=Qwk (λq=>nomatch q)
theorem ac9(a:Str)(b:Int):decide ((Sum.inr a:Key)=Sum.inl b)=false:=Qwk (λq=>nomatch q)
def dM(prog:Program)(w:World):PySem.KeyKind prog w Key where
 is:=Cg
 hash:=ahn w
 inj:=λv a b ha hb=>by
  rcases fP ha with ⟨i,t,rfl,rfl⟩|⟨x,t,rfl,rfl⟩
  ·rcases fP hb with ⟨j,u,rfl,e⟩|⟨y,u,rfl,e⟩
   ·injection e with e1 _;rw[e1]
   ·exact nomatch e
  ·rcases fP hb with ⟨j,u,rfl,e⟩|⟨y,u,rfl,e⟩
   ·exact nomatch e
   ·injection e with e1 _;rw[e1]
 byValue:=λk v h=>by
  rcases fP h with ⟨i,t,rfl,rfl⟩|⟨x,t,rfl,rfl⟩<;>rfl
 pyHash:=λhv h=>by
  rcases fP hv with ⟨i,t,rfl,rfl⟩|⟨x,t,rfl,rfl⟩
  ·exact wpAny_pyHash_int h
  ·exact wpAny_pyHash_str h
 eqBool:=λhu hv h=>by
  rcases fP hu with ⟨i,t,rfl,rfl⟩|⟨x,t,rfl,rfl⟩
  ·rcases fP hv with ⟨j,u,rfl,rfl⟩|⟨y,u,rfl,rfl⟩
   ·rw[adb] at h;exact wpAny_eqBool_int h
   ·rw[ada] at h;exact SeqAt.EqAt.int_str i t y u _ _ _ _ h
  ·rcases fP hv with ⟨j,u,rfl,rfl⟩|⟨y,u,rfl,rfl⟩
   ·rw[ac9] at h;exact SeqAt.EqAt.str_int x t j u _ _ _ _ h
   ·rw[ac8] at h;exact wpAny_eqBool_str h
 «strs»:=λk x t v h=>by
  rcases fP h with ⟨i,u,rfl,e⟩|⟨y,u,rfl,e⟩
  ·exact nomatch e
  ·injection e with e1 _
   subst e1;cases v<;>rfl
theorem J3(prog:Program)(w:World)(i:Int)(t:Tok):(dM prog w).is (.inl i) (.int i t)=true:=R7 i t
theorem J0(prog:Program)(w:World)(x:Str)(t:Tok):(dM prog w).is (.inr x) (.str x t)=true:=R6 x t
inductive V where
 | non|bl (b:Bool)|int (i:Int)|str (x:Str)|byt (b:Array UInt8)|flt (b:UInt64)|ref (a:Addr)|ty (n:String)
 deriving DecidableEq
def RelV:V->Value->Prop
 | .non,u=>u=Value.none
 | .bl b,u=>u=Value.bool b
 | .int i,u=>∃t,u=Value.int i t
 | .str x,u=>∃t,u=Value.str x t
 | .byt b,u=>∃t,u=Value.bytes b t
 | .flt b,u=>∃t,u=Value.float b t
 | .ref a,u=>u=Value.ref a
 | .ty n,u=>u=Value.type n
abbrev Vals:List V->List Value->Prop:=Paired RelV
theorem Vals.length{xs:List V}{us:List Value}(r:Vals xs us):xs.length=us.length:=Paired.length r
theorem Vals.get:∀{xs:List V} {us:List Value} {i:Nat} {x:V},Vals xs us->xs[i]? = some x->∃u,us[i]? = some u/\RelV x u
 | _,_,_,_,.nil,e=>by simp at e
 | _,_,0,_,.cons r _,e=>by simp at e;subst e;exact⟨_,rfl,r⟩
 | _,_,i+1,x,.cons _ t,e=>by
  obtain⟨u,h1,h2⟩:=Vals.get (i:=i) (x:=x) t (by simpa using e);exact⟨u,by simpa using h1,h2⟩
theorem Vals.set{x:V}{u:Value}(r:RelV x u):∀{xs:List V} {us:List Value} (i:Nat),Vals xs us->Vals (xs.set i x) (us.set i u)
 | _,_,_,.nil=>.nil
 | _,_,0,.cons _ t=>.cons r t
 | _,_,i+1,.cons q t=>.cons q (Vals.set r i t)
theorem Vals.append:∀{xs ys:List V} {us ws:List Value},Vals xs us->Vals ys ws->Vals (xs++ys) (us++ws)
 | _,_,_,_,.nil,s=>s
 | _,_,_,_,.cons r t,s=>.cons r (Vals.append t s)
theorem Vals.take:∀{xs:List V} {us:List Value} (n:Nat),Vals xs us->Vals (xs.take n) (us.take n)
 | _,_,0,_=>.nil
 | _,_,_+1,.nil=>.nil
 | _,_,n+1,.cons r t=>.cons r (Vals.take n t)
theorem Vals.drop:∀{xs:List V} {us:List Value} (n:Nat),Vals xs us->Vals (xs.drop n) (us.drop n)
 | _,_,0,r=>r
 | _,_,_+1,.nil=>.nil
 | _,_,n+1,.cons _ t=>Vals.drop n t
def xM:Option V->Option Value->Prop
 | some v,some u=>RelV v u
 | none,none=>True
 | _,_=>False
def KV{κ:Type}:List (κ×V)->List (κ×Value)->Prop:=Paired λ(p:κ×V) (q:κ×Value)=>p.1=q.1/\RelV p.2 q.2
def kV:Key->V
 | .inl i=>.int i
 | .inr x=>.str x
inductive HO where
 /-- a list -/
 | lst (xs:List V)
 /-- a tuple (never changes) -/
 | tup (xs:List V)
 /-- a dict whose keys are ints and texts;one whose keys are tuples of ints and texts (the empty one is both) -/
 | dK (kvs:List (Key×V))|dT (kvs:List (List Key×V))|dN (kvs:List (NK×V×V))
 /-- a set of ints: its members,its size -/
 | set (S:Int->Bool) (n:Nat)
 /-- an instance of the class at C,its dict at dx,its attributes -/
 | ins (C dx:Addr) (fs:List (Str×V))
 /-- the dict of the instance at x -/
 | own (x:Addr)
 /-- the dict of an exception -/
 | xd (fs:List (Str×V))
 /-- a bound method,f of x -/
 | met (f x:Addr)
 /-- a range object lo,lo+1,.. below hi -/
 | rng (lo hi:Int)
 /-- a thing that is known to the object (the script;a dict while a loop walks it): read,never written while it is so -/
 | Kq (o:Obj) (u:HO)
 /-- a code object's table -/
 | tbl (ps:Array Value)
 /-- a code object's table: whatever it holds,the codes made at these places are known and bear these names -/
 | tab (qs:List (Pos×Str))
 /-- any other thing,by what is true of its one object (a def of one's own: Xg a S n:=HO.ext λh=>..) -/
 | ext (φ:Heap->Prop)
abbrev Hp:=Addr->Option HO
def upd(H:Hp)(a:Addr)(o:HO):Hp:=λb=>if b=a then some o else H b
theorem bf{H:Hp}{a:Addr}{o:HO}:upd H a o a=some o:=by unfold upd;rw[if_pos rfl]
theorem bI{H:Hp}{a b:Addr}{o:HO}(h:b≠a):upd H a o b=H b:=by unfold upd;rw[if_neg h]
theorem Xx{H:Hp}{a:Addr}{o u:HO}:upd (upd H a o) a u=upd H a u:=by funext b;unfold upd;split<;>rfl
theorem afy{H:Hp}{a b:Addr}{o u:HO}(h:H a=some o)(h':H b=some u)(d:o≠u):a≠b:=by intro e;subst e;rw[h] at h';exact d (Qwv h')
theorem fj{H:Hp}{a b:Addr}{o:HO}(h:H a=some o)(h':H b=none):a≠b:=by intro e;subst e;rw[h] at h';cases h'
def Ej(h:Heap)(a:Addr)(items:Array Value):Prop:=∃o,h.get? a=some o/\o.cls = .type "tuple"/\(∃n,o.data = .seq items n)/\o.dict=none
theorem Ej.is{h:Heap}{a:Addr}{items:Array Value}(x:Ej h a items):IsTup h a items:=let ⟨o,h1,h2,h3,_⟩:=x;⟨o,h1,h2,h3⟩
theorem Ej.new(h:Heap)(items:Array Value):Ej (h.push { cls:=.type "tuple",data:=.seq items }) h.objs.size items:=⟨_,Qwy _ rfl,rfl,⟨_,rfl⟩,rfl⟩
section
variable(P:Program)(w:World)
def gP(H:Hp)(h:Heap)(a:Addr):HO->Prop
 | .lst xs=>xs.length<=sizeLine/\∃(its:List Value) (n:Nat),Vals xs its/\h.get? a=some { cls:=.type "list",data:=.seq its.toArray n }
 | .tup xs=>xs.length<=sizeLine/\∃its:List Value,Vals xs its/\Ej h a its.toArray
 | .dK kvs=>kvs.length<=sizeLine/\(a == sysModules)=false/\∃vs,KV kvs vs/\h.DictOf (dM P w) a vs
 | .dT kvs=>kvs.length<=sizeLine/\(a == sysModules)=false/\∃xs:List (List Key×Addr×Value),
   Paired (λ(p:List Key×V) (q:List Key×Addr×Value)=>p.1=q.1/\H q.2.1=some (.tup (p.1.map kV))/\RelV p.2 q.2.2) kvs xs/\
   ∃o es ep,h.get? a=some o/\o.ExactDict/\o.data = .dict es ep/\es.toList=xs.map (entryOfKey (tupleKind (dM P w)))/\(xs.map (·.1)).Nodup
 | .dN kvs=>kvs.length<=sizeLine/\(a == sysModules)=false/\∃xs:List (NK×Addr×Value),
   Paired (λ(p:NK×V×V) (q:NK×Addr×Value)=>p.1=q.1/\p.2.1 = .ref q.2.1/\RelV p.2.2 q.2.2) kvs xs/\
   ∃o es ep,h.get? a=some o/\o.ExactDict/\o.data = .dict es ep/\es.toList=xs.map (entryOfKey (qH P w))/\(xs.map (·.1)).Nodup
 | .set S n=>h.SetOf (intKind P w) a S n
 | .ins C dx fs=>H dx=some (.own a)/\fs.length<=1000/\dx≠a/\h.get? a=some (PySem.W.instObj C dx)/\
   ∃mA,h.Ns1 dx mA/\(∀f,xM (fs.lookup f) (mA f))/\PySem.Within mA (fs.map (·.1))
 | .own _=>∃o,h.get? a=some o
 | .xd fs=>∃mA,h.Ns1 a mA/\∀f,xM (fs.lookup f) (mA f)
 | .rng lo hi=>∃t u v,h.get? a=some { cls:=.type "range",data:=.fields #[.int lo t,.int hi u,.int 1 v] }
 | .Kq o u=>h.get? a=some o/\gP H h a u
 | .tbl ps=>h.get? a=some { cls:=.none,data:=.fields ps }
 | .tab qs=>∃ps:Array Value,h.get? a=some { cls:=.none,data:=.fields ps }/\TriplesOk ps.toList/\∀q∈qs,codeAmong q.1 ps.toList=none\/∃(c:Addr) (o:Obj) (u:HO) (vs:Array Value) (t:Tok),codeAmong q.1 ps.toList=some (.ref c)/\H c=some (.Kq o u)/\o.data = .fields vs/\vs[1]? = some (.str q.2 t)
 | .met f x=>h.get? a=some (PySem.W.methodObj (.ref f) (.ref x))
 | .ext φ=>φ h/\(∃o,h.get? a=some o)/\∀h1 h2:Heap,φ h1->(∀o,h1.get? a=some o->h2.get? a=some o)->φ h2
def xO(H:Hp)(h:Heap):Prop:=∀a o,H a=some o->gP P w H h a o
end
section
variable{P:Program}{w:World}{H H':Hp}{h h':Heap}{a:Addr}{o:HO}
theorem gP.lt(x:gP P w H h a o):a<h.objs.size:=by
 cases o with
 | lst xs=>obtain⟨_,_,_,_,e⟩:=x;exact Qwj e
 | tup xs=>obtain⟨_,_,_,p⟩:=x;exact p.is.lt
 | dK kvs=>obtain⟨_,_,_,_,o,_,_,e,_⟩:=x;exact Qwj e
 | dT kvs=>obtain⟨_,_,_,_,o,_,_,e,_⟩:=x;exact Qwj e
 | dN kvs=>obtain⟨_,_,_,_,o,_,_,e,_⟩:=x;exact Qwj e
 | set S n=>obtain⟨o,_,_,_,e,_⟩:=x;exact Qwj e
 | ins C dx fs=>obtain⟨_,_,_,e,_⟩:=x;exact Qwj e
 | own y=>obtain⟨_,e⟩:=x;exact Qwj e
 | xd fs=>obtain⟨_,⟨_,_,_,e,_⟩,_⟩:=x;exact Qwj e
 | rng lo hi=>obtain⟨_,_,_,e⟩:=x;exact Qwj e
 | Kq ob u=>obtain⟨e,_⟩:=x;exact Qwj e
 | tbl ps=>exact Qwj (show h.get? a=some _ from x)
 | tab qs=>obtain⟨_,e,_⟩:=x;exact Qwj e
 | met f y=>exact Qwj (show h.get? a=some _ from x)
 | ext φ=>obtain⟨_,⟨_,e⟩,_⟩:=x;exact Qwj e
theorem Paired.ac3{α β:Type}{F G:α->β->Prop}:∀{l₁:List α} {l₂:List β},Paired F l₁ l₂->(∀a b,F a b->G a b)->Paired G l₁ l₂
 | _,_,.nil,_=>.nil
 | _,_,.cons r t,f=>.cons (f _ _ r) (Paired.ac3 t f)
theorem gP.stay(x:gP P w H h a o)(k:∀b u,(b=a\/H b=some (.own a))->h.get? b=some u->h'.get? b=some u)
  (ho:∀b,H b=some (.own a)->H' b=some (.own a)) (ht:∀b xs,H b=some (.tup xs)->H' b=some (.tup xs))
  (hz:∀(b:Addr) (o:Obj) (u:HO) (vs:Array Value),o.data = .fields vs->H b=some (.Kq o u)->H' b=some (.Kq o u):=by intro _ _ _ _ _ q;exact q):gP P w H' h' a o:=by
 induction o with
 | lst xs=>obtain⟨z,its,n,r,e⟩:=x;exact⟨z,its,n,r,k _ _ (.inl rfl) e⟩
 | tup xs=>obtain⟨z,its,r,ob,e,c⟩:=x;exact⟨z,its,r,ob,k _ _ (.inl rfl) e,c⟩
 | dK kvs=>obtain⟨z,y,vs,r,ob,es,ep,e,c⟩:=x;exact⟨z,y,vs,r,ob,es,ep,k _ _ (.inl rfl) e,c⟩
 | dT kvs=>
  obtain⟨z,y,xs,r,ob,es,ep,e,c⟩:=x;exact⟨z,y,xs,Paired.ac3 r λp q z=>⟨z.1,ht _ _ z.2.1,z.2.2⟩,ob,es,ep,k _ _ (.inl rfl) e,c⟩
 | dN kvs=>obtain⟨z,y,xs,r,ob,es,ep,e,c⟩:=x;exact⟨z,y,xs,r,ob,es,ep,k _ _ (.inl rfl) e,c⟩
 | set S n=>obtain⟨ob,es,ep,t,e,c⟩:=x;exact⟨ob,es,ep,t,k _ _ (.inl rfl) e,c⟩
 | ins C dx fs=>
  obtain⟨d,z,ne,e,mA,⟨od,es,ep,e2,c⟩,r⟩:=x;exact⟨ho _ d,z,ne,k _ _ (.inl rfl) e,mA,⟨od,es,ep,k _ _ (.inr d) e2,c⟩,r⟩
 | own y=>obtain⟨ob,e⟩:=x;exact⟨ob,k _ _ (.inl rfl) e⟩
 | xd fs=>obtain⟨mA,⟨od,es,ep,e,c⟩,r⟩:=x;exact⟨mA,⟨od,es,ep,k _ _ (.inl rfl) e,c⟩,r⟩
 | rng lo hi=>obtain⟨t,u,v,e⟩:=x;exact⟨t,u,v,k _ _ (.inl rfl) e⟩
 | Kq ob u ih=>obtain⟨e,q⟩:=x;exact⟨k _ _ (.inl rfl) e,ih q⟩
 | tbl ps=>
  have e:h.get? a=some { cls:=.none,data:=.fields ps }:=x;show h'.get? a=some { cls:=.none,data:=.fields ps };exact k a _ (.inl rfl) e
 | tab qs=>
  obtain⟨ps,e,t,r⟩:=x;refine⟨ps,k a _ (.inl rfl) e,t,λq hq=>?_⟩;rcases r q hq with z|⟨c,o,u,vs,t,h1,h2,h3,h4⟩
  ·exact .inl z
  ·exact .inr ⟨c,o,u,vs,t,h1,hz c o u vs h3 h2,h3,h4⟩
 | met f y=>
  have e:h.get? a=some (PySem.W.methodObj (.ref f) (.ref y)):=x;show h'.get? a=some (PySem.W.methodObj (.ref f) (.ref y));exact k a _ (.inl rfl) e
 | ext φ=>obtain⟨p,⟨o,e⟩,st⟩:=x;exact⟨st _ _ p λo q=>k _ _ (.inl rfl) q,⟨o,k _ _ (.inl rfl) e⟩,st⟩
theorem xO.lt(x:xO P w H h)(e:H a=some o):a<h.objs.size:=(x a o e).lt
theorem xO.fresh(x:xO P w H h)(e:h.objs.size<=a):H a=none:=by
 cases q:H a with
 | none=>rfl
 | some u=>exact absurd (Qwq (x.lt q) e) (Qzj _)
theorem xO.kept(x:xO P w H h)(k:∀b u,h.get? b=some u->h'.get? b=some u):xO P w H h':=λa o e=>
 (x a o e).stay (λb u _ q=>k b u q) (λ_ q=>q) λ_ _ q=>q
theorem xO.laid(x:xO P w H h)(k:∀b u,h.get? b=some u->h'.get? b=some u)(hp:h.objs.size<=a)(new:gP P w (upd H a o) h' a o):xO P w (upd H a o) h':=λb u e=>by
 have hn:=x.fresh hp;by_cases hb:b=a
 ·subst hb;rw[bf] at e;cases e;exact new
 ·rw[bI hb] at e;exact(x b u e).stay (λc v _ q=>k c v q) (λc q=>by rw[bI (fj q hn)];exact q) (λc xs q=>by rw[bI (fj q hn)];exact q) λc _ _ _ _ q=>by rw[bI (fj q hn)];exact q
end
def Rd(H:Hp)(a:Addr)(u:HO):Prop:=H a=some u\/∃o,H a=some (.Kq o u)
theorem Rd.ok{P:Program}{w:World}{H:Hp}{h:Heap}{a:Addr}{u:HO}(r:Rd H a u)(x:xO P w H h):gP P w H h a u:=by
 rcases r with r|⟨o,r⟩
 ·exact x a u r
 ·obtain⟨_,q⟩:=x a _ r;exact q
def Mut:Option HO->Prop
 | some (.lst _)=>True
 | some (.dK _)=>True
 | some (.dT _)=>True
 | some (.dN _)=>True
 | some (.set _ _)=>True
 | some (.ins _ _ _)=>True
 | some (.ext _)=>True
 | _=>False
section
variable{P:Program}{w:World}{H:Hp}{h h':Heap}{x e:Addr}{o':HO}
theorem xO.write(ok:xO P w H h)(mu:Mut (H x))(he:e=x\/H e=some (.own x))(k:∀b u,b≠e->h.get? b=some u->h'.get? b=some u)(heo:∃u,h'.get? e=some u)
  (new:gP P w (upd H x o') h' x o'):xO P w (upd H x o') h':=λb u q=>by
 have afu:∀c y,H c=some (.own y)->c≠x:=λc y r z=>by subst z;rw[r] at mu;exact mu
 have ahg:∀c xs,H c=some (.tup xs)->c≠x:=λc xs r z=>by subst z;rw[r] at mu;exact mu
 by_cases hb:b=x
 ·subst hb;rw[bf] at q;cases q;exact new
 ·rw[bI hb] at q;by_cases hbe:b=e
  ·have q':H b=some (.own x):=by
    rcases he with z|z
    ·exact absurd (hbe.trans z) hb
    ·rw[hbe];exact z
   rw[q] at q';cases q';obtain⟨v,hv⟩:=heo;exact⟨v,by rw[hbe];exact hv⟩
  ·refine(ok b u q).stay (λc v hc r=>k c v ?_ r) (λc r=>by rw[bI (afu c b r)];exact r) (λc xs r=>by rw[bI (ahg c xs r)];exact r) λc _ _ _ _ r=>by rw[bI (λz=>by subst z;rw[r] at mu;exact mu)];exact r
   rcases hc with rfl|hc
   ·exact hbe
   ·rintro rfl;rcases he with z|z
    ·exact afu c b hc z
    ·rw[hc] at z;cases z;exact hb rfl
end
structure Un(fs ex:List Addr)(H H':Hp)(h h':Heap):Prop where
 keep:∀b o,h.get? b=some o->H b=none->b ∉ fs->b ∉ ex->h'.get? b=some o
 slot:∀b o,h.get? b=some o->H b=none->b∈fs->b ∉ ex->∃sl,h'.get? b=some { o with slots:=sl }
 free:∀b o,h.get? b=some o->H b=none->b ∉ ex->H' b=none
 there:∀b o,h.get? b=some o->b ∉ ex->∃o',h'.get? b=some o'
 tups:∀b xs,H b=some (.tup xs)->H' b=some (.tup xs)
 Cv:∀b o u,H b=some (.Kq o u)->H' b=some (.Kq o u)
 Iw:∀b ps,H b=some (.tbl ps)->∃more,H' b=some (.tbl (ps++more))
 tabs:∀b qs,H b=some (.tab qs)->H' b=some (.tab qs)
section
variable{fs fs' ex ex':List Addr}{H H1 H2:Hp}{h h1 h2 h':Heap}{a x e:Addr}{o:HO}
theorem Un.any(u:Un fs ex H H1 h h1){b:Addr}{ob:Obj}(q:h.get? b=some ob)(n:H b=none)(hx:b ∉ ex):∃sl,h1.get? b=some { ob with slots:=sl }:=by
 by_cases hb:b∈fs
 ·exact u.slot b ob q n hb hx
 ·exact⟨ob.slots,u.keep b ob q n hb hx⟩
theorem Un.kept(k:∀b u,h.get? b=some u->h'.get? b=some u):Un fs ex H H h h':=
 ⟨λb ob q _ _ _=>k b ob q,λb ob q _ _ _=>⟨ob.slots,k b ob q⟩,λ_ _ _ n _=>n,λb ob q _=>⟨ob,k b ob q⟩,λ_ _ q=>q,λ_ _ _ q=>q,λ_ ps q=>⟨#[],by rw[q];simp⟩,λ_ _ q=>q⟩
theorem Un.refl:Un fs ex H H h h:=Un.kept λ_ _ q=>q
theorem Un.laid(k:∀b u,h.get? b=some u->h'.get? b=some u)(hp:h.objs.size<=a)(hn:H a=none):Un fs ex H (upd H a o) h h' where
 keep:=λb u q _ _ _=>k b u q
 slot:=λb u q _ _ _=>⟨u.slots,k b u q⟩
 free:=λb u q n _=>by rw[bI (Qw7 (Qwq (Qwj q) hp))];exact n
 there:=λb u q _=>⟨u,k b u q⟩
 tups:=λb xs q=>by rw[bI (fj q hn)];exact q
 Cv:=λb u xs q=>by rw[bI (fj q hn)];exact q
 Iw:=λb ps q=>⟨#[],by rw[bI (fj q hn),q];simp⟩
 tabs:=λb qs q=>by rw[bI (fj q hn)];exact q
theorem Un.write(mu:Mut (H x))(he:e=x\/H e=some (.own x))(k:∀b u,b≠e->h.get? b=some u->h'.get? b=some u)(heo:∃u,h'.get? e=some u):Un fs ex H (upd H x o) h h':=by
 have hx:∀b,H b=none->b≠x:=λb n z=>by subst z;rw[n] at mu;exact mu
 have hb:∀b,H b=none->b≠e:=λb n z=>by
  subst z;rcases he with r|r
  ·exact hx b n r
  ·rw[n] at r;cases r
 have hm:∀b u,H b=some u->¬Mut (some u)->b≠x:=λb u q nm z=>by subst z;rw[q] at mu;exact nm mu
 refine⟨λb u q n _ _=>k b u (hb b n) q,λb u q n _ _=>⟨u.slots,k b u (hb b n) q⟩,λb u q n _=>by rw[bI (hx b n)];exact n,λb u q _=>?_,
  λb xs q=>by rw[bI (hm b _ q λz=>z)];exact q,λb u xs q=>by rw[bI (hm b _ q λz=>z)];exact q,λb ps q=>⟨#[],by rw[bI (hm b _ q λz=>z),q];simp⟩,λb qs q=>by rw[bI (hm b _ q λz=>z)];exact q⟩
 by_cases hbe:b=e
 ·subst hbe;exact heo
 ·exact⟨u,k b u hbe q⟩
end
def trk(h:Heap)(H:Hp):List Addr:=(List.range h.objs.size).filter λa=>(H a).isSome
def Hr(h:Heap)(H:Hp):Heap:=PySem.W.hideAll h (trk h H)
theorem Ss(h:Heap)(H:Hp):(Hr h H).objs.size=h.objs.size:=PySem.W.hideAll_size _ _
theorem Ws{h:Heap}{H:Hp}{b:Addr}{o:Obj}(e:h.get? b=some o)(n:H b=none):(Hr h H).get? b=some o:=
 PySem.W.hideAll_get _ e λhm=>by
  have q:(H b).isSome=true:=(List.mem_filter.mp hm).2;rw[n] at q;simp at q
theorem YQ{h:Heap}{H:Hp}{b:Addr}{o:Obj}(e:(Hr h H).get? b=some o):h.get? b=some o/\H b=none:=by
 have e':h.get? b=some o:=PySem.W.of_hideAll (trk h H) e;refine⟨e',?_⟩;cases q:H b with
 | none=>rfl
 | some x=>
  have hm:b∈trk h H:=List.mem_filter.mpr ⟨Qj3.mpr (Qwj e'),by simp[q]⟩;have z:(Hr h H).get? b=none:=PySem.W.hideAll_none (trk h H) hm;rw[z] at e;cases e
def Z8(g h:Heap)(L:Addr):List (Addr×Obj):=(List.range h.objs.size).filterMap λa=>if a=L\/(g.get? a).isSome=true then none else (h.get? a).map λo=>(a,o)
def rest(g h:Heap)(L d:Addr):List (Addr×Obj):=(Z8 g h L).filter λp=>decide (p.1≠d)
structure Mod(K:PySem.W.Frag)(mg:Str->Option Value)(base:Heap):Prop where
 R4:K.In base
 glob:base.Ns mainGlobals mg
 blt:∃mb,base.Ns builtinsNs mb/\∀x:Str,x ≠ "__name__"->mb x=bootBuiltins x
 nolimit:base.NoLimit
structure Cx where
 prog:Program
 w:World
 K:PySem.W.Frag
 mg:Str->Option Value
 base:Heap
 A:Around
 N:List Str
 s₀:Shared
 H₀:Hp
 env:Env
 outer:List Env
 stack:List Env
 ex:List Addr
 fn:Str->Bool
 calm:Bool
 pn:List (Addr×Obj)
 xe:Value->Shared->Prop
def frs(l:List Env):List Addr:=l.filterMap (·.frame)
abbrev Cx.fs(X:Cx):List Addr:=frs X.outer
def uK(sc:Scope)(x:Str):Prop:=sc.names.lookup x=some .local\/sc.names.lookup x=some .cell\/sc.names.lookup x=some .free
def Loc(sc:Scope)(x:Str):Prop:=sc.names.lookup x=some .local\/sc.names.lookup x=some .cell
def Look(env:Env)(h:Heap)(m:Str->Option Value)(x:Str)(u:Value):Prop:=
 (env.kindOf x=some .local/\m x=some u)\/((env.kindOf x=some .cell\/env.kindOf x=some .free)/\∃c,env.cells.lookup x=some c/\h.IsCell c (some u))
structure Cx.Ok(X:Cx):Prop where
 mod:Mod X.K X.mg X.base
 kind:X.env.scope.kind = .function
 glob:X.env.globals=mainGlobals
 blt:X.env.builtins=builtinsNs
 above:X.s₀.heap.objs.size<=X.env.locals
 inj:∀x y c,X.env.cells.lookup x=some c->X.env.cells.lookup y=some c->x=y
 has:∀x,(X.env.kindOf x=some .cell\/X.env.kindOf x=some .free)->∃c,X.env.cells.lookup x=some c
 cab:∀x c,X.fn x=true->X.env.cells.lookup x=some c->X.s₀.heap.objs.size<=c
 hd:X.calm=true->X.A.handled=none
 frames:X.A.frames=some X.stack
 jK:X.stack=X.outer\/(X.stack=X.env::X.outer/\X.env.frame=some X.env.locals)
 exf:∀b∈X.ex,b≠X.env.locals/\∀x c,X.env.cells.lookup x=some c->c≠b
 bs:∀b o,X.base.get? b=some o->X.s₀.heap.get? b=some o/\X.H₀ b=none
 bsz:X.base.objs.size<=X.s₀.heap.objs.size
 V3:∀b o,X.base.get? b=some o->b ∉ X.ex
 Wz:∀b∈X.ex,b ∉ X.fs
 Cu:X.s₀.heap.FunFrames X.base X.outer
 frf:∀b∈X.fs,X.H₀ b=none
structure Inv(X:Cx)(pins:List (Addr×Obj))(σ:List (Option V))(H:Hp)(s:Shared):Prop where
 ok:X.Ok
 os:s.os=X.s₀.os
 bare:AllBare s.gens
 base:Un X.fs X.ex X.H₀ H X.s₀.heap s.heap
 loc:∃m,s.heap.Ns X.env.locals m/\∀(i:Nat) (x:Str) (v:V),X.N[i]? = some x->σ[i]? = some (some v)->uK X.env.scope x->∃u,RelV v u/\Look X.env s.heap m x u
 cell:∀x c,X.env.cells.lookup x=some c->∃v,s.heap.IsCell c v
 free:H X.env.locals=none
 xj:∀x c,X.env.cells.lookup x=some c->H c=none\/(X.fn x=false/\∃o u,H c=some (.Kq o u))
 pin:∀p∈X.pn++pins,s.heap.get? p.1=some p.2/\H p.1=none/\p.1≠X.env.locals/\p.1 ∉ X.fs/\∀v,p.2.data ≠ .cell v
 hok:xO X.prog X.w H s.heap
 len:σ.length=X.N.length
section
variable{X:Cx}{pins:List (Addr×Obj)}{σ:List (Option V)}{H H':Hp}{s:Shared}{h':Heap}
theorem Cx.Ok.ahj(ok:X.Ok){b:Addr}{o:Obj}(e:X.base.get? b=some o):b ∉ X.fs:=λhb=>by
 have:=(ok.Cu.mem hb).1;rw[e] at this;cases this
theorem Inv.bs(I:Inv X pins σ H s):∀b o,X.base.get? b=some o->s.heap.get? b=some o/\H b=none:=λb o e=>
 ⟨I.base.keep b o (I.ok.bs b o e).1 (I.ok.bs b o e).2 (I.ok.ahj e) (I.ok.V3 b o e),I.base.free b o (I.ok.bs b o e).1 (I.ok.bs b o e).2 (I.ok.V3 b o e)⟩
theorem Inv.bk(I:Inv X pins σ H s):∀b o,X.base.get? b=some o->s.heap.get? b=some o:=λb o e=>(I.bs b o e).1
theorem Inv.mod(I:Inv X pins σ H s):Mod X.K X.mg X.base:=I.ok.mod
theorem Inv.kIn(I:Inv X pins σ H s):X.K.In s.heap:=I.ok.mod.R4.keeps I.bk
theorem Inv.lt(I:Inv X pins σ H s):X.env.locals<s.heap.objs.size:=let ⟨_,hn,_⟩:=I.loc;hn.lt
theorem Inv.sz(I:Inv X pins σ H s):X.s₀.heap.objs.size<=s.heap.objs.size:=Qq0 I.ok.above (Qvz I.lt)
theorem Inv.ahi(I:Inv X pins σ H s){a:Addr}(h:s.heap.objs.size<=a):a ∉ X.fs:=λhb=>by
 obtain⟨_,o,ho,_⟩:=I.ok.Cu.mem hb;exact absurd (Qwq (Qwj ho) (Qq0 I.sz h)) (Qzj _)
theorem Inv.cne(I:Inv X pins σ H s):∀x c,X.env.cells.lookup x=some c->c≠X.env.locals:=λx c e z=>by
 obtain⟨v,o,ho,hd⟩:=I.cell x c e;obtain⟨m,⟨o',es,ep,ho',hd',_⟩,_⟩:=I.loc;rw[z,ho'] at ho;cases ho;rw[hd'] at hd;cases hd
theorem Inv.Cu(I:Inv X pins σ H s):s.heap.FunFrames X.base X.outer:=by
 have all:∀(l:List Env),(∀b∈frs l,b∈X.fs)->X.s₀.heap.FunFrames X.base l->s.heap.FunFrames X.base l:=by
  intro l
  induction l with
  | nil=>intro _ _;trivial
  | cons env r ih=>
   intro hs hl;obtain⟨hk,⟨L,o,hf,hn,ho,hd⟩,hr⟩:=hl;have hL:L∈X.fs:=hs L (by unfold frs;rw[Qk4,hf];exact Qqk);obtain⟨sl,e⟩:=I.base.slot L o ho (I.ok.frf L hL) hL λz=>I.ok.Wz L z hL;exact⟨hk,⟨L,_,hf,hn,e,hd⟩,ih (λb hb=>hs b (by unfold frs;rw[Qk4,hf];exact Qqj _ hb)) hr⟩
 exact all X.outer (λ_ hb=>hb) I.ok.Cu
theorem Inv.stack(I:Inv X pins σ H s):s.heap.FunFrames X.base X.stack:=by
 rcases I.ok.jK with e|⟨e,hf⟩
 ·rw[e];exact I.Cu
 ·rw[e];obtain⟨m,hn,_⟩:=I.loc;refine .cons (by rw[I.ok.kind];decide) hf hn ?_ I.Cu;exact Heap.get?_none_of_le (Qq0 I.ok.bsz I.ok.above)
theorem Inv.Mv(I:Inv X pins σ H s):∀b∈frs X.stack,b∈X.env.locals::X.fs:=λb hb=>by
 rcases I.ok.jK with e|⟨e,hf⟩
 ·rw[e] at hb;exact Qqj _ hb
 ·rw[e] at hb;unfold frs at hb;rw[Qk4,hf] at hb;exact hb
theorem Inv.O5(I:Inv X pins σ H s):∀b∈frs X.stack,H b=none:=λb hb=>by
 rcases Qq5.mp (I.Mv b hb) with e|hb
 ·rw[e];exact I.free
 ·obtain⟨_,o,ho,_⟩:=I.ok.Cu.mem hb;exact I.base.free b o ho (I.ok.frf b hb) λz=>I.ok.Wz b z hb
theorem Inv.step{g':Array GenState}{t':Nat}{d':Drawn}{ch:List Addr}(I:Inv X pins σ H s)
  (hch:∀b∈ch,(b∈X.ex\/X.s₀.heap.objs.size<=b)/\b≠X.env.locals/\(∀x c,X.env.cells.lookup x=some c->c≠b)/\∀p∈X.pn++pins,p.1≠b)
  (keep:∀b o,b≠X.env.locals->b ∉ X.fs->b ∉ ch->s.heap.get? b=some o->H b=none->h'.get? b=some o)
  (slot:∀b o,b≠X.env.locals->b∈X.fs->b ∉ ch->s.heap.get? b=some o->H b=none->∃sl,h'.get? b=some { o with slots:=sl }) (free:∀b o,b ∉ ch->s.heap.get? b=some o->H b=none->H' b=none)
  (there:∀b o,b ∉ ch->s.heap.get? b=some o->∃o',h'.get? b=some o')
  (tups:∀b xs,H b=some (.tup xs)->H' b=some (.tup xs)) (Cv:∀b o u,H b=some (.Kq o u)->H' b=some (.Kq o u)) (Iw:∀b ps,H b=some (.tbl ps)->∃more,H' b=some (.tbl (ps++more)))
  (ns:∀m,s.heap.Ns X.env.locals m->h'.Ns X.env.locals m) (hok:xO X.prog X.w H' h') (hg:AllBare g')
  (tabs:∀(b:Addr) (qs:List (Pos×Str)),H b=some (.tab qs)->H' b=some (.tab qs):=by intro _ _ q;exact q) :
  Inv X pins σ H' { s with heap:=h',gens:=g',drawn:=d',toks:=t' }:=by
 have neL:∀b o,X.s₀.heap.get? b=some o->b≠X.env.locals:=λb o e=>Qw7 (Qwq (Qwj e) I.ok.above);have neC:∀b o,X.s₀.heap.get? b=some o->b ∉ X.ex->b ∉ ch:=λb o e hx hb=>by
  rcases(hch b hb).1 with z|z
  ·exact hx z
  ·exact absurd (Qwq (Qwj e) z) (Qzj _)
 have cellK:∀x c,X.env.cells.lookup x=some c->∀v,s.heap.IsCell c v->h'.IsCell c v:=λx c e v ⟨o,ho,hd⟩=>by
  have nch:c ∉ ch:=λz=>(hch c z).2.2.1 x c e rfl;rcases I.xj x c e with hn|⟨_,fo,fu,hz⟩
  ·by_cases hc:c∈X.fs
   ·obtain⟨sl,q⟩:=slot c o (I.cne x c e) hc nch ho hn;exact⟨_,q,hd⟩
   ·exact⟨o,keep c o (I.cne x c e) hc nch ho hn,hd⟩
  ·have e1:=(I.hok c _ hz).1;rw[ho] at e1;cases e1;exact⟨o,(hok c _ (Cv c o fu hz)).1,hd⟩
 refine⟨I.ok,I.os,hg,⟨λb o e n hb hx=>?_,λb o e n hb hx=>?_,λb o e n hx=>?_,λb o e hx=>?_,λb xs e=>tups b xs (I.base.tups b xs e),λb o xs e=>Cv b o xs (I.base.Cv b o xs e),λb ps e=>?_,λb qs e=>tabs b qs (I.base.tabs b qs e)⟩,?_,λx c e=>?_,?_,λx c e=>?_,λp hp=>?_,hok,I.len⟩
 ·exact keep b o (neL b o e) hb (neC b o e hx) (I.base.keep b o e n hb hx) (I.base.free b o e n hx)
 ·obtain⟨sl,e1⟩:=I.base.slot b o e n hb hx;obtain⟨sl',e2⟩:=slot b _ (neL b o e) hb (neC b o e hx) e1 (I.base.free b o e n hx);exact⟨sl',e2⟩
 ·obtain⟨o',e1⟩:=I.base.there b o e hx;exact free b o' (neC b o e hx) e1 (I.base.free b o e n hx)
 ·obtain⟨o',e1⟩:=I.base.there b o e hx;exact there b o' (neC b o e hx) e1
 ·obtain⟨m1,e1⟩:=I.base.Iw b ps e;obtain⟨m2,e2⟩:=Iw b _ e1;exact⟨m1++m2,by rw[e2,Array.append_assoc]⟩
 ·obtain⟨m,hn,hl⟩:=I.loc;refine⟨m,ns m hn,λi x v e1 e2 e3=>?_⟩;obtain⟨u,r,l⟩:=hl i x v e1 e2 e3;refine⟨u,r,?_⟩;rcases l with l|⟨k,c,e,z⟩
  ·exact .inl l
  ·exact .inr ⟨k,c,e,cellK x c e _ z⟩
 ·obtain⟨v,z⟩:=I.cell x c e;exact⟨v,cellK x c e v z⟩
 ·obtain⟨m,⟨o,_,_,ho,_⟩,_⟩:=I.loc;exact free _ o (λz=>(hch _ z).2.1 rfl) ho I.free
 ·rcases I.xj x c e with hn|⟨h1,fo,fu,hz⟩
  ·obtain⟨v,o,ho,hd⟩:=I.cell x c e;exact .inl (free c o (λz=>(hch c z).2.2.1 x c e rfl) ho hn)
  ·exact .inr ⟨h1,fo,fu,Cv c fo fu hz⟩
 ·obtain⟨e,n,ne,nf,d⟩:=I.pin p hp;have nch:p.1 ∉ ch:=λz=>(hch p.1 z).2.2.2 p hp rfl;exact⟨keep p.1 p.2 ne nf nch e n,free p.1 p.2 nch e n,ne,nf,d⟩
theorem Inv.un{t':Nat}(I:Inv X pins σ H s)(u:Un X.fs [] H H' s.heap h')(hok:xO X.prog X.w H' h'):Inv X pins σ H' { s with heap:=h',toks:=t' }:=by
 obtain⟨m,⟨o,es,ep,ho,r⟩,_⟩:=id I.loc;obtain⟨sl,hL⟩:=u.any ho I.free (by simp);exact I.step (g':=s.gens) (d':=s.drawn) (ch:=[]) (λ_ z=>nomatch z) (λb o _ hb _ e n=>u.keep b o e n hb (by simp)) (λb o _ hb _ e n=>u.slot b o e n hb (by simp)) (λb o _ e n=>u.free b o e n (by simp)) (λb o _ e=>u.there b o e (by simp)) u.tups u.Cv u.Iw (λm' hm=>by
  obtain⟨o',es',ep',ho',r'⟩:=hm;rw[ho] at ho';cases ho';exact⟨_,es',ep',hL,r'⟩) hok I.bare u.tabs
theorem Inv.call{g':Array GenState}{t':Nat}{d':Drawn}{ch:List Addr}(I:Inv X pins σ H s)(u:Un (frs X.stack) ch H H' s.heap h')(hok:xO X.prog X.w H' h')(hg:AllBare g')
  (hch:∀b∈ch,(b∈X.ex\/X.s₀.heap.objs.size<=b)/\b≠X.env.locals/\(∀x c,X.env.cells.lookup x=some c->c≠b)/\∀p∈X.pn++pins,p.1≠b) :
  Inv X pins σ H' { s with heap:=h',gens:=g',drawn:=d',toks:=t' }:=by
 obtain⟨m,⟨o,es,ep,ho,r⟩,_⟩:=id I.loc;obtain⟨sl,hL⟩:=u.any ho I.free λz=>(hch _ z).2.1 rfl;exact I.step (ch:=ch) hch (λb o hL hb hc e n=>u.keep b o e n (λz=>(Qq5.mp (I.Mv b z)).elim hL hb) hc) (λb o _ _ hc e n=>u.any e n hc) (λb o hc e n=>u.free b o e n hc) (λb o hc e=>u.there b o e hc) u.tups u.Cv u.Iw (λm' hm=>by
  obtain⟨o',es',ep',ho',r'⟩:=hm;rw[ho] at ho';cases ho';exact⟨_,es',ep',hL,r'⟩) hok hg u.tabs
theorem Inv.turned{t':Nat}{it:Addr}(I:Inv X pins σ H s)(k:∀b o,b≠it->s.heap.get? b=some o->h'.get? b=some o)(hn:H it=none)(hL:it≠X.env.locals)
  (h1:it∈X.ex\/X.s₀.heap.objs.size<=it) (h2:∀x c,X.env.cells.lookup x=some c->c≠it) (h3:∀p∈X.pn++pins,p.1≠it):Inv X pins σ H { s with heap:=h',toks:=t' }:=by
 have nit:∀b u,H b=some u->b≠it:=λb u e z=>by rw[z,hn] at e;cases e
 refine I.step (g':=s.gens) (d':=s.drawn) (ch:=[it]) (λb hb=>?_) (λb o _ _ hc e _=>k b o (λz=>hc (by simp[z])) e) (λb o _ _ hc e _=>⟨o.slots,k b o (λz=>hc (by simp[z])) e⟩) (λ_ _ _ _ n=>n)
  (λb o hc e=>⟨o,k b o (λz=>hc (by simp[z])) e⟩) (λ_ _ e=>e) (λ_ _ _ e=>e) (λb ps e=>⟨#[],by rw[e];simp⟩) (λm hm=>?_) (λb u e=>?_) I.bare
 ·have e:b=it:=by simpa using hb
  subst e;exact⟨h1,hL,h2,h3⟩
 ·obtain⟨o,es,ep,ho,r⟩:=hm;exact⟨o,es,ep,k _ o (Ne.symm hL) ho,r⟩
 ·refine(I.hok b u e).stay (λc v hc q=>k c v ?_ q) (λ_ q=>q) λ_ _ q=>q;rcases hc with z|z
  ·rw[z];exact nit b u e
  ·exact nit c _ z
theorem Inv.tok(I:Inv X pins σ H s)(t:Nat):Inv X pins σ H { s with toks:=t }:=I.un (h':=s.heap) (t':=t) Un.refl I.hok
theorem Inv.kept{t':Nat}(I:Inv X pins σ H s)(k:∀b u,s.heap.get? b=some u->h'.get? b=some u):Inv X pins σ H { s with heap:=h',toks:=t' }:=I.un (Un.kept k) (I.hok.kept k)
theorem Inv.laid{a:Addr}{o:HO}{t':Nat}(I:Inv X pins σ H s)(k:∀b u,s.heap.get? b=some u->h'.get? b=some u)(hp:s.heap.objs.size<=a)(new:gP X.prog X.w (upd H a o) h' a o) :
  Inv X pins σ (upd H a o) { s with heap:=h',toks:=t' }:=I.un (Un.laid k hp (I.hok.fresh hp)) (I.hok.laid k hp new)
theorem Inv.write{x e:Addr}{o:HO}{t':Nat}(I:Inv X pins σ H s)(mu:Mut (H x))(he:e=x\/H e=some (.own x))(k:∀b u,b≠e->s.heap.get? b=some u->h'.get? b=some u)(heo:∃u,h'.get? e=some u)
  (new:gP X.prog X.w (upd H x o) h' x o):Inv X pins σ (upd H x o) { s with heap:=h',toks:=t' }:=I.un (Un.write mu he k heo) (I.hok.write mu he k heo new)
theorem Inv.Py{aaP:List (Addr×Obj)}(I:Inv X pins σ H s)(h:∀p∈aaP,s.heap.get? p.1=some p.2/\H p.1=none/\p.1≠X.env.locals/\p.1 ∉ X.fs/\∀v,p.2.data ≠ .cell v):Inv X aaP σ H s:=
 ⟨I.ok,I.os,I.bare,I.base,I.loc,I.cell,I.free,I.xj,λp hp=>(Qw6.mp hp).elim (λz=>I.pin p (List.mem_append_left _ z)) (h p),I.hok,I.len⟩
theorem JV{N:List Str}(hN:N.Nodup){i j:Nat}{x:Str}(a:N[i]? = some x)(b:N[j]? = some x):i=j:=by obtain⟨h1,e1⟩:=Qq4.mp a;obtain⟨h2,e2⟩:=Qq4.mp b;exact(List.getElem_inj hN).mp (e1.trans e2.symm)
theorem Ep{M:Model}{A:Around}{E:Value->Shared->Prop}{i:Nat}{x:Str}{v:V}{u:Value}{Q:Unit->Shared->Prop}(I:Inv X pins σ H s)(hN:X.N.Nodup)(hi:X.N[i]? = some x)(hx:Loc X.env.scope x)(r:RelV v u)
  (h:∀s',Inv X pins (σ.set i (some v)) H s'->(∃a,Heap.SameBut a s.heap s'.heap/\(a=X.env.locals\/X.env.cells.lookup x=some a))->Q () s') (hf:X.fn x=true\/X.env.scope.names.lookup x=some .local:=by first|exact .inl rfl|exact .inr rfl|assumption):wpAny M A (storeName X.env x u) Q E s:=by
 obtain⟨m,hn,hl⟩:=id I.loc;have hcls:(X.env.scope.kind == .class||(X.env.scope.kind == .module&&X.env.locals != X.env.globals))=false:=by rw[I.ok.kind];rfl
 have hiσ:i<σ.length:=by rw[I.len];exact(Qq4.mp hi).1
 have cne:=I.cne;have tracked:∀{a:Addr} {h':Heap},(∃o,s.heap.get? a=some o/\H a=none)->Heap.SameBut a s.heap h'->xO X.prog X.w H h':=λ{a h'} ha hs b ob e=>by
  obtain⟨_,_,hfree⟩:=ha;refine(I.hok b ob e).stay (λc w' hc q=>(hs.2 c ?_).trans q) (λ_ q=>q) λ_ _ q=>q;rintro rfl;rcases hc with rfl|hc
  ·rw[hfree] at e;cases e
  ·rw[hfree] at hc;cases hc
 rcases hx with hk|hk
 ·refine wpAny_storeName_local hk hn (λh' hn' hs=>?_) hcls;obtain⟨oL,_,_,hoL,_⟩:=id hn;refine h _ ⟨I.ok,I.os,I.bare,⟨λb o e n hb hx=>?_,λb o e n hb hx=>?_,I.base.free,λb o e hx=>?_,I.base.tups,I.base.Cv,I.base.Iw,I.base.tabs⟩,⟨_,hn',λj y v' e1 e2 e3=>?_⟩,λy c e=>?_,I.free,I.xj,λp hp=>?_,tracked ⟨oL,hoL,I.free⟩ hs,by simpa using I.len⟩ ⟨_,hs,.inl rfl⟩
  ·exact(hs.2 b (Qw7 (Qwq (Qwj e) I.ok.above))).trans (I.base.keep b o e n hb hx)
  ·obtain⟨sl,e1⟩:=I.base.slot b o e n hb hx;exact⟨sl,(hs.2 b (Qw7 (Qwq (Qwj e) I.ok.above))).trans e1⟩
  ·obtain⟨o',e1⟩:=I.base.there b o e hx;exact⟨o',(hs.2 b (Qw7 (Qwq (Qwj e) I.ok.above))).trans e1⟩
  ·by_cases hj:j=i
   ·subst hj;rw[hi] at e1;cases e1;rw[Qw3 hiσ] at e2;cases e2;exact⟨u,r,.inl ⟨hk,by simp⟩⟩
   ·rw[Qw0 (Ne.symm hj)] at e2;obtain⟨u',r',q⟩:=hl j y v' e1 e2 e3;refine⟨u',r',?_⟩;rcases q with ⟨k,e⟩|⟨k,c,e,z⟩
    ·refine .inl ⟨k,?_⟩;have:y≠x:=λe=>hj (JV hN e1 (e ▸ hi));simp[this,e]
    ·exact .inr ⟨k,c,e,z.sameBut hs (cne y c e)⟩
  ·obtain⟨w',z⟩:=I.cell y c e;exact⟨w',z.sameBut hs (cne y c e)⟩
  ·obtain⟨e,n,ne,nf,d⟩:=I.pin p hp;exact⟨(hs.2 p.1 ne).trans e,n,ne,nf,d⟩
 ·have hfn:X.fn x=true:=by
   rcases hf with z|z
   ·exact z
   ·rw[z] at hk;cases hk
  obtain⟨c,hc⟩:=I.ok.has x (.inl hk);obtain⟨w',z⟩:=I.cell x c hc;refine wpAny_storeName_cell I.ok.kind hk hc z (λh' hc' hs=>?_);obtain⟨oc,hoc,ahx⟩:=id z;refine h { s with heap:=h' } ⟨I.ok,I.os,I.bare,⟨λb o e n hb hx=>?_,λb o e n hb hx=>?_,I.base.free,λb o e hx=>?_,I.base.tups,I.base.Cv,I.base.Iw,I.base.tabs⟩,⟨m,hn.sameBut hs (Ne.symm (cne x c hc)),λj y v' e1 e2 e3=>?_⟩,λy c' e=>?_,I.free,I.xj,λp hp=>?_,tracked ⟨oc,hoc,(I.xj x c hc).resolve_right λz=>by rw[hfn] at z;cases z.1⟩ hs,by simpa using I.len⟩ ⟨c,hs,.inr hc⟩
  ·exact(hs.2 b (Qw7 (Qwq (Qwj e) (I.ok.cab x c hfn hc)))).trans (I.base.keep b o e n hb hx)
  ·obtain⟨sl,e1⟩:=I.base.slot b o e n hb hx;exact⟨sl,(hs.2 b (Qw7 (Qwq (Qwj e) (I.ok.cab x c hfn hc)))).trans e1⟩
  ·obtain⟨o',e1⟩:=I.base.there b o e hx;exact⟨o',(hs.2 b (Qw7 (Qwq (Qwj e) (I.ok.cab x c hfn hc)))).trans e1⟩
  ·by_cases hj:j=i
   ·subst hj;rw[hi] at e1;cases e1;rw[Qw3 hiσ] at e2;cases e2;exact⟨u,r,.inr ⟨.inl hk,c,hc,hc'⟩⟩
   ·rw[Qw0 (Ne.symm hj)] at e2;obtain⟨u',r',q⟩:=hl j y v' e1 e2 e3;refine⟨u',r',?_⟩;rcases q with q|⟨k,c',e,z'⟩
    ·exact .inl q
    ·refine .inr ⟨k,c',e,z'.sameBut hs ?_⟩;rintro rfl;exact hj (JV hN e1 (I.ok.inj _ _ _ e hc ▸ hi))
  ·by_cases hcc:c'=c
   ·subst hcc;exact⟨_,hc'⟩
   ·obtain⟨w2,z2⟩:=I.cell y c' e;exact⟨w2,z2.sameBut hs hcc⟩
  ·obtain⟨e,n,ne,nf,d⟩:=I.pin p hp;refine⟨(hs.2 p.1 ?_).trans e,n,ne,nf,d⟩;intro q;rw[q,hoc] at e;have q':oc=p.2:=Qwv e;exact d w' (by rw[<-q'];exact ahx)
theorem Az{M:Model}{A:Around}{E:Value->Shared->Prop}{i:Nat}{x:Str}{v:V}{u:Value}{Q:Unit->Shared->Prop}(I:Inv X pins σ H s)(hN:X.N.Nodup)(hi:X.N[i]? = some x)(hx:Loc X.env.scope x)(r:RelV v u)
  (h:∀s',Inv X pins (σ.set i (some v)) H s'->Q () s') (hf:X.fn x=true\/X.env.scope.names.lookup x=some .local:=by first|exact .inl rfl|exact .inr rfl|assumption):wpAny M A (storeName X.env x u) Q E s:=
 Ep I hN hi hx r (λs' I' _=>h s' I') hf
theorem Inv.call'{s':Shared}{ch:List Addr}(I:Inv X pins σ H s)(ho:s'.os=s.os)(u:Un (frs X.stack) ch H H' s.heap s'.heap)(hok:xO X.prog X.w H' s'.heap)(hg:AllBare s'.gens)
  (hch:∀b∈ch,(b∈X.ex\/X.s₀.heap.objs.size<=b)/\b≠X.env.locals/\(∀x c,X.env.cells.lookup x=some c->c≠b)/\∀p∈X.pn++pins,p.1≠b):Inv X pins σ H' s':=by
 obtain⟨h',g',d',t',o'⟩:=s';have e:o'=s.os:=ho;subst e;exact I.call (g':=g') (t':=t') (d':=d') u hok hg hch
end
abbrev XK:=Value->Option Addr->Hp->Prop
abbrev St:=List (Option V)
abbrev VK:=V->Hp->Prop
abbrev TE:=St->Hp->VK->Prop
abbrev TT:=St->Hp->(Bool->Hp->Prop)->Prop
abbrev TA:=St->Hp->(List V->Hp->Prop)->Prop
structure Ends where
 nx:St->Hp->Prop
 rt:VK
 bk:St->Hp->Prop:=λ_ _=>False
 ct:St->Hp->Prop:=λ_ _=>False
abbrev TS:=Ends->St->Hp->Prop
def EP(X:Cx)(pins:List (Addr×Obj))(σ:St)(Q:VK)(u:Value)(s':Shared):Prop:=∃v H',Inv X pins σ H' s'/\RelV v u/\Q v H'
def TP(X:Cx)(pins:List (Addr×Obj))(σ:St)(Q:Bool->Hp->Prop)(b:Bool)(s':Shared):Prop:=∃H',Inv X pins σ H' s'/\Q b H'
def AP(X:Cx)(pins:List (Addr×Obj))(σ:St)(Q:List V->Hp->Prop)(us:List Value)(s':Shared):Prop:=∃vs H',Inv X pins σ H' s'/\Vals vs us/\Q vs H'
def SP(X:Cx)(pins:List (Addr×Obj))(D:Ends)(f:Flow)(s':Shared):Prop:=
 match f with
 | .next=>∃σ' H',Inv X pins σ' H' s'/\D.nx σ' H'
 | .brk=>∃σ' H',Inv X pins σ' H' s'/\D.bk σ' H'
 | .cont=>∃σ' H',Inv X pins σ' H' s'/\D.ct σ' H'
 | .ret u=>∃v σ' H',Inv X pins σ' H' s'/\RelV v u/\D.rt v H'
def PE(X:Cx)(e:Expr)(t:TE):Prop:=
 ∀(pins:List (Addr×Obj)) (s:Shared) (σ:St) (H:Hp) (Q:VK),Inv X pins σ H s->t σ H Q->wpAny (model X.prog X.w) X.A (eval e X.env) (EP X pins σ Q) X.xe s
def PT(X:Cx)(e:Expr)(t:TT):Prop:=
 ∀(pins:List (Addr×Obj)) (s:Shared) (σ:St) (H:Hp) (Q:Bool->Hp->Prop),Inv X pins σ H s->t σ H Q->wpAny (model X.prog X.w) X.A (isTrue e X.env (eval e X.env)) (TP X pins σ Q) X.xe s
def PW(X:Cx)(e:Expr)(t:TT):Prop:=
 ∀(whole:Sem Value) (pins:List (Addr×Obj)) (s:Shared) (σ:St) (H:Hp) (Q:Bool->Hp->Prop),Inv X pins σ H s->t σ H Q->wpAny (model X.prog X.w) X.A (isTrue e X.env whole) (TP X pins σ Q) X.xe s
theorem PW.pt{X:Cx}{e:Expr}{t:TT}(h:PW X e t):PT X e t:=h _
def PA(X:Cx)(es:List Expr)(t:TA):Prop:=
 ∀(pos:Pos) (pins:List (Addr×Obj)) (s:Shared) (σ:St) (H:Hp) (Q:List V->Hp->Prop),Inv X pins σ H s->t σ H Q->wpAny (model X.prog X.w) X.A (spliced (backTo pos (starEach es X.env))) (AP X pins σ Q) X.xe s
def PS(X:Cx)(st:Stmt)(t:TS):Prop:=
 ∀(pins:List (Addr×Obj)) (s:Shared) (σ:St) (H:Hp) (D:Ends),Inv X pins σ H s->t D σ H->wpAny (model X.prog X.w) X.A (exec st X.env) (SP X pins D) X.xe s
def Lp(X:Cx)(st:List Stmt)(t:TS):Prop:=
 ∀(pins:List (Addr×Obj)) (s:Shared) (σ:St) (H:Hp) (D:Ends),Inv X pins σ H s->t D σ H->wpAny (model X.prog X.w) X.A (execs st X.env) (SP X pins D) X.xe s
theorem gm{α:Type}{t:Sem α}{Q Q':α->Shared->Prop}{M:Model}{A:Around}{E:Value->Shared->Prop}{s:Shared}(h:wpAny M A t Q E s)(hQ:∀a s,Q a s->Q' a s):wpAny M A t Q' E s:=Qj5 h hQ λ_ _ x=>x
section
variable{X:Cx}
def abC(i:Nat):TE:=λσ H Q=>∃v,σ[i]? = some (some v)/\Q v H
def tC(v:V):TE:=λ_ H Q=>Q v H
theorem lF{i:Nat}{x:Str}{pos:Pos}(hN:X.N[i]? = some x)(hv:uK X.env.scope x)(hd:nH x:=by decide)(hcd:vB x:=by decide):PE X (.Name x pos) (abC i):=by
 intro pins s σ H Q I h;obtain⟨v,e,h⟩:=h;obtain⟨m,hn,hl⟩:=I.loc;obtain⟨u,r,l⟩:=hl i x v hN e hv;have fin:EP X pins σ Q u s:=⟨v,H,I,r,h⟩;rcases l with ⟨hk,hm⟩|⟨hk,c,hc,hcell⟩
 ·exact wpAny_Name (wpAny_loadName_local I.ok.kind hk hn hm fin) hd
 ·rcases hk with hk|hk
  ·exact wpAny_Name (wpAny_loadName_cell I.ok.kind hk hc hcell fin) hd
  ·exact wpAny_Name (wpAny_loadName_free I.ok.kind hk hc hcell fin hcd) hd
theorem acj{i j pos}:PE X (.Constant (.int i) j pos) (tC (.int i)):=λ_ _ _ H _ I h=>wpAny_Constant_int ⟨.int i,H,I.tok _,⟨_,rfl⟩,h⟩
theorem afh{b j pos}:PE X (.Constant (.bool b) j pos) (tC (.bl b)):=λ_ _ _ H _ I h=>Constant_bool ⟨.bl b,H,I,rfl,h⟩
theorem ach{j pos}:PE X (.Constant .none j pos) (tC .non):=λ_ _ _ H _ I h=>Constant_none ⟨.non,H,I,rfl,h⟩
theorem acg{x j pos}:PE X (.Constant (.str x) j pos) (tC (.str x)):=λ_ _ _ H _ I h=>Calls.Constant_str ⟨.str x,H,I.tok _,⟨_,rfl⟩,h⟩
def Gl(X:Cx)(x:Str):Prop:=X.env.kindOf x=some .globalImplicit
theorem Qa{E:Value->Shared->Prop}{pins:List (Addr×Obj)}{s:Shared}{σ:St}{H:Hp}{x:Str}{u:Value}{pos:Pos}{Q:Value->Shared->Prop}(I:Inv X pins σ H s)(hg:Gl X x)(hm:X.mg x=some u)(h:Q u s)
  (hd:nH x:=by decide):wpAny (model X.prog X.w) X.A (eval (.Name x pos) X.env) Q E s:=
 Calls.Name_function_global I.ok.kind hg (Calls.loadGlobal_global (by rw[I.ok.glob];exact I.mod.glob.keeps I.bk) hm h) hd
theorem tO{E:Value->Shared->Prop}{pins:List (Addr×Obj)}{s:Shared}{σ:St}{H:Hp}{x:Str}{u:Value}{pos:Pos}{Q:Value->Shared->Prop}(I:Inv X pins σ H s)(hg:Gl X x)(hm:X.mg x=none)(hv:bootBuiltins x=some u)(h:Q u s)
  (hn:x ≠ "__name__":=by decide) (hd:nH x:=by decide):wpAny (model X.prog X.w) X.A (eval (.Name x pos) X.env) Q E s:=by
 obtain⟨mb,h1,h2⟩:=I.mod.blt;exact Calls.Name_function_global I.ok.kind hg (Calls.loadGlobal_builtin (by rw[I.ok.glob];exact I.mod.glob.keeps I.bk) hm (by rw[I.ok.blt];exact h1.keeps I.bk) ((h2 x hn).trans hv) h) hd
theorem Yx{x:Str}{v:V}{u:Value}{pos:Pos}(hg:Gl X x)(hm:X.mg x=some u)(r:RelV v u)(hd:nH x:=by decide):PE X (.Name x pos) (tC v):=
 λ_ _ _ H _ I h=>Qa I hg hm ⟨v,H,I,r,h⟩ hd
theorem YC{x:Str}{v:V}{u:Value}{pos:Pos}(hg:Gl X x)(hm:X.mg x=none)(hv:bootBuiltins x=some u)(r:RelV v u)(hn:x ≠ "__name__":=by decide)(hd:nH x:=by decide):PE X (.Name x pos) (tC v):=
 λ_ _ _ H _ I h=>tO I hg hm hv ⟨v,H,I,r,h⟩ hn hd
variable{a b:Expr}{ta tb:TE}{pos:Pos}
def tB(t:TE):TT:=λσ H Q=>t σ H λx H1=>∃c,x = .bl c/\Q c H1
theorem ab5{e:Expr}{t:TE}(h:PE X e t)(he:∀whole,isTrue e X.env whole=(do let v <-whole;standAt e.pos;holding [v] (truthy v)):=by intro _;rfl):PT X e (tB t):=by intro pins s σ H Q I hw;refine isTrue_plain (gm (h pins s σ H _ I hw) λv s1 ⟨x,H1,I1,r1,q1⟩=>?_) (he _);obtain⟨d,rfl,q⟩:=q1;cases r1;exact Qj9 ⟨H1,I1,q⟩
variable{tA tB':TT}{rest:List Expr}
def ag7(t u:TT):TT:=λσ H Q=>t σ H λc H1=>if c=true then u σ H1 Q else Q false H1
def tOr(t u:TT):TT:=λσ H Q=>t σ H λc H1=>if c=true then Q true H1 else u σ H1 Q
def agZ(t:TT):TT:=λσ H Q=>t σ H λc H1=>Q (!c) H1
theorem pw_and1(ha:PT X a tA):PW X (.BoolOp .And [a] pos) tA:=by
 intro wh pins s σ H Q I h;refine isTrue_and (gm (ha pins s σ H Q I h) λc s1 e=>?_);cases c with
 | true=>exact isTrue_and_nil e
 | false=>exact e
theorem pw_or1(ha:PT X a tA):PW X (.BoolOp .Or [a] pos) tA:=by
 intro wh pins s σ H Q I h;refine isTrue_or (gm (ha pins s σ H Q I h) λc s1 e=>?_);cases c with
 | false=>exact isTrue_or_nil e
 | true=>exact e
theorem pw_and(ha:PT X a tA)(hb:PW X (.BoolOp .And (b::rest) pos) tB'):PW X (.BoolOp .And (a::b::rest) pos) (ag7 tA tB'):=by
 intro wh pins s σ H Q I h;refine isTrue_and (gm (ha pins s σ H _ I h) λc s1 ⟨H1,I1,q1⟩=>?_);cases c with
 | true=>exact hb wh pins s1 σ H1 Q I1 q1
 | false=>exact⟨H1,I1,q1⟩
theorem pw_or(ha:PT X a tA)(hb:PW X (.BoolOp .Or (b::rest) pos) tB'):PW X (.BoolOp .Or (a::b::rest) pos) (tOr tA tB'):=by
 intro wh pins s σ H Q I h;refine isTrue_or (gm (ha pins s σ H _ I h) λc s1 ⟨H1,I1,q1⟩=>?_);cases c with
 | true=>exact⟨H1,I1,q1⟩
 | false=>exact hb wh pins s1 σ H1 Q I1 q1
theorem ab6(ha:PT X a tA):PT X (.UnaryOp .Not a pos) (agZ tA):=by intro pins s σ H Q I h;exact isTrue_not (ha pins s σ H (λc H1=>Q (!c) H1) I h)
def aeG(ta tb:TE):TE:=λσ H Q=>ta σ H λx H1=>∃c,x = .bl c/\if c=true then tb σ H1 Q else Q (.bl false) H1
def agY(ta tb:TE):TE:=λσ H Q=>ta σ H λx H1=>∃c,x = .bl c/\if c=true then Q (.bl true) H1 else tb σ H1 Q
theorem M9{op}{t:TE}(h:PE X a t):PE X (.BoolOp op [a] pos) t:=λpins s σ H Q I hw=>BoolOp_one (h pins s σ H Q I hw)
theorem ack(ha:PE X a ta)(hb:PE X (.BoolOp .And (b::rest) pos) tb):PE X (.BoolOp .And (a::b::rest) pos) (aeG ta tb):=by
 intro pins s σ H Q I h;refine BoolOp_and (gm (ha pins s σ H _ I h) λv s1 ⟨x,H1,I1,r1,q1⟩=>?_);obtain⟨c,rfl,q1⟩:=q1;cases r1;refine Qj9 ?_;cases c with
 | true=>exact hb pins s1 σ H1 Q I1 q1
 | false=>exact⟨.bl false,H1,I1,rfl,q1⟩
theorem afe(ha:PE X a ta)(hb:PE X (.BoolOp .Or (b::rest) pos) tb):PE X (.BoolOp .Or (a::b::rest) pos) (agY ta tb):=by
 intro pins s σ H Q I h;refine BoolOp_or (gm (ha pins s σ H _ I h) λv s1 ⟨x,H1,I1,r1,q1⟩=>?_);obtain⟨c,rfl,q1⟩:=q1;cases r1;refine Qj9 ?_;cases c with
 | false=>exact hb pins s1 σ H1 Q I1 q1
 | true=>exact⟨.bl true,H1,I1,rfl,q1⟩
end
def jR(K:PySem.W.Frag)(H:Hp)(a:Addr)(xs:List V):Prop:=
 Rd H a (.lst xs)\/
  ∃(o:Obj) (its:Array Value) (n:Nat),K.lookup a=some o/\o.cls = .type "list"/\o.dict=none/\o.data = .seq its n/\its.size<=sizeLine/\Vals xs its.toList
def oE(K:PySem.W.Frag)(H:Hp)(a:Addr)(xs:List V):Prop:=
 Rd H a (.tup xs)\/
  ∃(o:Obj) (its:Array Value) (n:Nat),K.lookup a=some o/\o.cls = .type "tuple"/\o.dict=none/\o.data = .seq its n/\its.size<=sizeLine/\Vals xs its.toList
def ahX:Value->Option V
 | .none=>some .non
 | .bool b=>some (.bl b)
 | .int i _=>some (.int i)
 | .str x _=>some (.str x)
 | .bytes b _=>some (.byt b)
 | .float b _=>some (.flt b)
 | .ref a=>some (.ref a)
 | .type n=>some (.ty n)
 | _=>none
theorem RelV.abs{x:V}{u:Value}(r:RelV x u):ahX u=some x:=by
 cases x with
 | non=>cases r;rfl
 | bl _=>cases r;rfl
 | int _=>obtain⟨t,rfl⟩:=r;rfl
 | str _=>obtain⟨t,rfl⟩:=r;rfl
 | byt _=>obtain⟨t,rfl⟩:=r;rfl
 | flt _=>obtain⟨t,rfl⟩:=r;rfl
 | ref _=>cases r;rfl
 | ty _=>cases r;rfl
theorem RelV.inj{x y:V}{u:Value}(r:RelV x u)(q:RelV y u):x=y:=Qwv (r.abs.symm.trans q.abs)
theorem Vals.inj:∀{xs ys:List V} {us:List Value},Vals xs us->Vals ys us->xs=ys
 | _,_,_,.nil,.nil=>rfl
 | _,_,_,.cons r t,.cons r' t'=>by rw[r.inj r',Vals.inj t t']
section
variable{X:Cx}{pins:List (Addr×Obj)}{σ:St}{H:Hp}{s:Shared}{a:Addr}{xs ys:List V}
theorem jR.of{K:PySem.W.Frag}(h:H a=some (.lst xs)):jR K H a xs:=.inl (.inl h)
theorem oE.of{K:PySem.W.Frag}(h:H a=some (.tup xs)):oE K H a xs:=.inl (.inl h)
theorem Inv.list(I:Inv X pins σ H s)(h:jR X.K H a xs):∃its:List Value,Vals xs its/\PlainL s.heap a its.toArray/\xs.length<=sizeLine:=by
 rcases h with h|⟨o,its,n,hk,hc,hd,hs,hz,r⟩
 ·obtain⟨z,its,n,r,e⟩:=h.ok I.hok;exact⟨its,r,⟨_,n,e,rfl,rfl,rfl⟩,z⟩
 ·refine⟨its.toList,r,⟨o,n,I.kIn a o hk,hc,hd,by simpa using hs⟩,?_⟩;have e:=r.length;simp only[Qz1] at e;omega
theorem Inv.tuple(I:Inv X pins σ H s)(h:oE X.K H a xs):∃its:List Value,Vals xs its/\IsTup s.heap a its.toArray/\xs.length<=sizeLine:=by
 rcases h with h|⟨o,its,n,hk,hc,hdn,hs,hz,r⟩
 ·obtain⟨z,its,r,p⟩:=h.ok I.hok;exact⟨its,r,p.is,z⟩
 ·refine⟨its.toList,r,⟨o,I.kIn a o hk,hc,n,by simpa using hs⟩,?_⟩;have e:=r.length;simp only[Qz1] at e;omega
theorem Inv.wO(I:Inv X pins σ H s)(h:jR X.K H a xs)(h':jR X.K H a ys):xs=ys:=by
 obtain⟨its,r,⟨o,n,e,_,_,d⟩,_⟩:=I.list h;obtain⟨its',r',⟨o',n',e',_,_,d'⟩,_⟩:=I.list h';rw[e] at e';cases e';rw[d] at d';injection d' with d1 _
 have:its=its':=by simpa using Qxy Array.toList d1
 subst this;exact r.inj r'
theorem Inv.xW(I:Inv X pins σ H s)(h:oE X.K H a xs)(h':oE X.K H a ys):xs=ys:=by
 obtain⟨its,r,⟨o,e,_,n,d⟩,_⟩:=I.tuple h;obtain⟨its',r',⟨o',e',_,n',d'⟩,_⟩:=I.tuple h';rw[e] at e';cases e';rw[d] at d';injection d' with d1 _
 have:its=its':=by simpa using Qxy Array.toList d1
 subst this;exact r.inj r'
end
abbrev Cx.wish(X:Cx)(E:Value->Shared->Prop):Cx:={ X with xe:=E }
abbrev Cx.nox(X:Cx):Cx:=X.wish λ_ _=>False
theorem Cx.Ok.wish{X:Cx}(ok:X.Ok)(E:Value->Shared->Prop):(X.wish E).Ok:=
 ⟨ok.mod,ok.kind,ok.glob,ok.blt,ok.above,ok.inj,ok.has,ok.cab,ok.hd,ok.frames,ok.jK,ok.exf,ok.bs,ok.bsz,ok.V3,ok.Wz,ok.Cu,ok.frf⟩
theorem Cx.Ok.sI{X:Cx}{E:Value->Shared->Prop}(ok:(X.wish E).Ok):X.Ok:=
 ⟨ok.mod,ok.kind,ok.glob,ok.blt,ok.above,ok.inj,ok.has,ok.cab,ok.hd,ok.frames,ok.jK,ok.exf,ok.bs,ok.bsz,ok.V3,ok.Wz,ok.Cu,ok.frf⟩
section
variable{X:Cx}{pins:List (Addr×Obj)}{σ:St}{H:Hp}{s:Shared}{E:Value->Shared->Prop}
theorem Inv.wish(I:Inv X pins σ H s)(E:Value->Shared->Prop):Inv (X.wish E) pins σ H s:=⟨I.ok.wish E,I.os,I.bare,I.base,I.loc,I.cell,I.free,I.xj,I.pin,I.hok,I.len⟩
theorem Inv.sI(I:Inv (X.wish E) pins σ H s):Inv X pins σ H s:=⟨I.ok.sI,I.os,I.bare,I.base,I.loc,I.cell,I.free,I.xj,I.pin,I.hok,I.len⟩
theorem SP.sI{D:Ends}{f:Flow}{s':Shared}(h:SP (X.wish E) pins D f s'):SP X pins D f s':=by
 cases f with
 | next=>obtain⟨σ',H',I,q⟩:=h;exact⟨σ',H',I.sI,q⟩
 | brk=>obtain⟨σ',H',I,q⟩:=h;exact⟨σ',H',I.sI,q⟩
 | cont=>obtain⟨σ',H',I,q⟩:=h;exact⟨σ',H',I.sI,q⟩
 | ret u=>obtain⟨v,σ',H',I,r,q⟩:=h;exact⟨v,σ',H',I.sI,r,q⟩
theorem Lp.nox{st:List Stmt}{t:TS}(h:Lp X.nox st t):Lp X st t:=λpins s σ H D I hw=>
 Qj5 (h pins s σ H D (I.wish _) hw) (λ_ _ q=>q.sI) λ_ _ z=>False.elim z
end
section
variable{X:Cx}{st:Stmt}{rest:List Stmt}{t u:TS}{e:Expr}{te:TE}{pos:Pos}
def aeB:TS:=λD σ H=>D.nx σ H
def agU(t u:TS):TS:=λD σ H=>t { D with nx:=u D } σ H
theorem Yn:Lp X [] aeB:=λ_ _ σ H _ I h=>wpAny_execs_nil ⟨σ,H,I,h⟩
theorem Vl(h1:PS X st t)(h2:Lp X rest u):Lp X (st::rest) (agU t u):=by
 intro pins s σ H D I h;refine wpAny_execs_cons (gm (h1 pins s σ H { D with nx:=u D } I h) λf s1 q=>?_);cases f with
 | next=>
  obtain⟨σ',H',I',q⟩:=q;exact h2 pins s1 σ' H' D I' q
 | ret v=>exact q
 | brk=>exact q
 | cont=>exact q
theorem Ym(h1:PS X st t):Lp X [st] t:=by
 intro pins s σ H D I h;refine wpAny_execs_cons (gm (h1 pins s σ H D I h) λf s1 q=>?_);cases f with
 | next=>exact wpAny_execs_nil q
 | ret v=>exact q
 | brk=>exact q
 | cont=>exact q
def abH:TS:=λD σ H=>D.bk σ H
theorem Vr:PS X (.Break pos) abH:=λ_ _ σ H _ I h=>wpAny_Break ⟨σ,H,I,h⟩
theorem Inv.quiet{pins:List (Addr×Obj)}{σ:St}{H:Hp}{s:Shared}(I:Inv X pins σ H s):interactive X.env=false:=by simp[interactive,I.ok.kind]
def aeC(te:TE):TS:=λD σ H=>te σ H λ_ H1=>D.nx σ H1
theorem Yo(he:PE X e te)(hs:swapsWith e none pos.line X.env=pure false:=by rfl):PS X (.Expr e pos) (aeC te):=by intro pins s σ H D I h;exact wpAny_Expr_any (gm (he pins s σ H _ I h) λv s1 ⟨x,H1,I1,r1,q1⟩=>⟨σ,H1,I1,q1⟩) I.quiet hs
def agW(te:TE):TS:=λD σ H=>te σ H D.rt
theorem Vp(he:PE X e te):PS X (.Return (some e) pos) (agW te):=by intro pins s σ H D I h;exact wpAny_Return_some (gm (he pins s σ H _ I h) λv s1 ⟨x,H1,I1,r1,q1⟩=>⟨x,σ,H1,I1,r1,q1⟩)
def ag3(c:TT)(t u:TS):TS:=λD σ H=>c σ H λb H1=>if b=true then t D σ H1 else u D σ H1
theorem afc{c:Expr}{a b:List Stmt}{tc:TT}(hc:PT X c tc)(ha:Lp X a t)(hb:Lp X b u):PS X (.If c a b pos) (ag3 tc t u):=by
 intro pins s σ H D I h;refine wpAny_If (gm (hc pins s σ H _ I h) λd s1 ⟨H1,I1,q1⟩=>?_);cases d with
 | true=>exact ha pins s1 σ H1 D I1 q1
 | false=>exact hb pins s1 σ H1 D I1 q1
end
abbrev TG:=V->St->Hp->(St->Hp->Prop)->Prop
abbrev TGs:=List V->St->Hp->(St->Hp->Prop)->Prop
def PG(X:Cx)(target:Expr)(t:TG):Prop:=
 ∀(pins:List (Addr×Obj)) (s:Shared) (σ:St) (H:Hp) (v:V) (u:Value) (Q:St->Hp->Prop),Inv X pins σ H s->RelV v u->t v σ H Q->
  wpAny (model X.prog X.w) X.A (assign target X.env u) (λ_ s'=>∃σ' H',Inv X pins σ' H' s'/\Q σ' H') X.xe s
def PGs(X:Cx)(ts:List Expr)(t:TGs):Prop:=
 ∀(pins:List (Addr×Obj)) (s:Shared) (σ:St) (H:Hp) (vs:List V) (us:List Value) (Q:St->Hp->Prop),Inv X pins σ H s->Vals vs us->t vs σ H Q->
  wpAny (model X.prog X.w) X.A (assignInOrder ((assignEach ts X.env).map (·.2)) us) (λ_ s'=>∃σ' H',Inv X pins σ' H' s'/\Q σ' H') X.xe s
abbrev vL:=V->V->V->Hp->(Hp->Prop)->Prop
def agg(X:Cx)(t:vL):Prop:=
 ∀(pins:List (Addr×Obj)) (s:Shared) (σ:St) (H:Hp) (o i v:V) (ov iv u:Value) (Q:Hp->Prop),Inv X pins σ H s->RelV o ov->RelV i iv->RelV v u->t o i v H Q->
  wpAny (model X.prog X.w) X.A (setItem ov iv u) (λ_ s'=>∃H',Inv X pins σ H' s'/\Q H') X.xe s
abbrev TIp:=V->V->Hp->VK->Prop
def PIp(X:Cx)(op:Operator)(t:TIp):Prop:=
 ∀(pins:List (Addr×Obj)) (s:Shared) (σ:St) (H:Hp) (x y:V) (v u:Value) (Q:VK),Inv X pins σ H s->RelV x v->RelV y u->t x y H Q->
  wpAny (model X.prog X.w) X.A (inplaceOp op v u) (EP X pins σ Q) X.xe s
section
variable{X:Cx}{pos:Pos}
def Kl(i:Nat):TG:=λv σ H Q=>Q (σ.set i (some v)) H
theorem Yw{i:Nat}{x:Str}(hN:X.N.Nodup)(hi:X.N[i]? = some x)(hx:Loc X.env.scope x)(hf:X.fn x=true\/X.env.scope.names.lookup x=some .local:=by first|exact .inl rfl|exact .inr rfl|assumption):PG X (.Name x pos) (Kl i):=by intro pins s σ H v u Q I r h;exact wpAny_assign_Name (Az I hN hi hx r (λs' I'=>⟨_,H,I',h⟩) hf)
def ahP:TGs:=λvs σ H Q=>vs=[]/\Q σ H
def af0(t:TG)(u:TGs):TGs:=λvs σ H Q=>∃v r,vs=v::r/\t v σ H λσ' H'=>u r σ' H' Q
theorem Yv:PGs X [] ahP:=by intro pins s σ H vs us Q I r h;obtain⟨e,h⟩:=h;subst e;cases r;exact assignInOrder_nil ⟨σ,H,I,h⟩
theorem Vx{e:Expr}{es:List Expr}{t:TG}{u:TGs}(h1:PG X e t)(h2:PGs X es u)
  (hs:(assignEach (e::es) X.env).map (·.2)=assign e X.env::(assignEach es X.env).map (·.2):=by rfl):PGs X (e::es) (af0 t u):=by
 intro pins s σ H vs us Q I r h;obtain⟨v,vr,e1,h⟩:=h;subst e1;cases r with
 | cons r rr=>
  rw[hs];refine assignInOrder_cons (gm (h1 pins s σ H _ _ _ I r h) λ_ s1 ⟨σ1,H1,I1,q1⟩=>?_);exact h2 pins s1 σ1 H1 _ _ Q I1 rr q1
def ahL(K:PySem.W.Frag)(n:Nat)(t:TGs):TG:=λv σ H Q=>∃a xs,v = .ref a/\oE K H a xs/\xs.length=n/\t xs σ H Q
theorem acd{es:List Expr}{k:Nat}{t:TGs}{n:Nat}(hc:X.calm=true)(h:PGs X es t)
  (hn:(assignEach es X.env).length=n:=by rfl) (hst:(assignEach es X.env).findIdx? (·.1)=none:=by rfl):PG X (.Tuple es k pos) (ahL X.K n t):=by
 intro pins s σ H v u Q I r hw;obtain⟨a,xs,e1,hq,hl,hw⟩:=hw;subst e1;cases r;obtain⟨its,rv,ht,hz⟩:=I.tuple hq;refine assign_Tuple_tuple (I.ok.hd hc) ht (by simp[hn,<-hl,rv.length]) hst λh' hx=>?_;have I1:Inv X pins σ H { s with heap:=h' }:=I.kept (t':=s.toks) λb o e=>hx b o (Qw7 (Qwj e)) e;exact h pins _ σ H xs _ Q I1 (by simpa using rv) hw
def Sv(to ti:TE)(t:vL):TG:=λv σ H Q=>to σ H λo H1=>ti σ H1 λi H2=>t o i v H2 λH3=>Q σ H3
theorem ace{o i:Expr}{to ti:TE}{t:vL}(ho:PE X o to)(hi:PE X i ti)(hs:agg X t)
  (ha:∀v,assign (.Subscript o i pos) X.env v=(do
   let ov <-holding [v] (eval o X.env)
   let iv <-holding [v,ov] (eval i X.env)
   standAt pos
   holding [v,ov,iv] (setItem ov iv v)
   release [v,ov,iv] []):=by intro _;rfl):PG X (.Subscript o i pos) (Sv to ti t):=by
 intro pins s σ H v u Q I r h;rw[ha];refine Qqx (Qz3 (gm (ho pins s σ H _ I h) λov s1 ⟨x,H1,I1,r1,q1⟩=>?_));refine Qqx (Qz3 (gm (hi pins s1 σ H1 _ I1 q1) λiv s2 ⟨y,H2,I2,r2,q2⟩=>?_));refine Qqx (wpAny_standAt (Qqx (Qz3 (gm (hs pins s2 σ H2 x y v ov iv u _ I2 r1 r2 r q2) λ_ s3 ⟨H3,I3,q3⟩=>?_))));exact wpAny_release ⟨σ,H3,I3,q3⟩
def XH(te:TE)(g:TG):TS:=λD σ H=>te σ H λx H1=>g x σ H1 D.nx
theorem ab9{tg e:Expr}{te:TE}{g:TG}(he:PE X e te)(hg:PG X tg g)(hs:swapsWithSole [tg] e pos.line X.env=pure false:=by rfl)(hw:swappedStores [tg] e X.env=pure none:=by rfl)
  (h1:(assignEach [tg] X.env).map (·.2)=[assign tg X.env]:=by rfl):PS X (.Assign [tg] e pos) (XH te g):=by
 intro pins s σ H D I h;refine wpAny_Assign_stores (gm (he pins s σ H _ I h) λv s1 ⟨x,H1,I1,r1,q1⟩=>?_) hs hw;rw[h1];exact gm (hg pins s1 σ H1 x v _ I1 r1 q1) λ_ s2 q=>q
theorem Vo{i:Nat}{x:Str}{e:Expr}{te:TE}{pos':Pos}(hN:X.N.Nodup)(hi:X.N[i]? = some x)(hx:Loc X.env.scope x)(he:PE X e te)(hs:swapsWith e (some (.Name x pos')) pos.line X.env=pure false:=by rfl)(hf:X.fn x=true\/X.env.scope.names.lookup x=some .local:=by first|exact .inl rfl|exact .inr rfl|assumption) :
  PS X (.Assign [.Name x pos'] e pos) (XH te (Kl i)):=by
 intro pins s σ H D I h;refine wpAny_Assign_Name (gm (he pins s σ H _ I h) λv s1 ⟨y,H1,I1,r1,q1⟩=>?_) hs;exact Az I1 hN hi hx r1 (λs2 I2=>⟨_,H1,I2,q1⟩) hf
def ag6(i:Nat)(te:TE)(ti:TIp):TS:=λD σ H=>∃x,σ[i]? = some (some x)/\te σ H λy H1=>ti x y H1 λz H2=>D.nx (σ.set i (some z)) H2
theorem ab8{i:Nat}{x:Str}{e:Expr}{te:TE}{op:Operator}{ti:TIp}{pos':Pos}(hN:X.N.Nodup)(hi:X.N[i]? = some x)(hx:Loc X.env.scope x)(he:PE X e te)(ho:PIp X op ti)(hf:X.fn x=true\/X.env.scope.names.lookup x=some .local:=by first|exact .inl rfl|exact .inr rfl|assumption) :
  PS X (.AugAssign (.Name x pos') op e pos) (ag6 i te ti):=by
 intro pins s σ H D I h;obtain⟨v,e1,h⟩:=h;obtain⟨m,hn,hl⟩:=I.loc;have vis:uK X.env.scope x:=by rcases hx with k|k;exact .inl k;exact .inr (.inl k)
 obtain⟨u,r,l⟩:=hl i x v hi e1 vis;refine wpAny_AugAssign_Name ?_;have go:wpAny (model X.prog X.w) X.A (eval e X.env) (λw s₂=>wpAny (model X.prog X.w) X.A (inplaceOp op u w) (λr s₃=>wpAny (model X.prog X.w) X.A (storeName X.env x r) (λ_=>SP X pins D .next) X.xe s₃) X.xe s₂) X.xe s:=by refine gm (he pins s σ H _ I h) λw s1 ⟨y,H1,I1,r1,q1⟩=>?_;refine gm (ho pins s1 σ H1 v y u w _ I1 r r1 q1) λz s2 ⟨zv,H2,I2,r2,q2⟩=>?_;exact Az I2 hN hi hx r2 (λs3 I3=>⟨_,H2,I3,q2⟩) hf
 rcases l with ⟨hk,hm⟩|⟨hk,c,hc,hcell⟩
 ·exact wpAny_loadName_local I.ok.kind hk hn hm go
 ·rcases hk with hk|hk
  ·exact wpAny_loadName_cell I.ok.kind hk hc hcell go
  ·rcases hx with k|k
   ·have:X.env.scope.names.lookup x=some .free:=hk;rw[k] at this;cases this
   ·have:X.env.scope.names.lookup x=some .free:=hk;rw[k] at this;cases this
def ipI(f:Int->Int->Int):TIp:=λx y H Q=>∃i j,x = .int i/\y = .int j/\Q (.int (f i j)) H
theorem adm:PIp X .Add (ipI λi j=>i+j):=by intro pins s σ H x y v u Q I r1 r2 h;obtain⟨i,j,e1,e2,q⟩:=h;subst e1;subst e2;obtain⟨t,rfl⟩:=r1;obtain⟨t',rfl⟩:=r2;exact iadd_int ⟨.int _,H,I.tok _,⟨_,rfl⟩,q⟩
def abB(c:TT)(tb:TS):TS:=λD σ H=>∃W:Nat->St->Hp->Prop,(∃m,W m σ H)/\∀m σ H,W m σ H->
 c σ H λb H1=>if b=true then ∃N:St->Hp->Prop,(∀σ' H',N σ' H'->∃m',m'<m/\W m' σ' H')/\tb { D with nx:=N,ct:=N,bk:=D.nx } σ H1 else D.nx σ H1
theorem Vm{c:Expr}{body:List Stmt}{tc:TT}{tb:TS}(hp:PassesOwn (model X.prog X.w) X.A X.env X.xe)(hc:PT X c tc)(hb:Lp X body tb):PS X (.While c body [] pos) (abB tc tb):=by
 intro pins s σ H D I h;obtain⟨W,⟨m0,w0⟩,turn⟩:=h;refine wpAny_While (codeAny_whileLoop (λn s'=>∃σ' H',Inv X pins σ' H' s'/\W n σ' H') ?_ m0 ⟨σ,H,I,w0⟩);rintro n s1 ⟨σ1,H1,I1,w1⟩;refine Qk1 hp (gm (hc pins s1 σ1 H1 _ I1 (turn n σ1 H1 w1)) λb s2 ⟨H2,I2,q2⟩=>?_);cases b with
 | true=>
  obtain⟨N,hN,q2⟩:=q2;rw[if_pos rfl];refine Qk1 hp (gm (hb pins s2 σ1 H2 _ I2 q2) λf s3 q3=>?_);cases f with
  | next=>
   obtain⟨σ3,H3,I3,n3⟩:=q3;obtain⟨m',hm,w3⟩:=hN σ3 H3 n3;exact⟨m',hm,σ3,H3,I3,w3⟩
  | cont=>
   obtain⟨σ3,H3,I3,n3⟩:=q3;obtain⟨m',hm,w3⟩:=hN σ3 H3 n3;exact⟨m',hm,σ3,H3,I3,w3⟩
  | brk=>exact q3
  | ret v=>exact q3
 | false=>
  rw[if_neg Qxx];exact wpAny_execs_nil ⟨σ1,H2,I2,q2⟩
end
structure It where
 go:Nat->Hp->Prop
 yld:Nat->Hp->V->Hp->Prop
 stop:Nat->Hp->Prop
def uL(X:Cx)(pins:List (Addr×Obj))(H:Hp)(b:Addr):Prop:=
 H b=none/\b≠X.env.locals/\b ∉ X.fs/\(b∈X.ex\/X.s₀.heap.objs.size<=b)/\(∀x c,X.env.cells.lookup x=some c->c≠b)/\∀p∈X.pn++pins,p.1≠b
theorem Inv.N5{X:Cx}{pins:List (Addr×Obj)}{σ:St}{H H':Hp}{s:Shared}{b:Addr}(I:Inv X pins σ H s)(hb:s.heap.objs.size<=b)(hn:H' b=none):uL X pins H' b:=by
 refine⟨hn,Qjv (Qwq I.lt hb),I.ahi hb,.inr (Qq0 I.sz hb),λx c e z=>?_,λp hp z=>?_⟩
 ·obtain⟨v,q⟩:=I.cell x c e;exact absurd (Qwq q.lt (by rw[z];exact hb)) (Qzj _)
 ·exact absurd (Qwq (Qwj (I.pin p hp).1) (by rw[z];exact hb)) (Qzj _)
structure Turn(P:Program)(w:World)(K:PySem.W.Frag)(tg:Expr)(J:It)(fp:List Addr)(it:Addr)(tn:Nat->Heap->Prop):Prop where
 mem:it∈fp
 obj:∀i h,tn i h->∀b∈fp,∃o,h.get? b=some o/\∀v,o.data ≠ .cell v
 keep:∀i h h',tn i h->(∀b∈fp,∀o,h.get? b=some o->h'.get? b=some o)->tn i h'
 item:∀(X:Cx),X.prog=P->X.w=w->X.K=K->X.calm=true->∀(i:Nat) (pins:List (Addr×Obj)) (s:Shared) (σ:St) (H:Hp) (E:Value->Shared->Prop),Inv X pins σ H s->(∀b∈fp,uL X pins H b)->tn i s.heap->J.go i H->
  wpAny (model P w) X.A (pyNext (.ref it)) (λr s1=>∃u,r=some u/\
   wpAny (model P w) X.A (letOwnedTupleGo tg (.ref it) u) (λ_ s2=>∃x H',Inv X pins σ H' s2/\RelV x u/\J.yld i H x H'/\tn (i+1) s2.heap/\∀b∈fp,H' b=none) E s1) E s
 done:∀(X:Cx),X.prog=P->X.w=w->X.K=K->X.calm=true->∀(i:Nat) (pins:List (Addr×Obj)) (s:Shared) (σ:St) (H:Hp) (E:Value->Shared->Prop),Inv X pins σ H s->(∀b∈fp,uL X pins H b)->tn i s.heap->J.stop i H->
  wpAny (model P w) X.A (pyNext (.ref it)) (λr s1=>r=none/\Inv X pins σ H s1) E s
 self:∀(A:Around) (i:Nat) (s:Shared) (Q:Value->Shared->Prop) (E:Value->Shared->Prop),tn i s.heap->Q (.ref it) s->wpAny (model P w) A (pyIter (.ref it)) Q E s
abbrev TI:=St->Hp->(It->Hp->Prop)->Prop
def PIE(X:Cx)(pins:List (Addr×Obj))(σ:St)(tg:Expr)(R:It->Hp->Prop)(itv:Value)(s2:Shared):Prop:=
 ∃(it:Addr) (fp:List Addr) (tn:Nat->Heap->Prop) (J:It) (H':Hp),itv = .ref it/\Inv X pins σ H' s2/\Turn X.prog X.w X.K tg J fp it tn/\tn 0 s2.heap/\(∀b∈fp,uL X pins H' b)/\R J H'
def PI(X:Cx)(tg iter:Expr)(wi:TI):Prop:=
 ∀(pins:List (Addr×Obj)) (s:Shared) (σ:St) (H:Hp) (R:It->Hp->Prop),Inv X pins σ H s->wi σ H R->
  wpAny (model X.prog X.w) X.A (eval iter X.env) (λv s1=>wpAny (model X.prog X.w) X.A (pyIter v) (PIE X pins σ tg R) X.xe s1) X.xe s
theorem Fw{M : Model}{A : Around}{E : Value → Shared → Prop}{s : Shared}{tg : Expr}{it : Addr}{u : Value}{o : Obj}{n : String}{vs : Array Value}{Q : Unit → Shared → Prop}(ho : s.heap.get? it = some o)(hc : o.cls = .type n)(hd : o.data = .fields vs)
    (hn : ["enumerate", "zip", "dict_itemiterator", "dict_reverseitemiterator", "odict_iterator", "itertools.zip_longest", "itertools.pairwise"].contains n = false) (hQ : Q () s) : wpAny M A (letOwnedTupleGo tg (.ref it) u) Q E s := by
  unfold letOwnedTupleGo;cases tg <;> first
    | exact Qq1 hQ
    | (cases u <;> first
        | exact Qq1 hQ
        | (refine Qqx (wpAny_load ho ?_)
           rw [hc, hd];show wpAny M A (if (["enumerate", "zip", "dict_itemiterator", "dict_reverseitemiterator", "odict_iterator", "itertools.zip_longest", "itertools.pairwise"].contains n && vs[0]? == some (rawInt _)) = true then _ else _) Q E s;rw [if_neg (by intro h; rw [hn, Bool.false_and] at h; cases h)];exact Qq1 hQ))
def Itl(K:PySem.W.Frag)(a:Addr):It:=
 ⟨λi H=>∃xs x,jR K H a xs/\xs[i]? = some x,λi H x H'=>H'=H/\∀xs,jR K H a xs->xs[i]? = some x,λi H=>∃xs,jR K H a xs/\xs.length<=i⟩
def Itt(K:PySem.W.Frag)(a:Addr):It:=
 ⟨λi H=>∃xs x,oE K H a xs/\xs[i]? = some x,λi H x H'=>H'=H/\∀xs,oE K H a xs->xs[i]? = some x,λi H=>∃xs,oE K H a xs/\xs.length<=i⟩
def Itr(lo:Int)(n:Nat):It:=⟨λi _=>i<n,λi H x H'=>H'=H/\x = .int (lo+i),λi _=>n<=i⟩
theorem Q4{P:Program}{w:World}{K:PySem.W.Frag}{tg:Expr}(a it:Addr):Turn P w K tg (Itl K a) [it] it (λi h=>h.IsListIter it a i) where
 mem:=by simp
 obj:=λi h st b hb=>by
  have e:b=it:=by simpa using hb
  subst e;obtain⟨o,e,c,d⟩:=st;exact⟨o,e,λv z=>by rw[d] at z;cases z⟩
 keep:=λi h h' st k=>st.at λo e=>k it (by simp) o e
 item:=by intro X hP hw hK hc i pins s σ H E I hf st hg;subst hP hw hK;obtain⟨xs,x,hq,hx⟩:=hg;obtain⟨its,rv,p,hz⟩:=I.list hq;obtain⟨u,hu,ru⟩:=rv.get hx;obtain⟨f0,f1,f2,f3,f4,f5⟩:=hf it (by simp);refine wpAny_pyNext_list_item st p.isList (x:=u) (by simpa using hu) λh' st' sb=>?_;have I1:Inv X pins σ H { s with heap:=h' }:=I.turned (t':=s.toks) (λb o hb e=>(sb.2 b hb).trans e) f0 f1 f3 f4 f5;obtain⟨o,e,c,d⟩:=id st';exact⟨u,rfl,Fw (s:={ s with heap:=h' }) e c d (by decide) ⟨x,H,I1,ru,⟨rfl,λys hy=>by rw[I.wO hy hq];exact hx⟩,st',λb hb=>(hf b hb).1⟩⟩
 done:=by intro X hP hw hK hc i pins s σ H E I hf st hg;subst hP hw hK;obtain⟨xs,hq,hx⟩:=hg;obtain⟨its,rv,p,hz⟩:=I.list hq;obtain⟨f0,f1,f2,f3,f4,f5⟩:=hf it (by simp);have hl:=rv.length;exact wpAny_pyNext_list_end (I.ok.hd hc) st p.isList (by simp;omega) λh' eb=>⟨rfl,I.turned (t':=s.toks) (λb o hb e=>eb b o hb e) f0 f1 f3 f4 f5⟩
 self:=λ_ _ _ _ _ st h=>wpAny_pyIter_listiter st h
theorem Mh{P:Program}{w:World}{K:PySem.W.Frag}{tg:Expr}(a it:Addr):Turn P w K tg (Itt K a) [it] it (λi h=>h.IsTupleIter it a i) where
 mem:=by simp
 obj:=λi h st b hb=>by
  have e:b=it:=by simpa using hb
  subst e;obtain⟨o,e,c,d⟩:=st;exact⟨o,e,λv z=>by rw[d] at z;cases z⟩
 keep:=λi h h' st k=>st.at λo e=>k it (by simp) o e
 item:=by intro X hP hw hK hc i pins s σ H E I hf st hg;subst hP hw hK;obtain⟨xs,x,hq,hx⟩:=hg;obtain⟨its,rv,p,hz⟩:=I.tuple hq;obtain⟨u,hu,ru⟩:=rv.get hx;obtain⟨f0,f1,f2,f3,f4,f5⟩:=hf it (by simp);refine wpAny_pyNext_tuple_item st (show s.heap.IsTuple a its.toArray from p) (x:=u) (by simpa using hu) λh' st' sb=>?_;have I1:Inv X pins σ H { s with heap:=h' }:=I.turned (t':=s.toks) (λb o hb e=>(sb.2 b hb).trans e) f0 f1 f3 f4 f5;obtain⟨o,e,c,d⟩:=id st';exact⟨u,rfl,Fw (s:={ s with heap:=h' }) e c d (by decide) ⟨x,H,I1,ru,⟨rfl,λys hy=>by rw[I.xW hy hq];exact hx⟩,st',λb hb=>(hf b hb).1⟩⟩
 done:=by intro X hP hw hK hc i pins s σ H E I hf st hg;subst hP hw hK;obtain⟨xs,hq,hx⟩:=hg;obtain⟨its,rv,p,hz⟩:=I.tuple hq;obtain⟨f0,f1,f2,f3,f4,f5⟩:=hf it (by simp);have hl:=rv.length;exact wpAny_pyNext_tuple_end (I.ok.hd hc) st (show s.heap.IsTuple a its.toArray from p) (by simp;omega) λh' eb=>⟨rfl,I.turned (t':=s.toks) (λb o hb e=>eb b o hb e) f0 f1 f3 f4 f5⟩
 self:=λ_ _ _ _ _ st h=>wpAny_pyIter_tupleiter st h
theorem Mi{P:Program}{w:World}{K:PySem.W.Frag}{tg:Expr}(it:Addr)(lo:Int)(n:Nat):Turn P w K tg (Itr lo n) [it] it (λi h=>IsRangeIter h it (lo+(i:Nat)*1) ((n:Int) - (i:Nat)) 1) where
 mem:=by simp
 obj:=λi h st b hb=>by
  have e:b=it:=by simpa using hb
  subst e;exact⟨_,st,λv z=>by
   have z':Data.fields _=Data.cell v:=z;cases z'⟩
 keep:=λi h h' st k=>k it (by simp) _ st
 item:=by intro X hP hw hK hc i pins s σ H E I hf st hg;subst hP hw hK;obtain⟨f0,f1,f2,f3,f4,f5⟩:=hf it (by simp);have W:=Walks.range (prog:=X.prog) (w:=X.w) (I.ok.hd hc) it lo 1 n;refine W.item i s _ _ hg st λv h' tk hv st' kk=>?_;obtain⟨t,rfl⟩:=hv;have I1:Inv X pins σ H { s with heap:=h',toks:=tk }:=I.turned (λb o hb e=>kk b o (by simpa using hb) e) f0 f1 f3 f4 f5;refine⟨_,rfl,Fw (s:={ s with heap:=h',toks:=tk }) (n:="range_iterator") st' rfl rfl (by decide) ⟨.int (lo+i),H,I1,⟨t,?_⟩,⟨rfl,rfl⟩,st',λb hb=>(hf b hb).1⟩⟩;rw[Int.mul_one]
 done:=by intro X hP hw hK hc i pins s σ H E I hf st hg;subst hP hw hK;obtain⟨f0,f1,f2,f3,f4,f5⟩:=hf it (by simp);exact wpAny_pyNext_range_end (I.ok.hd hc) st (by have:n<=i:=hg;omega) λh' eb=>⟨rfl,I.turned (t':=s.toks) (λb o hb e=>eb b o hb e) f0 f1 f3 f4 f5⟩
 self:=λ_ _ _ _ _ st h=>wpAny_pyIter_rangeiter st h
section
variable{X:Cx}{tg:Expr}
theorem Uw{pins:List (Addr×Obj)}{σ:St}{H:Hp}{s:Shared}{R:It->Hp->Prop}{E:Value->Shared->Prop}{lo hi:Int}{t u v:Tok}{tk:Nat}(I:Inv X pins σ H s)(h1 : -(2^62)<=lo)(h2:lo<2^62)(h3 : -(2^62)<=hi)(h4:hi<2^62)
  (q:R (Itr lo (hi - lo).toNat) H):wpAny (model X.prog X.w) X.A (pyIter (.ref s.heap.objs.size)) (PIE X pins σ tg R) E { s with heap:=s.heap.push { cls:=.type "range",data:=.fields #[.int lo t,.int hi u,.int 1 v] },toks:=tk }:=by
 refine wpAny_pyIter_range (IsRange.new ..) (small_one h1 h2 h3 h4) ?_;have I1:Inv X pins σ H { s with heap:=s.heap.push { cls:=.type "range",data:=.fields #[.int lo t,.int hi u,.int 1 v] },toks:=tk }:=I.kept λb o e=>Qqz _ e;refine⟨(s.heap.push { cls:=.type "range",data:=.fields #[.int lo t,.int hi u,.int 1 v] }).objs.size,[(s.heap.push { cls:=.type "range",data:=.fields #[.int lo t,.int hi u,.int 1 v] }).objs.size],_,_,H,rfl,
  I1.kept (t':=tk) λb o e=>Qqz _ e,Mi _ lo (hi - lo).toNat,?_,λb hb=>?_,q⟩
 ·have e1:lo+((0:Nat):Int)*1=lo:=by simp
  have e2:(((hi - lo).toNat:Nat):Int) - ((0:Nat):Int)=Builtin.Range.rangeSize lo hi 1:=by rw[rangeSize_one];split<;>omega
  show IsRangeIter _ _ (lo+((0:Nat):Int)*1) ((((hi - lo).toNat:Nat):Int) - ((0:Nat):Int)) 1;rw[e1,e2];exact Qwy _ rfl
 ·have e:b=(s.heap.push { cls:=.type "range",data:=.fields #[.int lo t,.int hi u,.int 1 v] }).objs.size:=by simpa using hb
  subst e;exact I1.N5 (Qqw _) (I1.hok.fresh (Qqw _))
def afS(ta:TA):TI:=λσ H R=>ta σ H λvs H1=>∃j:Int,vs=[.int j]/\-(2^62)<=j/\j<2^62/\R (Itr 0 j.toNat) H1
theorem RD{a:Expr}{ta:TA}{p pos:Pos}(hg:Gl X "range")(hm:X.mg "range" = none)(ha:PA X [a] ta)(hs:starEach [a] X.env=[(false,eval a X.env)]:=by rfl):PI X tg (.Call (.Name "range" p) [a] [] pos) (afS ta):=by
 intro pins s σ H R I h;refine Call_ (tO I hg hm boot_range (Qz0 (gm (ha pos pins s σ H _ I h) λus s1 ⟨vs,H1,I1,r1,q1⟩=>?_) hs rfl));obtain⟨j,e,q1,q2,q⟩:=q1;subst e;cases r1 with
 | cons r rr=>
  cases rr;obtain⟨t,rfl⟩:=r;exact call_range_1 (Uw I1 (by omega) (by omega) q1 q2 (by simpa using q))
def ag4(wi:TI)(g:TG)(tb:TS):TS:=λD σ H=>wi σ H λJ H1=>∃W:Nat->Nat->St->Hp->Prop,(∃m,W 0 m σ H1)/\∀i m σ H,W i m σ H->
 (J.stop i H/\D.nx σ H)\/(J.go i H/\∃N:St->Hp->Prop,(∀σ' H',N σ' H'->∃m',m'<m/\W (i+1) m' σ' H')/\∀x H',J.yld i H x H'->g x σ H' λσ2 H2=>tb { D with nx:=N,ct:=N,bk:=D.nx } σ2 H2)
def Bu(fp:List Addr)(h:Heap):List (Addr×Obj):=fp.filterMap λb=>(h.get? b).map λo=>(b,o)
theorem rB{fp:List Addr}{h:Heap}{b:Addr}{o:Obj}(hb:b∈fp)(e:h.get? b=some o):(b,o)∈Bu fp h:=List.mem_filterMap.mpr ⟨b,hb,by rw[e];rfl⟩
theorem RP{fp:List Addr}{h:Heap}{p:Addr×Obj}(hp:p∈Bu fp h):p.1∈fp/\h.get? p.1=some p.2:=by
 obtain⟨b,hb,e⟩:=List.mem_filterMap.mp hp;cases q:h.get? b with
 | none=>rw[q] at e;cases e
 | some o=>
  rw[q] at e;have e':(b,o)=p:=Qwv e;subst e';exact⟨hb,q⟩
theorem Inv.pinned{pins:List (Addr×Obj)}{σ:St}{H:Hp}{s:Shared}{fp:List Addr}(I:Inv X pins σ H s)(hf:∀b∈fp,uL X pins H b)(ho:∀b∈fp,∃o,s.heap.get? b=some o/\∀v,o.data ≠ .cell v):Inv X (pins++Bu fp s.heap) σ H s:=
 I.Py λp hp=>(Qw6.mp hp).elim (λz=>I.pin p (Qx1 _ z)) λz=>by
  obtain⟨hb,e⟩:=RP z;obtain⟨f0,f1,f2,_⟩:=hf p.1 hb;obtain⟨o,e',d⟩:=ho p.1 hb;rw[e] at e';cases e';exact⟨e,f0,f1,f2,d⟩
theorem Inv.vQ{pins pl:List (Addr×Obj)}{σ:St}{H:Hp}{s:Shared}(I:Inv X (pins++pl) σ H s):Inv X pins σ H s:=I.Py λp hp=>I.pin p (Qx1 _ (List.mem_append_left _ hp))
theorem ab7{iter:Expr}{body:List Stmt}{wi:TI}{g:TG}{tb:TS}{pos:Pos}(hp:PassesOwn (model X.prog X.w) X.A X.env X.xe)(hc:X.calm=true)(hi:PI X tg iter wi)(hg:PG X tg g)(hb:Lp X body tb)
  (hs:∀x,foldedSetIterable iter X.env x=pure x:=by intro _;rfl):PS X (.For tg iter body [] pos) (ag4 wi g tb):=by
 intro pins s σ H D I h;refine wpAny_For (gm (hi pins s σ H _ I h) λv s1 h1=>gm h1 λitv s2 h2=>?_) hs;obtain⟨it,fp,tn,J,H2,e,I2,T,st2,f2,W,⟨m0,w0⟩,turn⟩:=h2;subst e
 -- what stays true of the iterator's objects through the loop
 have stat:∀{H':Hp},(∀b∈fp,H' b=none)->∀b∈fp,uL X pins H' b:=λhn b hb=>⟨hn b hb,(f2 b hb).2⟩;refine codeAny_forLoop_any (λn s'=>∃i σ' H',Inv X pins σ' H' s'/\tn i s'.heap/\(∀b∈fp,H' b=none)/\W i n σ' H') ?_ m0 ⟨0,σ,H2,I2,st2,λb hb=>(f2 b hb).1,w0⟩;rintro n s3 ⟨i,σ3,H3,I3,st3,fr3,w3⟩;rcases turn i n σ3 H3 w3 with ⟨stop,qn⟩|⟨go,N,hN,step⟩
 ·refine Qk1 hp (gm (T.done X rfl rfl rfl hc i pins s3 σ3 H3 X.xe I3 (stat fr3) st3 stop) λr s4 ⟨hr,I4⟩=>?_);subst hr;exact wpAny_execs_nil ⟨σ3,H3,I4,qn⟩
 ·refine Qk1 hp (gm (T.item X rfl rfl rfl hc i pins s3 σ3 H3 X.xe I3 (stat fr3) st3 go) λr s4 ⟨u,hr,h4⟩=>?_);subst hr;refine Qk1 hp (gm h4 λ_ s5 ⟨x,H5,I5,r5,y5,st5,fr5⟩=>?_);have I5':=I5.pinned (stat fr5) (T.obj _ _ st5);refine Qk1 hp (gm (hg _ s5 σ3 H5 x u _ I5' r5 (step x H5 y5)) λ_ s6 ⟨σ6,H6,I6,q6⟩=>?_);refine Qk1 hp (gm (hb _ s6 σ6 H6 _ I6 q6) λf s7 q7=>?_);have again:∀{σ7:St} {H7:Hp},Inv X (pins++Bu fp s5.heap) σ7 H7 s7->N σ7 H7->∃m,m<n/\∃i σ' H',Inv X pins σ' H' s7/\tn i s7.heap/\(∀b∈fp,H' b=none)/\W i m σ' H':=λ{σ7 H7} I7 n7=>by
   obtain⟨m',hm,w7⟩:=hN σ7 H7 n7;refine⟨m',hm,i+1,σ7,H7,I7.vQ,T.keep _ _ _ st5 λb hb o e=>(I7.pin (b,o) (Qx1 _ (Qx1 _ (rB hb e)))).1,λb hb=>?_,w7⟩;obtain⟨o,e,d⟩:=T.obj _ _ st5 b hb;exact(I7.pin (b,o) (Qx1 _ (Qx1 _ (rB hb e)))).2.1
  cases f with
  | next=>obtain⟨σ7,H7,I7,n7⟩:=q7;exact again I7 n7
  | cont=>obtain⟨σ7,H7,I7,n7⟩:=q7;exact again I7 n7
  | brk=>obtain⟨σ7,H7,I7,q7⟩:=q7;exact⟨σ7,H7,I7.vQ,q7⟩
  | ret v=>obtain⟨x7,σ7,H7,I7,r7,q7⟩:=q7;exact⟨x7,σ7,H7,I7.vQ,r7,q7⟩
end
abbrev R2:=V->V->Hp->VK->Prop
def oG(X:Cx)(f:Value->Value->Sem Value)(r:R2):Prop:=
 ∀(pins:List (Addr×Obj)) (s:Shared) (σ:St) (H:Hp) (x y:V) (v u:Value) (Q:VK),Inv X pins σ H s->RelV x v->RelV y u->r x y H Q->
  wpAny (model X.prog X.w) X.A (f v u) (EP X pins σ Q) X.xe s
def iz(X:Cx)(f:Value)(r:List V->Hp->VK->Prop):Prop:=
 ∀(pins:List (Addr×Obj)) (s:Shared) (σ:St) (H:Hp) (xs:List V) (us:List Value) (Q:VK),Inv X pins σ H s->Vals xs us->r xs H Q->
  wpAny (model X.prog X.w) X.A (call f us) (EP X pins σ Q) X.xe s
def XD(r:R2)(ta tb:TE):TE:=λσ H Q=>ta σ H λx H1=>tb σ H1 λy H2=>r x y H2 Q
def rI(C:Int->Int->Prop)(g:Int->Int->V):R2:=λx y H Q=>∃i j,x = .int i/\y = .int j/\C i j/\Q (g i j) H
def Ly(g:Int->Int->V):R2:=λx y H Q=>∃i j,x = .int i/\y = .int j/\Q (g i j) H
section
variable{X:Cx}{a b c:Expr}{ta tb tc:TE}{pos:Pos}
theorem adY(ha:PE X a ta)(hb:PE X b tb){pins:List (Addr×Obj)}{s:Shared}{σ:St}{H:Hp}{R:V->V->Hp->Prop}(I:Inv X pins σ H s)
  (h:ta σ H λx H1=>tb σ H1 λy H2=>R x y H2) {Q:Value->Shared->Prop} {f:Value->Value->Sem Value}
  (hf:∀v u s2 x y H2,Inv X pins σ H2 s2->RelV x v->RelV y u->R x y H2->wpAny (model X.prog X.w) X.A (f v u) Q X.xe s2) :
  wpAny (model X.prog X.w) X.A (eval a X.env) (λv s₁=>wpAny (model X.prog X.w) X.A (eval b X.env) (λu s₂=>wpAny (model X.prog X.w) X.A (f v u) Q X.xe s₂) X.xe s₁) X.xe s:=by
 refine gm (ha pins s σ H _ I h) λv s1 ⟨x,H1,I1,r1,q1⟩=>?_;refine gm (hb pins s1 σ H1 _ I1 q1) λu s2 ⟨y,H2,I2,r2,q2⟩=>?_;exact hf v u s2 x y H2 I2 r1 r2 q2
theorem aaQ{op:Operator}{r:R2}(ho:oG X (binaryOp op) r)(ha:PE X a ta)(hb:PE X b tb):PE X (.BinOp a op b pos) (XD r ta tb):=by intro pins s σ H Q I h;exact wpAny_BinOp (adY ha hb I h λv u s2 x y H2 I2 rx ry q=>ho pins s2 σ H2 x y v u Q I2 rx ry q)
theorem opI{f:Value->Value->Sem Value}{C:Int->Int->Prop}{g:Int->Int->Int}
  (rule:∀(i j:Int) (t u:Tok) (s:Shared) (Q:Value->Shared->Prop) (E:Value->Shared->Prop),C i j->Q (.int (g i j) s.toks) { s with toks:=s.toks+1 }->wpAny (model X.prog X.w) X.A (f (.int i t) (.int j u)) Q E s) :
  oG X f (rI C λi j=>.int (g i j)):=by
 intro pins s σ H x y v u Q I rx ry h;obtain⟨i,j,rfl,rfl,hc,q⟩:=h;obtain⟨t,rfl⟩:=rx;obtain⟨t',rfl⟩:=ry;exact rule i j t t' s _ _ hc ⟨.int (g i j),H,I.tok _,⟨_,rfl⟩,q⟩
theorem acE{f:Value->Value->Sem Value}{g:Int->Int->Int}
  (rule:∀(i j:Int) (t u:Tok) (s:Shared) (Q:Value->Shared->Prop) (E:Value->Shared->Prop),Q (.int (g i j) s.toks) { s with toks:=s.toks+1 }->wpAny (model X.prog X.w) X.A (f (.int i t) (.int j u)) Q E s) :
  oG X f (Ly λi j=>.int (g i j)):=by
 intro pins s σ H x y v u Q I rx ry h;obtain⟨i,j,rfl,rfl,q⟩:=h;obtain⟨t,rfl⟩:=rx;obtain⟨t',rfl⟩:=ry;exact rule i j t t' s _ _ ⟨.int (g i j),H,I.tok _,⟨_,rfl⟩,q⟩
theorem acF{f:Value->Value->Sem Value}{g:Int->Int->Bool}
  (rule:∀(i j:Int) (t u:Tok) (s:Shared) (Q:Value->Shared->Prop) (E:Value->Shared->Prop),Q (.bool (g i j)) s->wpAny (model X.prog X.w) X.A (f (.int i t) (.int j u)) Q E s) :
  oG X f (Ly λi j=>.bl (g i j)):=by
 intro pins s σ H x y v u Q I rx ry h;obtain⟨i,j,rfl,rfl,q⟩:=h;obtain⟨t,rfl⟩:=rx;obtain⟨t',rfl⟩:=ry;exact rule i j t t' s _ _ ⟨.bl (g i j),H,I,rfl,q⟩
def agm(i j:Int):Prop:=0<j/\j<1073741824
def aar(i j:Int):Prop:=0<=j/\j<=1000000/\i.natAbs<2^64
theorem Mf(k:Nat):(0:Int)<=2^k:=by rw[two_pow_cast];exact Int.natCast_nonneg _
theorem acD:oG X (binaryOp .Add) (Ly λi j=>.int (i+j)):=acE λ_ _ _ _ _ _ _ q=>add_int q
theorem acn:oG X (binaryOp .Sub) (Ly λi j=>.int (i - j)):=acE λ_ _ _ _ _ _ _ q=>sub_int q
theorem acu:oG X (binaryOp .Mod) (rI (λ_ j=>0<j) λi j=>.int (i % j)):=opI λi j _ _ _ _ _ hc q=>by
 have h1:(0:Int)<j:=hc;exact mod_int' (by omega) (by rw[Int.fmod_eq_emod_of_nonneg i (by omega)];exact q)
theorem acr:oG X (binaryOp .Pow) (rI aar λi j=>.int (i^j.toNat)):=opI λ_ _ _ _ _ _ _ hc q=>pow_int_small hc.1 hc.2.1 hc.2.2 q
theorem acp:oG X (binaryOp .LShift) (rI aar λi j=>.int (i*2^j.toNat)):=opI λ_ _ _ _ _ _ _ hc q=>lshift_int_small hc.1 hc.2.1 hc.2.2 q
theorem aco:oG X (binaryOp .RShift) (rI (λ_ j=>0<=j) λi j=>.int (i / 2^j.toNat)):=opI λi j _ _ _ _ _ hc q=>
 rshift_int hc (by rw[Int.fdiv_eq_ediv_of_nonneg i (Mf _)];exact q)
theorem acC:oG X (binaryOp .BitAnd) (Ly λi j=>.int (Builtin.bitAnd i j)):=acE λ_ _ _ _ _ _ _ q=>and_int q
end
theorem adN{i j:Bool}:decide (V.bl i=V.bl j)=(i == j):=by rw[Qkx];simp
section
variable{X:Cx}{a b c:Expr}{ta tb tc:TE}{pos:Pos}
theorem Cy{pins:List (Addr×Obj)}{σ:St}{H:Hp}{s:Shared}{Q:VK}{k k':Bool}(I:Inv X pins σ H s)(q:Q (.bl k) H)(e:k=k'):EP X pins σ Q (.bool k') s:=by subst e;exact⟨.bl k,H,I,rfl,q⟩
theorem afi:oG X (compareOp .Lt) (Ly λi j=>.bl (decide (i<j))):=acF λ_ _ _ _ _ _ _ q=>lt_int q
theorem afj:oG X (compareOp .LtE) (Ly λi j=>.bl (decide (i<=j))):=acF λ_ _ _ _ _ _ _ q=>le_int q
theorem afk:oG X (compareOp .Gt) (Ly λi j=>.bl (decide (j<i))):=acF λ_ _ _ _ _ _ _ q=>gt_int q
theorem RM:oG X (compareOp .Lt) (λx y H Q=>∃i j,x = .str i/\y = .str j/\Q (.bl (decide (i.cps.toList<j.cps.toList))) H):=by intro pins s σ H x y v u Q I rx ry h;obtain⟨i,j,rfl,rfl,q⟩:=h;obtain⟨t,rfl⟩:=rx;obtain⟨t',rfl⟩:=ry;exact lt_str (Cy I q rfl)
theorem RN:oG X (compareOp .In) (λx y H Q=>∃i j,x = .str i/\y = .str j/\Q (.bl (!(Builtin.Str.occurrences j i 0 j.length 1).isEmpty)) H):=by intro pins s σ H x y v u Q I rx ry h;obtain⟨i,j,rfl,rfl,q⟩:=h;obtain⟨t,rfl⟩:=rx;obtain⟨t',rfl⟩:=ry;exact in_str (Cy I q rfl)
theorem acw:oG X (compareOp .Is) (λx y H Q=>y = .non/\Q (.bl (decide (x = .non))) H):=by
 intro pins s σ H x y v u Q I rx ry h;obtain⟨rfl,q⟩:=h;cases ry;refine is_none_gen (Cy I q ?_);cases x<;>first
  | (cases rx;rfl)
  | (obtain⟨t,rfl⟩:=rx;rfl)
theorem G9:oG X (compareOp .NotIn) (λx y H Q=>∃i j,x = .str i/\y = .str j/\Q (.bl (!(!(Builtin.Str.occurrences j i 0 j.length 1).isEmpty))) H):=by intro pins s σ H x y v u Q I rx ry h;obtain⟨i,j,rfl,rfl,q⟩:=h;obtain⟨t,rfl⟩:=rx;obtain⟨t',rfl⟩:=ry;exact notIn_str (Cy I q rfl)
theorem oG.or{f:Value->Value->Sem Value}{r r':R2}(h:oG X f r)(h':oG X f r'):oG X f (λx y H Q=>r x y H Q\/r' x y H Q):=by
 intro pins s σ H x y v u Q I rx ry q;rcases q with q|q
 ·exact h pins s σ H x y v u Q I rx ry q
 ·exact h' pins s σ H x y v u Q I rx ry q
theorem Pz{op:CmpOp}{r:R2}(ho:oG X (compareOp op) r)(ha:PE X a ta)(hb:PE X b tb)(hm:behindInMarks op b=false):PE X (.Compare a [op] [b] pos) (XD r ta tb):=by intro pins s σ H Q I h;exact wpAny_Compare1 (adY ha hb I h λv u s2 x y H2 I2 rx ry q=>ho pins s2 σ H2 x y v u Q I2 rx ry q) hm
def aaF(t:TE):TT:=λσ H Q=>t σ H λx H'=>∃k,x = .bl k/\Q k H'
theorem Px{op:CmpOp}{r:R2}(ho:oG X (compareOp op) r)(ha:PE X a ta)(hb:PE X b tb)(hm:behindInMarks op b=false):PT X (.Compare a [op] [b] pos) (aaF (XD r ta tb)):=by
 intro pins s σ H Q I h;refine wpAny_isTrue_Compare1 (gm (ha pins s σ H _ I h) λv s1 ⟨x,H1,I1,r1,q1⟩=>gm (hb pins s1 σ H1 _ I1 q1) λu s2 ⟨y,H2,I2,r2,q2⟩=>
  gm (ho pins s2 σ H2 x y v u _ I2 r1 r2 q2) λc s3 ⟨z,H3,I3,r3,k,e,q3⟩=>?_) hm
 subst e;cases r3;exact Qj9 ⟨H3,I3,q3⟩
def Ue(r r':R2)(ta tb tc:TE):TE:=λσ H Q=>ta σ H λx H1=>tb σ H1 λy H2=>r x y H2 λz H3=>∃k,z = .bl k/\
 (if k=true then tc σ H3 λw' H4=>r' y w' H4 Q else Q (.bl false) H3)
theorem Vk{op op':CmpOp}{r r':R2}(ho:oG X (compareOp op) r)(ho':oG X (compareOp op') r')(ha:PE X a ta)(hb:PE X b tb)(hc:PE X c tc)
  (hm:lastMarks [op,op'] [b,c]=false:=by with_unfolding_all rfl):PT X (.Compare a [op,op'] [b,c] pos) (aaF (Ue r r' ta tb tc)):=by
 intro pins s σ H Q I h;refine isTrue_chain (gm (ha pins s σ H _ I h) λv s1 ⟨x,H1,I1,r1,q1⟩=>test_link (gm (hb pins s1 σ H1 _ I1 q1) λu s2 ⟨y,H2,I2,r2,q2⟩=>
  gm (ho pins s2 σ H2 x y v u _ I2 r1 r2 q2) λd s3 ⟨z,H3,I3,r3,k,e,q3⟩=>?_)) hm
 subst e;cases r3;refine Qj9 ?_;cases k with
 | false=>
  obtain⟨k',e',q'⟩:=q3;cases e';exact ite_ff ⟨H3,I3,q'⟩
 | true=>
  refine ite_tt (test_last (gm (hc pins s3 σ H3 _ I3 q3) λw' s4 ⟨z',H4,I4,r4,q4⟩=>gm (ho' pins s4 σ H4 y z' u w' _ I4 r2 r4 q4) λd' s5 ⟨z2,H5,I5,r5,k2,e2,q5⟩=>?_));subst e2;cases r5;exact Qj9 ⟨H5,I5,q5⟩
theorem adk{κ:Type}{kvs:List (κ×V)}{vs:List (κ×Value)}(r:KV kvs vs):(!vs.isEmpty) = !kvs.isEmpty:=by cases r<;>rfl
theorem adi{xs:List V}{its:List Value}(r:Vals xs its):(!its.toArray.isEmpty) = !xs.isEmpty:=by cases r<;>simp
theorem BR:(sizeLine:Nat)<2^63:=by rw[sizeLine_eq];decide
theorem Nf:oG X (binaryOp .Add) (λx y H Q=>∃i j,x = .str i/\y = .str j/\i.length+j.length<=sizeLine/\Q (.str (i++j)) H):=by intro pins s σ H x y v u Q I rx ry h;obtain⟨i,j,rfl,rfl,hz,q⟩:=h;obtain⟨t,rfl⟩:=rx;obtain⟨t',rfl⟩:=ry;exact add_str (λt' tk=>⟨.str (i++j),H,I.tok _,⟨_,rfl⟩,q⟩) hz
theorem vals1{x:V}{us:List Value}(r:Vals [x] us):∃u,us=[u]/\RelV x u:=by
 cases r with
 | cons r1 r2=>cases r2;exact⟨_,rfl,r1⟩
theorem vals2{x y:V}{us:List Value}(r:Vals [x,y] us):∃u w',us=[u,w']/\RelV x u/\RelV y w':=by
 cases r with
 | cons r1 r2=>
  cases r2 with
  | cons r3 r4=>cases r4;exact⟨_,_,rfl,r1,r3⟩
theorem Te(hc:X.calm=true):iz X (.builtin "max") (λxs H Q=>∃i j,xs=[.int i,.int j]/\Q (.int (if j > i then j else i)) H):=by
 intro pins s σ H xs us Q I r h;obtain⟨i,j,rfl,q⟩:=h;obtain⟨u,w',rfl,⟨t,rfl⟩,⟨t',rfl⟩⟩:=vals2 r;refine max_two_ints (I.ok.hd hc) λh' tk k=>⟨_,H,I.kept k,?_,q⟩;by_cases hj:j > i
 ·rw[if_pos hj,if_pos hj];exact⟨_,rfl⟩
 ·rw[if_neg hj,if_neg hj];exact⟨_,rfl⟩
theorem Td(hc:X.calm=true):iz X (.builtin "min") (λxs H Q=>∃i j,xs=[.int i,.int j]/\Q (.int (if j<i then j else i)) H):=by
 intro pins s σ H xs us Q I r h;obtain⟨i,j,rfl,q⟩:=h;obtain⟨u,w',rfl,⟨t,rfl⟩,⟨t',rfl⟩⟩:=vals2 r;refine min_two_ints (I.ok.hd hc) λh' tk k=>⟨_,H,I.kept k,?_,q⟩;by_cases hj:j<i
 ·rw[if_pos hj,if_pos hj];exact⟨_,rfl⟩
 ·rw[if_neg hj,if_neg hj];exact⟨_,rfl⟩
def agl(K:PySem.W.Frag)(x:V)(H:Hp)(n:Nat):Prop:=
 match x with
 | .str y=>y.length<=sizeLine/\n=y.length
 | .byt y=>y.size<=sizeLine/\n=y.size
 | .ref p=>(∃xs,jR K H p xs/\n=xs.length)\/∃xs,oE K H p xs/\n=xs.length
 | _=>False
theorem W4:iz X (.builtin "len") (λxs H Q=>∃x n,xs=[x]/\agl X.K x H n/\Q (.int n) H):=by
 intro pins s σ H xs us Q I r h;obtain⟨x,n,rfl,e,q⟩:=h;obtain⟨u,rfl,rx⟩:=vals1 r;have hl:=BR;have hs:sizeLine=16777216:=sizeLine_eq;cases x with
 | str y=>
  obtain⟨t,rfl⟩:=rx;obtain⟨hy,e'⟩:y.length<=sizeLine/\n=y.length:=e;subst e';exact len_str (by omega) ⟨.int _,H,I.tok _,⟨_,rfl⟩,q⟩
 | byt y=>
  obtain⟨t,rfl⟩:=rx;obtain⟨hy,e'⟩:y.size<=sizeLine/\n=y.size:=e;subst e';exact PySem.W.len_bytes (by omega) ⟨.int _,H,I.tok _,⟨_,rfl⟩,q⟩
 | ref p=>
  cases rx;have e':(∃xs,jR X.K H p xs/\n=xs.length)\/∃xs,oE X.K H p xs/\n=xs.length:=e;rcases e' with ⟨xs,hx,e'⟩|⟨xs,hx,e'⟩
  ·subst e';obtain⟨its,r',pl,hz⟩:=I.list hx;have hlen:=r'.length;exact Calls.call_len_list pl.isList (by simp only[Qq3];omega) ⟨.int xs.length,H,I.tok _,⟨_,by simp only[Qq3];rw[hlen]⟩,q⟩
  ·subst e';obtain⟨its,r',pl,hz⟩:=I.tuple hx;have hlen:=r'.length;exact len_tuple pl (by simp only[Qq3];omega) ⟨.int xs.length,H,I.tok _,⟨_,by simp only[Qq3];rw[hlen]⟩,q⟩
 | _=>exact(show False from e).elim
theorem K7:iz X (.builtin "divmod") (λxs H Q=>∃i j,xs=[.int i,.int j]/\agm i j/\∀p,H p=none->Q (.ref p) (upd H p (.tup [.int (i / j),.int (i % j)]))):=by intro pins s σ H xs us Q I r h;obtain⟨i,j,rfl,⟨h1,h2⟩,q⟩:=h;obtain⟨u,w',rfl,⟨t,rfl⟩,⟨t',rfl⟩⟩:=vals2 r;refine divmod_int (by omega) ?_ (.inl (PyProof.noPylong_small (by omega)));rw[Int.fdiv_eq_ediv_of_nonneg i (by omega),Int.fmod_eq_emod_of_nonneg i (by omega)];have hn:H s.heap.objs.size=none:=I.hok.fresh (Qqw _);refine⟨.ref s.heap.objs.size,_,?_,rfl,q _ hn⟩;refine I.laid (λb o e=>Qqz _ e) (Qqw _) ⟨by simp only[Qqv,Qx8];rw[sizeLine_eq];decide,[.int (i / j) s.toks,.int (i % j) (s.toks+1)],.cons ⟨_,rfl⟩ (.cons ⟨_,rfl⟩ .nil),?_⟩;exact⟨_,Qwy s.heap rfl,rfl,⟨0,rfl⟩,rfl⟩
end
theorem xM.some_of{v:V}{o:Option Value}(r:xM (some v) o):∃u,o=some u/\RelV v u:=by
 cases o with
 | none=>exact(show False from r).elim
 | some u=>exact⟨u,rfl,r⟩
structure jy(k:Nat)(A:Around):Prop where
 hd:A.handled=none
 dp:A.depth+3*k+5<recursionLimit
 un:A.units+16*k+200<cLine
theorem jy.mono{j k:Nat}{A:Around}(r:jy k A)(h:j<=k):jy j A:=⟨r.hd,by have:=r.dp;omega,by have:=r.un;omega⟩
theorem jy.deeper{k:Nat}{A:Around}(r:jy (k+1) A)(env:Env):jy k (A.deeper env):=
 ⟨r.hd,by have:=r.dp;show A.depth+1+3*k+5<_;omega,by have:=r.un;show A.units+3+16*k+200<_;omega⟩
theorem jy.depth{k:Nat}{A:Around}(r:jy k A):A.depth<recursionLimit:=by have:=r.dp;omega
theorem jy.units{k:Nat}{A:Around}(r:jy k A):A.units+64<cLine:=by have:=r.un;omega
def ag0:TA:=λ_ H Q=>Q [] H
def aeE(ta:TE)(tr:TA):TA:=λσ H Q=>ta σ H λx H1=>tr σ H1 λxs H2=>Q (x::xs) H2
section
variable{X:Cx}{e:Expr}{es:List Expr}{te:TE}{t:TA}{pos:Pos}
theorem rA:PA X [] ag0:=λ_ _ _ _ H Q I h=>Calls.spliced_nil ⟨[],H,I,.nil,h⟩
theorem jL(ha:PE X e te)(hr:PA X es t)(hs:starEach (e::es) X.env=(false,eval e X.env)::starEach es X.env:=by rfl):PA X (e::es) (aeE te t):=by intro pos pins s σ H Q I h;rw[hs];show wpAny _ _ (spliced ((false,eval e X.env)::backTo pos (starEach es X.env))) _ _ s;refine Calls.spliced_cons (gm (ha pins s σ H _ I h) λu s1 ⟨x,H1,I1,r1,q1⟩=>?_);exact gm (hr pos pins s1 σ H1 _ I1 q1) λus s2 ⟨xs,H2,I2,r2,q2⟩=>⟨x::xs,H2,I2,.cons r1 r2,q2⟩
def agT(t:TA):TE:=λσ H Q=>t σ H λxs H1=>xs.length<=sizeLine/\∀p,H1 p=none->Q (.ref p) (upd H1 p (.tup xs))
def ag1(t:TA):TE:=λσ H Q=>t σ H λxs H1=>xs.length<=sizeLine/\∀p,H1 p=none->Q (.ref p) (upd H1 p (.lst xs))
theorem acf{x1}(h:PA X es t):PE X (.Tuple es x1 pos) (agT t):=by intro pins s σ H Q I hq;refine wpAny_Tuple_spliced (gm (h pos pins s σ H _ I hq) λus s1 ⟨xs,H1,I1,r,z,q⟩=>⟨by rw[<-r.length];exact z,?_⟩);have hf:H1 s1.heap.objs.size=none:=I1.hok.fresh (Qqw _);refine⟨.ref s1.heap.objs.size,upd H1 s1.heap.objs.size (.tup xs),I1.laid (t':=s1.toks) (λb u e=>Qqz _ e) (Qqw _) ?_,rfl,q _ hf⟩;exact⟨z,us,r,Ej.new _ _⟩
theorem aci(h:PA X es t):PE X (.List es pos) (ag1 t):=by intro pins s σ H Q I hq;refine wpAny_List_spliced (gm (h pos pins s σ H _ I hq) λus s1 ⟨xs,H1,I1,r,z,q⟩=>⟨by rw[<-r.length];exact z,?_⟩);have hf:H1 s1.heap.objs.size=none:=I1.hok.fresh (Qqw _);refine⟨.ref s1.heap.objs.size,upd H1 s1.heap.objs.size (.lst xs),I1.laid (t':=s1.toks) (λb u e=>Qqz _ e) (Qqw _) ?_,rfl,q _ hf⟩;exact⟨z,us,0,r,Qwy _ rfl⟩
end
abbrev Sp:=List V->Hp->VK->XK->Prop
abbrev CXT:=List Env->Hp->Shared->XK->Value->Shared->Prop
structure aao(P:Program)(w:World)(K:PySem.W.Frag)(mg:Str->Option Value)(base:Heap)(A:Around)(outer:List Env)(s:Shared)(H:Hp):Prop where
 frames:A.frames=some outer
 mod:Mod K mg base
 bs:∀b o,base.get? b=some o->s.heap.get? b=some o/\H b=none
 bsz:base.objs.size<=s.heap.objs.size
 Cu:s.heap.FunFrames base outer
 frf:∀b∈frs outer,H b=none
 hok:xO P w H s.heap
 bare:AllBare s.gens
def CE(outer:List Env)(P:Program)(w:World)(H:Hp)(s:Shared)(Q:VK)(u:Value)(s':Shared):Prop:=
 ∃v H',s'.os=s.os/\AllBare s'.gens/\Un (frs outer) [] H H' s.heap s'.heap/\xO P w H' s'.heap/\RelV v u/\Q v H'
def CR(CX:CXT)(outer:List Env)(P:Program)(w:World)(H:Hp)(s:Shared)(Q:VK)(E:XK)(r:Result)(s':Shared):Prop:=
 match r with
 | .ok (.ret u)=>CE outer P w H s Q u s'
 | .ok _=>False
 | .error e=>CX outer H s E e s'
structure qT(P:Program)(w:World)(K:PySem.W.Frag)(mg:Str->Option Value)(base:Heap)(CX:CXT)(k:Nat)(f:Addr)(fd:FuncData)(ps:List Str)(sp:Sp):Prop where
 len:∀vs H Q E,sp vs H Q E->vs.length=ps.length
 run:∀(A:Around) (outer:List Env) (s:Shared) (H:Hp) (args:Args) (us:List Value) (vs:List V) (Q:VK) (E:XK),jy k A->aao P w K mg base A outer s H->BindsTo s fd args (ps.zip us)->Vals vs us->sp vs H Q E->
  codeAny (model P w) A (.call (.ref f) args) (CR CX outer P w H s Q E) s
section
variable{X:Cx}{pins:List (Addr×Obj)}{σ:St}{H:Hp}{s s':Shared}
theorem Inv.env0(I:Inv X pins σ H s):aao X.prog X.w X.K X.mg X.base X.A X.stack s H:=
 ⟨I.ok.frames,I.ok.mod,I.bs,Qq0 I.ok.bsz I.sz,I.stack,I.O5,I.hok,I.bare⟩
theorem Inv.after{Q:VK}{u:Value}(I:Inv X pins σ H s)(h:CE X.stack X.prog X.w H s Q u s'):EP X pins σ Q u s':=by obtain⟨v,H',os,bare,un,hok,r,q⟩:=h;obtain⟨hh,g,d,t,os'⟩:=s';obtain rfl:os'=s.os:=os;exact⟨v,H',I.call (h':=hh) (g':=g) (d':=d) (t':=t) (ch:=[]) un hok bare (λb z=>absurd z (by simp)),r,q⟩
end
def aeF(sp:Sp)(dvs:List V)(E:XK)(t:TA):TE:=λσ H Q=>t σ H λvs H1=>sp (vs++dvs) H1 Q E
def Binds(K:PySem.W.Frag)(fd:FuncData)(ps:List Str)(ds:List Value):Prop:=
 ∀(s:Shared) (us:List Value),K.In s.heap->(us++ds).length=ps.length->BindsTo s fd ⟨us,[]⟩ (ps.zip (us++ds))
theorem Binds.all{K:PySem.W.Frag}{fd:FuncData}{ps:List Str}(h:∀us:List Value,us.length=ps.length->bindArgs fd ⟨us,[]⟩=pure (ps.zip us)):Binds K fd ps []:=λs us _ hl=>by
 rw[Qw8] at hl ⊢;exact .of_eq (h us hl)
def Passes(CX:CXT)(X:Cx)(E:XK):Prop:=∀(pins:List (Addr×Obj)) (σ:St) (H:Hp) (s:Shared) (e:Value) (s':Shared),Inv X pins σ H s->CX X.stack H s E e s'->X.xe e s'
section
variable{X:Cx}{CX:CXT}{k:Nat}{f C:Addr}{fd:FuncData}{ps:List Str}{sp:Sp}{dvs:List V}{ds:List Value}{E:XK}{x m:Str}{p pos apos:Pos}{e o:Expr}{es:List Expr}{ta:TE}{t:TA}
theorem abQ{pins:List (Addr×Obj)}{σ:St}{H:Hp}{s:Shared}{Q:VK}{us:List Value}{vs:List V}(F:qT X.prog X.w X.K X.mg X.base CX k f fd ps sp)(hr:jy k X.A)(hb:Binds X.K fd ps ds)(hd:Vals dvs ds)(hx:Passes CX X E)
  (I:Inv X pins σ H s) (r:Vals vs us) (h:sp (vs++dvs) H Q E):wpAny (model X.prog X.w) X.A (call (.ref f) us) (EP X pins σ Q) X.xe s:=by
 have r2:Vals (vs++dvs) (us++ds):=r.append hd;have hl:(us++ds).length=ps.length:=by rw[<-r2.length];exact F.len _ _ _ _ h
 refine wpAny_call (codeAny_mono (F.run X.A X.stack s H ⟨us,[]⟩ (us++ds) (vs++dvs) Q E hr I.env0 (hb s us I.kIn hl) r2 h) λr s' hq=>?_);cases r with
 | error e=>exact hx pins σ H s e s' I hq
 | ok fl=>
  cases fl with
  | ret u=>exact I.after hq
  | next=>exact False.elim hq
  | brk=>exact False.elim hq
  | cont=>exact False.elim hq
theorem G7(F:qT X.prog X.w X.K X.mg X.base CX k f fd ps sp)(hr:jy k X.A)(hg:Gl X x)(hm:X.mg x=some (.ref f))(hk:PySem.W.keepIn X.K (.ref f)=true)(hb:Binds X.K fd ps ds)(hd:Vals dvs ds)(hx:Passes CX X E)
  (ha:PA X (e::es) t) (hdb:nH x:=by decide) (he:starEach (e::es) X.env=(false,eval e X.env)::starEach es X.env:=by rfl) (hpl:(backTo pos (starEach es X.env)).any (·.1)=false:=by rfl) :
  PE X (.Call (.Name x p) (e::es) [] pos) (aeF sp dvs E t):=by
 intro pins s σ H Q I h;refine wpAny_Call_Name_kw (Qa I hg hm ?_ hdb);refine PySem.W.callWith_K (h₀:=X.base) I.ok.mod.R4 hk (gm (ha pos pins s σ H _ I h) λus s1 ⟨vs,H1,I1,r,q⟩=>⟨I1.kIn,?_⟩) he hpl;exact abQ F hr hb hd hx I1 r q
end
structure bG(N P:List Str)(sc:Scope):Prop where
 kind:sc.kind = .function
 co:sc.isCoroutine=false
 gen:sc.isGenerator=false
 nd:N.Nodup
 pre:N.take P.length=P
 par:∀x∈P,sc.names.lookup x=some .local\/sc.names.lookup x=some .cell
 acS:∀y∈sc.names,y.2 ≠ .free
theorem Gb{kindOf:Str->Option NameKind}{x:Str}:∀{binds:List (Str×Value)} {m:Str->Option Value},(∀v,(x,v) ∉ binds)->bindL kindOf binds m x=m x
 | [],_,_=>rfl
 | (n,v)::r,m,h=>by
  unfold bindL;rw[Gb λw hw=>h w (Qqj _ hw)];split
  ·have:x≠n:=by rintro rfl;exact h v Qqk
   simp[this]
  ·rfl
theorem Ge{kindOf:Str->Option NameKind}{x:Str}:∀{binds:List (Str×Value)} {m:Str->Option Value},(∀v,(x,v) ∉ binds)->bindC kindOf binds m x=m x
 | [],_,_=>rfl
 | (n,v)::r,m,h=>by
  unfold bindC;rw[Ge λw hw=>h w (Qqj _ hw)];split
  ·rfl
  ·have:x≠n:=by rintro rfl;exact h v Qqk
   simp[this]
theorem Gd{kindOf:Str->Option NameKind}{x:Str}{v:Value}:∀{P:List Str} {vs:List Value} {i:Nat} {m:Str->Option Value},P.Nodup->P[i]? = some x->vs[i]? = some v->kindOf x=some .local->
  bindL kindOf (P.zip vs) m x=some v
 | [],_,_,_,_,h,_,_=>by simp at h
 | _::_,[],_,_,_,_,h,_=>by simp at h
 | p::P,w::vs,0,m,nd,h1,h2,hk=>by
  simp at h1 h2;subst h1;subst h2;show bindL kindOf ((p,w)::P.zip vs) m p=_;unfold bindL;rw[Gb λv hv=>(Qx9.mp nd).1 (Qk8 hv).1,if_pos hk];simp
 | p::P,w::vs,i+1,m,nd,h1,h2,hk=>by
  show bindL kindOf ((p,w)::P.zip vs) m x=_;unfold bindL;exact Gd (i:=i) (Qx9.mp nd).2 (by simpa using h1) (by simpa using h2) hk
theorem Gf{kindOf:Str->Option NameKind}{x:Str}{v:Value}:∀{P:List Str} {vs:List Value} {i:Nat} {m:Str->Option Value},P.Nodup->P[i]? = some x->vs[i]? = some v->kindOf x≠some .local->
  bindC kindOf (P.zip vs) m x=some v
 | [],_,_,_,_,h,_,_=>by simp at h
 | _::_,[],_,_,_,_,h,_=>by simp at h
 | p::P,w::vs,0,m,nd,h1,h2,hk=>by
  simp at h1 h2;subst h1;subst h2;show bindC kindOf ((p,w)::P.zip vs) m p=_;unfold bindC;rw[Ge λv hv=>(Qx9.mp nd).1 (Qk8 hv).1,if_neg hk];simp
 | p::P,w::vs,i+1,m,nd,h1,h2,hk=>by
  show bindC kindOf ((p,w)::P.zip vs) m x=_;unfold bindC;exact Gf (i:=i) (Qx9.mp nd).2 (by simpa using h1) (by simpa using h2) hk
def start(N:List Str)(vs:List V):St:=vs.map some++List.replicate (N.length - vs.length) none
def N8(CX:CXT)(P:Program)(w:World)(K:PySem.W.Frag)(mg:Str->Option Value)(base:Heap)(N:List Str)(qual:Str)(scope:Scope)(f:Addr)(cd:Value)(A:Around)(outer:List Env)(s:Shared)(H:Hp)(E:XK):Cx where
 prog:=P
 w:=w
 K:=K
 mg:=mg
 base:=base
 A:=A.deeper (envOfC qual scope s.heap.objs.size f cd)
 N:=N
 s₀:=s
 H₀:=H
 env:=envOfC qual scope s.heap.objs.size f cd
 outer:=outer
 stack:=envOfC qual scope s.heap.objs.size f cd::outer
 ex:=[]
 calm:=true
 fn:=λ_=>true
 pn:=[]
 xe:=λe s'=>wpAny (model P w) (A.deeper (envOfC qual scope s.heap.objs.size f cd)) (leaving (envOfC qual scope s.heap.objs.size f cd) e) (λ_ s''=>CX outer H s E e s'') (λe' s''=>CX outer H s E e' s'') s'
theorem Dg{sc:Scope}{n:Nat}{x:Str}(h:sc.names.lookup x=some .cell):∃c,(cellsFrom n sc.names []).lookup x=some c:=by have q:=PySem.W.cellsFrom_some sc.names n [] (.inl h);exact Qjx.mp q
theorem R9{CX:CXT}{P:Program}{w:World}{K:PySem.W.Frag}{mg:Str->Option Value}{base:Heap}{N ps:List Str}{qual:Str}{scope:Scope}{f:Addr}{cd:Value}{A:Around}{outer:List Env}{s s1:Shared}{H:Hp}{E:XK}{us:List Value}{vs:List V}
  (S:bG N ps scope) (hd:A.handled=none) (e0:aao P w K mg base A outer s H) (hl:vs.length=ps.length) (r:Vals vs us)
  (x:InCallC s s.heap.objs.size (bindL (envOfC qual scope s.heap.objs.size f cd).kindOf (ps.zip us) λ_=>none) (cellsFrom (s.heap.objs.size+1) scope.names []) (bindC (envOfC qual scope s.heap.objs.size f cd).kindOf (ps.zip us) λ_=>none) s1) :
  Inv (N8 CX P w K mg base N qual scope f cd A outer s H E) [] (start N vs) H s1:=by
 have hpl:ps.length<=N.length:=by have:=Qxy List.length S.pre;rw[Qzv] at this;omega
 obtain⟨h1,tk,rfl,hk⟩:=x.done;have noA:∀b:Addr,b ∉ (N8 CX P w K mg base N qual scope f cd A outer s H E).ex:=λb z=>absurd (show b∈([]:List Addr) from z) (by simp);refine⟨⟨e0.mod,S.kind,rfl,rfl,Qqw _,λy z c h1 h2=>?_,λy hy=>?_,λy c _ h=>?_,λ_=>hd,Around.frames_deeper e0.frames,.inr ⟨rfl,rfl⟩,λb z=>absurd z (noA b),e0.bs,e0.bsz,λb _ _=>noA b,λb z=>absurd z (noA b),e0.Cu,e0.frf⟩,
  rfl,e0.bare,Un.kept hk,⟨_,x.toInCall.ns,λi y v h1 h2 h3=>?_⟩,λy c h=>⟨_,x.cell y c h⟩,e0.hok.fresh (Qqw _),λy c h=>?_,λp hp=>absurd (show p∈([]:List (Addr×Obj)) from hp) (by simp),e0.hok.kept hk,?_⟩
 ·exact name_of_addr x.apart (Qk2 h1) (Qk2 h2)
 ·have hy:scope.names.lookup y=some .cell\/scope.names.lookup y=some .free:=hy;rcases hy with hy|hy
  ·exact Dg hy
  ·exact absurd rfl (S.acS _ (Qk2 hy))
 ·exact Qvz (x.above y c (Qk2 h))
 ·have hi:i<vs.length:=by
   unfold start at h2;by_cases hi:i<vs.length
   ·exact hi
   ·rw[Qx0 (by simpa using hi)] at h2;rw[Qz5] at h2;split at h2<;>cases h2
  have ha:vs[i]? = some v:=by
   unfold start at h2;rw[Qxq (by simpa using hi),Qwx] at h2;cases e:vs[i]? with
   | none=>rw[e] at h2;cases h2
   | some a=>rw[e] at h2;cases h2;rfl
  obtain⟨u,hu,rv⟩:=r.get ha;have hp:ps[i]? = some y:=by rw[<-S.pre,Qjz (by omega)];exact h1
  have ndP:ps.Nodup:=by rw[<-S.pre];exact S.nd.sublist (List.take_sublist _ _)
  refine⟨u,rv,?_⟩;rcases S.par y (Qq8 hp) with k|k
  ·exact .inl ⟨k,Gd ndP hp hu k⟩
  ·obtain⟨c,e⟩:=Dg (n:=s.heap.objs.size+1) k;refine .inr ⟨.inl k,c,e,?_⟩;have q:=x.cell y c e;rw[Gf ndP hp hu (by show scope.names.lookup y≠_;rw[k];decide)] at q;exact q
 ·exact .inl (e0.hok.fresh (Qvz (x.above y c (Qk2 h))))
 ·unfold start;show _=N.length;rw[Qqy,Qqq,Qzz];omega
theorem af1{CX:CXT}{P:Program}{w:World}{K:PySem.W.Frag}{mg:Str->Option Value}{base:Heap}{k:Nat}{f:Addr}{name qual:Str}{params:Arguments}{body:List Stmt}{scope:Scope}{dV kV doc pm cdv ct oc:Value}{an od:Option Addr}
  {osl:Array (Option Value)} {N ps:List Str} {sp:Sp} (lk:K.lookup f=some ⟨oc,od,.func (PySem.W.fnOf name qual params body scope dV kV doc pm an cdv ct),osl⟩) (hcd:PySem.W.codeIn K cdv qual=true) (S:bG N ps scope)
  (len:∀vs H Q E,sp vs H Q E->vs.length=ps.length)
  (hbody:∀(A:Around) (outer:List Env) (s:Shared) (H:Hp) (vs:List V) (Q:VK) (E:XK),jy k (A.deeper (envOfC qual scope s.heap.objs.size f cdv))->sp vs H Q E->
   ∃t,Lp (N8 CX P w K mg base N qual scope f cdv A outer s H E) body t/\t { nx:=λ_ H'=>Q .non H',rt:=Q } (start N vs) H) :
  qT P w K mg base CX (k+1) f (PySem.W.fnOf name qual params body scope dV kV doc pm an cdv ct) ps sp:=by
 refine⟨len,λA outer s H args us vs Q E hr e0 hb r hsp=>?_⟩;have hl:=len _ _ _ _ hsp;have KX:K.In s.heap:=e0.mod.R4.keeps λb o e=>(e0.bs b o e).1;have lim:s.heap.NoLimit:=e0.mod.nolimit.keeps λb o e=>(e0.bs b o e).1;have hkind:∀y∈ps.zip us,scope.names.lookup y.1=some .local\/(scope.names.lookup y.1=some .cell/\((cellsFrom (s.heap.objs.size+1) scope.names []).lookup y.1).isSome=true):=λ⟨n,v⟩ hy=>by
  rcases S.par n (Qk8 hy).1 with q|q
  ·exact .inl q
  ·exact .inr ⟨q,PySem.W.cellsFrom_some _ _ _ (.inl q)⟩
 refine codeAny_call_function hr.depth (KX _ _ lk) rfl S.co S.gen rfl (PySem.W.codeRec_of KX hcd) (hb _ _ _ _ ?_);refine wpAny_newFunctionEnv_cells S.kind hkind λenv he s1 x=>?_;subst he;refine⟨lim.keeps x.toInCall.keep,codeAny_func ?_⟩;obtain⟨t,ht,hq⟩:=hbody A outer s H vs Q E (hr.deeper _) hsp;have I:Inv (N8 CX P w K mg base N qual scope f cdv A outer s H E) [] (start N vs) H s1:=R9 S hr.hd e0 hl r x;refine Qj5 (ht [] s1 (start N vs) H _ I hq) (λfl s' hs=>?_) λe s' hs=>hs;have fin:∀{σ':St} {H':Hp} {v:V} {u:Value},Inv (N8 CX P w K mg base N qual scope f cdv A outer s H E) [] σ' H' s'->RelV v u->Q v H'->CE outer P w H s Q u s':=
  λ{σ' H' v u} J rv q=>⟨v,H',J.os,J.bare,J.base,J.hok,rv,q⟩
 cases fl with
 | ret u=>
  obtain⟨v,σ',H',J,rv,q⟩:=hs;exact fin J rv q
 | next=>
  obtain⟨σ',H',J,q⟩:=hs;exact fin (v:=V.non) (u:=Value.none) J rfl q
 | brk=>
  obtain⟨_,_,_,q⟩:=hs;exact False.elim q
 | cont=>
  obtain⟨_,_,_,q⟩:=hs;exact False.elim q
section
variable{X:Cx}{x:Str}{p pos:Pos}{e:Expr}{es:List Expr}{t:TA}{id T:String}{r:List V->Hp->VK->Prop}
def tCB(r:List V->Hp->VK->Prop)(t:TA):TE:=λσ H Q=>t σ H λvs H1=>r vs H1 Q
theorem Bv(hc:iz X (.builtin id) r)(hg:Gl X x)(hm:X.mg x=none)(hv:bootBuiltins x=some (.builtin id))(ha:PA X (e::es) t)(hn:x ≠ "__name__":=by decide)(hdb:nH x:=by decide)
  (he:starEach (e::es) X.env=(false,eval e X.env)::starEach es X.env:=by rfl) (hpl:(backTo pos (starEach es X.env)).any (·.1)=false:=by rfl):PE X (.Call (.Name x p) (e::es) [] pos) (tCB r t):=by
 intro pins s σ H Q I h;refine wpAny_Call_Name_kw (tO I hg hm hv ?_ hn hdb);exact PyProof.Rows.callWith_builtin1 (gm (ha pos pins s σ H _ I h) λus s1 ⟨vs,H1,I1,r1,q1⟩=>hc pins s1 σ H1 vs us Q I1 r1 q1) he hpl
theorem uv(hc:iz X (.type T) r)(hg:Gl X x)(hm:X.mg x=none)(hv:bootBuiltins x=some (.type T))(ha:PA X (e::es) t)(hn:x ≠ "__name__":=by decide)(hdb:nH x:=by decide)
  (he:starEach (e::es) X.env=(false,eval e X.env)::starEach es X.env:=by rfl) (hpl:(backTo pos (starEach es X.env)).any (·.1)=false:=by rfl):PE X (.Call (.Name x p) (e::es) [] pos) (tCB r t):=by
 intro pins s σ H Q I h;refine wpAny_Call_Name_kw (tO I hg hm hv ?_ hn hdb);exact Qz0 (gm (ha pos pins s σ H _ I h) λus s1 ⟨vs,H1,I1,r1,q1⟩=>hc pins s1 σ H1 vs us Q I1 r1 q1) he hpl
end
end L2
namespace HT
open PySem PyProof.Rows
section
variable{prog:Program}{w:World}{A:Around}{E:Value->Shared->Prop}{s:Shared}
theorem Z5{t b:Addr}{vs ws:List Value}{Q:Value->Shared->Prop}(ht:IsTup s.heap t vs.toArray)(hb:IsTup s.heap b ws.toArray)(hv:vs≠[])
  (h1:ws=[]->Q (.ref t) s) (h2:ws≠[]->Q (.ref s.heap.objs.size) { s with heap:=s.heap.push { cls:=.type "tuple",data:=.seq (vs++ws).toArray } })
  (hsz:vs.length+ws.length<=sizeLine):wpAny (model prog w) A (binaryOp .Add (.ref t) (.ref b)) Q E s:=by
 obtain⟨⟨cls,dd,data,sl⟩,ho,hc,n,hd⟩:=id ht;obtain⟨⟨cls2,dd2,data2,sl2⟩,ho2,hc2,n2,hd2⟩:=id hb;simp only at hc hd hc2 hd2;subst hc hd hc2 hd2;have e:vs.toArray++ws.toArray=(vs++ws).toArray:=by simp
 by_cases hw:ws=[]
 ·exact concat_meets ⟨_,ho,rfl⟩ ⟨_,ho2,rfl⟩ noFill_tuple_add seq_tuple_add PySem.F.slot_tuple_add PySem.F.entry_tuple_add (PySem.F.args_tuple_add_2 _ _)
   (tuple_addW1 t b vs.toArray ws.toArray n n2 dd dd2 sl sl2 (by simpa using hv) (by simp[hw])) ⟨ho,ho2,h1 hw⟩
 ·refine concat_meets ⟨_,ho,rfl⟩ ⟨_,ho2,rfl⟩ noFill_tuple_add seq_tuple_add PySem.F.slot_tuple_add PySem.F.entry_tuple_add (PySem.F.args_tuple_add_2 _ _)
   (tuple_addW2 t b vs.toArray ws.toArray n n2 dd dd2 sl sl2 (by simpa using hv) (by simpa using hw) (by rw[Qq3,Qq3];exact hsz)) ⟨ho,ho2,?_⟩
  rw[e];exact h2 hw
def gB(n d:Nat):Option Int->Nat
 | none=>d
 | some v=>if v<0 then (v+(n:Int)).toNat else min v.toNat n
theorem Pa(n d k:Nat):gB n d (some (k:Int))=min k n:=by show(if (k:Int)<0 then ((k:Int)+(n:Int)).toNat else min (k:Int).toNat n)=min k n;rw[if_neg (by omega),Qzx]
theorem GQ(n d:Nat)(hd:d<=n)(o:Option Int):gB n d o<=n:=by
 cases o with
 | none=>exact hd
 | some v=>
  show(if v<0 then (v+(n:Int)).toNat else min v.toNat n)<=n;by_cases hv:v<0
  ·rw[if_pos hv];omega
  ·rw[if_neg hv];exact Nat.min_le_right _ _
theorem QD(v:Int)(n d:Nat):(if v<0 then max (v+(n:Int)) 0 else min v (n:Int))=((gB n d (some v):Nat):Int):=by
 show(if v<0 then max (v+(n:Int)) 0 else min v (n:Int))=(((if v<0 then (v+(n:Int)).toNat else min v.toNat n):Nat):Int);by_cases hv:v<0
 ·simp only[if_pos hv];omega
 ·simp only[if_neg hv];omega
theorem Ol(lo hi:Option Int)(n:Nat):Builtin.Slice.sliceAdjust lo hi 1 (n:Int)=(((gB n 0 lo:Nat):Int),((gB n n hi:Nat):Int)):=by
 have h1:¬((1:Int)<0):=by omega
 unfold Builtin.Slice.sliceAdjust;simp only[h1,if_false];refine Prod.ext ?_ ?_
 ·cases lo with
  | none=>rfl
  | some v=>exact QD v n 0
 ·cases hi with
  | none=>rfl
  | some v=>exact QD v n n
theorem M8(i j:Nat):Builtin.Slice.slicePlaces (i:Int) (j:Int) 1=j - i:=by
 unfold Builtin.Slice.slicePlaces;have h1:(1:Int) > 0:=by omega
 simp only[h1,if_true,Int.ediv_one];split<;>omega
theorem Bd{v:Value}{o:Option Int}{Q:Option Int->Shared->Prop}(p:IsPart v o)(h:Q o s):wpAny (model prog w) A (Builtin.Slice.slicePartIndex v) Q E s:=by
 cases p with
 | none=>exact slicePart_none h
 | int i t=>exact slicePart_int h
theorem qz{sl:Addr}{vl vu:Value}{lo hi:Option Int}{n:Nat}{Q:Int×Int×Nat->Shared->Prop}(hs:s.heap.IsSliceOf sl vl vu .none)(pl:IsPart vl lo)(pu:IsPart vu hi)
  (h:Q (((gB n 0 lo:Nat):Int),1,gB n n hi - gB n 0 lo) s):wpAny (model prog w) A (Builtin.Slice.sliceApplied (.ref sl) (pure (n:Int))) Q E s:=by
 obtain⟨os,hos,hcs,hds⟩:=id hs;unfold Builtin.Slice.sliceApplied Builtin.Slice.sliceFields;refine Qqx (Qqx (Qjk hos hds (x:=vl) rfl (Qqx (Qjk hos hds (x:=vu) rfl (Qqx (Qjk hos hds (x:=.none) rfl (Qq1 ?_)))))));refine Qqx (slicePart_none ?_);show wpAny _ _ (if ((1:Int) == 0)=true then _ else _) _ _ s;rw[if_neg (by decide)];refine Qqx (Bd pl (Qqx (Bd pu (Qqx (Qq1 ?_)))));show wpAny _ _ (match Builtin.Slice.sliceAdjust lo hi 1 (n:Int) with|(lo,hi)=>pure (lo,(1:Int),Builtin.Slice.slicePlaces lo hi 1)) _ _ s;rw[Ol lo hi n];show wpAny _ _ (pure (((gB n 0 lo:Nat):Int),(1:Int),Builtin.Slice.slicePlaces ((gB n 0 lo:Nat):Int) ((gB n n hi:Nat):Int) 1)) _ _ s;rw[M8];exact Qq1 h
theorem Vv(xs:Array Value)(i k:Nat):((List.range k).filterMap λ(m:Nat)=>xs[((i:Int)+(m:Int)*1).toNat]?).toArray=((xs.toList.drop i).take k).toArray:=by
 have e:(λ(m:Nat)=>xs[((i:Int)+(m:Int)*1).toNat]?)=λm=>xs[i+m]?:=by
  funext m
  have:((i:Int)+(m:Int)*1).toNat=i+m:=by omega
  rw[this]
 rw[e];have:=pick_run xs i k;rw[List.filterMap_map] at this;have e2:((λx=>xs[x]?) ∘ λx=>i+x)=λm=>xs[i+m]?:=rfl;rw[e2] at this;rw[this]
theorem xf{t sl:Addr}{items:Array Value}{vl vu:Value}{lo hi:Option Int}{Q:Value->Shared->Prop}(ht:IsTup s.heap t items)(hs:s.heap.IsSliceOf sl vl vu .none)(pl:IsPart vl lo)(pu:IsPart vu hi)
  (hw:¬(gB items.size 0 lo=0/\gB items.size items.size hi=items.size))
  (h:Q (.ref s.heap.objs.size) { s with heap:=s.heap.push { cls:=.type "tuple",data:=.seq ((items.toList.drop (gB items.size 0 lo)).take (gB items.size items.size hi - gB items.size 0 lo)).toArray } })
  (hsz:items.size<=sizeLine):wpAny (model prog w) A (getItem (.ref t) (.ref sl)) Q E s:=by
 have Qk:sizeOk (.seq ((items.toList.drop (gB items.size 0 lo)).take (gB items.size items.size hi - gB items.size 0 lo)).toArray):=by show((items.toList.drop (gB items.size 0 lo)).take (gB items.size items.size hi - gB items.size 0 lo)).toArray.size<=sizeLine;rw[Qq3,Qzv,Qz2,Qz1];omega
 have hj:gB items.size items.size hi<=items.size:=GQ _ _ (Qqw _) hi;obtain⟨os,hos,hcs,hds⟩:=id hs;have hTs:s.TypeIs (.ref sl) "slice":=⟨os,hos,hcs⟩;unfold getItem
 try with_reducible refine Qz3 ?_
 first|refine Qqx (Qq1 ?_)|skip
 refine Qqx (wpAny_sequenceKey ht.typeIs (by decide) ?_);refine Qqx (Qz4 (name:=Str.ofString "__getitem__") ht.typeIs Qj2
  (Qjw Qj2 ht.typeIs entry_tuple_getitem ?_ (args_tuple_getitem _ _)))
 show wpAny _ _ (Builtin.Tuple.tupleItemsOf (.ref t) >>= _) _ _ s;refine Qqx (tupleItemsOf_ ht ?_);refine Qqx (wpAny_typeOf hTs ?_);rw[if_pos (by decide)];refine Qqx (qz hs pl pu ?_);have hno:¬((((gB items.size 0 lo:Nat):Int) == 0&&(1:Int) == 1&&(gB items.size items.size hi - gB items.size 0 lo) == items.size)=true):=by intro q;rw[Qjy,Qjy] at q;have q1:((gB items.size 0 lo:Nat):Int)=0:=eq_of_beq q.1.1;have q2:gB items.size items.size hi - gB items.size 0 lo=items.size:=eq_of_beq q.2;exact hw ⟨by omega,by omega⟩
 show wpAny _ _ (if (((gB items.size 0 lo:Nat):Int) == 0&&(1:Int) == 1&&(gB items.size items.size hi - gB items.size 0 lo) == items.size)=true then _ else _) _ _ s;rw[if_neg hno,Vv]
 first
  | exact Qqx (m:=Builtin.Tuple.tupleExact _) (Qj8 (Qq1 ⟨_,rfl,Qq1 h⟩) Qk)
  | exact Qqx (m:=Builtin.Tuple.tupleExact _) (Qj8 (Qqx (Qq1 (Qq1 ⟨_,rfl,Qq1 h⟩))) Qk)
  | exact Qqx (Qqx (m:=Builtin.Tuple.tupleExact _) (Qj8 (Qq1 (Qq1 ⟨_,rfl,Qq1 h⟩)) Qk))
  | exact Qqx (Qqx (m:=Builtin.Tuple.tupleExact _) (Qj8 (Qq1 ⟨_,rfl,Qq1 h⟩) Qk))
end
end HT
namespace L2
open PySem PySem.Spec PyProof.Rows
abbrev TO:=St->Hp->(Option Int->Hp->Prop)->Prop
def PO(X:Cx)(e:Option Expr)(t:TO):Prop:=
 ∀(pins:List (Addr×Obj)) (s:Shared) (σ:St) (H:Hp) (Q:Option Int->Hp->Prop),Inv X pins σ H s->t σ H Q->
  wpAny (model X.prog X.w) X.A (evalPart e X.env) (λu s'=>∃o H',Inv X pins σ H' s'/\IsPart u o/\Q o H') X.xe s
def XF:TO:=λ_ H Q=>Q none H
def aeA(t:TE):TO:=λσ H Q=>t σ H λx H1=>∃i,x = .int i/\Q (some i) H1
theorem intsAre_of{ns:List Int}:∀{us:List Value},Vals (ns.map V.int) us->IntsAre us ns:=by
 induction ns with
 | nil=>intro us r;rw[List.map_nil] at r;cases r;exact .nil
 | cons n ns ih=>
  intro us r;rw[Qq2] at r;cases r with
  | cons r1 r2=>
   obtain⟨t,e⟩:=r1;subst e;exact .cons n t (ih r2)
section
variable{X:Cx}{e:Expr}{te:TE}{lo hi:Option Expr}{tl th:TO}{pos p2:Pos}
theorem Ys:PO X none XF:=by intro pins s σ H Q I h;rw[evalPart_none];exact Qq1 ⟨none,H,I,.none,h⟩
theorem Yr(h:PE X e te):PO X (some e) (aeA te):=by intro pins s σ H Q I hw;rw[evalPart_some];refine gm (h pins s σ H _ I hw) λu s1 ⟨x,H1,I1,r1,q1⟩=>?_;obtain⟨i,rfl,q⟩:=q1;obtain⟨t,rfl⟩:=r1;exact⟨some i,H1,I1,.int i t,q⟩
def QL(X:Cx)(r:V->Option Int->Option Int->Hp->VK->Prop):Prop:=
 ∀(pins:List (Addr×Obj)) (s:Shared) (σ:St) (H:Hp) (x:V) (v vl vu:Value) (lo hi:Option Int) (sl:Addr) (Q:VK),Inv X pins σ H s->RelV x v->s.heap.IsSliceOf sl vl vu .none->IsPart vl lo->IsPart vu hi->r x lo hi H Q->
  ∃T id,typeLookup (.type T) "__getitem__" = pure (some (.builtin id))/\s.TypeIs v T/\wpAny (model X.prog X.w) X.A (getItem v (.ref sl)) (EP X pins σ Q) X.xe s
theorem QL.or{r r':V->Option Int->Option Int->Hp->VK->Prop}(h:QL X r)(h':QL X r'):QL X (λx lo hi H Q=>r x lo hi H Q\/r' x lo hi H Q):=by
 intro pins s σ H x v vl vu lo hi sl Q I rx hs pl pu q;rcases q with q|q
 ·exact h pins s σ H x v vl vu lo hi sl Q I rx hs pl pu q
 ·exact h' pins s σ H x v vl vu lo hi sl Q I rx hs pl pu q
def tSl(r:V->Option Int->Option Int->Hp->VK->Prop)(te:TE)(tl th:TO):TE:=λσ H Q=>te σ H λx H1=>tl σ H1 λl H2=>th σ H2 λu H3=>r x l u H3 Q
theorem JD{r:V->Option Int->Option Int->Hp->VK->Prop}(hr:QL X r)(he:PE X e te)(hl:PO X lo tl)(hu:PO X hi th):PE X (.Subscript e (.Slice lo hi none p2) pos) (tSl r te tl th):=by intro pins s σ H Q I h;refine Subscript_ (gm (he pins s σ H _ I h) λv s1 ⟨x,H1,I1,r1,q1⟩=>?_);refine wpAny_Slice (gm (hl pins s1 σ H1 _ I1 q1) λvl s2 ⟨l,H2,I2,pl,q2⟩=>gm (hu pins s2 σ H2 _ I2 q2) λvu s3 ⟨u,H3,I3,pu,q3⟩=>?_);rw[evalPart_none];refine Qq1 ?_;have I4:Inv X pins σ H3 { s3 with heap:=s3.heap.push { cls:=.type "slice",data:=.fields #[vl,vu,.none] } }:=I3.kept (t':=s3.toks) λb ob q=>Qqz _ q;obtain⟨T,id,hT,ht,hg⟩:=hr pins { s3 with heap:=s3.heap.push { cls:=.type "slice",data:=.fields #[vl,vu,.none] } } σ H3 x v vl vu l u s3.heap.objs.size Q I4 r1 (Heap.IsSliceOf.new ..) pl pu q3;show wpAny (model X.prog X.w) X.A (subscriptTail e (.Slice lo hi none p2) v (.ref s3.heap.objs.size)) (EP X pins σ Q) X.xe { s3 with heap:=s3.heap.push { cls:=.type "slice",data:=.fields #[vl,vu,.none] } };exact tail_any (ops:=[.ref s3.heap.objs.size,v]) ht hT hg (by with_unfolding_all rfl)
def zY(xs:List V)(lo hi:Option Int):List V:=(xs.drop (HT.gB xs.length 0 lo)).take (HT.gB xs.length xs.length hi - HT.gB xs.length 0 lo)
theorem zg(xs:List V)(lo hi:Option Int):(zY xs lo hi).length<=xs.length:=by unfold zY;rw[Qzv,Qz2];omega
def abT(K:PySem.W.Frag):V->Option Int->Option Int->Hp->VK->Prop:=λx lo hi H Q=>∃a xs,x = .ref a/\oE K H a xs/\
 ¬(HT.gB xs.length 0 lo=0/\HT.gB xs.length xs.length hi=xs.length)/\∀p,H p=none->Q (.ref p) (upd H p (.tup (zY xs lo hi)))
theorem Mx:QL X (abT X.K):=by
 intro pins s σ H x v vl vu lo hi sl Q I rx hs pl pu h;obtain⟨a,xs,rfl,hx,hw,q⟩:=h;cases rx;obtain⟨its,r,ht,hz⟩:=I.tuple hx;have hlen:its.toArray.size=xs.length:=by rw[Qq3];exact r.length.symm
 refine⟨"tuple",_,PyProof.Rows.slot_tuple_getitem.lookup,ht.typeIs,?_⟩;refine HT.xf ht hs pl pu (by rw[hlen];exact hw) ?_ (by rw[hlen];exact hz);rw[hlen];refine⟨.ref s.heap.objs.size,_,I.laid (t':=s.toks) (o:=.tup (zY xs lo hi)) (λb ob q=>Qqz _ q) (Qqw _) ?_,rfl,q _ (I.hok.fresh (Qqw _))⟩;exact⟨Qq0 (zg xs lo hi) hz,_,(r.drop (HT.gB xs.length 0 lo)).take (HT.gB xs.length xs.length hi - HT.gB xs.length 0 lo),Ej.new _ _⟩
def aaO(K:PySem.W.Frag):R2:=λx y H Q=>∃a b xs ys,x = .ref a/\y = .ref b/\oE K H a xs/\oE K H b ys/\xs≠[]/\xs.length+ys.length<=sizeLine/\
 (ys=[]->Q (.ref a) H)/\(ys≠[]->∀p,H p=none->Q (.ref p) (upd H p (.tup (xs++ys))))
theorem Vals.Hf{xs:List V}{us:List Value}(r:Vals xs us):us=[]↔xs=[]:=by
 cases r with
 | nil=>simp
 | cons _ _=>simp
theorem YL:oG X (binaryOp .Add) (aaO X.K):=by intro pins s σ H x y v u Q I rx ry h;obtain⟨a,b,xs,ys,rfl,rfl,ha,hb,hx,hz,q1,q2⟩:=h;cases rx;cases ry;obtain⟨its,r1,p1,_⟩:=I.tuple ha;obtain⟨its2,r2,p2,_⟩:=I.tuple hb;refine HT.Z5 p1 p2 (λz=>hx (r1.Hf.mp z)) (λz=>⟨.ref a,H,I,rfl,q1 (r2.Hf.mp z)⟩) (λz=>?_) (by rw[<-r1.length,<-r2.length];exact hz);refine⟨.ref s.heap.objs.size,_,I.laid (t':=s.toks) (o:=.tup (xs++ys)) (λb ob q=>Qqz _ q) (Qqw _) ?_,rfl,q2 (λw=>z (r2.Hf.mpr w)) _ (I.hok.fresh (Qqw _))⟩;exact⟨by rw[Qqy];exact hz,_,r1.append r2,Ej.new _ _⟩
end
def Wk(n:Nat)(i:Int):Option Nat:=if 0<=i then (if i<n then some i.toNat else none) else if -(n:Int)<=i then some (i+n).toNat else none
def xQ{α:Type}(xs:List α)(i:Int):Option α:=(Wk xs.length i).bind λj=>xs[j]?
theorem Qh{n:Nat}{i:Int}{j:Nat}(h:Wk n i=some j):seqIndex? i n=some j/\j<n/\-(n:Int)<=i/\i<n:=by
 unfold Wk at h;by_cases h0:0<=i
 ·rw[if_pos h0] at h;by_cases h1:i<n
  ·rw[if_pos h1] at h;have e:i.toNat=j:=Qwv h;exact⟨by rw[seqIndex_of h0 h1,e],by omega,by omega,h1⟩
  ·rw[if_neg h1] at h;cases h
 ·rw[if_neg h0] at h;by_cases h1 : -(n:Int)<=i
  ·rw[if_pos h1] at h;have e:(i+n).toNat=j:=Qwv h;exact⟨by rw[seqIndex_neg (by omega) h1,e],by omega,h1,by omega⟩
  ·rw[if_neg h1] at h;cases h
theorem HR{α:Type}{xs:List α}{i:Int}{v:α}(h:xQ xs i=some v):∃j,seqIndex? i xs.length=some j/\xs[j]? = some v/\j<xs.length/\-(xs.length:Int)<=i/\i<xs.length:=by
 unfold xQ at h;cases e:Wk xs.length i with
 | none=>rw[e] at h;cases h
 | some j=>
  rw[e] at h;obtain⟨h1,h2,h3,h4⟩:=Qh e;exact⟨j,h1,h,h2,h3,h4⟩
theorem rQ{α:Type}{xs:List α}{j:Nat}{v:α}(h:xs[j]? = some v):xQ xs (j:Int)=some v:=by
 have hj:j<xs.length:=(Qq4.mp h).1;have e:Wk xs.length (j:Int)=some j:=by unfold Wk;rw[if_pos (by omega),if_pos (by omega)];simp
 unfold xQ;rw[e];exact h
def xN(b:Expr):Prop:=∀o i,subscripted b false o i=operate [o,i] (getItem o i)
def IxR(X:Cx)(r:R2):Prop:=
 ∀(value slice:Expr) (pins:List (Addr×Obj)) (s:Shared) (σ:St) (H:Hp) (x y:V) (v u:Value) (Q:VK),Inv X pins σ H s->RelV x v->RelV y u->r x y H Q->
  subscripted slice false v u=operate [v,u] (getItem v u)->wpAny (model X.prog X.w) X.A (subscriptTail value slice v u) (EP X pins σ Q) X.xe s
def MtR(X:Cx)(id:String)(r:V->List V->Hp->VK->Prop):Prop:=
 ∀(pins:List (Addr×Obj)) (s:Shared) (σ:St) (H:Hp) (x:V) (xs:List V) (v:Value) (us:List Value) (Q:VK),Inv X pins σ H s->RelV x v->Vals xs us->r x xs H Q->
  wpAny (model X.prog X.w) X.A (call (.builtin id) (v::us)) (EP X pins σ Q) X.xe s
section
variable{X:Cx}{a b:Expr}{ta tb:TE}{pos:Pos}
theorem IxR.or{r r':R2}(h:IxR X r)(h':IxR X r'):IxR X (λx y H Q=>r x y H Q\/r' x y H Q):=by
 intro value slice pins s σ H x y v u Q I rx ry q hs;rcases q with q|q
 ·exact h value slice pins s σ H x y v u Q I rx ry q hs
 ·exact h' value slice pins s σ H x y v u Q I rx ry q hs
theorem aaR{r:R2}(hr:IxR X r)(ha:PE X a ta)(hb:PE X b tb)(hs:xN b):PE X (.Subscript a b pos) (XD r ta tb):=by intro pins s σ H Q I h;exact Subscript_ (adY ha hb I h λv u s2 x y H2 I2 rx ry q=>hr a b pins s2 σ H2 x y v u Q I2 rx ry q (hs _ _))
def aeY(K:PySem.W.Frag):R2:=λx y H Q=>∃p xs i v,x = .ref p/\y = .int i/\jR K H p xs/\xQ xs i=some v/\Q v H
def aeW(K:PySem.W.Frag):R2:=λx y H Q=>∃p xs i v,x = .ref p/\y = .int i/\oE K H p xs/\xQ xs i=some v/\Q v H
def aeX:R2:=λx y H Q=>∃z i c,x = .str z/\y = .int i/\z.length<=sizeLine/\xQ z.cps.toList i=some c/\Q (.str ⟨#[c]⟩) H
theorem Zh:IxR X (aeY X.K):=by
 intro value slice pins s σ H x y v u Q I rx ry h hs;obtain⟨p,xs,i,z,rfl,rfl,hq,he,q⟩:=h;cases rx;obtain⟨t,rfl⟩:=ry;obtain⟨its,r,pl,hz⟩:=I.list hq;obtain⟨j,h1,h2,h3,h4,h5⟩:=HR he;obtain⟨w,ew,MJ⟩:=r.get h2;have hl:=r.length;have hn:=BR;have fin:EP X pins σ Q w s:=⟨z,H,I,MJ,q⟩;by_cases h0:0<=i
 ·have hj:i.toNat=j:=by
   rw[seqIndex_of h0 h5] at h1;exact Qwv h1
  exact item_listR pl.isList h0 (by omega) (by rw[hj];simpa using ew) fin hs
 ·have hj:(i+(its.toArray.size:Int)).toNat=j:=by
   rw[seqIndex_neg (by omega) h4] at h1;rw[Qq3,<-hl];exact Qwv h1
  exact subscriptTail_builtinR (x:=w) pl.isList.typeIs slot_list_getitem.lookup
   (wpAny_getItem_list_neg (Q:=λr s'=>r=w/\EP X pins σ Q r s') pl.isList (by omega) (by rw[Qq3]<;>omega) (by omega) (by rw[hj];simpa using ew) ⟨rfl,fin⟩) hs
theorem ade:IxR X (aeW X.K):=by
 intro value slice pins s σ H x y v u Q I rx ry h hs;obtain⟨p,xs,i,z,rfl,rfl,hq,he,q⟩:=h;cases rx;obtain⟨t,rfl⟩:=ry;obtain⟨its,r,pl,hz⟩:=I.tuple hq;obtain⟨j,h1,h2,h3,h4,h5⟩:=HR he;obtain⟨w,ew,MJ⟩:=r.get h2;have hl:=r.length;have hn:=BR;have fin:EP X pins σ Q w s:=⟨z,H,I,MJ,q⟩;exact subscriptTail_builtinR (x:=w) pl.typeIs slot_tuple_getitem.lookup
  (getItem_tuple (j:=j) (Q:=λr s'=>r=w/\EP X pins σ Q r s') pl (by omega) (by omega) (by rw[Qq3,<-hl];exact h1) (by simpa using ew) ⟨rfl,fin⟩) hs
theorem adf:IxR X aeX:=by
 intro value slice pins s σ H x y v u Q I rx ry h hs;obtain⟨z,i,c,rfl,rfl,hz,he,q⟩:=h;obtain⟨t,rfl⟩:=rx;obtain⟨t',rfl⟩:=ry;obtain⟨j,h1,h2,h3,h4,h5⟩:=HR he;have hl:z.cps.toList.length=z.length:=by simp[Str.length]
 rw[hl] at h1 h4 h5;have hn:=BR;exact tail_any (typeIs_str s z t) slot_str_getitem.lookup (getItem_str (c:=c) (by
  have e1:decide (i < -(2^63:Int))=false:=Qwk (by omega);have e2:decide (i ≥ 2^63)=false:=Qwk (by omega);rw[e1,e2,Bool.or_false]) (by rw[h1];simpa using h2) ⟨.str ⟨#[c]⟩,H,I.tok _,⟨_,rfl⟩,q⟩) hs
def rIx(K:PySem.W.Frag):R2:=λx y H Q=>aeY K x y H Q\/aeW K x y H Q\/aeX x y H Q
theorem Wj:IxR X (rIx X.K):=Zh.or (ade.or adf)
theorem Nu(its:List Value)(n j:Nat)(u:Value):Obj.mapSeq (·.setIfInBounds j u) { cls:=.type "list",data:=.seq its.toArray n } = { cls:=.type "list",data:=.seq (its.set j u).toArray n }:=by simp[Obj.mapSeq]
theorem Inv.lst{pins:List (Addr×Obj)}{σ:St}{H:Hp}{s:Shared}{p:Addr}{xs:List V}(I:Inv X pins σ H s)(h:H p=some (.lst xs)) :
  ∃(its:List Value) (n:Nat),Vals xs its/\s.heap.get? p=some { cls:=.type "list",data:=.seq its.toArray n }/\xs.length<=sizeLine:=by
 obtain⟨z,its,n,r,e⟩:=I.hok p _ h;exact⟨its,n,r,e,z⟩
theorem Inv.ac5{pins:List (Addr×Obj)}{σ:St}{H:Hp}{s:Shared}{p:Addr}{xs ys:List V}{its its':List Value}{n n':Nat}{f:Obj->Obj}(I:Inv X pins σ H s)(h:H p=some (.lst xs))
  (ho:s.heap.get? p=some { cls:=.type "list",data:=.seq its.toArray n }) (hf:f { cls:=.type "list",data:=.seq its.toArray n } = { cls:=.type "list",data:=.seq its'.toArray n' }) (r:Vals ys its') (hz:ys.length<=sizeLine) (t:Nat) :
  Inv X pins σ (upd H p (.lst ys)) { s with heap:=s.heap.update p f,toks:=t }:=by
 have e:(s.heap.update p f).get? p=some { cls:=.type "list",data:=.seq its'.toArray n' }:=by rw[Heap.get?_update_self f ho (by rw[hf]<;>rfl),hf]
 refine I.write (x:=p) (e:=p) (by rw[h];trivial) (.inl rfl) (λb u hb q=>(Heap.get?_update_other _ _ (Ne.symm hb)).trans q) ⟨_,e⟩ ?_;exact⟨hz,its',n',r,e⟩
def Pg:V->V->V->Hp->(Hp->Prop)->Prop:=λo i v H Q=>∃p xs k j,o = .ref p/\i = .int k/\H p=some (.lst xs)/\Wk xs.length k=some j/\Q (upd H p (.lst (xs.set j v)))
theorem set_list:agg X Pg:=by
 intro pins s σ H o i v ov iv u Q I ro ri rv h;obtain⟨p,xs,k,j,rfl,rfl,hp,hj,q⟩:=h;cases ro;obtain⟨t,rfl⟩:=ri;obtain⟨its,n,r,ho,hz⟩:=I.lst hp;obtain⟨h1,h2,h3,h4⟩:=Qh hj;have hl:=r.length;have hn:=BR;have I':Inv X pins σ (upd H p (.lst (xs.set j v))) { s with heap:=s.heap.update p (Obj.mapSeq (·.setIfInBounds j u)) }:=
  I.ac5 hp ho (Nu its n j u) (r.set rv j) (by rw[Qzq];exact hz) s.toks
 by_cases h0:0<=k
 ·have hk:k.toNat=j:=by
   rw[seqIndex_of h0 h4] at h1;exact Qwv h1
  exact PySem.W.ki_setAt ho h0 (by omega) (by rw[Qq3,<-hl];exact h4) (by rw[hk];exact⟨_,I',q⟩)
 ·have hk:(k+(its.toArray.size:Int)).toNat=j:=by
   rw[seqIndex_neg (by omega) h3] at h1;rw[Qq3,<-hl];exact Qwv h1
  exact PySem.W.ki_setBack ho (by omega) (by rw[Qq3,<-hl];exact h3) (by omega) (by rw[hk];exact⟨_,I',q⟩)
theorem Gx(lo hi:Option Int)(n:Nat):(sliceBounds lo hi none n).1=((HT.gB n 0 lo:Nat):Int)/\(sliceBounds lo hi none n).2.1=((HT.gB n n hi:Nat):Int)/\(sliceBounds lo hi none n).2.2=1:=by
 refine⟨?_,?_,rfl⟩
 ·cases lo with
  | none=>simp[sliceBounds,HT.gB]
  | some i=>
   simp only[sliceBounds,HT.gB,Option.getD_none,show(1:Int) > 0 by decide,if_true];by_cases h:i<0
   ·simp only[h,if_true]<;>omega
   ·simp only[h,if_false]<;>omega
 ·cases hi with
  | none=>simp[sliceBounds,HT.gB]
  | some i=>
   simp only[sliceBounds,HT.gB,Option.getD_none,show(1:Int) > 0 by decide,if_true];by_cases h:i<0
   ·simp only[h,if_true]<;>omega
   ·simp only[h,if_false]<;>omega
theorem DK(its:List Value)(lo hi:Option Int):slicePick its.toArray lo hi none=((its.drop (HT.gB its.length 0 lo)).take (HT.gB its.length its.length hi - HT.gB its.length 0 lo)).toArray:=by obtain⟨h1,h2,h3⟩:=Gx lo hi its.toArray.size;unfold slicePick;rw[h1,h2,h3];simp only[sliceRange_one,pick_run,Qq3]<;>rfl
def aeR(K:PySem.W.Frag):V->Option Int->Option Int->Hp->VK->Prop:=λx lo hi H Q=>∃a xs,x = .ref a/\jR K H a xs/\∀p,H p=none->Q (.ref p) (upd H p (.lst (zY xs lo hi)))
theorem O7:QL X (aeR X.K):=by intro pins s σ H x v vl vu lo hi sl Q I rx hs pl pu h;obtain⟨a,xs,rfl,hx,q⟩:=h;cases rx;obtain⟨its,r,ht,hz⟩:=I.list hx;have hlen:=r.length;refine⟨"list",_,slot_list_getitem.lookup,ht.isList.typeIs,?_⟩;refine wpAny_getItem_list_slice ht.isList hs pl pu .none (by simp) ?_ (by rw[Qq3]<;>omega);rw[DK,<-hlen];refine⟨.ref s.heap.objs.size,_,I.laid (t':=s.toks) (o:=.lst (zY xs lo hi)) (λb ob q=>Qqz _ q) (Qqw _) ?_,rfl,q _ (I.hok.fresh (Qqw _))⟩;exact⟨Qq0 (zg xs lo hi) hz,_,0,(r.drop (HT.gB xs.length 0 lo)).take (HT.gB xs.length xs.length hi - HT.gB xs.length 0 lo),Qwy _ rfl⟩
theorem iz.or{f:Value}{r r':List V->Hp->VK->Prop}(h:iz X f r)(h':iz X f r'):iz X f (λxs H Q=>r xs H Q\/r' xs H Q):=by
 intro pins s σ H xs us Q I rs q;rcases q with q|q
 ·exact h pins s σ H xs us Q I rs q
 ·exact h' pins s σ H xs us Q I rs q
theorem HJ:iz X (.type "list") (λxs H Q=>∃p ys,xs=[.ref p]/\(jR X.K H p ys\/oE X.K H p ys)/\∀l,H l=none->Q (.ref l) (upd H l (.lst ys))):=by
 intro pins s σ H xs us Q I r h;obtain⟨p,ys,rfl,hq,q⟩:=h;obtain⟨u,rfl,rx⟩:=vals1 r;cases rx;have fin:∀(its:List Value),Vals ys its->ys.length<=sizeLine->∀(h':Heap) (c':Nat),(∀b o',s.heap.get? b=some o'->h'.get? b=some o')->
   h'.get? s.heap.objs.size=some { cls:=.type "list",dict:=none,data:=.seq its.toArray c',slots:=#[] }->EP X pins σ Q (.ref s.heap.objs.size) { s with heap:=h' }:=λits r' hz h' c' kp e=>
  ⟨.ref s.heap.objs.size,_,I.laid (t':=s.toks) kp (Qqw _) (show gP X.prog X.w _ h' _ (.lst ys) from⟨hz,its,c',r',e⟩),rfl,q _ (I.hok.fresh (Qqw _))⟩
 rcases hq with hq|hq
 ·obtain⟨its,r',pl,hz⟩:=I.list hq;have hlen:=r'.length;obtain⟨o,ho,hc,n,hd⟩:=pl.isList;exact call_list_seq p (.inl rfl) ho hc hd (λh' c' kp e=>fin its r' hz h' c' kp e) (by simp only[Qq3]<;>omega)
 ·obtain⟨its,r',pl,hz⟩:=I.tuple hq;have hlen:=r'.length;obtain⟨o,ho,hc,n,hd⟩:=pl;exact call_list_seq p (.inr rfl) ho hc hd (λh' c' kp e=>fin its r' hz h' c' kp e) (by simp only[Qq3]<;>omega)
theorem Ef:iz X (.type "tuple") (λxs H Q=>∃p ys,xs=[.ref p]/\((jR X.K H p ys/\∀l,H l=none->Q (.ref l) (upd H l (.tup ys)))\/(oE X.K H p ys/\Q (.ref p) H))):=by
 intro pins s σ H xs us Q I r h;obtain⟨p,ys,rfl,h⟩:=h;obtain⟨u,rfl,rx⟩:=vals1 r;cases rx;rcases h with ⟨hq,q⟩|⟨hq,q⟩
 ·obtain⟨its,r',pl,hz⟩:=I.list hq;have hlen:=r'.length;refine call_tuple_list pl.isList (λh' kp=>?_) (by simp only[Qq3]<;>omega);have I1:Inv X pins σ H { s with heap:=h' }:=I.kept (t':=s.toks) kp;have I2:Inv X pins σ (upd H h'.objs.size (.tup ys)) { s with heap:=h'.push { cls:=.type "tuple",data:=.seq its.toArray } }:=
   I1.laid (t':=s.toks) (λb o e=>Qqz _ e) (Qqw _) (show gP X.prog X.w _ _ _ (.tup ys) from⟨hz,its,r',Ej.new _ _⟩)
  exact⟨.ref h'.objs.size,_,I2,rfl,q _ (I1.hok.fresh (Qqw _))⟩
 ·obtain⟨its,r',pl,hz⟩:=I.tuple hq;exact call_tuple_same pl ⟨.ref p,H,I,rfl,q⟩
def tyV(K:PySem.W.Frag)(T:String)(x:V)(H:Hp):Prop:=match x with
 | .str _=>T = "str"
 | .int _=>T = "int"
 | .ref p=>(T = "list"/\∃xs,jR K H p xs)\/(T = "tuple"/\∃o,K.lookup p=some o/\o.cls = .type "tuple"/\o.dict=none)\/
   (T = "dict"/\((∃kvs,H p=some (.dK kvs))\/∃kvs,H p=some (.dT kvs)))\/(T = "set"/\∃S n,H p=some (.set S n))
 | _=>False
theorem abv{pins:List (Addr×Obj)}{σ:St}{H:Hp}{s:Shared}{T:String}{x:V}{v:Value}(I:Inv X pins σ H s)(r:RelV x v)(ty:tyV X.K T x H) :
  s.TypeIs v T/\∀a,v = .ref a->∃ob,s.heap.get? a=some ob/\ob.dict=none:=by
 cases x with
 | str z=>
  obtain⟨t,rfl⟩:=r;cases(show T = "str" from ty);exact⟨typeIs_str s z t,λ_ e=>nomatch e⟩
 | int i=>
  obtain⟨t,rfl⟩:=r;cases(show T = "int" from ty);exact⟨typeIs_int s i t,λ_ e=>nomatch e⟩
 | ref p=>
  cases r;rcases ty with ⟨rfl,xs,hq⟩|⟨rfl,o,hk,hc,hd⟩|⟨rfl,hk⟩|⟨rfl,S,n,hk⟩
  ·obtain⟨its,_,pl,_⟩:=I.list hq;refine⟨pl.isList.typeIs,λa e=>?_⟩;cases e;obtain⟨o,n,e,c,hd,_⟩:=pl;exact⟨o,e,hd⟩
  ·refine⟨⟨o,I.kIn p o hk,hc⟩,λa e=>?_⟩;cases e;exact⟨o,I.kIn _ o hk,hd⟩
  ·have z:∃o,s.heap.get? p=some o/\o.ExactDict:=by
    rcases hk with ⟨kvs,hk⟩|⟨kvs,hk⟩
    ·obtain⟨_,_,_,_,o,_,_,e,ex,_⟩:=I.hok p _ hk;exact⟨o,e,ex⟩
    ·obtain⟨_,_,_,_,o,_,_,e,ex,_⟩:=I.hok p _ hk;exact⟨o,e,ex⟩
   obtain⟨o,e,ex⟩:=z;refine⟨⟨o,e,ex.1⟩,λa e2=>?_⟩;cases e2;exact⟨o,e,ex.2.1⟩
  ·obtain⟨o,_,_,_,e,ex,_⟩:=I.hok p _ hk;refine⟨⟨o,e,ex.1⟩,λa e2=>?_⟩;cases e2;exact⟨o,e,ex.2.1⟩
 | _=>exact False.elim ty
def tBM(K:PySem.W.Frag)(T:String)(r:V->List V->Hp->VK->Prop)(to:TE)(t:TA):TE:=λσ H Q=>to σ H λx H1=>tyV K T x H1/\t σ H1 λxs H2=>r x xs H2 Q
variable{o e:Expr}{es:List Expr}{to:TE}{t:TA}{name:Str}{apos cpos:Pos}{T id:String}{r:V->List V->Hp->VK->Prop}
theorem aaS(pa:PlainAttrs T)(slot:Slot T name id)(hty:typeOf (.builtin id)=pure (.type "method_descriptor"))(hm:MtR X id r)(ho:PE X o to)(ha:PA X (e::es) t)
  (hbase:attributeBase o name X.env (eval o X.env)=eval o X.env:=by rfl)
  (hfew:((backTo cpos (starEach (e::es) X.env)).all (λx=>!x.1)&&(backToKw cpos (keywordEach [] X.env)).all (λx=>x.1.isSome)
   && decide ((e::es).length+([]:List Keyword).length+(if ([]:List Keyword).isEmpty then 0 else 1)<30))=true:=by rfl)
  (hline:(apos.endLine == cpos.line)=true:=by rfl) (hs:starEach (e::es) X.env=(false,eval e X.env)::starEach es X.env:=by rfl) (hplain:(backTo cpos (starEach es X.env)).any (·.1)=false:=by rfl) :
  PE X (.Call (.Attribute o name apos) (e::es) [] cpos) (tBM X.K T r to t):=by
 intro pins s σ H Q I h;refine wpAny_Call_method_late hbase hfew hline rfl (gm (ho pins s σ H _ I h) λv s1 ⟨x,H1,I1,r1,ty,q1⟩=>?_);obtain⟨h1,h2⟩:=abv I1 r1 ty;refine⟨T,id,pa,slot,hty,h1,h2,?_⟩;have hA:=ha cpos pins s1 σ H1 _ I1 q1;rw[hs] at hA ⊢;refine Calls.callWith_builtin (by show(false||(backTo cpos (starEach es X.env)).any (·.1))=false;rw[hplain]<;>rfl) (Calls.evalArgs_plain ?_);exact gm hA λus s2 ⟨vs,H2,I2,r2,q2⟩=>hm pins s2 σ H2 x vs v us Q I2 r1 r2 q2
end
def MtM(X:Cx)(id:String)(r:V->List V->Hp->VK->Prop):Prop:=
 ∀(pins:List (Addr×Obj)) (s:Shared) (σ:St) (H:Hp) (x:V) (xs:List V) (v:Value) (us:List Value) (Q:VK),Inv X pins σ H s->RelV x v->Vals xs us->r x xs H Q->
  wpAny (model X.prog X.w) X.A (call (.builtin id) (v::us)) (EP X pins σ Q) X.xe s
theorem Vals.one:∀{x:V} {us:List Value},Vals [x] us->∃u,us=[u]/\RelV x u
 | _,_,.cons r .nil=>⟨_,rfl,r⟩
theorem Vals.two:∀{x y:V} {us:List Value},Vals [x,y] us->∃u v,us=[u,v]/\RelV x u/\RelV y v
 | _,_,_,.cons r (.cons q .nil)=>⟨_,_,rfl,r,q⟩
theorem Vals.rep{xs:List V}{us:List Value}(h:Vals xs us):∀k:Nat,Vals (List.replicate k xs).flatten (List.replicate k us).flatten
 | 0=>.nil
 | k+1=>by
  rw[List.replicate_succ,List.replicate_succ,List.flatten_cons,List.flatten_cons];exact Vals.append h (Vals.rep h k)
theorem foldl_rep(its:List Value):∀(k:Nat) (acc:List Value),
  List.foldl (λx1 x2=>x1++x2) acc.toArray (List.replicate k its.toArray)=(acc++(List.replicate k its).flatten).toArray
 | 0,acc=>by simp
 | k+1,acc=>by
  have e:acc.toArray++its.toArray=(acc++its).toArray:=by simp
  have e2:(acc++its)++(List.replicate k its).flatten=acc++(List.replicate (k+1) its).flatten:=by rw[List.replicate_succ,List.flatten_cons,Qxk]
  rw[<-e2,<-foldl_rep its k (acc++its),<-e,List.replicate_succ,Qz7]
section
variable{X:Cx}{pins:List (Addr×Obj)}{σ:St}{H:Hp}{s:Shared}{l b:Addr}{xs ys zs:List V}
theorem Inv.ahl{its its':List Value}{n:Nat}{f:Array Value->Array Value}{t':Nat}(I:Inv X pins σ H s)(hH:H l=some (.lst xs))
  (e:s.heap.get? l=some { cls:=.type "list",data:=.seq its.toArray n }) (hf:f its.toArray=its'.toArray) (hv:Vals ys its') (hz:ys.length<=sizeLine) :
  Inv X pins σ (upd H l (.lst ys)) { s with heap:=s.heap.update l (Obj.mapSeq f),toks:=t' }:=by
 have q:=PySem.IsL.update e f;rw[hf] at q;refine I.write (x:=l) (e:=l) (by rw[hH];exact trivial) (.inl rfl) (λb' u hb hu=>(Heap.get?_update_other s.heap (Obj.mapSeq f) (Ne.symm hb)).trans hu) ⟨_,q⟩ ?_;exact⟨hz,its',_,hv,q⟩
theorem Inv.ac6{its:List Value}{t':Nat}(I:Inv X pins σ H s)(hv:Vals ys its)(hz:ys.length<=sizeLine) :
  Inv X pins σ (upd H s.heap.objs.size (.lst ys)) { s with heap:=s.heap.push { cls:=.type "list",data:=.seq its.toArray },toks:=t' }:=
 I.laid (λ_ _ q=>Qqz _ q) (Qqw _) ⟨hz,its,0,hv,Qwy _ rfl⟩
theorem Inv.fresh(I:Inv X pins σ H s):H s.heap.objs.size=none:=I.hok.fresh (Qqw _)
theorem Inv.Y9(I:Inv X pins σ H s)(hH:H l=some (.lst xs)):xs.length<=sizeLine/\∃(its:List Value) (n:Nat),Vals xs its/\xs.length=its.length/\s.heap.get? l=some { cls:=.type "list",data:=.seq its.toArray n }:=by obtain⟨z,its,n,r,e⟩:=I.hok l _ hH;exact⟨z,its,n,r,r.length,e⟩
theorem V2{n:Nat}(h:n<=sizeLine):Builtin.List.listTooLong n=false:=by unfold Builtin.List.listTooLong;exact Qwk (by omega)
end
section
variable{X:Cx}{prog:Program}{w:World}{A:Around}{E:Value->Shared->Prop}{s:Shared}
def X7:V->List V->Hp->VK->Prop:=λx vs H Q=>∃l xs y,x = .ref l/\vs=[y]/\H l=some (.lst xs)/\xs.length<sizeLine/\Q .non (upd H l (.lst (xs++[y])))
theorem Fj:MtM X "list.append" X7:=by intro pins s σ H x vs v us Q I rx rv h;obtain⟨l,xs,y,rfl,rfl,hH,hz,q⟩:=h;cases rx;obtain⟨u,rfl,ru⟩:=rv.one;obtain⟨z,its,n,r,hl,e⟩:=I.Y9 hH;refine call_meets F.slot_list_append ⟨_,e,rfl⟩ F.entry_list_append (F.args_list_append_2 _ _) (PySem.list_append l its.toArray n u (by rw[Qq3];omega)) ⟨e,?_⟩;refine⟨.non,_,I.ahl (its':=its++[u]) hH e (by simp) (r.append (.cons ru .nil)) ?_,rfl,q⟩;rw[Qqy,Qw9];omega
def ae3:R2:=λx y H Q=>∃l b xs zs,x = .ref l/\y = .ref b/\H l=some (.lst xs)/\H b=some (.lst zs)/\xs.length+zs.length<=sizeLine/\∀p,H p=none->Q (.ref p) (upd H p (.lst (xs++zs)))
theorem acB:oG X (binaryOp .Add) ae3:=by
 intro pins s σ H x y v u Q I rx ry h;obtain⟨l,b,xs,zs,rfl,rfl,hH,hB,hz,q⟩:=h;cases rx;cases ry;obtain⟨z,its,n,r,hl,e⟩:=I.Y9 hH;obtain⟨z2,its2,n2,r2,hl2,e2⟩:=I.Y9 hB;refine PySem.P.add_list e e2 ?_ (by rw[Qq3,Qq3];omega);have ea:its.toArray++its2.toArray=(its++its2).toArray:=by simp
 rw[ea];exact⟨.ref _,_,I.ac6 (t':=s.toks) (r.append r2) (by rw[Qqy];omega),rfl,q _ I.fresh⟩
def aeS:R2:=λx y H Q=>∃l k xs,x = .ref l/\y = .int k/\H l=some (.lst xs)/\-(2^63)<=k/\k<2^63/\xs.length*k.toNat<=sizeLine/\
 ∀p,H p=none->Q (.ref p) (upd H p (.lst (List.replicate k.toNat xs).flatten))
theorem len_rep{α:Type}(xs:List α)(k:Nat):(List.replicate k xs).flatten.length=k*xs.length:=by
 induction k with
 | zero=>simp
 | succ k ih=>rw[List.replicate_succ,List.flatten_cons,Qqy,ih,Nat.succ_mul,Nat.add_comm]
theorem acq:oG X (binaryOp .Mult) aeS:=by
 intro pins s σ H x y v u Q I rx ry h;obtain⟨l,k,xs,rfl,rfl,hH,h1,h2,hz,q⟩:=h;cases rx;obtain⟨t,rfl⟩:=ry;obtain⟨z,its,n,r,hl,e⟩:=I.Y9 hH;have hlen:its.toArray.size*k.toNat<=sizeLine:=by rw[Qq3,<-hl];exact hz
 have ahF:¬its.toArray.size*k.toNat > (2^63 - 1) / 8:=by
  have:(sizeLine:Nat)<=(2^63 - 1) / 8:=by decide
  omega
 have hfit:¬(!Builtin.List.listFitsIndex k)=true:=by rw[fitsIndex_both h1 h2];exact Qxx
 have afV:¬Builtin.List.listTooLong (its.toArray.size*k.toNat)=true:=by rw[V2 hlen];exact Qxx
 have hnew:List.foldl (λx1 x2=>x1++x2) #[] (List.replicate (if its.toArray.isEmpty=true then 0 else k.toNat) its.toArray)=(List.replicate k.toNat its).flatten.toArray:=by
  have f0:∀m:Nat,List.foldl (λx1 x2=>x1++x2) #[] (List.replicate m its.toArray)=(List.replicate m its).flatten.toArray:=λm=>by
   have:=foldl_rep its m [];rw[List.nil_append] at this;exact this
  rw[f0];cases its with
  | nil=>simp
  | cons a r'=>rw[if_neg (by simp)]
 refine wpAny_binaryOp_repeat_ref (T:="list") (U:="int") (by decide) ⟨_,e,rfl⟩ (λs'=>typeIs_int s' k t) noFill_list_mul F.fills_int_mul F.slot_int_rmul repeat_list F.slot_int_index.lookup
  (call_meets F.slot_int_rmul (typeIs_int s k t) F.entry_int_rmul (F.args_int_rmul_2 _ _) (int___rmul___int_list k t l its.toArray n)
   ⟨e,rfl,⟨_,e,rfl⟩,call_meets F.slot_list_mul ⟨_,e,rfl⟩ F.entry_list_mul (F.args_list_mul_2 _ _) (AutoListH.list___mul___list_int_3 l its.toArray n k t hfit ahF afV) ⟨e,?_⟩⟩)
 rw[hnew];exact⟨.ref _,_,I.ac6 (t':=s.toks) (r.rep k.toNat) (by rw[len_rep,Nat.mul_comm];exact hz),rfl,q _ I.fresh⟩
set_option maxRecDepth 100000 in
end
end L2
namespace Att
open PySem PySem.W PySem.Calls PyProof.Rows
theorem zU{P:Params}{h:Heap}:∀(ns:List Int) (vs:List Value),WellAll P h vs (ns.map WData.int)->IntsAre vs ns:=by
 intro ns
 induction ns with
 | nil=>
  intro vs w;rw[List.map_nil] at w;cases w;exact .nil
 | cons n ns ih=>
  intro vs w;rw[Qq2] at w;cases w with
  | cons a b=>
   cases a;exact .cons _ _ (ih _ b)
theorem Rg{l:OpenLaw}{n:Nat}(hn:l.most=some n){P:Params}{h:Heap}{args:List WData}{vals:List Value}
  (hpre:l.row.toRowW.claim.pre args=true) (hwl:WellAll P h vals args) :
  ∃a vs ns,vals=[Value.ref a]/\args=[WData.list (ns.map WData.int)]/\h.get? a=some { cls:=.type "list",data:=.seq vs.toArray }/\IntsAre vs ns/\ns.length<=n:=by
 have hsh:WShape.hasAll [] args [.list .int]=true:=(pre_splitW hpre).1;have hc:l.pre.holds [] { args:=args }=true:=(pre_splitW hpre).2;obtain⟨d,r,rfl,h1,h2⟩:=hasAllW_cons hsh;obtain rfl:=hasAllW_nil h2;obtain⟨xs,rfl,h3⟩:=hasW_list h1;obtain⟨ns,rfl⟩:=items_int h3;have hlen:ns.length<=n:=by
  unfold OpenLaw.pre at hc;have h4:(WTm.not (.lt (.lit (.int (n:Int))) (.len (.arg 0)))).holds [] { args:=[.list (ns.map .int)] }=true:=by have h4:=(holds_andW hc).1;rw[hn] at h4;exact h4
  have h5:=condW_of h4 (w_not (w_lt w_lit (w_len_list (w_arg rfl))));rw[Qqq] at h5;refine Nat.le_of_not_lt λq=>?_;have q':(n:Int)<((ns.length:Nat):Int):=by omega
  first
   | (rw[Qw2 q'] at h5;exact absurd h5 (by decide))
   | (simp at h5;omega)
 cases hwl with
 | cons w1 w2=>
  cases w2;cases w1 with
  | list ho hall=>exact⟨_,_,ns,rfl,rfl,ho,zU ns _ hall,hlen⟩
theorem Rz(l:OpenLaw)(args:List WData):l.row.toRowW.claim.post args (.bool true) args=true:=
 postW_of (r:=l.row.toRowW) (X:=(true == true))
  (show WShape.has [] (.bool true) .bool=true by first|rfl|decide|simp[WShape.has,WShape.arms,WShape.armsAll])
  (show(WTm.eq .res (.lit (.bool true))).value [] { args:=args,res:=some (.bool true),after:=args }=some (.bool (true == true)) from w_eq_bool (w_res rfl) w_lit) rfl
end Att
namespace L2
open PySem PySem.Spec PyProof.Rows
theorem Eo:∀{vs:List Value} {ns:List Int},IntsAre vs ns->Vals (ns.map V.int) vs
 | _,_,.nil=>.nil
 | _,_,.cons n t h=>.cons ⟨t,rfl⟩ (Eo h)
def Only(H:Hp):Prop:=∀b,H b=none\/∃o xs,H b=some (.Kq o (.lst xs))
theorem Wg{P:Program}{w:World}{K:PySem.W.Frag}{mg mb:Str->Option Value}{CX:CXT}{k:Nat}{fa a:Addr}{fd:FuncData}{x:Str}{sp:Sp}{s₁:Shared}{vs:List Value}{ns:List Int}
  (KX:K.In s₁.heap) (hns:s₁.heap.Ns mainGlobals mg) (hb:s₁.heap.Ns builtinsNs mb) (hbb:∀x:Str,x ≠ "__name__"->mb x=bootBuiltins x) (hlim:s₁.heap.NoLimit) (hg:s₁.gens = #[])
  (ha:s₁.heap.get? a=some { cls:=.type "list",data:=.seq vs.toArray }) (hi:IntsAre vs ns) (hl:ns.length<=sizeLine) (hr:jy k callerA)
  (F:∀base:Heap,K.In base->base.Ns mainGlobals mg->qT P w K mg base CX k fa fd [x] sp) (hbind:∀(s:Shared) (u:Value),BindsTo s fd ⟨[u],[]⟩ [(x,u)])
  (hsp:∀H:Hp,Only H->jR K H a (ns.map V.int)->sp [.ref a] H (λv _=>v = .bl true) λ_ _ _=>False)
  (hCX:∀H e s',CX [] H s₁ (λ_ _ _=>False) e s'->False) :
  codeAny (model P w) callerA (.call (.ref fa) ⟨[.ref a],[]⟩) (λr s'=>r = .ok (.ret (.bool true))/\OldK s₁.heap s'.heap/\s'.os=s₁.os/\AllBare s'.gens) s₁:=by
 have rv:=Eo hi;have lenV:=hi.length
 -- from an abstract heap in which nothing but the script may be tracked
 have core:∀H:Hp,Only H->jR K H a (ns.map V.int)->xO P w H s₁.heap->(∀b,H b≠none->b=a)->(H a≠none->K.lookup a=none)->
   codeAny (model P w) callerA (.call (.ref fa) ⟨[.ref a],[]⟩) (λr s'=>r = .ok (.ret (.bool true))/\OldK s₁.heap s'.heap/\s'.os=s₁.os/\AllBare s'.gens) s₁:=by
  intro H hO hS hok hA hK;have QH:∀{b:Addr} {o:Obj},s₁.heap.get? b=some o->H b=none->(Hr s₁.heap H).get? b=some o:=λe n=>Ws e n;have noA:∀{b:Addr} {o:Obj} {es:Array DictEntry} {ep:Nat},s₁.heap.get? b=some o->o.data = .dict es ep->H b=none:=λ{b o es ep} e d=>by
   cases q:H b with
   | none=>rfl
   | some u=>
    have e':b=a:=hA b (by rw[q];simp);subst e';rw[ha] at e;cases e;have d':Data.seq vs.toArray _=Data.dict es ep:=d;cases d'
  have nsK:∀{b:Addr} {m:Str->Option Value},s₁.heap.Ns b m->(Hr s₁.heap H).Ns b m:=λ{b m} ⟨o,es,ep,e,d,r⟩=>⟨o,es,ep,QH e (noA e d),d,r⟩;have hKb:K.In (Hr s₁.heap H):=λb o e=>QH (KX b o e) (by
   cases q:H b with
   | none=>rfl
   | some u=>
    have e':b=a:=hA b (by rw[q];simp);subst e';rw[hK (by rw[q];simp)] at e;cases e)
  have hM:Mod K mg (Hr s₁.heap H):=⟨hKb,nsK hns,⟨mb,nsK hb,hbb⟩,let ⟨mc,h1,h2⟩:=hlim;⟨mc,nsK h1,h2⟩⟩;have e0:aao P w K mg (Hr s₁.heap H) callerA [] s₁ H:=⟨rfl,hM,λb o e=>YQ e,Nat.le_of_eq (Ss _ _),trivial,λb hb=>absurd (show b∈([]:List Addr) from hb) (by simp),hok,.of_eq hg⟩;refine codeAny_mono ((F _ hKb (nsK hns)).run callerA [] s₁ H ⟨[.ref a],[]⟩ [.ref a] [.ref a] _ _ hr e0 (hbind s₁ (.ref a)) (.cons rfl .nil) (hsp H hO hS)) λr s' h=>?_;cases r with
  | error e=>exact(hCX H e s' h).elim
  | ok fl=>
   cases fl with
   | next=>exact False.elim h
   | brk=>exact False.elim h
   | cont=>exact False.elim h
   | ret u=>
    obtain⟨v,H',os,bare,un,hok',r',q⟩:=h;have q':v = .bl true:=q;subst q';obtain rfl:u=Value.bool true:=r';refine⟨rfl,OldK.of_keep λb o e=>?_,os,bare⟩;cases q:H b with
    | none=>exact un.keep b o e q (by intro z;exact absurd (show b∈([]:List Addr) from z) (by simp)) (by simp)
    | some u=>
     rcases hO b with z|⟨ob,xs,z⟩
     ·rw[q] at z;cases z
     ·have z2:=un.Cv b ob _ z;obtain⟨e1,_⟩:=hok b _ z;obtain⟨e2,_⟩:=hok' b _ z2;rw[e] at e1;cases e1;exact e2
 cases hk:K.lookup a with
 | some o=>
  -- the script is one of the module's own objects
  have e:=KX a o hk;rw[ha] at e;cases e;refine core (λ_=>none) (λ_=>.inl rfl) (.inr ⟨_,vs.toArray,_,hk,rfl,rfl,rfl,by rw[Qq3,lenV];exact hl,by simpa using rv⟩) (λb u z=>by have z':(none:Option HO)=some u:=z;cases z') (λb z=>absurd rfl z) λz=>absurd rfl z
 | none=>
  refine core (λb=>if b=a then some (.Kq { cls:=.type "list",data:=.seq vs.toArray } (.lst (ns.map V.int))) else none) (λb=>?_) (.inl (.inr ⟨{ cls:=.type "list",data:=.seq vs.toArray },if_pos rfl⟩)) (λb u z=>?_) (λb z=>?_) λ_=>hk
  ·by_cases hb:b=a
   ·exact .inr ⟨_,_,if_pos hb⟩
   ·exact .inl (if_neg hb)
  ·by_cases hb:b=a
   ·have z':=(if_pos hb).symm.trans z;cases z';subst hb;exact⟨ha,by rw[Qqq];exact hl,vs,_,rv,ha⟩
   ·have z':=(if_neg hb).symm.trans z;cases z'
  ·by_cases hb:b=a
   ·exact hb
   ·exact absurd (if_neg hb) z
def lO(s:Stmt):Arguments:=match s with
 | .FunctionDef _ a _ _ _ _ _ _ _ _=>a
 | _=>{ posonlyargs:=[],args:=[],vararg:=none,kwonlyargs:=[],kw_defaults:=[],kwarg:=none,defaults:=[] }
def gk(s:Stmt):List Stmt:=match s with
 | .FunctionDef _ _ b _ _ _ _ _ _ _=>b
 | _=>[]
def aU(s:Stmt):Scope:=match s with
 | .FunctionDef _ _ _ _ _ _ sc _ _ _=>sc
 | _=>{ kind:=.function,names:=[],isGenerator:=false,isCoroutine:=false }
abbrev Ie:CXT:=λ_ _ _ _ _ _=>False
abbrev E0:XK:=λ_ _ _=>False
theorem VH{X:Cx}:Passes Ie X E0:=λ_ _ _ _ _ _ _ h=>h.elim
structure Xk(K:PySem.W.Frag)(x qual:Str)(st:Stmt)(f:Addr)(fd:FuncData):Prop where
 ex:∃(oc:Value) (od:Option Addr) (kV doc pm:Value) (an:Option Addr) (cdv ct:Value) (osl:Array (Option Value)),
  fd=PySem.W.fnOf x qual (lO st) (gk st) (aU st) .none kV doc pm an cdv ct/\K.lookup f=some ⟨oc,od,.func fd,osl⟩/\PySem.W.codeIn K cdv qual=true
 kp:PySem.W.keepIn K (.ref f)=true
section
variable{P:Program}{w:World}{K:PySem.W.Frag}{mg:Str->Option Value}{base:Heap}
theorem Xk.ok{x qual:Str}{st:Stmt}{f:Addr}{fd:FuncData}{N ps:List Str}{k:Nat}{sp:Sp}(F:Xk K x qual st f fd)(S:bG N ps (aU st))(len:∀vs H Q E,sp vs H Q E->vs.length=ps.length)
  (hbody:∀(cdv:Value) (A:Around) (outer:List Env) (s:Shared) (H:Hp) (vs:List V) (Q:VK) (E:XK),jy k (A.deeper (envOfC qual (aU st) s.heap.objs.size f cdv))->sp vs H Q E->
   ∃t,Lp (N8 Ie P w K mg base N qual (aU st) f cdv A outer s H E).nox (gk st) t/\t { nx:=λ_ H'=>Q .non H',rt:=Q } (start N vs) H):qT P w K mg base Ie (k+1) f fd ps sp:=by
 obtain⟨oc,od,kV,doc,pm,an,cdv,ct,osl,rfl,lk,hcd⟩:=F.ex;refine af1 lk hcd S len λA outer s H vs Q E hr hsp=>?_;obtain⟨t,h,q⟩:=hbody cdv A outer s H vs Q E hr hsp;exact⟨t,h.nox,q⟩
theorem Xk.binds{x qual:Str}{st:Stmt}{f:Addr}{fd:FuncData}{ps:List Str}(F:Xk K x qual st f fd)
  (h:∀(kV doc pm:Value) (an:Option Addr) (cdv ct:Value) (us:List Value),us.length=ps.length->bindArgs (PySem.W.fnOf x qual (lO st) (gk st) (aU st) .none kV doc pm an cdv ct) ⟨us,[]⟩=pure (ps.zip us)):Binds K fd ps []:=by
 obtain⟨oc,od,kV,doc,pm,an,cdv,ct,osl,rfl,lk,hcd⟩:=F.ex;exact .all (h kV doc pm an cdv ct)
theorem NZ{x qual:Str}{st:Stmt}{f:Addr}{oc:Value}{od an:Option Addr}{osl:Array (Option Value)}{kV doc pm cdv ct:Value}(l:K.lookup f=some ⟨oc,od,.func (PySem.W.fnOf x qual (lO st) (gk st) (aU st) .none kV doc pm an cdv ct),osl⟩)
  (c:PySem.W.codeIn K cdv qual=true) (k:PySem.W.keepIn K (.ref f)=true):Xk K x qual st f (PySem.W.fnOf x qual (lO st) (gk st) (aU st) .none kV doc pm an cdv ct):=⟨⟨oc,od,kV,doc,pm,an,cdv,ct,osl,rfl,l,c⟩,k⟩
end
theorem afN{A B:Prop}(h:B):if false=true then A else B:=by rw[if_neg Qxx];exact h
theorem afM{A B:Prop}(h:A):if true=true then A else B:=by rw[if_pos rfl];exact h
def aW(H H':Hp):Prop:=∀b o,H b=some o->H' b=some o
theorem aW.refl(H:Hp):aW H H:=λ_ _ h=>h
theorem aW.trans{H H1 H2:Hp}(a:aW H H1)(b:aW H1 H2):aW H H2:=λc o h=>b c o (a c o h)
theorem aW.free{H H':Hp}(e:aW H H'){l:Addr}(h:H' l=Option.none):H l=Option.none:=by
 cases q:H l with
 | none=>rfl
 | some o=>
  rw[e l o q] at h;cases h
theorem aW.seq{K:PySem.W.Frag}{H H':Hp}{a:Addr}{xs:List V}(e:aW H H')(h:jR K H a xs):jR K H' a xs:=by
 rcases h with (h|⟨o,h⟩)|h
 ·exact .inl (.inl (e _ _ h))
 ·exact .inl (.inr ⟨o,e _ _ h⟩)
 ·exact .inr h
section
variable{κ:Type}[DecidableEq κ]
def uW(kvs:List (κ×V))(k:κ):Option V:=(kvs.find? λkv=>decide (kv.1=k)).map (·.2)
def putK(kvs:List (κ×V))(k:κ)(v:V):List (κ×V):=
 if (kvs.any λkv=>decide (kv.1=k))=true then kvs.map (λkv=>if kv.1=k then (kv.1,v) else kv) else kvs++[(k,v)]
theorem vO{p:κ×V}{r:List (κ×V)}{k:κ}(e:p.1=k):uW (p::r) k=some p.2:=by simp[uW,Qz6,e]
theorem vP{p:κ×V}{r:List (κ×V)}{k:κ}(e:¬p.1=k):uW (p::r) k=uW r k:=by simp[uW,Qz6,e]
theorem Aw(k:κ):∀kvs:List (κ×V),(kvs.any λkv=>decide (kv.1=k))=(uW kvs k).isSome
 | []=>rfl
 | p::r=>by
  rw[List.any_cons];by_cases e:p.1=k
  ·simp only[vO e,Qw2 e,Bool.true_or,Option.isSome_some]
  ·rw[vP e,Qwk e,Bool.false_or];exact Aw k r
theorem pM(kvs:List (κ×V))(k:κ)(v:V):(putK kvs k v).length<=kvs.length+1:=by
 unfold putK;split
 ·rw[Qqq];omega
 ·rw[Qqy,Qqv,Qx8];omega
theorem xM.qI{o:Option V}{u:Option Value}(r:xM o u):o.isSome=u.isSome:=by
 cases o with
 | none=>cases u with
  | none=>rfl
  | some _=>exact(show False from r).elim
 | some _=>cases u with
  | none=>exact(show False from r).elim
  | some _=>rfl
theorem xM.getD{o:Option V}{u:Option Value}{d:V}{d':Value}(r:xM o u)(rd:RelV d d'):RelV (o.getD d) (u.getD d'):=by
 cases o with
 | none=>cases u with
  | none=>exact rd
  | some _=>exact(show False from r).elim
 | some _=>cases u with
  | none=>exact(show False from r).elim
  | some _=>exact r
theorem KV.val{kvs:List (κ×V)}{vs:List (κ×Value)}(r:KV kvs vs)(k:κ):xM (uW kvs k) (valueAt vs k):=by
 unfold KV at r
 induction r with
 | nil=>exact True.intro
 | @cons p q ps qs h t ih=>
  obtain⟨h1,h2⟩:=h;by_cases e:p.1=k
  ·have e':q.1=k:=h1.symm.trans e;have b:valueAt (q::qs) k=some q.2:=by simp[valueAt,Qz6,e']
   rw[vO e,b];exact h2
  ·have e':¬q.1=k:=λz=>e (h1.trans z);have b:valueAt (q::qs) k=valueAt qs k:=by simp[valueAt,Qz6,e']
   rw[vP e,b];exact ih
theorem KV.any{kvs:List (κ×V)}{vs:List (κ×Value)}(r:KV kvs vs)(k:κ):(kvs.any λkv=>decide (kv.1=k))=vs.any λkv=>decide (kv.1=k):=by
 unfold KV at r
 induction r with
 | nil=>rfl
 | cons h t ih=>rw[List.any_cons,List.any_cons,ih,h.1]
theorem KV.repl{kvs:List (κ×V)}{vs:List (κ×Value)}(r:KV kvs vs)(k:κ){y:V}{u:Value}(ry:RelV y u) :
  KV (kvs.map λkv=>if kv.1=k then (kv.1,y) else kv) (vs.map λkv=>if kv.1=k then (kv.1,u) else kv):=by
 unfold KV at r ⊢
 induction r with
 | nil=>exact .nil
 | @cons p q ps qs h t ih=>
  rw[Qq2,Qq2];refine .cons ?_ ih;obtain⟨h1,h2⟩:=h;by_cases e:p.1=k
  ·rw[if_pos e,if_pos (h1.symm.trans e)];exact⟨h1,ry⟩
  ·rw[if_neg e,if_neg (λz=>e (h1.trans z))];exact⟨h1,h2⟩
theorem KV.put{kvs:List (κ×V)}{vs:List (κ×Value)}(r:KV kvs vs)(k:κ){y:V}{u:Value}(ry:RelV y u):KV (putK kvs k y) (stored vs k u):=by
 unfold putK stored;rw[r.any k];by_cases e:(vs.any λkv=>decide (kv.1=k))=true
 ·rw[if_pos e,if_pos e];exact r.repl k ry
 ·rw[if_neg e,if_neg e];exact Paired.snoc r ⟨rfl,ry⟩
theorem KV.keys{kvs:List (κ×V)}{vs:List (κ×Value)}(r:KV kvs vs):kvs.map (·.1)=vs.map (·.1):=by
 unfold KV at r
 induction r with
 | nil=>rfl
 | cons h t ih=>rw[Qq2,Qq2,ih,h.1]
theorem KV.length{kvs:List (κ×V)}{vs:List (κ×Value)}(r:KV kvs vs):kvs.length=vs.length:=Paired.length r
end
theorem Ci{P:Program}{w:World}{k:Key}{u:Value}(r:RelV (kV k) u):(dM P w).is k u=true:=by
 cases k with
 | inl i=>obtain⟨t,e⟩:=(show ∃t,u=Value.int i t from r);subst e;exact J3 P w i t
 | inr x=>obtain⟨t,e⟩:=(show ∃t,u=Value.str x t from r);subst e;exact J0 P w x t
theorem Fq{P:Program}{w:World}:∀{ks:List Key} {us:List Value},Vals (ks.map kV) us->ItemsAre (dM P w) ks us
 | [],_,r=>by rw[List.map_nil] at r;cases r;exact .nil
 | k::ks,_,r=>by
  rw[Qq2] at r;cases r with
  | cons h t=>exact .cons (Ci h) (Fq t)
abbrev KT(H:Hp):List (List Key×V)->List (List Key×Addr×Value)->Prop:=Paired λp q=>p.1=q.1/\H q.2.1=some (.tup (p.1.map kV))/\RelV p.2 q.2.2
theorem KT.val{H:Hp}{kvs:List (List Key×V)}{xs:List (List Key×Addr×Value)}(r:KT H kvs xs)(k:List Key):xM (uW kvs k) ((atKey xs k).map (·.2)):=by
 induction r with
 | nil=>exact True.intro
 | @cons p q ps qs h t ih=>
  obtain⟨h1,_,h2⟩:=h;by_cases e:p.1=k
  ·have e':q.1=k:=h1.symm.trans e;have b:atKey (q::qs) k=some q.2:=by simp[atKey,Qz6,e']
   rw[vO e,b];exact h2
  ·have e':¬q.1=k:=λz=>e (h1.trans z);have b:atKey (q::qs) k=atKey qs k:=by simp[atKey,Qz6,e']
   rw[vP e,b];exact ih
theorem KT.repl{H:Hp}{kvs:List (List Key×V)}{xs:List (List Key×Addr×Value)}(r:KT H kvs xs)(k:List Key){y:V}{u:Value}(ry:RelV y u) :
  KT H (kvs.map λkv=>if kv.1=k then (kv.1,y) else kv) (xs.map (putAt k u)):=by
 induction r with
 | nil=>exact .nil
 | @cons p q ps qs h t ih=>
  rw[Qq2,Qq2];refine .cons ?_ ih;obtain⟨h1,h2,h3⟩:=h;unfold putAt;by_cases e:p.1=k
  ·rw[if_pos e,if_pos (h1.symm.trans e)];exact⟨h1,h2,ry⟩
  ·rw[if_neg e,if_neg (λz=>e (h1.trans z))];exact⟨h1,h2,h3⟩
theorem KT.put{H:Hp}{kvs:List (List Key×V)}{xs:List (List Key×Addr×Value)}(r:KT H kvs xs)(k:List Key){b:Addr}{y:V}{u:Value}(hb:H b=some (.tup (k.map kV)))(ry:RelV y u) :
  KT H (putK kvs k y) (storedH xs k b u):=by
 have e:(kvs.any λkv=>decide (kv.1=k))=(atKey xs k).isSome:=by rw[Aw,(r.val k).qI,Option.isSome_map]
 unfold putK storedH;rw[e];by_cases q:(atKey xs k).isSome=true
 ·rw[if_pos q,if_pos q];exact r.repl k ry
 ·rw[if_neg q,if_neg q];exact Paired.snoc r ⟨rfl,hb,ry⟩
theorem KT.keeps{H H':Hp}{kvs:List (List Key×V)}{xs:List (List Key×Addr×Value)}(r:KT H kvs xs)(ht:∀b ys,H b=some (.tup ys)->H' b=some (.tup ys)):KT H' kvs xs:=
 Paired.ac3 r λ_ _ z=>⟨z.1,ht _ _ z.2.1,z.2.2⟩
section
variable{P:Program}{w:World}{H:Hp}{h:Heap}{a:Addr}
theorem aaL{u:HO}(ok:xO P w H h)(e:Rd H a u):gP P w H h a u:=e.ok ok
theorem CZ{kvs:List (Key×V)}(ok:xO P w H h)(e:Rd H a (.dK kvs)):kvs.length<=sizeLine/\(a == sysModules)=false/\∃vs,KV kvs vs/\h.DictOf (dM P w) a vs:=
 show gP P w H h a (.dK kvs) from aaL ok e
theorem aa8{kvs:List (Key×V)}(ok:xO P w H h)(e:H a=some (.dK kvs)):kvs.length<=sizeLine/\(a == sysModules)=false/\∃vs,KV kvs vs/\h.DictOf (dM P w) a vs:=CZ ok (.inl e)
theorem Ce{ks:List Key}(ok:xO P w H h)(e:H a=some (.tup (ks.map kV))):(tupleKind (dM P w)).is h ks a:=by obtain⟨_,its,r,o,h1,h2,⟨n,h3⟩,_⟩:=(show gP P w H h a (.tup (ks.map kV)) from ok a _ e);exact⟨o,its.toArray,n,h1,h2,h3,by simpa using Fq r⟩
theorem FW{kvs:List (List Key×V)}(ok:xO P w H h)(e:Rd H a (.dT kvs)):kvs.length<=sizeLine/\(a == sysModules)=false/\
  ∃xs,KT H kvs xs/\h.DictOfH (tupleKind (dM P w)) a xs:=by
 obtain⟨z,y,xs,r,o,es,ep,h1,h2,h3,h4,h5⟩:=(show gP P w H h a (.dT kvs) from aaL ok e);refine⟨z,y,xs,r,o,es,ep,h1,h2,h3,h4,λx hx=>?_,h5⟩;have all:∀{l:List (List Key×V)} {m:List (List Key×Addr×Value)},KT H l m->∀x∈m,(tupleKind (dM P w)).is h x.1 x.2.1:=by
  intro l m q
  induction q with
  | nil=>intro x hx;exact nomatch hx
  | @cons p q ps qs hq t ih=>
   intro x hx;rcases Qq5.mp hx with e|hx
   ·subst e;exact Ce ok (by rw[<-hq.1];exact hq.2.1)
   ·exact ih x hx
 exact all r x hx
theorem af4{kvs:List (List Key×V)}(ok:xO P w H h)(e:H a=some (.dT kvs)):kvs.length<=sizeLine/\(a == sysModules)=false/\
  ∃xs,KT H kvs xs/\h.DictOfH (tupleKind (dM P w)) a xs:=FW ok (.inl e)
end
def Lw(H:Hp)(a:Addr)(y:V)(r:Option V):Prop:=
 (∃kvs k,Rd H a (.dK kvs)/\y=kV k/\r=uW kvs k)\/∃kvs k b,Rd H a (.dT kvs)/\y = .ref b/\H b=some (.tup (k.map kV))/\r=uW kvs k
def Xn(H:Hp)(a:Addr)(y v:V)(H':Hp):Prop:=
 (∃kvs k,H a=some (.dK kvs)/\y=kV k/\kvs.length<sizeLine/\H'=upd H a (.dK (putK kvs k v)))\/
 ∃kvs k b,H a=some (.dT kvs)/\y = .ref b/\H b=some (.tup (k.map kV))/\kvs.length<sizeLine/\H'=upd H a (.dT (putK kvs k v))
theorem Xn.k{H:Hp}{a:Addr}{kvs:List (Key×V)}{k:Key}{v:V}(e:H a=some (.dK kvs))(hl:kvs.length<sizeLine):Xn H a (kV k) v (upd H a (.dK (putK kvs k v))):=.inl ⟨kvs,k,e,rfl,hl,rfl⟩
section
variable{X:Cx}{pins:List (Addr×Obj)}{σ:St}{H:Hp}{s:Shared}{a:Addr}{y v:V}{u r:Value}{o:Option V}{A:Around}{E:Value->Shared->Prop}
theorem Inv.big(I:Inv X pins σ H s):sysModules<s.heap.objs.size:=by have h:mainGlobals<s.heap.objs.size:=(I.mod.glob.keeps I.bk).lt;exact Nat.lt_trans (by decide) h
theorem S6{Q:Value->Shared->Prop}(hu:A.units+1<cLine)(I:Inv X pins σ H s)(g:Lw H a y (some v))(ry:RelV y u)(h:∀w' s',Inv X pins σ H s'->RelV v w'->Q w' s') :
  wpAny (model X.prog X.w) A (getItem (.ref a) u) Q E s:=by
 rcases g with ⟨kvs,k,e,ey,l⟩|⟨kvs,k,b,e,ey,eb,l⟩
 ·subst ey;obtain⟨z,hd,vs,rel,dd⟩:=CZ I.hok e;obtain⟨w',hw,MJ⟩:=xM.some_of (v:=v) (o:=valueAt vs k) (by rw[l];exact rel.val k);exact wpAny_getItem_of (Ci ry) dd.mapOf hw (h w' _ (I.tok _) MJ)
 ·subst ey;cases(show u=Value.ref b from ry);obtain⟨z,hd,xs,rel,dd⟩:=FW I.hok e;obtain⟨w',hw,MJ⟩:=xM.some_of (v:=v) (o:=(atKey xs k).map (·.2)) (by rw[l];exact rel.val k);obtain⟨p,hp,hp2⟩:=Qww.mp hw;refine wpAny_getItem_heap (tupleKind_room_in1 hu) (Ce I.hok eb) dd hp ?_;rw[hp2];exact h w' _ (I.tok _) MJ
theorem ZS{Q:Value->Shared->Prop}(hu:A.units+1<cLine)(I:Inv X pins σ H s)(g:Lw H a y o)(ry:RelV y u)(h:∀s',Inv X pins σ H s'->Q (.bool (!o.isSome)) s') :
  wpAny (model X.prog X.w) A (compareOp .NotIn u (.ref a)) Q E s:=by
 rcases g with ⟨kvs,k,e,ey,l⟩|⟨kvs,k,b,e,ey,eb,l⟩
 ·subst ey;obtain⟨z,hd,vs,rel,dd⟩:=CZ I.hok e;refine wpAny_notIn_of (Ci ry) hd dd.mapOf ?_;rw[<-(rel.val k).qI,<-l];exact h _ (I.tok _)
 ·subst ey;cases(show u=Value.ref b from ry);obtain⟨z,hd,xs,rel,dd⟩:=FW I.hok e;refine wpAny_notIn_heap (tupleKind_room_in1 hu) (Ce I.hok eb) hd dd ?_;have q:=(rel.val k).qI;rw[Option.isSome_map] at q;rw[<-q,<-l];exact h _ (I.tok _)
theorem xA{h':Heap}{t':Nat}{ob:HO}(I:Inv X pins σ H s)(mu:Mut (H a))(hs:Heap.SameBut a s.heap h')(he:∃q,h'.get? a=some q)(new:gP X.prog X.w (upd H a ob) h' a ob) :
  Inv X pins σ (upd H a ob) { s with heap:=h',toks:=t' }:=
 I.write (x:=a) (e:=a) mu (.inl rfl) (λb q hb z=>(hs.2 b hb).trans z) he new
theorem WN{P:Program}{w:World}{H':Hp}{h':Heap}{kvs:List (Key×V)}{vs:List (Key×Value)}(z:kvs.length<=sizeLine)(hd:(a == sysModules)=false)(rel:KV kvs vs)(dd:h'.DictOf (dM P w) a vs) :
  gP P w H' h' a (.dK kvs):=⟨z,hd,vs,rel,dd⟩
theorem S5{H':Hp}{Q:Unit->Shared->Prop}(hu:A.units+1<cLine)(I:Inv X pins σ H s)(g:Xn H a y v H')(ry:RelV y u)(rv:RelV v r)(h:∀s',Inv X pins σ H' s'->Q () s') :
  wpAny (model X.prog X.w) A (setItem (.ref a) u r) Q E s:=by
 rcases g with ⟨kvs,k,e,ey,l,eH⟩|⟨kvs,k,b,e,ey,eb,l,eH⟩
 ·subst ey eH;obtain⟨z,hd,vs,rel,dd⟩:=aa8 I.hok e;have hz:vs.length<=sizeLine:=by rw[<-rel.length];exact z
  have hl:(putK kvs k v).length<=sizeLine:=by have:=pM kvs k v;omega
  refine wpAny_setItem_pairs (hsz:=hz) (Ci ry) dd λh' WQ hs=>h _ ?_;have he:∃q,h'.get? a=some q:=let ⟨q,_,_,hq,_⟩:=WQ;⟨q,hq⟩
  exact xA I (by rw[e];exact True.intro) hs he (WN hl hd (rel.put k rv) WQ)
 ·subst ey eH;cases(show u=Value.ref b from ry);obtain⟨z,hd,xs,rel,dd⟩:=af4 I.hok e;have hz:xs.length<=sizeLine:=by rw[<-Paired.length rel];exact z
  have hl:(putK kvs k v).length<=sizeLine:=by have:=pM kvs k v;omega
  refine wpAny_setItem_heap (hsz:=hz) (tupleKind_room_in1 hu) (Ce I.hok eb) dd λh' WQ hs=>h _ ?_;obtain⟨q,es,ep,hq,h2,h3,h4,_,h5⟩:=WQ;refine xA I (by rw[e];exact True.intro) hs ⟨q,hq⟩ ⟨hl,hd,_,(rel.put k eb rv).keeps λc ys ec=>?_,q,es,ep,hq,h2,h3,h4,h5⟩;rw[bI (afy ec e (λz=>nomatch z))];exact ec
end
def Oo(i:Expr):Prop:=∀ov iv,subscripted i false ov iv=operate [ov,iv] (getItem ov iv)
theorem O4{prog:Program}{w:World}{A:Around}{E:Value->Shared->Prop}{s:Shared}{env:Env}{value slice:Expr}{pos:Pos}{T id:String}{Q:Value->Shared->Prop}
  (hl:typeLookup (.type T) "__getitem__" = pure (some (.builtin id))) (hs:Oo slice)
  (h:wpAny (model prog w) A (eval value env) (λo s₁=>wpAny (model prog w) A (eval slice env) (λi s₂=>s₂.TypeIs o T/\wpAny (model prog w) A (getItem o i) Q E s₂) E s₁) E s) :
  wpAny (model prog w) A (eval (.Subscript value slice pos) env) Q E s:=by
 refine Subscript_ (Qj5 h (λo s₁ h₁=>Qj5 h₁ (λi s₂ h₂=>?_) λ_ _ x=>x) λ_ _ x=>x);obtain⟨hT,h₂⟩:=h₂;unfold subscriptTail;refine Qqx ?_;rw[getitemInPython_of_ne hT.not_modules];refine Qqx (wpAny_specialOf hT hl ?_);have fin:wpAny (model prog w) A (subscripted slice false o i) (λr s₃=>wpAny (model prog w) A (letTemporaryGo value o r >>= λ_=>pure r) Q E s₃) E s₂:=by rw[hs o i];exact wpAny_operating (Qj5 h₂ (λr s₃ h₃=>Qqx (wpAny_letTemporaryGo (Qq1 h₃))) λ_ _ x=>x)
 first
  | exact Qq1 (Qqx fin)
  | exact Qqx (Qq1 (Qqx fin))
  | exact Qqx fin
theorem KR{X:Cx}{pins:List (Addr×Obj)}{σ:St}{H:Hp}{s:Shared}{a:Addr}{y:V}{o:Option V}(I:Inv X pins σ H s)(g:Lw H a y o):s.TypeIs (.ref a) "dict":=by
 rcases g with ⟨kvs,k,e,_,_⟩|⟨kvs,k,b,e,_,_,_⟩
 ·obtain⟨_,_,vs,_,dd⟩:=CZ I.hok e;exact dd.typeIs
 ·obtain⟨_,_,xs,_,dd⟩:=FW I.hok e;exact dd.typeIs
def aeD(td ty:TE):TE:=λσ H Q=>td σ H λx H1=>ty σ H1 λy H2=>∃a v,x = .ref a/\Lw H2 a y (some v)/\Q v H2
def aeJ(td ty tv:TE):TS:=λD σ H=>tv σ H λv H1=>td σ H1 λx H2=>ty σ H2 λy H3=>∃a H4,x = .ref a/\Xn H3 a y v H4/\D.nx σ H4
section
variable{X:Cx}{o i e value:Expr}{pos pos' tpos:Pos}{td ty tv:TE}
theorem YB(hu:X.A.units+1<cLine)(ho:PE X o td)(hi:PE X i ty)(hs:Oo i):PE X (.Subscript o i pos) (aeD td ty):=by intro pins s σ H Q I h;refine O4 PySem.F.slot_dict_getitem.lookup hs (gm (ho pins s σ H _ I h) λu s1 ⟨x,H1,I1,rx,q1⟩=>gm (hi pins s1 σ H1 _ I1 q1) λiv s2 ⟨y,H2,I2,ry,a,v,ex,g,q2⟩=>?_);subst ex;obtain rfl:u=Value.ref a:=rx;exact⟨KR I2 g,S6 hu I2 g ry λw' s3 I3 MJ=>⟨v,H2,I3,MJ,q2⟩⟩
theorem Yp(hu:X.A.units+1<cLine)(ho:PE X o td)(hi:PE X i ty)(hv:PE X value tv)(hs:swapsWith value (some (.Subscript o i pos')) pos.line X.env=pure false) :
  PS X (.Assign [.Subscript o i pos'] value pos) (aeJ td ty tv):=by
 intro pins s σ H D I h;refine wpAny_Assign_Subscript (gm (hv pins s σ H _ I h) λr s1 ⟨v,H1,I1,rv,q1⟩=>gm (ho pins s1 σ H1 _ I1 q1) λu s2 ⟨x,H2,I2,rx,q2⟩=>gm (hi pins s2 σ H2 _ I2 q2) λiv s3 ⟨y,H3,I3,ry,a,H4,ex,g,q3⟩=>?_) hs;subst ex;obtain rfl:u=Value.ref a:=rx;exact S5 hu I3 g ry rv λs4 I4=>⟨σ,H4,I4,q3⟩
end
theorem KQ{P:Program}{w:World}{H:Hp}(h:Heap)(hb:sysModules<h.objs.size):gP P w H (h.push { cls:=.type "dict",data:=.dict #[] }) h.objs.size (.dK []):=
 ⟨Qx3 _,Qx7.mpr (Ne.symm (Qw7 hb)),[],.nil,Heap.DictOf.new h⟩
def abF:TE:=λ_ H Q=>∀p,H p=none->Q (.ref p) (upd H p (.dK []))
section
variable{X:Cx}{pos:Pos}
theorem VD:PE X (.Dict [] [] pos) abF:=λpins s σ H Q I h=>
 wpAny_Dict_empty ⟨.ref s.heap.objs.size,_,I.laid (a:=s.heap.objs.size) (o:=.dK []) (t':=s.toks) (λ_ _ q=>Qqz _ q) (Qqw _) (KQ s.heap I.big),rfl,h _ (I.hok.fresh (Qqw _))⟩
end
def Mt:List (TE×TE)->St->Hp->(List (V×V)->Hp->Prop)->Prop
 | [],_,H,Q=>Q [] H
 | (tk,tv)::r,σ,H,Q=>tk σ H λx H1=>tv σ H1 λy H2=>Mt r σ H2 λps H3=>Q ((x,y)::ps) H3
abbrev VV:List (V×V)->List (Value×Value)->Prop:=Paired λp q=>RelV p.1 q.1/\RelV p.2 q.2
def PPs(X:Cx)(pos:Pos)(keys:List (Option Expr))(values:List Expr)(Xy:List (TE×TE)):Prop:=
 ∀(pins:List (Addr×Obj)) (s:Shared) (σ:St) (H:Hp) (Q:List (V×V)->Hp->Prop),Inv X pins σ H s->Mt Xy σ H Q->
  wpAny (model X.prog X.w) X.A (evalPairs (pairTrees keys values X.env pos)) (λvs s'=>∃ps H',Inv X pins σ H' s'/\VV ps vs/\Q ps H') X.xe s
theorem Yq{X:Cx}{pos:Pos}:PPs X pos [] [] []:=λpins s σ H Q I h=>pairTrees_nil_walk ⟨[],H,I,.nil,h⟩
theorem Vs{X:Cx}{pos:Pos}{k v:Expr}{ks:List (Option Expr)}{vs:List Expr}{tk tv:TE}{Xy:List (TE×TE)}(hk:PE X k tk)(hv:PE X v tv)(hr:PPs X pos ks vs Xy) :
  PPs X pos (some k::ks) (v::vs) ((tk,tv)::Xy):=λpins s σ H Q I h=>
 pairTrees_cons_walk (gm (hk pins s σ H _ I h) λu s1 ⟨x,H1,I1,rx,q1⟩=>gm (hv pins s1 σ H1 _ I1 q1) λw2 s2 ⟨y,H2,I2,ry,q2⟩=>
  gm (hr pins s2 σ H2 _ I2 q2) λws s3 ⟨ps,H3,I3,rel,q3⟩=>⟨(x,y)::ps,H3,I3,.cons ⟨rx,ry⟩ rel,q3⟩)
def yD(kvs more:List (Key×V)):List (Key×V):=more.foldl (λacc kv=>putK acc kv.1 kv.2) kvs
theorem KV.merge:∀{more:List (Key×V)} {rs:List (Key×Value)} {kvs:List (Key×V)} {vs:List (Key×Value)},KV more rs->KV kvs vs->KV (yD kvs more) (merged vs rs):=by
 intro more rs kvs vs r;unfold KV at r
 induction r generalizing kvs vs with
 | nil=>intro q;exact q
 | @cons p q ps qs h t ih=>
  intro r0;have e:KV (putK kvs p.1 p.2) (stored vs q.1 q.2):=by have:=r0.put p.1 h.2;rw[<-h.1];exact this
  exact ih e
theorem uO:∀(more kvs:List (Key×V)),(yD kvs more).length<=kvs.length+more.length
 | [],kvs=>by show kvs.length<=kvs.length+0;omega
 | p::r,kvs=>by
  have h1:=uO r (putK kvs p.1 p.2);have h2:=pM kvs p.1 p.2;show(yD (putK kvs p.1 p.2) r).length<=_;rw[Qqv];omega
theorem Dh{P:Program}{w:World}:∀{kvs:List (Key×V)} {ws:List (Value×Value)},VV (kvs.map λkv=>(kV kv.1,kv.2)) ws->∃rs,Carries (dM P w) ws rs/\KV kvs rs
 | [],_,r=>by rw[List.map_nil] at r;cases r;exact⟨[],True.intro,.nil⟩
 | p::kvs,_,r=>by
  rw[Qq2] at r;cases r with
  | @cons a b as bs h t=>
   obtain⟨rs,c,q⟩:=Dh (P:=P) (w:=w) t;obtain⟨b1,b2⟩:=b;exact⟨(p.1,b2)::rs,⟨Ci h.1,rfl,c⟩,.cons ⟨rfl,h.2⟩ q⟩
def aaG(Xy:List (TE×TE)):TE:=λσ H Q=>∀p,H p=none->Mt Xy σ (upd H p (.dK [])) λps H2=>H2 p=some (.dK [])/\∃kvs:List (Key×V),ps=kvs.map (λkv=>(kV kv.1,kv.2))/\kvs.length<=15/\Q (.ref p) (upd H2 p (.dK (yD [] kvs)))
theorem Yz{X:Cx}{pos:Pos}{keys:List (Option Expr)}{values:List Expr}{Xy:List (TE×TE)}(h:PPs X pos keys values Xy)(hall:keys.all (·.isSome)=true)(hl:keys.length=values.length)(h0:keys≠[])
  (h15:keys.length<=15):PE X (.Dict keys values pos) (aaG Xy):=by
 intro pins s σ H Q I q;have hn:=I.hok.fresh (Qqw s.heap.objs.size);have I1:=I.laid (a:=s.heap.objs.size) (o:=.dK []) (h':=s.heap.push { cls:=.type "dict",data:=.dict #[] }) (t':=s.toks) (λ_ _ q=>Qqz _ q) (Qqw _) (KQ s.heap I.big);refine wpAny_Dict_walk (knd:=dM X.prog X.w) hall hl h0 h15 (gm (h pins _ σ _ _ I1 (q _ hn)) λws s2 ⟨ps,H2,I2,rel,e,kvs,ep,lk,q2⟩=>?_);subst ep;obtain⟨rs,c,rk⟩:=Dh (P:=X.prog) (w:=X.w) rel;obtain⟨z,hd,vs0,r0,dd⟩:=aa8 I2.hok e;cases r0;refine⟨rs,c,dd,λh' WQ hs=>⟨.ref s.heap.objs.size,_,?_,rfl,q2⟩⟩;have hz:(yD [] kvs).length<=sizeLine:=by have h1:=uO kvs [];rw[Qx8] at h1;rw[sizeLine_eq];omega
 have he:∃q,h'.get? s.heap.objs.size=some q:=let ⟨q,_,_,hq,_⟩:=WQ;⟨q,hq⟩
 exact xA I2 (by rw[e];exact True.intro) hs he (WN hz hd (rk.merge .nil) WQ)
structure M2(X:Cx)(o:Expr)(m:Str)(apos:Pos)(e f:Expr)(cpos:Pos):Prop where
 base:attributeBase o m X.env (eval o X.env)=eval o X.env
 few:((backTo cpos (starEach [e,f] X.env)).all (λx=>!x.1)&&(backToKw cpos (keywordEach [] X.env)).all (λx=>x.1.isSome)
  && decide (([e,f]:List Expr).length+([]:List Keyword).length+(if ([]:List Keyword).isEmpty then 0 else 1)<30))=true
 line:(apos.endLine == cpos.line)=true
 trees:backTo cpos (starEach [e,f] X.env)=[(false,eval e X.env),(false,eval f X.env)]
def IsD(H:Hp)(a:Addr):Prop:=(∃kvs,Rd H a (.dK kvs))\/∃kvs,Rd H a (.dT kvs)
theorem adl{X:Cx}{pins:List (Addr×Obj)}{σ:St}{H:Hp}{s:Shared}{a:Addr}(I:Inv X pins σ H s)(d:IsD H a) :
  s.TypeIs (.ref a) "dict"/\(∀b,Value.ref a = .ref b->∃ob,s.heap.get? b=some ob/\ob.dict=none)/\(a == sysModules)=false:=by
 rcases d with ⟨kvs,e⟩|⟨kvs,e⟩
 ·obtain⟨_,hd,vs,_,dd⟩:=CZ I.hok e;refine⟨dd.typeIs,λb q=>?_,hd⟩;cases q;obtain⟨ob,_,_,h1,h2,_⟩:=dd;exact⟨ob,h1,h2.2.1⟩
 ·obtain⟨_,hd,xs,_,dd⟩:=FW I.hok e;refine⟨dd.typeIs,λb q=>?_,hd⟩;cases q;obtain⟨ob,_,_,h1,h2,_⟩:=dd;exact⟨ob,h1,h2.2.1⟩
section
variable{X:Cx}{pins:List (Addr×Obj)}{σ:St}{H:Hp}{s:Shared}{a:Addr}{y d:V}{u r:Value}{o:Option V}{A:Around}{E:Value->Shared->Prop}
theorem adQ{Q:Value->Shared->Prop}(hu:A.units+1<cLine)(I:Inv X pins σ H s)(g:Lw H a y o)(ry:RelV y u)(rd:RelV d r)(h:∀w' s',Inv X pins σ H s'->RelV (o.getD d) w'->Q w' s') :
  wpAny (model X.prog X.w) A (call (.builtin "dict.get") [.ref a,u,r]) Q E s:=by
 rcases g with ⟨kvs,k,e,ey,l⟩|⟨kvs,k,b,e,ey,eb,l⟩
 ·subst ey;obtain⟨z,hd,vs,rel,dd⟩:=CZ I.hok e;refine call_meetsIn PySem.F.slot_dict_get dd.typeIs PySem.F.entry_dict_get (PySem.F.args_dict_get_3 _ _ _) (meets_dict_get_default (dM X.prog X.w) a (Ci ry) hd r) ⟨_,dd.mapOf,h _ _ (I.tok _) ?_⟩;rw[l];exact(rel.val k).getD rd
 ·subst ey;cases(show u=Value.ref b from ry);obtain⟨z,hd,xs,rel,dd⟩:=FW I.hok e;refine call_meetsIn PySem.F.slot_dict_get dd.typeIs PySem.F.entry_dict_get (PySem.F.args_dict_get_3 _ _ _) (meetsH_dict_get_default (tupleKind (dM X.prog X.w)) a b hd r) ⟨tupleKind_room_in1 hu,k,xs,Ce I.hok eb,dd,h _ _ (I.tok _) ?_⟩;rw[l];exact(rel.val k).getD rd
end
def abG(td ty tx:TE):TE:=λσ H Q=>td σ H λx H1=>∃a,x = .ref a/\IsD H1 a/\ty σ H1 λy H2=>tx σ H2 λz H3=>∃o,Lw H3 a y o/\Q (o.getD z) H3
section
variable{X:Cx}{o e f:Expr}{apos cpos:Pos}{td ty tx:TE}
theorem VG(hu:X.A.units+1<cLine)(ho:PE X o td)(he:PE X e ty)(hf:PE X f tx)(m:M2 X o "get" apos e f cpos):PE X (.Call (.Attribute o "get" apos) [e,f] [] cpos) (abG td ty tx):=by
 intro pins s σ H Q I h;refine wpAny_Call_method m.base m.few m.line PySem.F.plainAttrs_dict PySem.F.slot_dict_get PySem.F.type_dict_get (gm (ho pins s σ H _ I h) λu s1 ⟨x,H1,I1,rx,a,ex,d,q1⟩=>?_);subst ex;obtain rfl:u=Value.ref a:=rx;obtain⟨t1,t2,_⟩:=adl I1 d;refine⟨t1,t2,?_⟩;rw[m.trees];refine Calls.callWith_builtin rfl (Calls.evalArgs_plain (Calls.spliced_cons (gm (he pins s1 σ H1 _ I1 q1) λiv s2 ⟨y,H2,I2,ry,q2⟩=>
  Calls.spliced_cons (gm (hf pins s2 σ H2 _ I2 q2) λfv s3 ⟨z,H3,I3,rz,ov,g,q3⟩=>Calls.spliced_nil ?_))))
 exact adQ hu I3 g ry rz λw' s4 I4 MJ=>⟨_,H3,I4,MJ,q3⟩
end
def pD(env:Env):List (Str×NameKind)->List (Str×Addr)->List (Str×Addr)
 | [],acc=>acc
 | (n,k)::r,acc=>if k == .free then pD env r ((n,(env.cells.lookup n).getD 0)::acc) else pD env r acc
theorem De{env:Env}(f:Str×NameKind->List (Str×Addr)->Sem (ForInStep (List (Str×Addr))))
  (hf:∀n k cs,f (n,k) cs=if k == .free then (do let a <-cellOf env n;pure (.yield ((n,a)::cs))) else pure (.yield cs)) :
  ∀(names:List (Str×NameKind)) (acc:List (Str×Addr)),(∀n,(n,NameKind.free)∈names->∃c,env.cells.lookup n=some c)->forIn names acc f=pure (pD env names acc)
 | [],acc,_=>by rw[Qky];rfl
 | (n,k)::r,acc,h=>by
  have ih:=De f hf r;have hr:∀n,(n,NameKind.free)∈r->∃c,env.cells.lookup n=some c:=λm hm=>h m (Qqj _ hm);rw[Qk7,hf];cases hk:k == NameKind.free with
  | true=>
   have hk':k = .free:=by simpa using hk
   obtain⟨c,hc⟩:=h n (by rw[hk'];exact Qqk);rw[if_pos rfl];unfold cellOf;rw[hc];simp only[pure_bind];rw[ih _ hr]
   conv=>rhs;unfold pD
   rw[if_pos hk,hc]
   rfl
  | false=>
   rw[if_neg (by simp)];simp only[pure_bind];rw[ih _ hr]
   conv=>rhs;unfold pD
   rw[if_neg (by simp[hk])]
theorem Df{scope:Scope}{env:Env}(h:∀n,(n,NameKind.free)∈scope.names->∃c,env.cells.lookup n=some c):closureFor scope env=pure (pD env scope.names []):=by
 simp only[closureFor];rw[De (env:=env) _ (λn k cs=>by cases hk:k == NameKind.free<;>simp[hk]) _ _ h]
 rfl
theorem xC{env:Env}:∀(names:List (Str×NameKind)) (acc:List (Str×Addr)) (x:Str) (c:Addr),(∀n,(n,NameKind.free)∈names->∃c,env.cells.lookup n=some c)->
  (∀y d,acc.lookup y=some d->env.cells.lookup y=some d)->(pD env names acc).lookup x=some c->env.cells.lookup x=some c
 | [],acc,x,c,_,ha,h=>ha x c h
 | (n,k)::r,acc,x,c,hn,ha,h=>by
  have hr:∀n,(n,NameKind.free)∈r->∃c,env.cells.lookup n=some c:=λm hm=>hn m (Qqj _ hm);unfold pD at h;split at h
  ·rename_i hk;have hk':k = .free:=by simpa using hk
   obtain⟨d,hd⟩:=hn n (by rw[hk'];exact Qqk);refine xC r _ x c hr (λy e he=>?_) h;rw[Qzk] at he;cases hy:y == n with
   | true=>
    rw[hy] at he;have e1:y=n:=by simpa using hy
    rw[e1,hd];rw[hd] at he;exact he
   | false=>
    rw[hy] at he;exact ha y e he
  ·exact xC r acc x c hr ha h
theorem yN{env:Env}:∀(names:List (Str×NameKind)) (acc:List (Str×Addr)) (x:Str),(acc.lookup x).isSome=true->((pD env names acc).lookup x).isSome=true
 | [],acc,x,h=>h
 | (n,k)::r,acc,x,h=>by
  unfold pD;split
  ·refine yN r _ x ?_;rw[Qzk];split
   ·rfl
   ·exact h
  ·exact yN r acc x h
theorem xB{env:Env}:∀(names:List (Str×NameKind)) (acc:List (Str×Addr)) (x:Str),(x,NameKind.free)∈names->((pD env names acc).lookup x).isSome=true
 | [],acc,x,h=>nomatch h
 | (n,k)::r,acc,x,h=>by
  unfold pD;rcases Qq5.mp h with e|h
  ·obtain⟨e1,e2⟩:=Prod.mk.inj e;subst e1 e2;rw[if_pos (by rfl)];refine yN r _ x ?_;rw[Qzk];simp
  ·split
   ·exact xB r _ x h
   ·exact xB r acc x h
theorem gM:∀(names:List (Str×NameKind)) (n:Nat) (acc:List (Str×Addr)),cellsFrom n names acc=cellsFrom n names []++acc
 | [],n,acc=>rfl
 | (x,k)::r,n,acc=>by
  unfold cellsFrom;split
  ·rw[gM r (n+1) ((x,n)::acc),gM r (n+1) [(x,n)],Qxk]
   rfl
  ·exact gM r n acc
theorem qj:∀(names:List (Str×NameKind)) (n:Nat) (x:Str) (c:Addr),(x,c)∈cellsFrom n names []->(x,NameKind.cell)∈names
 | [],n,x,c,h=>nomatch h
 | (y,k)::r,n,x,c,h=>by
  unfold cellsFrom at h;split at h
  ·rename_i hk;have hk':k = .cell:=by simpa using hk
   rw[gM] at h;rcases Qw6.mp h with h|h
   ·exact Qqj _ (qj r _ x c h)
   ·have e:=Qq6.mp h;cases e;rw[hk'];exact Qqk
  ·exact Qqj _ (qj r _ x c h)
theorem rC{α:Type}:∀(l m:List (Str×α)) (x:Str),(l++m).lookup x=match l.lookup x with|some v=>some v|none=>m.lookup x
 | [],m,x=>rfl
 | (k,v)::r,m,x=>by
  rw[List.cons_append,Qzk,Qzk];cases h:x == k with
  | true=>rfl
  | false=>exact rC r m x
theorem tM{α:Type}:∀(l:List (Str×α)) (x:Str),(∀v,(x,v) ∉ l)->l.lookup x=none
 | [],x,_=>rfl
 | (k,v)::r,x,h=>by
  rw[Qzk];cases e:x == k with
  | true=>
   have e':x=k:=by simpa using e
   exact absurd (by rw[e'];exact Qqk) (h v)
  | false=>exact tM r x λw hw=>h w (Qqj _ hw)
theorem lookup_mem{α:Type}:∀(l:List (Str×α)) (x:Str) (v:α),l.lookup x=some v->(x,v)∈l
 | [],x,v,h=>nomatch h
 | (k,w)::r,x,v,h=>by
  rw[Qzk] at h;cases e:x == k with
  | true=>
   rw[e] at h;cases h;have e':x=k:=by simpa using e
   rw[e'];exact Qqk
  | false=>
   rw[e] at h;exact Qqj _ (lookup_mem r x v h)
theorem jB{α:Type}:∀(l:List (Str×α)) (x:Str) (v:α),(l.map (·.1)).Nodup->(x,v)∈l->l.lookup x=some v
 | [],x,v,_,h=>nomatch h
 | (k,w)::r,x,v,nd,h=>by
  rw[Qzk];have nd':=Qx9.mp nd;rcases Qq5.mp h with e|h
  ·cases e;simp
  ·have hne:¬x=k:=λe=>nd'.1 (by rw[<-e];exact Qwz.mpr ⟨(x,v),h,rfl⟩);have hb:(x == k)=false:=by simpa using hne
   rw[hb];exact jB r x v nd'.2 h
theorem JW{M:Model}{A:Around}{E:Value->Shared->Prop}{s:Shared}{scope:Scope}{globals:Addr}{cl:List (Str×Addr)}{qual:Str}{outer:Env}{Q:Env->Shared->Prop}
  (hQ:∀h',h'.Ns s.heap.objs.size (λ_=>none)->(∀b o,s.heap.get? b=some o->h'.get? b=some o)->CellsOk h' (s.heap.objs.size+1) (cellsFrom (s.heap.objs.size+1) scope.names [])->
   Q { scope,locals:=s.heap.objs.size,globals,cells:=cellsFrom (s.heap.objs.size+1) scope.names cl,qual,func:=none,code:=outer.code,frame:=outer.frame,builtins:=outer.builtins } { s with heap:=h' }) :
  wpAny M A (newFunctionEnv scope globals cl [] qual none .none (some outer)) Q E s:=by
 simp only[newFunctionEnv,Option.isSome_some,if_true];refine Qqx (wpAny_alloc ?_);refine Qqx (wpAny_layCells _ (λname kind cells=>by cases hkc:kind == NameKind.cell<;>simp[hkc]) _ _ _ _ ?_);have ok:=cellsFrom_ok scope.names (s.heap.push { cls:=.type "dict",data:=.dict #[] }) (s.heap.objs.size+1) [] ⟨λ_ _ hm=>(nomatch hm),List.Pairwise.nil⟩ (by rw[Qx5];exact Qqw _);rw[Qx5] at ok;rw[show({ s with heap:=s.heap.push { cls:=.type "dict",data:=.dict #[] } }:Shared).heap.objs.size=s.heap.objs.size+1 from Qx5 ..];refine Qqx ?_;rw[Qky];refine Qq1 (Qq1 (hQ _ ?_ ?_ ?_))
 ·exact(Heap.Ns.new s.heap (.type "dict")).keeps (pushCells_keeps _ _)
 ·exact λb o e=>pushCells_keeps _ _ b o (Qqz _ e)
 ·exact ok
def cxC(X:Cx)(scope:Scope)(N':List Str)(cells:List (Str×Addr))(C:Addr)(s0:Shared)(H0:Hp)(fp:List Addr):Cx:=
 { X with N:=N',s₀:=s0,H₀:=H0,env:=compEnvC scope cells C X.env,outer:=X.stack,stack:=X.stack,ex:=fp,fn:=λx=>decide (scope.names.lookup x=some .cell),pn:=[],xe:=λ_ _=>False }
theorem tL{env:Env}:∀(names:List (Str×NameKind)) (x:Str),
  (names.map λ(n,k)=>if (k == NameKind.free&&env.scope.kind == .function&&env.kindOf n == some .cell) then (n,NameKind.cell) else (n,k)).lookup x =
   (names.lookup x).map λk=>if (k == NameKind.free&&env.scope.kind == .function&&env.kindOf x == some .cell) then NameKind.cell else k
 | [],x=>rfl
 | (n,k)::r,x=>by
  show List.lookup x ((if (k == NameKind.free&&env.scope.kind == .function&&env.kindOf n == some .cell)=true then (n,NameKind.cell) else (n,k))::_)=_;cases hx:x == n with
  | true=>
   have e:x=n:=by simpa using hx
   subst e;simp only[Qzk,hx,Option.map_some];split<;>simp[Qzk]
  | false=>
   simp only[Qzk,hx];rw[<-tL r x];split<;>simp only[Qzk,hx]
def W0(names:List (Str×NameKind)):List Str->List Str->Bool
 | _,[]=>true
 | [],_::_=>false
 | x'::N',x::N=>((names.lookup x').isNone||(x' == x&&names.lookup x' == some .free))&&W0 names N' N
theorem K4{names:List (Str×NameKind)}:∀{N' N:List Str},W0 names N' N=true->∀(i:Nat) (x:Str),i<N.length->N'[i]? = some x->(names.lookup x).isSome=true->N[i]? = some x/\names.lookup x=some .free
 | _,[],_,i,x,h,_,_=>absurd h (Qk6 _)
 | [],_::_,h,_,_,_,_,_=>by cases h
 | x'::N',y::N,h,i,x,hi,e,hs=>by
  unfold W0 at h;have h1:=(Qk0.mp h).1;have h2:=(Qk0.mp h).2;cases i with
  | zero=>
   have e':x'=x:=by simpa using e
   subst e';rcases Bool.or_eq_true_iff.mp h1 with q|q
   ·cases z:names.lookup x' with
    | none=>rw[z] at hs;cases hs
    | some k=>rw[z] at q;cases q
   ·have q1:=(Qk0.mp q).1;have q2:=(Qk0.mp q).2;have e1:x'=y:=by simpa using q1
    have e2:names.lookup x'=some .free:=by simpa using q2
    exact⟨by rw[e1];rfl,e2⟩
  | succ i=>exact K4 h2 i x (by simpa using hi) (by simpa using e) hs
structure pC(X:Cx)(scope:Scope)(N':List Str):Prop where
 kind:scope.kind = .function
 nd:(scope.names.map (·.1)).Nodup
 free:∀x∈scope.names,x.2 = .free->X.env.kindOf x.1=some .cell\/X.env.kindOf x.1=some .free
 chk:W0 scope.names N' X.N=true
 len:X.N.length<=N'.length
def PIf(X:Cx)(ifs:List Expr)(t:TT):Prop:=
 ∀(pins:List (Addr×Obj)) (s:Shared) (σ:St) (H:Hp) (Q:Bool->Hp->Prop),Inv X pins σ H s->t σ H Q->
  wpAny (model X.prog X.w) X.A (forIn ifs true λc r=>if r=true then do let ok <-isTrue c X.env (eval c X.env);pure (ForInStep.yield ok) else pure (ForInStep.yield r)) (TP X pins σ Q) X.xe s
theorem Yu{X:Cx}:PIf X [] (λ_ H Q=>Q true H):=λpins s σ H Q I h=>by
 rw[Qky];exact Qq1 ⟨H,I,h⟩
theorem Yt{X:Cx}{c:Expr}{t:TT}(h:PT X c t):PIf X [c] t:=λpins s σ H Q I hw=>by
 rw[Qk7,if_pos rfl];refine Qqx (Qqx (gm (h pins s σ H Q I hw) λb s' q=>?_));refine Qq1 ?_;show wpAny _ _ (forIn [] b _) _ _ _;rw[Qky];exact Qq1 q
def wH(n:Nat)(σ:St):St:=σ++List.replicate n none
def tLC(n:Nat)(wi:TI)(g:TG)(tc:TT)(te:TE):TE:=λσ H Q=>wi σ H λJ H1=>∀d,H1 d=none->∃W:Nat->Nat->St->Hp->Prop,(∃m,W 0 m (wH (n - σ.length) σ) (upd H1 d (.lst [])))/\∀i m σ' H',W i m σ' H'->
 (J.stop i H'/\Q (.ref d) H')\/(J.go i H'/\∃N:St->Hp->Prop,(∀σ2 H2,N σ2 H2->∃m',m'<m/\W (i+1) m' σ2 H2)/\∀x H2,J.yld i H' x H2->g x σ' H2 λσ3 H3=>tc σ3 H3 λb H4=>
  if b=true then te σ3 H4 λy H5=>∃ys,H5 d=some (.lst ys)/\ys.length<sizeLine/\N σ3 (upd H5 d (.lst (ys++[y]))) else N σ3 H4)
section
variable{prog:Program}{w:World}{A:Around}{R:Result->Shared->Prop}{s:Shared}
theorem HF{elt target iter:Expr}{ifs:List Expr}{scope:Scope}{pos:Pos}{it acc:Value}{env:Env}(I:Nat->Shared->Prop)
  (turn:∀n s,I n s->wpAny (model prog w) A (pyNext it) (λr s₁=>match r with
   | none=>R (.ok .next) s₁
   | some v=>wpAny (model prog w) A (letOwnedTupleGo target it v) (λ_ s₁'=>wpAny (model prog w) A (assign target env v) (λ_ s₂=>
     wpAny (model prog w) A (forIn ifs true λc r=>if r=true then do let ok <-isTrue c env (eval c env);pure (ForInStep.yield ok) else pure (ForInStep.yield r)) (λok s₃=>
      if ok=true then wpAny (model prog w) A (eval elt env) (λx s₄=>
       wpAny (model prog w) A (call (.builtin "list.append") [acc,x]) (λ_ s₅=>∃m,m<n/\I m s₅) (λ_ _=>False) s₄) (λ_ _=>False) s₃
      else ∃m,m<n/\I m s₃) (λ_ _=>False) s₂) (λ_ _=>False) s₁') (λ_ _=>False) s₁) (λ_ _=>False) s)
  (n:Nat) (h:I n s) :
  codeAny (model prog w) A (.compLoop (.ListComp elt [⟨target,iter,ifs,0⟩] scope pos) 0 it acc env) R s:=by
 refine codeAny_loop rfl I (λn s hI=>?_) n h;show wpAny _ A ((compTurn (.ListComp elt [⟨target,iter,ifs,0⟩] scope pos) 0 it acc env).onRaise (λx=>do noteFrame x env;theTreesLotGoes x)) _ _ s;refine wpAny_noted ?_;rw[compTurn_list];refine Qqx (wpAny_standAt (Qqx (Qj5 (turn n s hI) (λr s₁ h₁=>?_) λ_ _ h'=>h'.elim)));cases r with
 | none=>exact Qq1 h₁
 | some v=>
  refine Qqx (Qj5 h₁ (λ_ s₁' h₁'=>?_) λ_ _ h'=>h'.elim);refine Qqx (Qj5 h₁' (λ_ s₂ h₂=>Qqx (Qj5 h₂ (λok s₃ h₃=>?_) λ_ _ h'=>h'.elim)) λ_ _ h'=>h'.elim);cases ok with
  | false=>exact Qq1 ⟨rfl,h₃⟩
  | true=>
   exact Qqx (Qqx (Qj5 h₃ (λx s₄ h₄=>Qqx (Qj5 h₄ (λ_ s₅ h₅=>Qq1 (Qq1 ⟨rfl,h₅⟩)) λ_ _ h'=>h'.elim)) λ_ _ h'=>h'.elim))
end
theorem Wm{X:Cx}{scope:Scope}{N':List Str}{pins:List (Addr×Obj)}{σ:St}{H:Hp}{s:Shared}{h':Heap}{fp:List Addr}(ok:pC X scope N')(I:Inv X pins σ H s)(hf:∀b∈fp,uL X pins H b)(hlt:∀b∈fp,b<s.heap.objs.size)
  (hn:h'.Ns s.heap.objs.size (λ_=>none)) (hk:∀b o,s.heap.get? b=some o->h'.get? b=some o) (co:CellsOk h' (s.heap.objs.size+1) (cellsFrom (s.heap.objs.size+1) scope.names [])) :
  Inv (cxC X scope N' (cellsFrom (s.heap.objs.size+1) scope.names (pD X.env scope.names [])) s.heap.objs.size s H fp) [] (wH (N'.length - σ.length) σ) H { s with heap:=h' }:=by
 have hfree:∀n,(n,NameKind.free)∈scope.names->∃c,X.env.cells.lookup n=some c:=λn hm=>I.ok.has n (ok.free _ hm rfl)
 -- the cells by name
 have rK:∀x c,(cellsFrom (s.heap.objs.size+1) scope.names (pD X.env scope.names [])).lookup x=some c->
   ((x,c)∈cellsFrom (s.heap.objs.size+1) scope.names []/\(cellsFrom (s.heap.objs.size+1) scope.names []).lookup x=some c)\/((cellsFrom (s.heap.objs.size+1) scope.names []).lookup x=none/\X.env.cells.lookup x=some c):=λx c e=>by
  rw[gM,rC] at e;cases q:(cellsFrom (s.heap.objs.size+1) scope.names []).lookup x with
  | some d=>rw[q] at e;cases e;exact .inl ⟨lookup_mem _ _ _ q,rfl⟩
  | none=>rw[q] at e;exact .inr ⟨rfl,xC _ _ x c hfree (λy d h=>by simp at h) e⟩
 have Bx:∀x c,(x,c)∈cellsFrom (s.heap.objs.size+1) scope.names []->s.heap.objs.size+1<=c:=λx c h=>(co.empty x c h).2;have VJ:∀x c,X.env.cells.lookup x=some c->c<s.heap.objs.size:=λx c h=>let ⟨v,q⟩:=I.cell x c h;q.lt
 have Hn:∀x,(relabel scope X.env).names.lookup x=(scope.names.lookup x).map λk=>if (k == NameKind.free&&X.env.scope.kind == .function&&X.env.kindOf x == some .cell) then NameKind.cell else k:=λx=>tL _ _
 have Ke:∀x,(x,NameKind.cell)∈scope.names->∃c,(cellsFrom (s.heap.objs.size+1) scope.names []).lookup x=some c:=λx hx=>by
  have q:=PySem.W.cellsFrom_some scope.names (s.heap.objs.size+1) [] (.inl (jB _ _ _ ok.nd hx));exact Qjx.mp q
 have fpC:∀b∈fp,∀x c,(cellsFrom (s.heap.objs.size+1) scope.names (pD X.env scope.names [])).lookup x=some c->c≠b:=λb hb x c e=>by
  rcases rK x c e with ⟨h1,_⟩|⟨_,h2⟩
  ·have h3:=Bx x c h1;have h4:=hlt b hb;rintro rfl;exact absurd (Qwq h4 (Qvq h3)) (Qzj _)
  ·exact(hf b hb).2.2.2.2.1 x c h2
 refine⟨⟨I.ok.mod,ok.kind,I.ok.glob,I.ok.blt,Qqw _,λx y c h1 h2=>?_,λx hx=>?_,λx c hx e=>?_,I.ok.hd,I.ok.frames,.inl rfl,λb hb=>⟨Qw7 (hlt b hb),λx c e=>fpC b hb x c e⟩,I.bs,Qq0 I.ok.bsz I.sz,λb o e hb=>?_,λb hb=>?_,I.stack,I.O5⟩,
  rfl,I.bare,Un.kept hk,⟨_,hn,λi x v e1 e2 e3=>?_⟩,λx c e=>?_,I.hok.fresh (Qqw _),λx c e=>?_,λp hp=>absurd (show p∈([]:List (Addr×Obj)) from hp) (by simp),I.hok.kept hk,?_⟩
 ·-- one name a cell
  rcases rK x c h1 with ⟨p1,_⟩|⟨_,p2⟩
  ·rcases rK y c h2 with ⟨q1,_⟩|⟨_,q2⟩
   ·exact name_of_addr co.apart p1 q1
   ·exact absurd (Qwq (VJ y c q2) (Qvq (Bx x c p1))) (Qzj _)
  ·rcases rK y c h2 with ⟨q1,_⟩|⟨_,q2⟩
   ·exact absurd (Qwq (VJ x c p2) (Qvq (Bx y c q1))) (Qzj _)
   ·exact I.ok.inj x y c p2 q2
 ·-- each cell name has one
  show ∃c,(cellsFrom (s.heap.objs.size+1) scope.names (pD X.env scope.names [])).lookup x=some c;have hx:(relabel scope X.env).names.lookup x=some .cell\/(relabel scope X.env).names.lookup x=some .free:=hx;rw[Hn] at hx;cases q:scope.names.lookup x with
  | none=>rw[q] at hx;rcases hx with hx|hx<;>cases hx
  | some k=>
   rw[q] at hx;rw[gM,rC];cases z:(cellsFrom (s.heap.objs.size+1) scope.names []).lookup x with
   | some d=>exact⟨d,rfl⟩
   | none=>
    have hkf:k = .free:=by
     cases k with
     | free=>rfl
     | cell=>obtain⟨c,hc⟩:=Ke x (lookup_mem _ _ _ q);rw[hc] at z;cases z
     | _=>rcases hx with hx|hx<;>simp at hx
    subst hkf;exact Qjx.mp (xB _ _ x (lookup_mem _ _ _ q))
 ·-- its own cells are new
  have hx':scope.names.lookup x=some .cell:=Qxw hx;rcases rK x c e with ⟨p1,_⟩|⟨p1,_⟩
  ·exact Qvq (Bx x c p1)
  ·obtain⟨d,hd⟩:=Ke x (lookup_mem _ _ _ hx');rw[hd] at p1;cases p1
 ·rcases(hf b hb).2.2.2.1 with z|z
  ·exact I.ok.V3 b o e z
  ·have h1:=Qwj e;have h2:=I.ok.bsz;exact absurd (Qwq h1 (Qq0 h2 z)) (Qzj _)
 ·intro hm;rcases Qq5.mp (I.Mv b hm) with z|z
  ·exact(hf b hb).2.1 z
  ·exact(hf b hb).2.2.1 z
 ·-- the names
  have hiσ:i<σ.length:=by
   by_cases hi:i<σ.length
   ·exact hi
   ·unfold wH at e2;rw[Qx0 (by omega),Qz5] at e2;split at e2<;>cases e2
  have e2':σ[i]? = some (some v):=by
   unfold wH at e2
   rwa [Qxq hiσ] at e2
  have vis:(scope.names.lookup x).isSome=true:=by
   have e3:(relabel scope X.env).names.lookup x=some .local\/(relabel scope X.env).names.lookup x=some .cell\/(relabel scope X.env).names.lookup x=some .free:=e3;rw[Hn] at e3;cases q:scope.names.lookup x with
   | none=>rw[q] at e3;rcases e3 with z|z|z<;>cases z
   | some k=>rfl
  obtain⟨hN,hfr⟩:=K4 ok.chk i x (by rw[<-I.len];exact hiσ) e1 vis;have hm:=lookup_mem _ _ _ hfr;have hkk:=ok.free _ hm rfl;obtain⟨m,hns,hl⟩:=I.loc;obtain⟨u,ru,lk⟩:=hl i x v hN e2' (hkk.elim (λz=>.inr (.inl z)) λz=>.inr (.inr z));refine⟨u,ru,.inr ⟨?_,?_⟩⟩
  ·show(relabel scope X.env).names.lookup x=some .cell\/(relabel scope X.env).names.lookup x=some .free;rw[Hn,hfr];by_cases hc:(NameKind.free == NameKind.free&&X.env.scope.kind == .function&&X.env.kindOf x == some .cell)=true
   ·left;rw[Option.map_some,if_pos hc]
   ·right;rw[Option.map_some,if_neg hc]
  ·rcases lk with ⟨hl1,_⟩|⟨_,c,hc,hcell⟩
   ·rcases hkk with z|z<;>(rw[z] at hl1;cases hl1)
   ·refine⟨c,?_,hcell.keeps hk⟩;show(cellsFrom (s.heap.objs.size+1) scope.names (pD X.env scope.names [])).lookup x=some c;rw[gM,rC];have hno:(cellsFrom (s.heap.objs.size+1) scope.names []).lookup x=none:=tM _ _ λd hd=>by
     have h1:=jB _ _ _ ok.nd (qj _ _ _ _ hd);rw[hfr] at h1;cases h1
    rw[hno];obtain⟨d,hd⟩:=Qjx.mp (xB (env:=X.env) scope.names [] x hm);have h2:=xC _ _ x d hfree (λy d h=>by simp at h) hd;rw[hc] at h2;show(pD X.env scope.names []).lookup x=some c;rw[hd,h2]
 ·rcases rK x c e with ⟨p1,_⟩|⟨_,p2⟩
  ·exact⟨_,(co.empty x c p1).1⟩
  ·obtain⟨v,q⟩:=I.cell x c p2;exact⟨v,q.keeps hk⟩
 ·rcases rK x c e with ⟨p1,_⟩|⟨p0,p2⟩
  ·exact .inl (I.hok.fresh (Qvq (Bx x c p1)))
  ·rcases I.xj x c p2 with z|⟨_,z⟩
   ·exact .inl z
   ·refine .inr ⟨?_,z⟩;show decide (scope.names.lookup x=some .cell)=false;refine Qwk λq=>?_;obtain⟨d,hd⟩:=Dg (n:=s.heap.objs.size+1) q;rw[p0] at hd;cases hd
 ·show(wH (N'.length - σ.length) σ).length=N'.length;unfold wH;rw[Qqy,Qzz];have h1:=ok.len;have h2:=I.len;omega
abbrev lR(X:Cx)(scope:Scope)(N':List Str)(X':Cx):Prop:=
 ∃(cells:List (Str×Addr)) (C:Addr) (s0:Shared) (H0:Hp) (fp:List Addr),X'=cxC X scope N' cells C s0 H0 fp
theorem Ga{X:Cx}{elt tg iter:Expr}{ifs:List Expr}{scope:Scope}{N':List Str}{pos:Pos}{g:TG}{tc:TT}{te:TE}{use:Option (Value->Sem Unit)}{QQ:Value->Shared->Prop}
  (ok:pC X scope N') (hc:X.calm=true)
  (bg:∀X',lR X scope N' X'->PG X' tg g) (bc:∀X',lR X scope N' X'->PIf X' ifs tc) (be:∀X',lR X scope N' X'->PE X' elt te)
  {pins:List (Addr×Obj)} {s2:Shared} {σ:St} {H2:Hp} {Q:VK} {it:Addr} {fp:List Addr} {tn:Nat->Heap->Prop} {J:It} (I2:Inv X pins σ H2 s2) (T:Turn X.prog X.w X.K tg J fp it tn) (st2:tn 0 s2.heap) (f2:∀b∈fp,uL X pins H2 b)
  (q:∀d,H2 d=none->∃W:Nat->Nat->St->Hp->Prop,(∃m,W 0 m (wH (N'.length - σ.length) σ) (upd H2 d (.lst [])))/\∀i m σ' H',W i m σ' H'->
   (J.stop i H'/\Q (.ref d) H')\/(J.go i H'/\∃N:St->Hp->Prop,(∀σ2 H2,N σ2 H2->∃m',m'<m/\W (i+1) m' σ2 H2)/\∀x H2,J.yld i H' x H2->g x σ' H2 λσ3 H3=>tc σ3 H3 λb H4=>
    if b=true then te σ3 H4 λy H5=>∃ys,H5 d=some (.lst ys)/\ys.length<sizeLine/\N σ3 (upd H5 d (.lst (ys++[y]))) else N σ3 H4))
  (fin:∀d C m s' H',Inv X pins σ H' s'->Q (.ref d) H'->s'.heap.Ns C m->H' C=none->C≠X.env.locals->X.s₀.heap.objs.size<=C->(∀x c,X.env.cells.lookup x=some c->c≠C)->(∀p∈X.pn++pins,p.1≠C)->
   compPost (model X.prog X.w) X.A X.xe use QQ (.ref d) C (.ok .next) s') :
  wpAny (model X.prog X.w) X.A (newList []) (λacc s₃=>wpAny (model X.prog X.w) X.A (newFunctionEnv scope X.env.globals (pD X.env scope.names []) [] X.env.qual none .none (some X.env)) (λcenv s₄=>
   codeAny (model X.prog X.w) X.A (.compStart (.ListComp elt [⟨tg,iter,ifs,0⟩] scope pos) 0 (.ref it) acc { cenv with scope:=relabel scope X.env }) (compPost (model X.prog X.w) X.A X.xe use QQ acc cenv.locals) s₄) X.xe s₃) X.xe s2:=by
 have hd2:H2 s2.heap.objs.size=none:=I2.fresh;refine Qj8 (JW λh' hns hkeep hco=>?_)
 -- the state behind the list
 obtain⟨W,⟨m0,w0⟩,turn⟩:=q s2.heap.objs.size hd2;have I3:Inv X pins σ (upd H2 s2.heap.objs.size (.lst [])) { s2 with heap:=s2.heap.push { cls:=.type "list",data:=.seq ([]:List Value).toArray } }:=I2.ac6 (t':=s2.toks) .nil (Qx3 _);have PL:∀b∈fp,b<s2.heap.objs.size:=λb hb=>by
  obtain⟨o,e,_⟩:=T.obj _ _ st2 b hb;exact Qwj e
 have f3:∀b∈fp,uL X pins (upd H2 s2.heap.objs.size (.lst [])) b:=λb hb=>by
  refine⟨?_,(f2 b hb).2⟩;rw[bI (Qw7 (PL b hb))];exact(f2 b hb).1
 have lt3:∀b∈fp,b<({ s2 with heap:=s2.heap.push { cls:=.type "list",data:=.seq ([]:List Value).toArray } }:Shared).heap.objs.size:=λb hb=>by
  show b<(s2.heap.push _).objs.size;rw[Qx5];exact Qk9 (PL b hb)
 have st3:tn 0 h':=T.keep _ _ _ st2 λb hb o e=>hkeep b o (Qqz _ e);have I4:=Wm (fp:=fp) ok I3 f3 lt3 hns hkeep hco;generalize hs3:({ s2 with heap:=s2.heap.push { cls:=.type "list",data:=.seq ([]:List Value).toArray } }:Shared)=s3 at *;have sz3:s3.heap.objs.size=s2.heap.objs.size+1:=by rw[<-hs3];exact Qx5 ..
 generalize hX':cxC X scope N' (cellsFrom (s3.heap.objs.size+1) scope.names (pD X.env scope.names [])) s3.heap.objs.size s3 (upd H2 s2.heap.objs.size (.lst [])) fp=X' at I4;have at':lR X scope N' X':=⟨_,_,_,_,_,hX'.symm⟩;have hg:=bg X' at';have hif:=bc X' at';have he:=be X' at';have eP:X'.prog=X.prog:=by rw[<-hX'];rfl
 have eW:X'.w=X.w:=by rw[<-hX'];rfl
 have eK:X'.K=X.K:=by rw[<-hX'];rfl
 have eA:X'.A=X.A:=by rw[<-hX'];rfl
 have eC:X'.calm=true:=by rw[<-hX'];exact hc
 have eX:X'.xe=λ_ _=>False:=by rw[<-hX'];rfl
 have ePn:X'.pn=[]:=by rw[<-hX'];rfl
 have eEx:X'.ex=fp:=by rw[<-hX'];rfl
 have eL:X'.env.locals=s3.heap.objs.size:=by rw[<-hX'];rfl
 have eFs:X'.fs=frs X.stack:=by rw[<-hX'];rfl
 have ahS:compEnvC scope (cellsFrom (s3.heap.objs.size+1) scope.names (pD X.env scope.names [])) s3.heap.objs.size X.env=X'.env:=by rw[<-hX'];rfl
 have eS0:X'.s₀=s3:=by rw[<-hX'];rfl
 have eH0:X'.H₀=upd H2 s2.heap.objs.size (.lst []):=by rw[<-hX'];rfl
 -- what is true of the iterator's objects in the block
 have stat:∀{H':Hp},(∀b∈fp,H' b=none)->∀b∈fp,uL X' [] H' b:=λ{H'} hn b hb=>by
  refine⟨hn b hb,?_,?_,.inl (by rw[eEx];exact hb),λx c e=>?_,λp hp=>?_⟩
  ·rw[eL];exact Qw7 (lt3 b hb)
  ·have:=I4.ok.Wz b (by rw[eEx];exact hb);exact this
  ·exact(I4.ok.exf b (by rw[eEx];exact hb)).2 x c e
  ·rw[ePn] at hp;exact absurd hp (by simp)
 -- the outer context again
 have back:∀σ' H' s',Inv X' [] σ' H' s'->Inv X pins σ H' s':=λσ' H' s' J'=>by
  have hb:=J'.base;rw[eFs,eEx,eS0,eH0] at hb;have hos:=J'.os;rw[eS0] at hos;have hok:=J'.hok;rw[eP,eW] at hok;exact I3.call' (ch:=fp) hos hb hok J'.bare λb hbm=>⟨(f3 b hbm).2.2.2.1,(f3 b hbm).2.1,(f3 b hbm).2.2.2.2.1,(f3 b hbm).2.2.2.2.2⟩
 have loop:∀s4:Shared,s4 = { s3 with heap:=h' }->codeAny (model X.prog X.w) X.A (.compLoop (.ListComp elt [⟨tg,iter,ifs,0⟩] scope pos) 0 (.ref it) (.ref s2.heap.objs.size) X'.env) (compPost (model X.prog X.w) X.A X.xe use QQ (.ref s2.heap.objs.size) s3.heap.objs.size) s4:=by
  rintro s4 rfl;refine HF (λn s'=>∃i σ' H',Inv X' [] σ' H' s'/\tn i s'.heap/\(∀b∈fp,H' b=none)/\W i n σ' H') ?_ m0 ⟨0,_,_,I4,st3,λb hb=>(f3 b hb).1,w0⟩;rintro n s5 ⟨i,σ5,H5,I5,st5,fr5,w5⟩;rcases turn i n σ5 H5 w5 with ⟨stop,qn⟩|⟨go,N,hN,step⟩
  ·have td:=T.done X' eP eW eK eC i [] s5 σ5 H5 (λ_ _=>False) I5 (stat fr5) st5 stop;rw[eA] at td;refine gm td λr s6 ⟨hr,I6⟩=>?_;subst hr;obtain⟨mC,hnC,_⟩:=id I6.loc;rw[eL] at hnC;have lc:X.env.locals<s3.heap.objs.size:=by
    have:=I3.lt;exact this
   refine fin _ _ mC s6 H5 (back _ _ _ I6) qn hnC ?_ (Qjv lc) I3.sz (λx c e=>?_) (λp hp=>?_)
   ·have:=I6.free;rw[eL] at this;exact this
   ·obtain⟨v,z⟩:=I3.cell x c e;exact Qw7 z.lt
   ·exact Qw7 (Qwj (I3.pin p hp).1)
  ·have ti:=T.item X' eP eW eK eC i [] s5 σ5 H5 (λ_ _=>False) I5 (stat fr5) st5 go;rw[eA] at ti;refine gm ti λr s6 ⟨u,hr,h6⟩=>?_;subst hr;refine gm h6 λ_ s7 ⟨x,H7,I7,r7,y7,st7,fr7⟩=>?_;have I7':=I7.pinned (stat fr7) (T.obj _ _ st7);have hg':=hg _ s7 σ5 H7 x u _ I7' r7 (step x H7 y7);rw[eP,eW,eA,eX] at hg';refine gm hg' λ_ s8 ⟨σ8,H8,I8,q8⟩=>?_;have afW:=hif _ s8 σ8 H8 _ I8 q8;rw[eP,eW,eA,eX] at afW;refine gm afW λb s9 ⟨H9,I9,q9⟩=>?_;have again:∀{σz:St} {Hz:Hp} {sz:Shared},Inv X' ([]++Bu fp s7.heap) σz Hz sz->N σz Hz->∃m,m<n/\∃i σ' H',Inv X' [] σ' H' sz/\tn i sz.heap/\(∀b∈fp,H' b=none)/\W i m σ' H':=λ{σz Hz sz} Iz nz=>by
    obtain⟨m',hm,wz⟩:=hN σz Hz nz;refine⟨m',hm,i+1,σz,Hz,Iz.vQ,T.keep _ _ _ st7 λb hb o e=>(Iz.pin (b,o) (Qx1 _ (Qx1 _ (rB hb e)))).1,λb hb=>?_,wz⟩;obtain⟨o,e,d⟩:=T.obj _ _ st7 b hb;exact(Iz.pin (b,o) (Qx1 _ (Qx1 _ (rB hb e)))).2.1
   cases b with
   | false=>
    rw[if_neg Qxx] at q9 ⊢;exact again I9 q9
   | true=>
    rw[if_pos rfl] at q9 ⊢;have he':=he _ s9 σ8 H9 _ I9 q9;rw[eP,eW,eA,eX] at he';refine gm he' λy sa ⟨yv,Ha,Ia,ra,ys,hys,hlen,qa⟩=>?_;have ap:=Fj (X:=X') _ sa σ8 Ha (.ref s2.heap.objs.size) [yv] (.ref s2.heap.objs.size) [y] (λv H'=>v = .non/\N σ8 H') Ia rfl (.cons ra .nil) ⟨_,ys,yv,rfl,rfl,hys,hlen,rfl,qa⟩;rw[eP,eW,eA,eX] at ap;refine gm ap λ_ sb ⟨vb,Hb,Ib,rb,_,nb⟩=>?_;exact again Ib nb
 show codeAny _ _ (.compStart _ 0 (.ref it) (.ref s2.heap.objs.size) (compEnvC scope (cellsFrom (s3.heap.objs.size+1) scope.names (pD X.env scope.names [])) s3.heap.objs.size X.env)) (compPost (model X.prog X.w) X.A X.xe use QQ (.ref s2.heap.objs.size) s3.heap.objs.size) _;rw[ahS];exact codeAny_compStart_list (loop _ rfl) (T.self X.A 0 _ _ _ st3 (loop _ rfl))
theorem afg{X:Cx}{elt tg iter:Expr}{ifs:List Expr}{scope:Scope}{N':List Str}{pos:Pos}{wi:TI}{g:TG}{tc:TT}{te:TE}
  (ok:pC X scope N') (hc:X.calm=true) (hi:PI X tg iter wi)
  (bg:∀X',lR X scope N' X'->PG X' tg g) (bc:∀X',lR X scope N' X'->PIf X' ifs tc) (be:∀X',lR X scope N' X'->PE X' elt te)
  (hs:∀x,foldedSetIterable iter X.env x=pure x:=by intro _;rfl) :
  PE X (.ListComp elt [⟨tg,iter,ifs,0⟩] scope pos) (tLC N'.length wi g tc te):=by
 intro pins s σ H Q I h;rw[eval_ListComp];have hfree:∀n,(n,NameKind.free)∈scope.names->∃c,X.env.cells.lookup n=some c:=λn hm=>I.ok.has n (ok.free _ hm rfl);refine wpAny_comprehension_free (use:=none) rfl hs (Df hfree) ok.kind (λx hx hl=>jB _ _ _ ok.nd (by rw[<-hl];exact hx)) ?_;refine gm (hi pins s σ H _ I h) λv s1 h1=>gm h1 λitv s2 h2=>?_;obtain⟨it,fp,tn,J,H2,e,I2,T,st2,f2,q⟩:=h2;subst e;refine Ga ok hc bg bc be I2 T st2 f2 q λd C m s' H' I' hq hn hC hL h0 hcell hpin=>?_;refine⟨m,hn,λh' hs'=>?_⟩;have I'':Inv X pins σ H' { s' with heap:=h',toks:=s'.toks }:=I'.turned (it:=C) (λb o hb e=>(hs'.2 b hb).trans e) hC hL (.inr h0) hcell hpin;exact⟨.ref d,H',I'',rfl,hq⟩
theorem Vn{X:Cx}{elt tg iter:Expr}{ifs:List Expr}{scope:Scope}{N':List Str}{pos spos py:Pos}{wi:TI}{g:TG}{tc:TT}{te:TE}{i:Nat}{y:Str}
  (ok:pC X scope N') (hc:X.calm=true) (hi:PI X tg iter wi)
  (bg:∀X',lR X scope N' X'->PG X' tg g) (bc:∀X',lR X scope N' X'->PIf X' ifs tc) (be:∀X',lR X scope N' X'->PE X' elt te)
  (hN:X.N.Nodup) (hy:X.N[i]? = some y) (hx:Loc X.env.scope y)
  (hsw:swapsWith (.ListComp elt [⟨tg,iter,ifs,0⟩] scope pos) (some (.Name y py)) spos.line X.env=pure true)
  (hf:X.fn y=true\/X.env.scope.names.lookup y=some .local:=by first|exact .inl rfl|exact .inr rfl|assumption)
  (hs:∀x,foldedSetIterable iter X.env x=pure x:=by intro _;rfl) :
  PS X (.Assign [.Name y py] (.ListComp elt [⟨tg,iter,ifs,0⟩] scope pos) spos) (XH (tLC N'.length wi g tc te) (Kl i)):=by
 intro pins s σ H D I h;rw[exec_Assign_Name_used _ _ _ _ hsw];refine Qqx (wpAny_standAt (Qqx ?_));have hfree:∀n,(n,NameKind.free)∈scope.names->∃c,X.env.cells.lookup n=some c:=λn hm=>I.ok.has n (ok.free _ hm rfl);show wpAny _ X.A (do let _ <-comprehension (.ListComp elt [⟨tg,iter,ifs,0⟩] scope pos) scope X.env _ (newList []) false (eval iter X.env) (some (assign (.Name y py) X.env))) _ _ s;refine Qqx (Qj5 (wpAny_comprehension_free (use:=some (assign (.Name y py) X.env)) (Q:=λ_ s'=>SP X pins D .next s') rfl hs (Df hfree) ok.kind (λx hx hl=>jB _ _ _ ok.nd (by rw[<-hl];exact hx)) ?_) (λ_ s' hq=>Qq1 (Qq1 hq)) λ_ _ e=>e);refine gm (hi pins s σ H _ I h) λv s1 h1=>gm h1 λitv s2 h2=>?_;obtain⟨it,fp,tn,J,H2,e,I2,T,st2,f2,q⟩:=h2;subst e;refine Ga (Q:=λx H1=>Kl i x σ H1 D.nx) ok hc bg bc be I2 T st2 f2 q λd C m s' H' I' hq hn hC hL h0 hcell hpin=>?_;refine wpAny_assign_Name (Ep (v:=.ref d) I' hN hy hx rfl (λs'' I'' sb=>?_) hf);obtain⟨a,hsb,ha⟩:=sb;have haC:C≠a:=by
  rcases ha with z|z
  ·rw[z];exact hL
  ·exact(hcell y a z).symm
 refine⟨m,hn.sameBut hsb haC,λh' hs'=>?_⟩;have I3:Inv X pins (σ.set i (some (.ref d))) H' { s'' with heap:=h',toks:=s''.toks }:=I''.turned (it:=C) (λb o hb e=>(hs'.2 b hb).trans e) hC hL (.inr h0) hcell hpin;exact⟨_,H',I3,hq⟩
end L2
namespace Ev
open PySem PySem.Spec PyProof.Rows L2
inductive D where
 | non
 | bl (b:Bool)
 | int (i:Int)
 | str (x:List Nat)
 | tup (xs:List D)
 | lst (xs:List D)
 | arr (xs:List D)
 | dct (kvs:List (D×D))
 | fG (kvs:List (D×D))
 | clo (st:Stmt) (ds:List D)
 deriving Inhabited
abbrev Fg:=PySem.W.Frag
def strOf(x:List Nat):Str:=⟨x.toArray⟩
def ou:D->Option Key
 | .int i=>some (.inl i)
 | .str x=>some (.inr (strOf x))
 | _=>none
mutual
def oM:D->Option NK
 | .int i=>some (.num i)
 | .bl b=>some (.num (if b then 1 else 0))
 | .str x=>some (.txt (strOf x))
 | .tup xs=>(o7 xs).map .tup
 | _=>none
def o7:List D->Option (List NK)
 | []=>some []
 | d::ds=>match oM d,o7 ds with
  | some k,some ks=>some (k::ks)
  | _,_=>none
end
def defName(s:Stmt):Str:=match s with
 | .FunctionDef n _ _ _ _ _ _ _ _ _=>n
 | _=>""
def freeOf(s:Stmt):List Str:=(((aU s).names.filter (·.2 == .free)).map (·.1)).reverse
def aee(F:Hp)(c:Addr)(v:V):Prop:=∃(o:Obj) (u:HO) (w:Value),F c=some (.Kq o u)/\o.data = .cell (some w)/\RelV v w
def An(F:Hp):List (Str×Addr)->List V->Prop
 | [],vs=>vs=[]
 | (_,c)::r,vs=>∃v vs',vs=v::vs'/\aee F c v/\An F r vs'
def aed(F:Hp)(c:Addr)(q:Str):Prop:=∃(o:Obj) (u:HO) (vs:Array Value) (t:Tok),F c=some (.Kq o u)/\o.data = .fields vs/\vs[1]? = some (.str q t)
def Clo(F:Hp)(st:Stmt)(a:Addr)(vs:List V):Prop:=∃(u:HO) (q:Str) (cl:List (Str×Addr)) (doc pm ctv:Value) (c:Addr),
 F a=some (.Kq (PySem.W.fnMade (defName st) q (lO st) (gk st) (aU st) cl doc pm c ctv) u)/\aed F c q/\cl.map (·.1)=freeOf st/\(cl.map (·.2)).Nodup/\An F cl vs
theorem aW.cells{F F':Hp}(e:aW F F'):∀{cl:List (Str×Addr)} {vs:List V},An F cl vs->An F' cl vs
 | [],_,h=>h
 | (_,c)::r,_,⟨v,vs',h0,⟨o,u,w,h1,h2⟩,h3⟩=>⟨v,vs',h0,⟨o,u,w,e _ _ h1,h2⟩,aW.cells e h3⟩
theorem aW.clo{F F':Hp}{st:Stmt}{a:Addr}{vs:List V}(e:aW F F')(h:Clo F st a vs):Clo F' st a vs:=by obtain⟨u,q,cl,doc,pm,ctv,c,h1,⟨o,u2,ws,t,h2,h3⟩,h4,h5,h6⟩:=h;exact⟨u,q,cl,doc,pm,ctv,c,e _ _ h1,⟨o,u2,ws,t,e _ _ h2,h3⟩,h4,h5,aW.cells e h6⟩
mutual
def Rep(K:Fg)(F:Hp):D->V->Prop
 | .non,v=>v = .non
 | .bl b,v=>v = .bl b
 | .int i,v=>v = .int i
 | .str x,v=>v = .str (strOf x)/\x.length<=sizeLine
 | .tup xs,v=>xs.length<=sizeLine/\∃a vs,v = .ref a/\oE K F a vs/\bL K F xs vs
 | .lst xs,v=>xs.length<=sizeLine/\∃a vs,v = .ref a/\F a=some (.lst vs)/\bL K F xs vs
 | .arr xs,v=>xs.length<=sizeLine/\∃a vs,v = .ref a/\jR K F a vs/\bL K F xs vs
 | .dct kvs,v=>kvs.length<=sizeLine/\∃a ks,v = .ref a/\Rd F a (.dK ks)/\eF K F kvs ks
 | .fG kvs,v=>kvs.length<=sizeLine/\∃a ks,v = .ref a/\Rd F a (.dN ks)/\cZ K F kvs ks
 | .clo st ds,v=>∃a vs,v = .ref a/\Clo F st a vs/\bL K F ds vs
def bL(K:Fg)(F:Hp):List D->List V->Prop
 | [],vs=>vs=[]
 | d::ds,vs=>∃v r,vs=v::r/\Rep K F d v/\bL K F ds r
def eF(K:Fg)(F:Hp):List (D×D)->List (Key×V)->Prop
 | [],vs=>vs=[]
 | (k,d)::ds,vs=>∃q v r,vs=(q,v)::r/\ou k=some q/\Rep K F d v/\eF K F ds r
def cZ(K:Fg)(F:Hp):List (D×D)->List (NK×V×V)->Prop
 | [],vs=>vs=[]
 | (k,d)::ds,vs=>∃q u v r,vs=(q,u,v)::r/\oM k=some q/\q.dep<=8/\Rep K F k u/\Rep K F d v/\cZ K F ds r
end
theorem aW.rd{F F':Hp}{a:Addr}{u:HO}(e:aW F F')(h:Rd F a u):Rd F' a u:=by
 rcases h with h|⟨o,h⟩
 ·exact .inl (e _ _ h)
 ·exact .inr ⟨o,e _ _ h⟩
theorem aW.tupK{K:Fg}{F F':Hp}{a:Addr}{xs:List V}(e:aW F F')(h:oE K F a xs):oE K F' a xs:=by
 rcases h with h|h
 ·exact .inl (aW.rd e h)
 ·exact .inr h
mutual
theorem Rep.mono{K:Fg}{F F':Hp}(e:aW F F'):∀(d:D) (v:V),Rep K F d v->Rep K F' d v
 | .non,_,h=>h
 | .bl _,_,h=>h
 | .int _,_,h=>h
 | .str _,_,h=>h
 | .tup xs,v,h=>by
  obtain⟨z,a,vs,rfl,h1,h2⟩:=h;exact⟨z,a,vs,rfl,aW.tupK e h1,bL.mono e xs vs h2⟩
 | .lst xs,v,h=>by
  obtain⟨z,a,vs,rfl,h1,h2⟩:=h;exact⟨z,a,vs,rfl,e _ _ h1,bL.mono e xs vs h2⟩
 | .arr xs,v,h=>by
  obtain⟨z,a,vs,rfl,h1,h2⟩:=h;exact⟨z,a,vs,rfl,e.seq h1,bL.mono e xs vs h2⟩
 | .dct kvs,v,h=>by
  obtain⟨z,a,ks,rfl,h1,h2⟩:=h;exact⟨z,a,ks,rfl,aW.rd e h1,eF.mono e kvs ks h2⟩
 | .fG kvs,v,h=>by
  obtain⟨z,a,ks,rfl,h1,h2⟩:=h;exact⟨z,a,ks,rfl,aW.rd e h1,cZ.mono e kvs ks h2⟩
 | .clo st ds,v,h=>by
  obtain⟨a,vs,rfl,h1,h2⟩:=h;exact⟨a,vs,rfl,aW.clo e h1,bL.mono e ds vs h2⟩
theorem bL.mono{K:Fg}{F F':Hp}(e:aW F F'):∀(ds:List D) (vs:List V),bL K F ds vs->bL K F' ds vs
 | [],_,h=>h
 | d::ds,vs,h=>by
  obtain⟨v,r,rfl,h1,h2⟩:=h;exact⟨v,r,rfl,Rep.mono e d v h1,bL.mono e ds r h2⟩
theorem eF.mono{K:Fg}{F F':Hp}(e:aW F F'):∀(ds:List (D×D)) (vs:List (Key×V)),eF K F ds vs->eF K F' ds vs
 | [],_,h=>h
 | (k,d)::ds,vs,h=>by
  obtain⟨q,v,r,rfl,h0,h1,h2⟩:=h;exact⟨q,v,r,rfl,h0,Rep.mono e d v h1,eF.mono e ds r h2⟩
theorem cZ.mono{K:Fg}{F F':Hp}(e:aW F F'):∀(ds:List (D×D)) (vs:List (NK×V×V)),cZ K F ds vs->cZ K F' ds vs
 | [],_,h=>h
 | (k,d)::ds,vs,h=>by
  obtain⟨q,u,v,r,rfl,h0,h3,h4,h1,h2⟩:=h;exact⟨q,u,v,r,rfl,h0,h3,Rep.mono e k u h4,Rep.mono e d v h1,cZ.mono e ds r h2⟩
end
theorem bL.length{K:Fg}{F:Hp}:∀{ds:List D} {vs:List V},bL K F ds vs->vs.length=ds.length
 | [],_,h=>by cases h;rfl
 | d::ds,vs,h=>by
  obtain⟨v,r,rfl,_,h2⟩:=h;rw[Qqv,Qqv,h2.length]
theorem bL.get{K:Fg}{F:Hp}:∀{ds:List D} {vs:List V} {i:Nat} {d:D},bL K F ds vs->ds[i]? = some d->∃v,vs[i]? = some v/\Rep K F d v
 | [],_,_,_,_,e=>by simp at e
 | c::ds,vs,i,d,h,e=>by
  obtain⟨v,r,rfl,h1,h2⟩:=h;cases i with
  | zero=>simp at e;subst e;exact⟨v,rfl,h1⟩
  | succ i=>obtain⟨u,e1,e2⟩:=bL.get h2 (i:=i) (by simpa using e);exact⟨u,by simpa using e1,e2⟩
theorem bL.append{K:Fg}{F:Hp}:∀{ds es:List D} {vs ws:List V},bL K F ds vs->bL K F es ws->bL K F (ds++es) (vs++ws)
 | [],es,vs,ws,h,g=>by cases h;exact g
 | d::ds,es,vs,ws,h,g=>by
  obtain⟨v,r,rfl,h1,h2⟩:=h;exact⟨v,r++ws,rfl,h1,bL.append h2 g⟩
theorem bL.drop{K:Fg}{F:Hp}:∀(n:Nat) {ds:List D} {vs:List V},bL K F ds vs->bL K F (ds.drop n) (vs.drop n)
 | 0,_,_,h=>h
 | _+1,[],_,h=>by cases h;exact rfl
 | n+1,d::ds,vs,h=>by
  obtain⟨v,r,rfl,_,h2⟩:=h;exact bL.drop n h2
theorem bL.take{K:Fg}{F:Hp}:∀(n:Nat) {ds:List D} {vs:List V},bL K F ds vs->bL K F (ds.take n) (vs.take n)
 | 0,_,_,_=>rfl
 | _+1,[],_,h=>by cases h;exact rfl
 | n+1,d::ds,vs,h=>by
  obtain⟨v,r,rfl,h1,h2⟩:=h;exact⟨v,r.take n,rfl,h1,bL.take n h2⟩
theorem bL.set{K:Fg}{F:Hp}{d:D}{v:V}(hd:Rep K F d v):∀(i:Nat) {ds:List D} {vs:List V},bL K F ds vs->bL K F (ds.set i d) (vs.set i v)
 | _,[],_,h=>by cases h;exact rfl
 | 0,c::ds,vs,h=>by
  obtain⟨u,r,rfl,_,h2⟩:=h;exact⟨v,r,rfl,hd,h2⟩
 | i+1,c::ds,vs,h=>by
  obtain⟨u,r,rfl,h1,h2⟩:=h;exact⟨u,r.set i v,rfl,h1,bL.set hd i h2⟩
theorem bL.one{K:Fg}{F:Hp}{d:D}{v:V}(h:Rep K F d v):bL K F [d] [v]:=⟨v,[],rfl,h,rfl⟩
abbrev Env:=List (Option (Bool×D))
inductive R (α:Type) where
 | ok (a:α) (env:Env)
 | stuck
abbrev Ev:=Env->R D
abbrev gK:=Env->R Bool
abbrev d7:=Env->R (List D)
structure Cfg where
 K:Fg
 fx:Nat->Option Addr
def nD(K:Fg)(F H:Hp):D->Addr->Prop
 | .lst xs,a=>xs.length<=sizeLine/\∃vs,H a=some (.lst vs)/\bL K F xs vs
 | .dct kvs,a=>kvs.length<=sizeLine/\∃ks,H a=some (.dK ks)/\eF K F kvs ks
 | .fG kvs,a=>kvs.length<=sizeLine/\∃ks,H a=some (.dN ks)/\cZ K F kvs ks
 | _,_=>False
theorem nD.mono{K:Fg}{F F' H H':Hp}(e:aW F F'){d:D}{a:Addr}(k:H' a=H a)(h:nD K F H d a):nD K F' H' d a:=by
 cases d with
 | lst xs=>obtain⟨z,vs,h1,h2⟩:=h;exact⟨z,vs,k.trans h1,bL.mono e _ _ h2⟩
 | dct kvs=>obtain⟨z,ks,h1,h2⟩:=h;exact⟨z,ks,k.trans h1,eF.mono e _ _ h2⟩
 | fG kvs=>obtain⟨z,ks,h1,h2⟩:=h;exact⟨z,ks,k.trans h1,cZ.mono e _ _ h2⟩
 | _=>exact h
theorem nD.some{K:Fg}{F H:Hp}{d:D}{a:Addr}(h:nD K F H d a):∃o,H a=some o:=by
 cases d with
 | lst xs=>obtain⟨z,vs,h1,h2⟩:=h;exact⟨_,h1⟩
 | dct kvs=>obtain⟨z,ks,h1,h2⟩:=h;exact⟨_,h1⟩
 | fG kvs=>obtain⟨z,ks,h1,h2⟩:=h;exact⟨_,h1⟩
 | _=>exact h.elim
def iR(K:Fg)(F H:Hp)(d:D)(v:V):Prop:=Rep K F d v\/∃a,v = .ref a/\nD K F H d a
theorem iR.rep{K:Fg}{F H:Hp}{d:D}{v:V}(s:aW F H)(h:iR K F H d v):Rep K H d v:=by
 rcases h with h|⟨a,rfl,h⟩
 ·exact Rep.mono s d v h
 ·cases d with
  | lst xs=>obtain⟨z,vs,h1,h2⟩:=h;exact⟨z,a,vs,rfl,h1,bL.mono s _ _ h2⟩
  | dct kvs=>obtain⟨z,ks,h1,h2⟩:=h;exact⟨z,a,ks,rfl,.inl h1,eF.mono s _ _ h2⟩
  | fG kvs=>obtain⟨z,ks,h1,h2⟩:=h;exact⟨z,a,ks,rfl,.inl h1,cZ.mono s _ _ h2⟩
  | _=>exact h.elim
theorem iR.lst{K:Fg}{F H:Hp}{xs:List D}{v:V}(s:aW F H)(h:iR K F H (.lst xs) v):xs.length<=sizeLine/\∃a vs,v = .ref a/\H a=some (.lst vs)/\bL K F xs vs:=by
 rcases h with ⟨z,a,vs,rfl,h1,h2⟩|⟨a,rfl,z,vs,h1,h2⟩
 ·exact⟨z,a,vs,rfl,s _ _ h1,h2⟩
 ·exact⟨z,a,vs,rfl,h1,h2⟩
theorem iR.arr{K:Fg}{F H:Hp}{xs:List D}{v:V}(s:aW F H)(h:iR K F H (.arr xs) v):xs.length<=sizeLine/\∃a vs,v = .ref a/\jR K H a vs/\bL K F xs vs:=by
 rcases h with ⟨z,a,vs,rfl,h1,h2⟩|⟨a,rfl,h⟩
 ·exact⟨z,a,vs,rfl,s.seq h1,h2⟩
 ·exact h.elim
theorem iR.tup{K:Fg}{F H:Hp}{xs:List D}{v:V}(s:aW F H)(h:iR K F H (.tup xs) v):xs.length<=sizeLine/\∃a vs,v = .ref a/\oE K H a vs/\oE K F a vs/\bL K F xs vs:=by
 rcases h with ⟨z,a,vs,rfl,h1,h2⟩|⟨a,rfl,h⟩
 ·exact⟨z,a,vs,rfl,aW.tupK s h1,h1,h2⟩
 ·exact h.elim
theorem iR.int{K:Fg}{F H:Hp}{i:Int}{v:V}(h:iR K F H (.int i) v):v = .int i:=by
 rcases h with h|⟨a,rfl,h⟩
 ·exact h
 ·exact h.elim
theorem iR.bl{K:Fg}{F H:Hp}{i:Bool}{v:V}(h:iR K F H (.bl i) v):v = .bl i:=by
 rcases h with h|⟨a,rfl,h⟩
 ·exact h
 ·exact h.elim
theorem iR.non{K:Fg}{F H:Hp}{v:V}(h:iR K F H .non v):v = .non:=by
 rcases h with h|⟨a,rfl,h⟩
 ·exact h
 ·exact h.elim
theorem iR.str{K:Fg}{F H:Hp}{x:List Nat}{v:V}(h:iR K F H (.str x) v):v = .str (strOf x)/\x.length<=sizeLine:=by
 rcases h with h|⟨a,rfl,h⟩
 ·exact h
 ·exact h.elim
structure Rel(C:Cfg)(Pr F:Hp)(env:Env)(σ:L2.St)(H:Hp):Prop where
 pr:aW Pr H
 fr:aW F H
 len:env.length=σ.length
 val:∀(i:Nat) (d:D),env[i]? = some (some (false,d))->∃v,σ[i]? = some (some v)/\Rep C.K F d v
 own:∀(i:Nat) (d:D),env[i]? = some (some (true,d))->∃a,σ[i]? = some (some (V.ref a))/\nD C.K F H d a/\F a=none/\Pr a=none
 apart:∀(i j:Nat) (d e:D) (a:Addr),env[i]? = some (some (true,d))->env[j]? = some (some (true,e))->σ[i]? = some (some (V.ref a))->σ[j]? = some (some (V.ref a))->i=j
 dj:∀b o,F b=some o->Pr b=none
 fix:∀i a,C.fx i=some a->σ[i]? = some (some (V.ref a))
theorem oV{H:Hp}{a:Addr}{o:HO}(h:H a=none):aW H (upd H a o):=λb u e=>by
 rw[bI (fj e h)];exact e
theorem Rel.new{C:Cfg}{Pr F:Hp}{env:Env}{σ:L2.St}{H:Hp}{a:Addr}{o:HO}(r:Rel C Pr F env σ H)(h:H a=none):Rel C Pr (upd F a o) env σ (upd H a o)/\aW F (upd F a o):=by
 have hF:F a=none:=r.fr.free h;have s1:aW F (upd F a o):=oV hF;refine⟨⟨r.pr.trans (oV h),λb u e=>?_,r.len,λi d e1=>?_,λi d e1=>?_,r.apart,λb u e=>?_,r.fix⟩,s1⟩
 ·by_cases hb:b=a
  ·subst hb;rw[bf] at e ⊢;exact e
  ·rw[bI hb] at e ⊢;exact r.fr b u e
 ·obtain⟨v,h1,h2⟩:=r.val i d e1;exact⟨v,h1,Rep.mono s1 d v h2⟩
 ·obtain⟨b,h1,h2,h3,h4⟩:=r.own i d e1;obtain⟨u,hu⟩:=h2.some;have hb:b≠a:=fj hu h;exact⟨b,h1,h2.mono s1 (bI hb),by rw[bI hb];exact h3,h4⟩
 ·by_cases hb:b=a
  ·subst hb;exact r.pr.free h
  ·rw[bI hb] at e;exact r.dj b u e
theorem Rel.fresh{C:Cfg}{Pr F:Hp}{env:Env}{σ:L2.St}{H:Hp}{a:Addr}{o:HO}(r:Rel C Pr F env σ H)(h:H a=none):Rel C Pr F env σ (upd H a o):=by refine⟨r.pr.trans (oV h),r.fr.trans (oV h),r.len,r.val,λi d e1=>?_,r.apart,r.dj,r.fix⟩;obtain⟨b,h1,h2,h3,h4⟩:=r.own i d e1;obtain⟨u,hu⟩:=h2.some;have hb:b≠a:=fj hu h;exact⟨b,h1,h2.mono (aW.refl F) (bI hb),h3,h4⟩
theorem Rel.aside{C:Cfg}{Pr F:Hp}{env:Env}{σ:L2.St}{H:Hp}{a:Addr}{o:HO}(r:Rel C Pr F env σ H)(h:H a=none):Rel C (upd Pr a o) F env σ (upd H a o):=by
 have r':=r.fresh (o:=o) h;have hF:F a=none:=r.fr.free h;refine⟨λb u e=>?_,r'.fr,r.len,r.val,λi d e1=>?_,r.apart,λb u e=>?_,r.fix⟩
 ·by_cases hb:b=a
  ·subst hb;rw[bf] at e ⊢;exact e
  ·rw[bI hb] at e ⊢;exact r.pr b u e
 ·obtain⟨b,h1,h2,h3,h4⟩:=r'.own i d e1;obtain⟨b',h1',h2',_⟩:=r.own i d e1;rw[h1] at h1';cases h1';obtain⟨u,hu⟩:=h2'.some;have hb:b≠a:=fj hu h;exact⟨b,h1,h2,h3,by rw[bI hb];exact h4⟩
 ·have hb:b≠a:=λz=>by rw[z,hF] at e;cases e
  rw[bI hb];exact r.dj b u e
theorem Rel.turn{C:Cfg}{Pr F:Hp}{env:Env}{σ:L2.St}{H:Hp}{a:Addr}{o u:HO}(r:Rel C Pr F env σ H)(h:Pr a=some o):Rel C (upd Pr a u) F env σ (upd H a u):=by
 have hF:F a=none:=by
  cases e:F a with
  | none=>rfl
  | some w=>have:=r.dj a w e;rw[h] at this;cases this
 refine⟨λb w e=>?_,λb w e=>?_,r.len,r.val,λi d e1=>?_,r.apart,λb w e=>?_,r.fix⟩
 ·by_cases hb:b=a
  ·subst hb;rw[bf] at e ⊢;exact e
  ·rw[bI hb] at e ⊢;exact r.pr b w e
 ·have hb:b≠a:=λz=>by rw[z,hF] at e;cases e
  rw[bI hb];exact r.fr b w e
 ·obtain⟨b,h1,h2,h3,h4⟩:=r.own i d e1;have hb:b≠a:=λz=>by rw[z,h] at h4;cases h4
  exact⟨b,h1,h2.mono (aW.refl F) (bI hb),h3,by rw[bI hb];exact h4⟩
 ·have hb:b≠a:=λz=>by rw[z,hF] at e;cases e
  rw[bI hb];exact r.dj b w e
theorem Rel.less{C:Cfg}{Pr Pr' F:Hp}{env:Env}{σ:L2.St}{H:Hp}(r:Rel C Pr F env σ H)(s:aW Pr' Pr):Rel C Pr' F env σ H:=
 ⟨s.trans r.pr,r.fr,r.len,r.val,λi d e=>let ⟨b,h1,h2,h3,h4⟩:=r.own i d e;⟨b,h1,h2,h3,s.free h4⟩,r.apart,λb o e=>s.free (r.dj b o e),r.fix⟩
theorem Rel.freeze{C:Cfg}{Pr F:Hp}{env:Env}{σ:L2.St}{H:Hp}(r:Rel C Pr F env σ H){i:Nat}{d:D}(h:env[i]? = some (some (true,d))) :
  ∃(F':Hp) (v:V),Rel C Pr F' (env.set i (some (false,d))) σ H/\aW F F'/\σ[i]? = some (some v)/\Rep C.K F' d v:=by
 obtain⟨a,h1,h2,h3,h4⟩:=r.own i d h;obtain⟨o,ho⟩:=h2.some;have s1:aW F (upd F a o):=oV h3;have hi:i<env.length:=(Qq4.mp h).1;have rep:Rep C.K (upd F a o) d (.ref a):=by
  cases d with
  | lst xs=>obtain⟨z,vs,g1,g2⟩:=h2;rw[ho] at g1;cases g1;exact⟨z,a,vs,rfl,bf,bL.mono s1 _ _ g2⟩
  | dct kvs=>obtain⟨z,ks,g1,g2⟩:=h2;rw[ho] at g1;cases g1;exact⟨z,a,ks,rfl,.inl bf,eF.mono s1 _ _ g2⟩
  | fG kvs=>obtain⟨z,ks,g1,g2⟩:=h2;rw[ho] at g1;cases g1;exact⟨z,a,ks,rfl,.inl bf,cZ.mono s1 _ _ g2⟩
  | _=>exact h2.elim
 refine⟨upd F a o,.ref a,⟨r.pr,λb u e=>?_,by rw[Qzq];exact r.len,λj e he=>?_,λj e he=>?_,λj k e f b hj hk g1 g2=>?_,λb u e=>?_,r.fix⟩,s1,h1,rep⟩
 ·by_cases hb:b=a
  ·subst hb;rw[bf] at e;cases e;exact ho
  ·rw[bI hb] at e;exact r.fr b u e
 ·by_cases hj:j=i
  ·subst hj;rw[Qw3 hi] at he;cases he;exact⟨_,h1,rep⟩
  ·rw[Qw0 (Ne.symm hj)] at he;obtain⟨v,g1,g2⟩:=r.val j e he;exact⟨v,g1,Rep.mono s1 e v g2⟩
 ·by_cases hj:j=i
  ·subst hj;rw[Qw3 hi] at he;cases he
  ·rw[Qw0 (Ne.symm hj)] at he;obtain⟨b,g1,g2,g3,g4⟩:=r.own j e he;have hb:b≠a:=λz=>hj (r.apart j i e d a he h (by rw[<-z];exact g1) h1);exact⟨b,g1,g2.mono s1 rfl,by rw[bI hb];exact g3,g4⟩
 ·have nj:j≠i:=λz=>by subst z;rw[Qw3 hi] at hj;cases hj
  have nk:k≠i:=λz=>by subst z;rw[Qw3 hi] at hk;cases hk
  rw[Qw0 (Ne.symm nj)] at hj;rw[Qw0 (Ne.symm nk)] at hk;exact r.apart j k e f b hj hk g1 g2
 ·by_cases hb:b=a
  ·subst hb;exact h4
  ·rw[bI hb] at e;exact r.dj b u e
def tE(C:Cfg)(ev:Ev):TE:=λσ H Q=>∃(Pr F:Hp) (env env':Env) (d:D),Rel C Pr F env σ H/\ev env = .ok d env'/\
 ∀v H' F',Rel C Pr F' env' σ H'->aW F F'->Rep C.K F' d v->Q v H'
def tRd(C:Cfg)(ev:Ev):TE:=λσ H Q=>∃(Pr F:Hp) (env env':Env) (d:D),Rel C Pr F env σ H/\ev env = .ok d env'/\
 ∀v H' F',Rel C Pr F' env' σ H'->aW F F'->iR C.K F' H' d v->Q v H'
def tT(C:Cfg)(ev:gK):TT:=λσ H Q=>∃(Pr F:Hp) (env env':Env) (b:Bool),Rel C Pr F env σ H/\ev env = .ok b env'/\
 ∀H' F',Rel C Pr F' env' σ H'->aW F F'->Q b H'
def tA(C:Cfg)(ev:d7):TA:=λσ H Q=>∃(Pr F:Hp) (env env':Env) (ds:List D),Rel C Pr F env σ H/\ev env = .ok ds env'/\
 ∀vs H' F',Rel C Pr F' env' σ H'->aW F F'->bL C.K F' ds vs->Q vs H'
def PX(X:Cx)(C:Cfg)(e:Expr)(ev:Ev):Prop:=PE X e (tE C ev)
def QT(X:Cx)(C:Cfg)(e:Expr)(ev:Ev):Prop:=PE X e (tRd C ev)
def PXT(X:Cx)(C:Cfg)(e:Expr)(ev:gK):Prop:=PT X e (tT C ev)
def Ln(X:Cx)(C:Cfg)(es:List Expr)(ev:d7):Prop:=PA X es (tA C ev)
theorem _root_.L2.PE.imp{X:Cx}{e:Expr}{t t':TE}(h:PE X e t)(i:∀σ H Q,t' σ H Q->t σ H Q):PE X e t':=λpins s σ H Q I q=>h pins s σ H Q I (i σ H Q q)
theorem _root_.L2.PT.imp{X:Cx}{e:Expr}{t t':TT}(h:PT X e t)(i:∀σ H Q,t' σ H Q->t σ H Q):PT X e t':=λpins s σ H Q I q=>h pins s σ H Q I (i σ H Q q)
theorem _root_.L2.PW.imp{X:Cx}{e:Expr}{t t':TT}(h:PW X e t)(i:∀σ H Q,t' σ H Q->t σ H Q):PW X e t':=λwhole pins s σ H Q I q=>h whole pins s σ H Q I (i σ H Q q)
theorem _root_.L2.PA.imp{X:Cx}{e:List Expr}{t t':TA}(h:PA X e t)(i:∀σ H Q,t' σ H Q->t σ H Q):PA X e t':=λpos pins s σ H Q I q=>h pos pins s σ H Q I (i σ H Q q)
theorem _root_.L2.PS.imp{X:Cx}{e:Stmt}{t t':TS}(h:PS X e t)(i:∀D σ H,t' D σ H->t D σ H):PS X e t':=λpins s σ H D I q=>h pins s σ H D I (i D σ H q)
theorem _root_.L2.Lp.imp{X:Cx}{e:List Stmt}{t t':TS}(h:Lp X e t)(i:∀D σ H,t' D σ H->t D σ H):Lp X e t':=λpins s σ H D I q=>h pins s σ H D I (i D σ H q)
def bindR{α β:Type}(x:R α)(f:α->Env->R β):R β:=match x with
 | .ok a env=>f a env
 | .stuck=>.stuck
def gC{α:Type}(o:Option α)(env:Env):R α:=match o with
 | some a=>.ok a env
 | none=>.stuck
theorem aZ{α β:Type}{x:R α}{f:α->Env->R β}{b:β}{env':Env}(h:bindR x f = .ok b env'):∃a aN,x = .ok a aN/\f a aN = .ok b env':=by
 cases x with
 | ok a aN=>exact⟨a,aN,rfl,h⟩
 | stuck=>cases h
theorem fH{α:Type}{o:Option α}{env env':Env}{a:α}(h:gC o env = .ok a env'):o=some a/\env'=env:=by
 cases o with
 | some b=>cases h;exact⟨rfl,rfl⟩
 | none=>cases h
section
variable{X:Cx}{C:Cfg}{pos:Pos}
def aL(i:Nat):Ev:=λenv=>match env[i]? with
 | some (some (false,d))=>.ok d env
 | some (some (true,d))=>.ok d (env.set i (some (false,d)))
 | _=>.stuck
theorem abW(i:Nat){x:Str}(hN:X.N[i]? = some x)(hv:uK X.env.scope x)(hd:nH x:=by decide)(hcd:vB x:=by decide):PX X C (.Name x pos) (aL i):=by
 refine(lF hN hv hd hcd).imp λσ H Q h=>?_;obtain⟨Pr,F,env,env',d,r,e,q⟩:=h;unfold aL at e;split at e
 ·rename_i d' hd';cases e;obtain⟨v,h1,h2⟩:=r.val i d hd';exact⟨v,h1,q v H F r (aW.refl F) h2⟩
 ·rename_i d' hd';cases e;obtain⟨F',v,r',s',h1,h2⟩:=r.freeze hd';exact⟨v,h1,q v H F' r' s' h2⟩
 ·cases e
theorem PX.b{e:Expr}{ev:Ev}(h:PX X C e ev):QT X C e ev:=PE.imp h λσ H Q hq=>by
 obtain⟨Pr,F,env,env',d,r,e,q⟩:=hq;exact⟨Pr,F,env,env',d,r,e,λv H' F' r' s' p'=>q v H' F' r' s' (.inl p')⟩
def aO(i:Nat):Ev:=λenv=>match env[i]? with
 | some (some (_,d))=>.ok d env
 | _=>.stuck
theorem Rel.rd{Pr F:Hp}{env:Env}{σ:L2.St}{H:Hp}(r:Rel C Pr F env σ H){i:Nat}{o:Bool}{d:D}(h:env[i]? = some (some (o,d))):∃v,σ[i]? = some (some v)/\iR C.K F H d v:=by
 cases o with
 | true=>obtain⟨a,h1,h2,_⟩:=r.own i d h;exact⟨_,h1,.inr ⟨a,rfl,h2⟩⟩
 | false=>obtain⟨v,h1,h2⟩:=r.val i d h;exact⟨v,h1,.inl h2⟩
theorem Yk(i:Nat){x:Str}(hN:X.N[i]? = some x)(hv:uK X.env.scope x)(hd:nH x:=by decide)(hcd:vB x:=by decide):QT X C (.Name x pos) (aO i):=by
 refine(lF hN hv hd hcd).imp λσ H Q h=>?_;obtain⟨Pr,F,env,env',d,r,e,q⟩:=h;unfold aO at e;split at e
 ·rename_i o' d' hd';cases e;obtain⟨v,h1,h2⟩:=r.rd hd';exact⟨v,h1,q v H F r (aW.refl F) h2⟩
 ·cases e
def zc(d:D):Ev:=λenv=>.ok d env
theorem ab3{i:Int}{j:Nat}:PX X C (.Constant (.int i) j pos) (zc (.int i)):=acj.imp λσ H Q h=>by
 obtain⟨Pr,F,env,env',d,r,e,q⟩:=h;cases e;exact q _ _ F r (aW.refl F) rfl
theorem afa{b:Bool}{j:Nat}:PX X C (.Constant (.bool b) j pos) (zc (.bl b)):=afh.imp λσ H Q h=>by
 obtain⟨Pr,F,env,env',d,r,e,q⟩:=h;cases e;exact q _ _ F r (aW.refl F) rfl
theorem ab0{j:Nat}:PX X C (.Constant .none j pos) (zc .non):=ach.imp λσ H Q h=>by
 obtain⟨Pr,F,env,env',d,r,e,q⟩:=h;cases e;exact q _ _ F r (aW.refl F) rfl
theorem abX(z:List Nat){x:Str}{j:Nat}(hz:x=strOf z)(hl:z.length<=sizeLine:=by decide):PX X C (.Constant (.str x) j pos) (zc (.str z)):=by subst hz;refine acg.imp λσ H Q h=>?_;obtain⟨Pr,F,env,env',d,r,e,q⟩:=h;cases e;exact q _ _ F r (aW.refl F) ⟨rfl,hl⟩
def aj:d7:=λenv=>.ok [] env
def aa(a:Ev)(r:d7):d7:=λenv=>bindR (a env) λd aN=>bindR (r aN) λds dR=>.ok (d::ds) dR
theorem Pq:Ln X C [] aj:=rA.imp λσ H Q h=>by
 obtain⟨Pr,F,env,env',d,r,e,q⟩:=h;cases e;exact q _ _ F r (aW.refl F) rfl
theorem Jz{e:Expr}{es:List Expr}{a:Ev}{r:d7}(ha:PX X C e a)(hr:Ln X C es r)(hs:starEach (e::es) X.env=(false,eval e X.env)::starEach es X.env:=by rfl):Ln X C (e::es) (aa a r):=
 (jL ha hr hs).imp λσ H Q h=>by
  obtain⟨Pr,F,env,env',ds,rl,e,q⟩:=h;obtain⟨d1,aN,e1,e2⟩:=aZ e;obtain⟨ds2,dR,e3,e4⟩:=aZ e2;cases e4;refine⟨Pr,F,env,aN,d1,rl,e1,λv H1 F1 r1 s1 p1=>?_⟩;refine⟨Pr,F1,aN,env',ds2,r1,e3,λvs H2 F2 r2 s2 p2=>?_⟩;exact q _ H2 F2 r2 (s1.trans s2) ⟨v,vs,rfl,Rep.mono s2 d1 v p1,p2⟩
def bJ(r:d7):Ev:=λenv=>bindR (r env) λds aN=>if ds.length<=sizeLine then .ok (.tup ds) aN else .stuck
def bT(r:d7):Ev:=λenv=>bindR (r env) λds aN=>if ds.length<=sizeLine then .ok (.lst ds) aN else .stuck
def aR(g:D->D->Option D)(a b:Ev):Ev:=λenv=>bindR (a env) λx aN=>bindR (b aN) λy dR=>gC (g x y) dR
def nW(g:D->Option D)(a:Ev):Ev:=λenv=>bindR (a env) λx aN=>gC (g x) aN
def qw(C:Cfg)(r:R2)(g:D->D->Option D):Prop:=∀(Pr F:Hp) (env:Env) (σ:L2.St) (H:Hp) (x y d:D) (vx vy:V) (Q:VK),Rel C Pr F env σ H->iR C.K F H x vx->iR C.K F H y vy->g x y=some d->
 (∀v H' F',Rel C Pr F' env σ H'->aW F F'->Rep C.K F' d v->Q v H')->r vx vy H Q
theorem HN{r:R2}{g:D->D->Option D}{a b:Ev}(o:qw C r g)(σ:L2.St)(H:Hp)(Q:VK)(h:tE C (aR g a b) σ H Q):XD r (tE C a) (tRd C b) σ H Q:=by obtain⟨Pr,F,env,env',d,rl,e,q⟩:=h;obtain⟨x,aN,e1,e2⟩:=aZ e;obtain⟨y,dR,e3,e4⟩:=aZ e2;obtain⟨e5,rfl⟩:=fH e4;refine⟨Pr,F,env,aN,x,rl,e1,λvx H1 F1 r1 s1 p1=>⟨Pr,F1,aN,env',y,r1,e3,λvy H2 F2 r2 s2 p2=>?_⟩⟩;exact o Pr F2 env' σ H2 x y d vx vy Q r2 (.inl (Rep.mono s2 x vx p1)) p2 e5 λv H3 F3 r3 s3 p3=>q v H3 F3 r3 ((s1.trans s2).trans s3) p3
def au(g:D->D->Option D)(i:Nat)(b:Ev):Ev:=λenv=>match env[i]? with
 | some (some (_,_))=>bindR (b env) λy dR=>(match dR[i]? with
  | some (some (_,x))=>gC (g x y) dR
  | _=>.stuck)
 | _=>.stuck
theorem uD{r:R2}{g:D->D->Option D}{i:Nat}{b:Ev}(o:qw C r g)(σ:L2.St)(H:Hp)(Q:VK)(h:tE C (au g i b) σ H Q):XD r (abC i) (tRd C b) σ H Q:=by
 obtain⟨Pr,F,env,env',d,rl,e,q⟩:=h;unfold au at e;split at e
 ·rename_i o0 d0 h0;obtain⟨v,hv,_⟩:=rl.rd h0;obtain⟨y,dR,e1,e2⟩:=aZ e;split at e2
  ·rename_i o2 x h2;obtain⟨e5,rfl⟩:=fH e2;refine⟨v,hv,Pr,F,env,env',y,rl,e1,λvy H2 F2 r2 s2 p2=>?_⟩;obtain⟨v',hv',p⟩:=r2.rd h2;rw[hv] at hv';cases hv';exact o Pr F2 env' σ H2 x y d v vy Q r2 p p2 e5 λv H3 F3 r3 s3 p3=>q v H3 F3 r3 (s2.trans s3) p3
  ·cases e2
 ·cases e
theorem ae7{op:Operator}{r:R2}{g:D->D->Option D}{x y:Expr}{a b:Ev}(ho:oG X (binaryOp op) r)(o:qw C r g)(ha:PX X C x a)(hb:QT X C y b):PX X C (.BinOp x op y pos) (aR g a b):=
 (aaQ ho ha hb).imp (HN o)
theorem abZ{op:Operator}{r:R2}{g:D->D->Option D}{y:Expr}{b:Ev}{px:Pos}(i:Nat){x:Str}(hN:X.N[i]? = some x)(hv:uK X.env.scope x)(ho:oG X (binaryOp op) r)(o:qw C r g)(hb:QT X C y b)
  (hd:nH x:=by decide) (hcd:vB x:=by decide):PX X C (.BinOp (.Name x px) op y pos) (au g i b):=
 (aaQ ho (lF hN hv hd hcd) hb).imp (uD o)
theorem ab4{op:CmpOp}{r:R2}{g:D->D->Option D}{x y:Expr}{a b:Ev}(ho:oG X (compareOp op) r)(o:qw C r g)(ha:PX X C x a)(hb:QT X C y b)(hm:behindInMarks op y=false):PX X C (.Compare x [op] [y] pos) (aR g a b):=
 (Pz ho ha hb hm).imp (HN o)
def dD(a:Ev):gK:=λenv=>bindR (a env) λd aN=>match d with
 | .bl b=>.ok b aN
 | _=>.stuck
theorem O3{a:Ev}{σ:L2.St}{H:Hp}{Q:Bool->Hp->Prop}(h:tT C (dD a) σ H Q):tE C a σ H λx H'=>∃k,x = .bl k/\Q k H':=by
 obtain⟨Pr,F,env,env',b,rl,e,q⟩:=h;obtain⟨d,aN,e1,e2⟩:=aZ e;refine⟨Pr,F,env,aN,d,rl,e1,λv H1 F1 r1 s1 p1=>?_⟩;cases d with
 | bl c=>cases e2;exact⟨_,p1,q H1 F1 r1 s1⟩
 | _=>cases e2
theorem X8{op:CmpOp}{r:R2}{g:D->D->Option D}{x y:Expr}{a b:Ev}(ho:oG X (compareOp op) r)(o:qw C r g)(ha:PX X C x a)(hb:QT X C y b)(hm:behindInMarks op y=false):PXT X C (.Compare x [op] [y] pos) (dD (aR g a b)):=
 (Px ho ha hb hm).imp λσ H Q h=>by
  have h1:=O3 h;exact HN o σ H _ h1
def jX(a:gK):gK:=λenv=>bindR (a env) λb aN=>.ok (!b) aN
def ik(a b:gK):gK:=λenv=>bindR (a env) λc aN=>if c=true then b aN else .ok false aN
def qK(a b:gK):gK:=λenv=>bindR (a env) λc aN=>if c=true then .ok true aN else b aN
def PXW(X:Cx)(C:Cfg)(e:Expr)(ev:gK):Prop:=PW X e (tT C ev)
theorem PXW.pt{e:Expr}{a:gK}(h:PXW X C e a):PXT X C e a:=PW.pt h
def FP(a b:Ev):Ev:=λenv=>bindR (a env) λc aN=>match c with
 | .bl true=>b aN
 | .bl false=>.ok (.bl false) aN
 | _=>.stuck
def Hw(a b:Ev):Ev:=λenv=>bindR (a env) λc aN=>match c with
 | .bl true=>.ok (.bl true) aN
 | .bl false=>b aN
 | _=>.stuck
end
def uQ(f:D->D->Option Bool):List D->List D->Option Bool
 | [],[]=>some true
 | x::xs,y::ys=>match f x y,uQ f xs ys with
  | some a,some b=>some (a&&b)
  | _,_=>none
 | [],_::_=>some false
 | _::_,[]=>some false
def bC:Nat->D->D->Option Bool
 | 0,_,_=>none
 | n+1,.tup xs,.tup ys=>uQ (bC n) xs ys
 | n+1,.lst xs,.lst ys=>uQ (bC n) xs ys
 | _+1,.dct _,_=>none
 | _+1,.fG _,_=>none
 | _+1,.clo _ _,_=>none
 | _+1,_,.dct _=>none
 | _+1,_,.fG _=>none
 | _+1,_,.clo _ _=>none
 | _+1,.arr _,_=>none
 | _+1,_,.arr _=>none
 | _+1,.non,.non=>some true
 | _+1,.bl a,.bl b=>some (a == b)
 | _+1,.bl a,.int b=>some ((if a then 1 else 0) == b)
 | _+1,.int a,.bl b=>some (a == (if b then 1 else 0))
 | _+1,.int a,.int b=>some (a == b)
 | _+1,.str a,.str b=>some (a == b)
 | _+1,_,_=>some false
mutual
def Sh(h:Heap):D->Value->Prop
 | .non,u=>u = .none
 | .bl b,u=>u = .bool b
 | .int i,u=>∃t,u = .int i t
 | .str x,u=>∃t,u = .str (strOf x) t
 | .tup xs,u=>∃a its,u = .ref a/\IsTup h a its.toArray/\Gi h xs its
 | .lst xs,u=>∃a its,u = .ref a/\PlainL h a its.toArray/\Gi h xs its
 | .arr xs,u=>∃a its,u = .ref a/\PlainL h a its.toArray/\Gi h xs its
 | .dct _,u=>∃a o,u = .ref a/\h.get? a=some o/\o.ExactDict
 | .fG _,u=>∃a o,u = .ref a/\h.get? a=some o/\o.ExactDict
 | .clo _ _,u=>∃a,u = .ref a
def Gi(h:Heap):List D->List Value->Prop
 | [],us=>us=[]
 | d::ds,us=>∃u r,us=u::r/\Sh h d u/\Gi h ds r
end
theorem Gi.length{h:Heap}:∀{ds:List D} {us:List Value},Gi h ds us->us.length=ds.length
 | [],_,e=>by cases e;rfl
 | d::ds,us,e=>by obtain⟨u,r,rfl,_,h2⟩:=e;rw[Qqv,Qqv,h2.length]
section
variable{X:Cx}{pins:List (Addr×Obj)}{σ:L2.St}{H:Hp}{s:Shared}
mutual
theorem Rep.sh(I:Inv X pins σ H s):∀(d:D) (v:V) (u:Value),Rep X.K H d v->RelV v u->Sh s.heap d u
 | .non,_,_,h,r=>by cases h;exact r
 | .bl _,_,_,h,r=>by cases h;exact r
 | .int _,_,_,h,r=>by cases h;exact r
 | .str _,_,_,h,r=>by obtain⟨h,_⟩:=h;cases h;exact r
 | .tup xs,v,u,h,r=>by
  obtain⟨z,a,vs,rfl,h1,h2⟩:=h;cases r;obtain⟨its,rv,p,_⟩:=I.tuple h1;exact⟨a,its,rfl,p,bL.sh I xs vs its h2 rv⟩
 | .lst xs,v,u,h,r=>by
  obtain⟨z,a,vs,rfl,h1,h2⟩:=h;cases r;obtain⟨its,rv,p,_⟩:=I.list (jR.of h1);exact⟨a,its,rfl,p,bL.sh I xs vs its h2 rv⟩
 | .arr xs,v,u,h,r=>by
  obtain⟨z,a,vs,rfl,h1,h2⟩:=h;cases r;obtain⟨its,rv,p,_⟩:=I.list h1;exact⟨a,its,rfl,p,bL.sh I xs vs its h2 rv⟩
 | .dct kvs,v,u,h,r=>by
  obtain⟨z,a,ks,rfl,h1,h2⟩:=h;cases r;obtain⟨_,_,vs,_,o,_,_,e,ex,_⟩:=h1.ok I.hok;exact⟨a,o,rfl,e,ex⟩
 | .fG kvs,v,u,h,r=>by
  obtain⟨z,a,ks,rfl,h1,h2⟩:=h;cases r;obtain⟨_,_,vs,_,o,_,_,e,ex,_⟩:=h1.ok I.hok;exact⟨a,o,rfl,e,ex⟩
 | .clo st ds,v,u,h,r=>by
  obtain⟨a,vs,rfl,h1,h2⟩:=h;cases r;exact⟨a,rfl⟩
theorem bL.sh(I:Inv X pins σ H s):∀(ds:List D) (vs:List V) (us:List Value),bL X.K H ds vs->Vals vs us->Gi s.heap ds us
 | [],_,_,h,r=>by cases h;cases r;exact rfl
 | d::ds,vs,us,h,r=>by
  obtain⟨v,rr,rfl,h1,h2⟩:=h;cases r with
  | cons q qs=>exact⟨_,_,rfl,Rep.sh I d v _ h1 q,bL.sh I ds rr _ h2 qs⟩
end
end
theorem O1{h:Heap}{a:Addr}{xs ys:Array Value}(p:IsTup h a xs)(q:IsTup h a ys):xs=ys:=by obtain⟨o,e,_,n,d⟩:=p;obtain⟨o',e',_,n',d'⟩:=q;rw[e] at e';cases e';rw[d] at d';cases d';rfl
theorem PN{h:Heap}{a:Addr}{xs ys:Array Value}(p:PlainL h a xs)(q:PlainL h a ys):xs=ys:=by obtain⟨o,e,_,n,d⟩:=p.isList;obtain⟨o',e',_,n',d'⟩:=q.isList;rw[e] at e';cases e';rw[d] at d';cases d';rfl
theorem z6{h:Heap}{a:Addr}{xs ys:Array Value}(p:IsTup h a xs)(q:PlainL h a ys):False:=by obtain⟨o,e,c,n,d⟩:=p;obtain⟨o',e',c',n',d'⟩:=q.isList;rw[e] at e';cases e';rw[c] at c';simp at c'
theorem CQ{h:Heap}:∀(n:Nat) (d e:D) (u:Value) (b:Bool),Sh h d u->Sh h e u->bC n d e=some b->b=true
 | 0,_,_,_,_,_,_,hb=>by simp[bC] at hb
 | n+1,d,e,u,b,hd,he,hb=>by
  have all:∀(xs ys:List D) (us:List Value) (b:Bool),Gi h xs us->Gi h ys us->uQ (bC n) xs ys=some b->b=true:=by
   intro xs
   induction xs with
   | nil=>
    intro ys us b h1 h2 hb;cases h1;cases ys with
    | nil=>simp[uQ] at hb;exact hb
    | cons y ys=>obtain⟨u,r,q,_⟩:=h2;cases q
   | cons x xs ih=>
    intro ys us b h1 h2 hb;obtain⟨u,r,rfl,h3,h4⟩:=h1;cases ys with
    | nil=>cases h2
    | cons y ys=>
     obtain⟨u',r',q,h5,h6⟩:=h2;cases q;unfold uQ at hb;cases q1:bC n x y with
     | none=>rw[q1] at hb;simp at hb
     | some c=>
      cases q2:uQ (bC n) xs ys with
      | none=>rw[q1,q2] at hb;simp at hb
      | some c'=>
       rw[q1,q2] at hb;have e1:=CQ n x y u c h3 h5 q1;have e2:=ih ys r c' h4 h6 q2;subst e1 e2;simp at hb;exact hb
  cases d with
  | non=>cases hd;cases e<;>simp[Sh] at he;simp[bC] at hb;exact hb
  | bl c=>cases hd;cases e<;>simp[Sh] at he;subst he;simp[bC] at hb;exact hb
  | int i=>obtain⟨t,rfl⟩:=hd;cases e<;>simp[Sh] at he;subst he;simp[bC] at hb;exact hb
  | str x=>
   obtain⟨t,rfl⟩:=hd;cases e with
   | str y=>
    obtain⟨t',q⟩:=he;injection q with q1 _
    unfold strOf at q1;injection q1 with q2
    have q3:=Qxy Array.toList q2;simp at q3;subst q3;simp[bC] at hb;exact hb
   | _=>simp[Sh] at he
  | tup xs=>
   obtain⟨a,its,rfl,p,hs⟩:=hd;cases e with
   | tup ys=>
    obtain⟨a',its',q,p',hs'⟩:=he;cases q;have e2:its=its':=by simpa using O1 p p'
    subst e2;exact all xs ys its b hs hs' (by simpa only[bC] using hb)
   | lst ys=>
    obtain⟨a',its',q,p',hs'⟩:=he;cases q;exact(z6 p p').elim
   | dct kvs=>simp[bC] at hb
   | fG kvs=>simp[bC] at hb
   | clo _ _=>simp[bC] at hb
   | arr kvs=>simp[bC] at hb
   | _=>simp[Sh] at he
  | lst xs=>
   obtain⟨a,its,rfl,p,hs⟩:=hd;cases e with
   | lst ys=>
    obtain⟨a',its',q,p',hs'⟩:=he;cases q;have e2:its=its':=by simpa using PN p p'
    subst e2;exact all xs ys its b hs hs' (by simpa only[bC] using hb)
   | tup ys=>
    obtain⟨a',its',q,p',hs'⟩:=he;cases q;exact(z6 p' p).elim
   | dct kvs=>simp[bC] at hb
   | fG kvs=>simp[bC] at hb
   | clo _ _=>simp[bC] at hb
   | arr kvs=>simp[bC] at hb
   | _=>simp[Sh] at he
  | dct kvs=>cases e<;>simp[bC] at hb
  | fG kvs=>cases e<;>simp[bC] at hb
  | clo _ _=>cases e<;>simp[bC] at hb
  | arr kvs=>cases e<;>simp[bC] at hb
theorem Qy{h:Heap}:∀(n:Nat) (d d' e:D) (u:Value) (b b':Bool),Sh h d u->Sh h d' u->bC n d e=some b->bC n d' e=some b'->b=b'
 | 0,_,_,_,_,_,_,_,_,hb,_=>by simp[bC] at hb
 | n+1,d,d',e,u,b,b',hd,hd',hb,hb'=>by
  have all:∀(xs xs' ys:List D) (us:List Value) (b b':Bool),Gi h xs us->Gi h xs' us->uQ (bC n) xs ys=some b->uQ (bC n) xs' ys=some b'->b=b':=by
   intro xs
   induction xs with
   | nil=>
    intro xs' ys us b b' h1 h2 hb hb';cases h1;cases xs' with
    | nil=>rw[hb] at hb';exact Qwv hb'
    | cons y ys=>obtain⟨u,r,q,_⟩:=h2;cases q
   | cons x xs ih=>
    intro xs' ys us b b' h1 h2 hb hb';obtain⟨u,r,rfl,h3,h4⟩:=h1;cases xs' with
    | nil=>cases h2
    | cons x' xs'=>
     obtain⟨u',r',q,h5,h6⟩:=h2;cases q;cases ys with
     | nil=>simp[uQ] at hb hb';rw[hb,hb']
     | cons y ys=>
      unfold uQ at hb hb';cases q1:bC n x y with
      | none=>rw[q1] at hb;simp at hb
      | some c=>
       cases q2:uQ (bC n) xs ys with
       | none=>rw[q1,q2] at hb;simp at hb
       | some c2=>
        cases q3:bC n x' y with
        | none=>rw[q3] at hb';simp at hb'
        | some c3=>
         cases q4:uQ (bC n) xs' ys with
         | none=>rw[q3,q4] at hb';simp at hb'
         | some c4=>
          rw[q1,q2] at hb;rw[q3,q4] at hb';have e1:=Qy n x x' y u c c3 h3 h5 q1 q3;have e2:=ih xs' ys r c2 c4 h4 h6 q2 q4;subst e1 e2;simp at hb hb';rw[<-hb,<-hb']
  cases d with
  | non=>cases hd;cases d'<;>simp[Sh] at hd';rw[hb] at hb';exact Qwv hb'
  | bl c=>cases hd;cases d'<;>simp[Sh] at hd';subst hd';rw[hb] at hb';exact Qwv hb'
  | int i=>obtain⟨t,rfl⟩:=hd;cases d'<;>simp[Sh] at hd';subst hd';rw[hb] at hb';exact Qwv hb'
  | str x=>
   obtain⟨t,rfl⟩:=hd;cases d' with
   | str y=>
    obtain⟨t',q⟩:=hd';injection q with q1 _
    unfold strOf at q1;injection q1 with q2
    have q3:=Qxy Array.toList q2;simp at q3;subst q3;rw[hb] at hb';exact Qwv hb'
   | _=>simp[Sh] at hd'
  | tup xs=>
   obtain⟨a,its,rfl,p,hs⟩:=hd;cases d' with
   | tup xs'=>
    obtain⟨a',its',q,p',hs'⟩:=hd';cases q;have e2:its=its':=by simpa using O1 p p'
    subst e2;cases e with
    | tup ys=>exact all xs xs' ys its b b' hs hs' (by simpa only[bC] using hb) (by simpa only[bC] using hb')
    | _=>first|(simp[bC] at hb;done)|(simp only[bC,Qxj] at hb hb';rw[<-hb,<-hb'])
   | lst ys=>
    obtain⟨a',its',q,p',hs'⟩:=hd';cases q;exact(z6 p p').elim
   | dct kvs=>cases e<;>simp[bC] at hb'
   | fG kvs=>cases e<;>simp[bC] at hb'
   | clo _ _=>cases e<;>simp[bC] at hb'
   | arr kvs=>cases e<;>simp[bC] at hb'
   | _=>simp[Sh] at hd'
  | lst xs=>
   obtain⟨a,its,rfl,p,hs⟩:=hd;cases d' with
   | lst xs'=>
    obtain⟨a',its',q,p',hs'⟩:=hd';cases q;have e2:its=its':=by simpa using PN p p'
    subst e2;cases e with
    | lst ys=>exact all xs xs' ys its b b' hs hs' (by simpa only[bC] using hb) (by simpa only[bC] using hb')
    | _=>first|(simp[bC] at hb;done)|(simp only[bC,Qxj] at hb hb';rw[<-hb,<-hb'])
   | tup ys=>
    obtain⟨a',its',q,p',hs'⟩:=hd';cases q;exact(z6 p' p).elim
   | dct kvs=>cases e<;>simp[bC] at hb'
   | fG kvs=>cases e<;>simp[bC] at hb'
   | clo _ _=>cases e<;>simp[bC] at hb'
   | arr kvs=>cases e<;>simp[bC] at hb'
   | _=>simp[Sh] at hd'
  | dct kvs=>cases e<;>simp[bC] at hb
  | fG kvs=>cases e<;>simp[bC] at hb
  | clo _ _=>cases e<;>simp[bC] at hb
  | arr kvs=>cases e<;>simp[bC] at hb
theorem yd(x y:List Nat):(strOf x == strOf y)=(x == y):=by
 rw[Qkx];simp only[beq_iff_eq];constructor
 ·intro e;unfold strOf at e;injection e with e
  simpa using Qxy Array.toList e
 ·intro e;rw[e]
theorem Ak:∀{f:D->D->Option Bool} {xs ys:List D},xs.length≠ys.length->∀b,uQ f xs ys=some b->b=false
 | f,[],[],h,b,e=>absurd rfl h
 | f,[],_::_,_,b,e=>by simp[uQ] at e;exact e
 | f,_::_,[],_,b,e=>by simp[uQ] at e;exact e
 | f,x::xs,y::ys,h,b,e=>by
  unfold uQ at e;cases h1:f x y with
  | none=>rw[h1] at e;simp at e
  | some c=>
   cases h2:uQ f xs ys with
   | none=>rw[h1,h2] at e;simp at e
   | some d=>
    rw[h1,h2] at e;have:=Ak (f:=f) (xs:=xs) (ys:=ys) (by simpa using h) d h2;subst this;simp at e;exact e
theorem vJ:∀{f:D->D->Option Bool} (xs ys:List D) (b:Bool),uQ f xs ys=some b->∃e:Nat->Bool,(∀(j:Nat) (x y:D),xs[j]? = some x->ys[j]? = some y->f x y=some (e j))/\b=((List.range (min xs.length ys.length)).all e&&xs.length == ys.length)
 | f,[],ys,b,h=>by
  refine⟨λ_=>true,λj x y hx=>by simp at hx,?_⟩;cases ys with
  | nil=>simp[uQ] at h;simp[h.symm]
  | cons y ys=>simp[uQ] at h;simp[h.symm]
 | f,x::xs,[],b,h=>by
  refine⟨λ_=>true,λj x y _ hy=>by simp at hy,?_⟩;simp[uQ] at h;simp[h.symm]
 | f,x::xs,y::ys,b,h=>by
  unfold uQ at h;cases h1:f x y with
  | none=>rw[h1] at h;simp at h
  | some c=>
   cases h2:uQ f xs ys with
   | none=>rw[h1,h2] at h;simp at h
   | some d=>
    rw[h1,h2] at h;obtain⟨e,he,hd⟩:=vJ xs ys d h2;refine⟨λj=>match j with|0=>c|j+1=>e j,λj x' y' hx hy=>?_,?_⟩
    ·cases j with
     | zero=>simp at hx hy;subst hx hy;exact h1
     | succ j=>exact he j x' y' (by simpa using hx) (by simpa using hy)
    ·have hb:b=(c&&d):=by simpa using h.symm
     have hm:min (x::xs).length (y::ys).length=min xs.length ys.length+1:=by simp only[Qqv];omega
     rw[hb,hd,hm,List.range_succ_eq_map,List.all_cons,List.all_map,Bool.and_assoc];have hl:((x::xs).length == (y::ys).length)=(xs.length == ys.length):=by simp
     rw[hl]
     rfl
theorem pI{h:Heap}:∀{ds:List D} {us:List Value} {j:Nat} {u:Value},Gi h ds us->us[j]? = some u->∃d,ds[j]? = some d/\Sh h d u
 | [],_,_,_,e,g=>by cases e;simp at g
 | d::ds,us,j,u,e,g=>by
  obtain⟨v,r,rfl,h1,h2⟩:=e;cases j with
  | zero=>simp at g;subst g;exact⟨d,rfl,h1⟩
  | succ j=>obtain⟨c,e1,e2⟩:=pI h2 (j:=j) (by simpa using g);exact⟨c,by simpa using e1,e2⟩
theorem HB:∀(n:Nat) (d e:D) (u v:Value) (b:Bool) (A:Around) (s:Shared),Sh s.heap d u->Sh s.heap e v->bC n d e=some b->A.units+n<cLine->SeqAt.EqAt A s u v b
 | 0,_,_,_,_,_,_,_,_,_,h,_=>by simp[bC] at h
 | n+1,d,e,u,v,b,A,s,hd,he,h,hu=>by
  have hu0:A.units<cLine:=by omega
  have hin:A.in1.units+n<cLine:=by show A.units+1+n<cLine;omega
  cases d with
  | non=>
   cases hd;cases e with
   | non=>cases he;simp[bC] at h;subst h;exact SeqAt.EqAt.same _
   | bl c=>cases he;simp[bC] at h;subst h;exact SeqAt.EqAt.none_bool c
   | int i=>obtain⟨t,rfl⟩:=he;simp[bC] at h;subst h;exact SeqAt.EqAt.none_int i t
   | str x=>obtain⟨t,rfl⟩:=he;simp[bC] at h;subst h;exact SeqAt.EqAt.none_str _ t
   | tup ys=>obtain⟨a,its,rfl,p,_⟩:=he;simp[bC] at h;subst h;exact SeqAt.EqAt.none_tuple p hu0
   | lst ys=>obtain⟨a,its,rfl,p,_⟩:=he;simp[bC] at h;subst h;exact SeqAt.EqAt.none_list p.isList hu0
   | dct kvs=>simp[bC] at h
   | fG kvs=>simp[bC] at h
   | clo _ _=>simp[bC] at h
   | arr kvs=>simp[bC] at h
  | bl c=>
   cases hd;cases e with
   | non=>cases he;simp[bC] at h;subst h;exact SeqAt.EqAt.bool_none c
   | bl c'=>cases he;simp only[bC,Qxj] at h;subst h;exact SeqAt.EqAt.bool_bool c c'
   | int i=>obtain⟨t,rfl⟩:=he;simp only[bC,Qxj] at h;subst h;exact SeqAt.EqAt.bool_int c i t
   | str x=>obtain⟨t,rfl⟩:=he;simp[bC] at h;subst h;exact SeqAt.EqAt.bool_str c _ t
   | tup ys=>obtain⟨a,its,rfl,p,_⟩:=he;simp[bC] at h;subst h;exact SeqAt.EqAt.bool_tuple c p hu0
   | lst ys=>obtain⟨a,its,rfl,p,_⟩:=he;simp[bC] at h;subst h;exact SeqAt.EqAt.bool_list c p.isList hu0
   | dct kvs=>simp[bC] at h
   | fG kvs=>simp[bC] at h
   | clo _ _=>simp[bC] at h
   | arr kvs=>simp[bC] at h
  | int i=>
   obtain⟨t',rfl⟩:=hd;cases e with
   | non=>cases he;simp[bC] at h;subst h;exact SeqAt.EqAt.int_none i t'
   | bl c'=>cases he;simp only[bC,Qxj] at h;subst h;exact SeqAt.EqAt.int_bool i t' c'
   | int j=>obtain⟨t,rfl⟩:=he;simp only[bC,Qxj] at h;subst h;exact SeqAt.EqAt.int_int i t' j t
   | str x=>obtain⟨t,rfl⟩:=he;simp[bC] at h;subst h;exact SeqAt.EqAt.int_str i t' _ t
   | tup ys=>obtain⟨a,its,rfl,p,_⟩:=he;simp[bC] at h;subst h;exact SeqAt.EqAt.int_tuple i t' p hu0
   | lst ys=>obtain⟨a,its,rfl,p,_⟩:=he;simp[bC] at h;subst h;exact SeqAt.EqAt.int_list i t' p.isList hu0
   | dct kvs=>simp[bC] at h
   | fG kvs=>simp[bC] at h
   | clo _ _=>simp[bC] at h
   | arr kvs=>simp[bC] at h
  | str x=>
   obtain⟨t',rfl⟩:=hd;cases e with
   | non=>cases he;simp[bC] at h;subst h;exact SeqAt.EqAt.str_none _ t'
   | bl c'=>cases he;simp[bC] at h;subst h;exact SeqAt.EqAt.str_bool _ t' c'
   | int j=>obtain⟨t,rfl⟩:=he;simp[bC] at h;subst h;exact SeqAt.EqAt.str_int _ t' j t
   | str y=>obtain⟨t,rfl⟩:=he;simp only[bC,Qxj] at h;subst h;rw[<-yd];exact SeqAt.EqAt.str_str _ t' _ t
   | tup ys=>obtain⟨a,its,rfl,p,_⟩:=he;simp[bC] at h;subst h;exact SeqAt.EqAt.str_tuple _ t' p hu0
   | lst ys=>obtain⟨a,its,rfl,p,_⟩:=he;simp[bC] at h;subst h;exact SeqAt.EqAt.str_list _ t' p.isList hu0
   | dct kvs=>simp[bC] at h
   | fG kvs=>simp[bC] at h
   | clo _ _=>simp[bC] at h
   | arr kvs=>simp[bC] at h
  | tup xs=>
   obtain⟨a,its,rfl,p,hs⟩:=hd;cases e with
   | non=>cases he;simp[bC] at h;subst h;exact SeqAt.EqAt.tuple_none p hu0
   | bl c'=>cases he;simp[bC] at h;subst h;exact SeqAt.EqAt.tuple_bool c' p hu0
   | int j=>obtain⟨t,rfl⟩:=he;simp[bC] at h;subst h;exact SeqAt.EqAt.tuple_int j t p hu0
   | str y=>obtain⟨t,rfl⟩:=he;simp[bC] at h;subst h;exact SeqAt.EqAt.tuple_str _ t p hu0
   | tup ys=>
    obtain⟨a',its',rfl,p',hs'⟩:=he;by_cases haa:a=a'
    ·subst haa;have:=CQ (n+1) (.tup xs) (.tup ys) (.ref a) b ⟨a,its,rfl,p,hs⟩ ⟨a,its',rfl,p',hs'⟩ h;subst this;exact SeqAt.EqAt.same _
    ·simp only[bC] at h;obtain⟨f,hf,hb⟩:=vJ xs ys b h;have l1:=hs.length;have l2:=hs'.length;refine SeqAt.EqAt.of_refs haa ?_;have:=SeqAt.RcAt.tuples (e:=f) p p' hu0 λj h1 h2=>?_
     ·rw[hb];simp only[Qq3] at this;rw[l1,l2] at this;exact this
     ·have g1:its[j]? = some its.toArray[j]:=by simp at h1 ⊢
      have g2:its'[j]? = some its'.toArray[j]:=by simp at h2 ⊢
      obtain⟨x,q1,q2⟩:=pI hs g1;obtain⟨y,q3,q4⟩:=pI hs' g2;exact HB n x y _ _ _ A.in1 s q2 q4 (hf j x y q1 q3) hin
   | lst ys=>obtain⟨a',its',rfl,p',_⟩:=he;simp[bC] at h;subst h;exact SeqAt.EqAt.tuple_list p p'.isList hu0
   | dct kvs=>simp[bC] at h
   | fG kvs=>simp[bC] at h
   | clo _ _=>simp[bC] at h
   | arr kvs=>simp[bC] at h
  | lst xs=>
   obtain⟨a,its,rfl,p,hs⟩:=hd;cases e with
   | non=>cases he;simp[bC] at h;subst h;exact SeqAt.EqAt.list_none p.isList hu0
   | bl c'=>cases he;simp[bC] at h;subst h;exact SeqAt.EqAt.list_bool c' p.isList hu0
   | int j=>obtain⟨t,rfl⟩:=he;simp[bC] at h;subst h;exact SeqAt.EqAt.list_int j t p.isList hu0
   | str y=>obtain⟨t,rfl⟩:=he;simp[bC] at h;subst h;exact SeqAt.EqAt.list_str _ t p.isList hu0
   | lst ys=>
    obtain⟨a',its',rfl,p',hs'⟩:=he;have l1:=hs.length;have l2:=hs'.length;by_cases haa:a=a'
    ·subst haa;have:=CQ (n+1) (.lst xs) (.lst ys) (.ref a) b ⟨a,its,rfl,p,hs⟩ ⟨a,its',rfl,p',hs'⟩ h;subst this;exact SeqAt.EqAt.same _
    ·simp only[bC] at h;refine SeqAt.EqAt.of_refs haa ?_;by_cases hl:xs.length=ys.length
     ·obtain⟨f,hf,hb⟩:=vJ xs ys b h;have:=SeqAt.RcAt.lists (e:=f) p.isList p'.isList (by simp only[Qq3];omega) hu0 λj h1 h2=>?_
      ·rw[hb,<-hl,Nat.min_self,Qj0,Bool.and_true,<-l1];simp only[Qq3] at this;exact this
      ·have g1:its[j]? = some its.toArray[j]:=by simp at h1 ⊢
       have g2:its'[j]? = some its'.toArray[j]:=by simp at h2 ⊢
       obtain⟨x,q1,q2⟩:=pI hs g1;obtain⟨y,q3,q4⟩:=pI hs' g2;exact HB n x y _ _ _ A.in1 s q2 q4 (hf j x y q1 q3) hin
     ·have:=Ak hl b h;subst this;exact SeqAt.RcAt.lists_lengths p.isList p'.isList (by simp only[Qq3];rw[l1,l2];simpa using hl) hu0
   | tup ys=>obtain⟨a',its',rfl,p',_⟩:=he;simp[bC] at h;subst h;exact SeqAt.EqAt.list_tuple p.isList p' hu0
   | dct kvs=>simp[bC] at h
   | fG kvs=>simp[bC] at h
   | clo _ _=>simp[bC] at h
   | arr kvs=>simp[bC] at h
  | dct kvs=>cases e<;>simp[bC] at h
  | fG kvs=>cases e<;>simp[bC] at h
  | clo _ _=>cases e<;>simp[bC] at h
  | arr kvs=>cases e<;>simp[bC] at h
theorem wW(n:Nat)(its its':List Value)(xs ys:List D)(f:Nat->Bool)(A:Around)(s:Shared)(hs:Gi s.heap xs its)(hs':Gi s.heap ys its')(hf:∀(j:Nat) (x y:D),xs[j]? = some x->ys[j]? = some y->bC n x y=some (f j))(hin:A.in1.units+n<cLine)
  (j:Nat) (h1:j<its.toArray.size) (h2:j<its'.toArray.size):SeqAt.EqAt A.in1 s its.toArray[j] its'.toArray[j] (f j):=by
 have g1:its[j]? = some its.toArray[j]:=by simp at h1 ⊢
 have g2:its'[j]? = some its'.toArray[j]:=by simp at h2 ⊢
 obtain⟨x,q1,q2⟩:=pI hs g1;obtain⟨y,q3,q4⟩:=pI hs' g2;exact HB n x y _ _ _ A.in1 s q2 q4 (hf j x y q1 q3) hin
theorem aeN(n:Nat)(d e:D)(u v:Value)(b:Bool)(A:Around)(s:Shared)(hd:Sh s.heap d u)(he:Sh s.heap e v)(h:bC (n+1) d e=some b)(hu:A.units+(n+1)<cLine):SeqAt.RcAt A s u v b:=by
 have hu0:A.units<cLine:=by omega
 have hin:A.in1.units+n<cLine:=by show A.units+1+n<cLine;omega
 cases d with
 | non=>
  cases hd;cases e with
  | non=>
   cases he;simp[bC] at h;subst h;exact SeqAt.RcAt.none_none
  | bl c'=>
   cases he;simp[bC] at h;subst h;exact SeqAt.RcAt.none_bool c'
  | int j=>
   obtain⟨t,rfl⟩:=he;simp[bC] at h;subst h;exact SeqAt.RcAt.none_int j t
  | str y=>
   obtain⟨t,rfl⟩:=he;simp[bC] at h;subst h;exact SeqAt.RcAt.none_str _ t
  | tup ys=>
   obtain⟨a',its',rfl,p',hs'⟩:=he;simp[bC] at h;subst h;exact SeqAt.RcAt.none_tuple p' hu0
  | lst ys=>
   obtain⟨a',its',rfl,p',hs'⟩:=he;simp[bC] at h;subst h;exact SeqAt.RcAt.none_list p'.isList hu0
  | arr kvs=>
   simp[bC] at h
  | dct kvs=>
   simp[bC] at h
  | fG kvs=>
   simp[bC] at h
  | clo _ _=>
   simp[bC] at h
 | bl c=>
  cases hd;cases e with
  | non=>
   cases he;simp[bC] at h;subst h;exact SeqAt.RcAt.bool_none c
  | bl c'=>
   cases he;simp only[bC,Qxj] at h;subst h;exact SeqAt.RcAt.bool_bool c c'
  | int j=>
   obtain⟨t,rfl⟩:=he;simp only[bC,Qxj] at h;subst h;exact SeqAt.RcAt.bool_int c j t
  | str y=>
   obtain⟨t,rfl⟩:=he;simp[bC] at h;subst h;exact SeqAt.RcAt.bool_str c _ t
  | tup ys=>
   obtain⟨a',its',rfl,p',hs'⟩:=he;simp[bC] at h;subst h;exact SeqAt.RcAt.bool_tuple c p' hu0
  | lst ys=>
   obtain⟨a',its',rfl,p',hs'⟩:=he;simp[bC] at h;subst h;exact SeqAt.RcAt.bool_list c p'.isList hu0
  | arr kvs=>
   simp[bC] at h
  | dct kvs=>
   simp[bC] at h
  | fG kvs=>
   simp[bC] at h
  | clo _ _=>
   simp[bC] at h
 | int i=>
  obtain⟨t',rfl⟩:=hd;cases e with
  | non=>
   cases he;simp[bC] at h;subst h;exact SeqAt.RcAt.int_none i t'
  | bl c'=>
   cases he;simp only[bC,Qxj] at h;subst h;exact SeqAt.RcAt.int_bool i t' c'
  | int j=>
   obtain⟨t,rfl⟩:=he;simp only[bC,Qxj] at h;subst h;exact SeqAt.RcAt.int_int i t' j t
  | str y=>
   obtain⟨t,rfl⟩:=he;simp[bC] at h;subst h;exact SeqAt.RcAt.int_str i t' _ t
  | tup ys=>
   obtain⟨a',its',rfl,p',hs'⟩:=he;simp[bC] at h;subst h;exact SeqAt.RcAt.int_tuple i t' p' hu0
  | lst ys=>
   obtain⟨a',its',rfl,p',hs'⟩:=he;simp[bC] at h;subst h;exact SeqAt.RcAt.int_list i t' p'.isList hu0
  | arr kvs=>
   simp[bC] at h
  | dct kvs=>
   simp[bC] at h
  | fG kvs=>
   simp[bC] at h
  | clo _ _=>
   simp[bC] at h
 | str x=>
  obtain⟨t',rfl⟩:=hd;cases e with
  | non=>
   cases he;simp[bC] at h;subst h;exact SeqAt.RcAt.str_none _ t'
  | bl c'=>
   cases he;simp[bC] at h;subst h;exact SeqAt.RcAt.str_bool _ t' c'
  | int j=>
   obtain⟨t,rfl⟩:=he;simp[bC] at h;subst h;exact SeqAt.RcAt.str_int _ t' j t
  | str y=>
   obtain⟨t,rfl⟩:=he;simp only[bC,Qxj] at h;subst h;rw[<-yd];exact SeqAt.RcAt.str_str _ t' _ t
  | tup ys=>
   obtain⟨a',its',rfl,p',hs'⟩:=he;simp[bC] at h;subst h;exact SeqAt.RcAt.str_tuple _ t' p' hu0
  | lst ys=>
   obtain⟨a',its',rfl,p',hs'⟩:=he;simp[bC] at h;subst h;exact SeqAt.RcAt.str_list _ t' p'.isList hu0
  | arr kvs=>
   simp[bC] at h
  | dct kvs=>
   simp[bC] at h
  | fG kvs=>
   simp[bC] at h
  | clo _ _=>
   simp[bC] at h
 | tup xs=>
  obtain⟨a,its,rfl,p,hs⟩:=hd;cases e with
  | non=>
   cases he;simp[bC] at h;subst h;exact SeqAt.RcAt.tuple_none p hu0
  | bl c'=>
   cases he;simp[bC] at h;subst h;exact SeqAt.RcAt.tuple_bool c' p hu0
  | int j=>
   obtain⟨t,rfl⟩:=he;simp[bC] at h;subst h;exact SeqAt.RcAt.tuple_int j t p hu0
  | str y=>
   obtain⟨t,rfl⟩:=he;simp[bC] at h;subst h;exact SeqAt.RcAt.tuple_str _ t p hu0
  | tup ys=>
   obtain⟨a',its',rfl,p',hs'⟩:=he;simp only[bC] at h;have l1:=hs.length;have l2:=hs'.length;obtain⟨f,hf,hb⟩:=vJ xs ys b h;have:=SeqAt.RcAt.tuples (e:=f) p p' hu0 λj h1 h2=>?_
   ·rw[hb];simp only[Qq3] at this;rw[l1,l2] at this;exact this
   ·exact wW n its its' xs ys f A s hs hs' hf hin j h1 h2
  | lst ys=>
   obtain⟨a',its',rfl,p',hs'⟩:=he;simp[bC] at h;subst h;exact SeqAt.RcAt.tuple_list p p'.isList hu0
  | arr kvs=>
   simp[bC] at h
  | dct kvs=>
   simp[bC] at h
  | fG kvs=>
   simp[bC] at h
  | clo _ _=>
   simp[bC] at h
 | lst xs=>
  obtain⟨a,its,rfl,p,hs⟩:=hd;cases e with
  | non=>
   cases he;simp[bC] at h;subst h;exact SeqAt.RcAt.list_none p.isList hu0
  | bl c'=>
   cases he;simp[bC] at h;subst h;exact SeqAt.RcAt.list_bool c' p.isList hu0
  | int j=>
   obtain⟨t,rfl⟩:=he;simp[bC] at h;subst h;exact SeqAt.RcAt.list_int j t p.isList hu0
  | str y=>
   obtain⟨t,rfl⟩:=he;simp[bC] at h;subst h;exact SeqAt.RcAt.list_str _ t p.isList hu0
  | tup ys=>
   obtain⟨a',its',rfl,p',hs'⟩:=he;simp[bC] at h;subst h;exact SeqAt.RcAt.list_tuple p.isList p' hu0
  | lst ys=>
   obtain⟨a',its',rfl,p',hs'⟩:=he;simp only[bC] at h;have l1:=hs.length;have l2:=hs'.length;by_cases hl:xs.length=ys.length
   ·obtain⟨f,hf,hb⟩:=vJ xs ys b h;have:=SeqAt.RcAt.lists (e:=f) p.isList p'.isList (by simp only[Qq3];omega) hu0 λj h1 h2=>?_
    ·rw[hb,<-hl,Nat.min_self,Qj0,Bool.and_true,<-l1];simp only[Qq3] at this;exact this
    ·exact wW n its its' xs ys f A s hs hs' hf hin j h1 h2
   ·have:=Ak hl b h;subst this;exact SeqAt.RcAt.lists_lengths p.isList p'.isList (by simp only[Qq3];rw[l1,l2];simpa using hl) hu0
  | arr kvs=>
   simp[bC] at h
  | dct kvs=>
   simp[bC] at h
  | fG kvs=>
   simp[bC] at h
  | clo _ _=>
   simp[bC] at h
 | arr kvs=>
  cases e<;>simp[bC] at h
 | dct kvs=>
  cases e<;>simp[bC] at h
 | fG kvs=>
  cases e<;>simp[bC] at h
 | clo _ _=>
  cases e<;>simp[bC] at h
theorem X4(n:Nat)(d e:D)(u v:Value)(b:Bool)(A:Around)(s:Shared)(hd:Sh s.heap d u)(he:Sh s.heap e v)(h:bC (n+1) d e=some b)(hu:A.units+(n+1)<cLine):SeqAt.RcNeAt A s u v (!b):=by
 have hu0:A.units<cLine:=by omega
 have hin:A.in1.units+n<cLine:=by show A.units+1+n<cLine;omega
 cases d with
 | non=>
  cases hd;cases e with
  | non=>
   cases he;simp[bC] at h;subst h;exact SeqAt.RcNeAt.none_none
  | bl c'=>
   cases he;simp[bC] at h;subst h;exact SeqAt.RcNeAt.none_bool c'
  | int j=>
   obtain⟨t,rfl⟩:=he;simp[bC] at h;subst h;exact SeqAt.RcNeAt.none_int j t
  | str y=>
   obtain⟨t,rfl⟩:=he;simp[bC] at h;subst h;exact SeqAt.RcNeAt.none_str _ t
  | tup ys=>
   obtain⟨a',its',rfl,p',hs'⟩:=he;simp[bC] at h;subst h;exact SeqAt.RcNeAt.none_tuple p' hu0
  | lst ys=>
   obtain⟨a',its',rfl,p',hs'⟩:=he;simp[bC] at h;subst h;exact SeqAt.RcNeAt.none_list p'.isList hu0
  | arr kvs=>
   simp[bC] at h
  | dct kvs=>
   simp[bC] at h
  | fG kvs=>
   simp[bC] at h
  | clo _ _=>
   simp[bC] at h
 | bl c=>
  cases hd;cases e with
  | non=>
   cases he;simp[bC] at h;subst h;exact SeqAt.RcNeAt.bool_none c
  | bl c'=>
   cases he;simp only[bC,Qxj] at h;subst h;exact SeqAt.RcNeAt.bool_bool c c'
  | int j=>
   obtain⟨t,rfl⟩:=he;simp only[bC,Qxj] at h;subst h;exact SeqAt.RcNeAt.bool_int c j t
  | str y=>
   obtain⟨t,rfl⟩:=he;simp[bC] at h;subst h;exact SeqAt.RcNeAt.bool_str c _ t
  | tup ys=>
   obtain⟨a',its',rfl,p',hs'⟩:=he;simp[bC] at h;subst h;exact SeqAt.RcNeAt.bool_tuple c p' hu0
  | lst ys=>
   obtain⟨a',its',rfl,p',hs'⟩:=he;simp[bC] at h;subst h;exact SeqAt.RcNeAt.bool_list c p'.isList hu0
  | arr kvs=>
   simp[bC] at h
  | dct kvs=>
   simp[bC] at h
  | fG kvs=>
   simp[bC] at h
  | clo _ _=>
   simp[bC] at h
 | int i=>
  obtain⟨t',rfl⟩:=hd;cases e with
  | non=>
   cases he;simp[bC] at h;subst h;exact SeqAt.RcNeAt.int_none i t'
  | bl c'=>
   cases he;simp only[bC,Qxj] at h;subst h;exact SeqAt.RcNeAt.int_bool i t' c'
  | int j=>
   obtain⟨t,rfl⟩:=he;simp only[bC,Qxj] at h;subst h;exact SeqAt.RcNeAt.int_int i t' j t
  | str y=>
   obtain⟨t,rfl⟩:=he;simp[bC] at h;subst h;exact SeqAt.RcNeAt.int_str i t' _ t
  | tup ys=>
   obtain⟨a',its',rfl,p',hs'⟩:=he;simp[bC] at h;subst h;exact SeqAt.RcNeAt.int_tuple i t' p' hu0
  | lst ys=>
   obtain⟨a',its',rfl,p',hs'⟩:=he;simp[bC] at h;subst h;exact SeqAt.RcNeAt.int_list i t' p'.isList hu0
  | arr kvs=>
   simp[bC] at h
  | dct kvs=>
   simp[bC] at h
  | fG kvs=>
   simp[bC] at h
  | clo _ _=>
   simp[bC] at h
 | str x=>
  obtain⟨t',rfl⟩:=hd;cases e with
  | non=>
   cases he;simp[bC] at h;subst h;exact SeqAt.RcNeAt.str_none _ t'
  | bl c'=>
   cases he;simp[bC] at h;subst h;exact SeqAt.RcNeAt.str_bool _ t' c'
  | int j=>
   obtain⟨t,rfl⟩:=he;simp[bC] at h;subst h;exact SeqAt.RcNeAt.str_int _ t' j t
  | str y=>
   obtain⟨t,rfl⟩:=he;simp only[bC,Qxj] at h;subst h;rw[<-yd];exact SeqAt.RcNeAt.str_str _ t' _ t
  | tup ys=>
   obtain⟨a',its',rfl,p',hs'⟩:=he;simp[bC] at h;subst h;exact SeqAt.RcNeAt.str_tuple _ t' p' hu0
  | lst ys=>
   obtain⟨a',its',rfl,p',hs'⟩:=he;simp[bC] at h;subst h;exact SeqAt.RcNeAt.str_list _ t' p'.isList hu0
  | arr kvs=>
   simp[bC] at h
  | dct kvs=>
   simp[bC] at h
  | fG kvs=>
   simp[bC] at h
  | clo _ _=>
   simp[bC] at h
 | tup xs=>
  obtain⟨a,its,rfl,p,hs⟩:=hd;cases e with
  | non=>
   cases he;simp[bC] at h;subst h;exact SeqAt.RcNeAt.tuple_none p hu0
  | bl c'=>
   cases he;simp[bC] at h;subst h;exact SeqAt.RcNeAt.tuple_bool c' p hu0
  | int j=>
   obtain⟨t,rfl⟩:=he;simp[bC] at h;subst h;exact SeqAt.RcNeAt.tuple_int j t p hu0
  | str y=>
   obtain⟨t,rfl⟩:=he;simp[bC] at h;subst h;exact SeqAt.RcNeAt.tuple_str _ t p hu0
  | tup ys=>
   obtain⟨a',its',rfl,p',hs'⟩:=he;simp only[bC] at h;have l1:=hs.length;have l2:=hs'.length;obtain⟨f,hf,hb⟩:=vJ xs ys b h;have:=SeqAt.RcNeAt.tuples (e:=f) p p' hu0 λj h1 h2=>?_
   ·rw[hb];simp only[Qq3] at this;rw[l1,l2] at this;exact this
   ·exact wW n its its' xs ys f A s hs hs' hf hin j h1 h2
  | lst ys=>
   obtain⟨a',its',rfl,p',hs'⟩:=he;simp[bC] at h;subst h;exact SeqAt.RcNeAt.tuple_list p p'.isList hu0
  | arr kvs=>
   simp[bC] at h
  | dct kvs=>
   simp[bC] at h
  | fG kvs=>
   simp[bC] at h
  | clo _ _=>
   simp[bC] at h
 | lst xs=>
  obtain⟨a,its,rfl,p,hs⟩:=hd;cases e with
  | non=>
   cases he;simp[bC] at h;subst h;exact SeqAt.RcNeAt.list_none p.isList hu0
  | bl c'=>
   cases he;simp[bC] at h;subst h;exact SeqAt.RcNeAt.list_bool c' p.isList hu0
  | int j=>
   obtain⟨t,rfl⟩:=he;simp[bC] at h;subst h;exact SeqAt.RcNeAt.list_int j t p.isList hu0
  | str y=>
   obtain⟨t,rfl⟩:=he;simp[bC] at h;subst h;exact SeqAt.RcNeAt.list_str _ t p.isList hu0
  | tup ys=>
   obtain⟨a',its',rfl,p',hs'⟩:=he;simp[bC] at h;subst h;exact SeqAt.RcNeAt.list_tuple p.isList p' hu0
  | lst ys=>
   obtain⟨a',its',rfl,p',hs'⟩:=he;simp only[bC] at h;have l1:=hs.length;have l2:=hs'.length;by_cases hl:xs.length=ys.length
   ·obtain⟨f,hf,hb⟩:=vJ xs ys b h;have:=SeqAt.RcNeAt.lists (e:=f) p.isList p'.isList (by simp only[Qq3];omega) hu0 λj h1 h2=>?_
    ·rw[hb,<-hl,Nat.min_self,Qj0,Bool.and_true,<-l1];simp only[Qq3] at this;exact this
    ·exact wW n its its' xs ys f A s hs hs' hf hin j h1 h2
   ·have:=Ak hl b h;subst this;exact SeqAt.RcNeAt.lists_lengths p.isList p'.isList (by simp only[Qq3];rw[l1,l2];simpa using hl) hu0
  | arr kvs=>
   simp[bC] at h
  | dct kvs=>
   simp[bC] at h
  | fG kvs=>
   simp[bC] at h
  | clo _ _=>
   simp[bC] at h
 | arr kvs=>
  cases e<;>simp[bC] at h
 | dct kvs=>
  cases e<;>simp[bC] at h
 | fG kvs=>
  cases e<;>simp[bC] at h
 | clo _ _=>
  cases e<;>simp[bC] at h
section
variable{X:Cx}{C:Cfg}
def ae2(K:Fg):R2:=λx y H Q=>∃dx dy b,Rep K H dx x/\Rep K H dy y/\bC 60 dx dy=some b/\Q (.bl b) H
def aeT(K:Fg):R2:=λx y H Q=>∃dx dy b,Rep K H dx x/\Rep K H dy y/\bC 60 dx dy=some b/\Q (.bl (!b)) H
theorem acA(hu:X.A.units+60<cLine):oG X (compareOp .Eq) (ae2 X.K):=by intro pins s σ H x y v u Q I rx ry h;obtain⟨dx,dy,b,h1,h2,h3,q⟩:=h;exact aeN 59 dx dy v u b X.A s (Rep.sh I dx x v h1 rx) (Rep.sh I dy y u h2 ry) h3 hu X.prog X.w X.xe _ ⟨.bl b,H,I,rfl,q⟩
theorem acs(hu:X.A.units+60<cLine):oG X (compareOp .NotEq) (aeT X.K):=by intro pins s σ H x y v u Q I rx ry h;obtain⟨dx,dy,b,h1,h2,h3,q⟩:=h;exact X4 59 dx dy v u b X.A s (Rep.sh I dx x v h1 rx) (Rep.sh I dy y u h2 ry) h3 hu X.prog X.w X.xe _ ⟨.bl (!b),H,I,rfl,q⟩
def pP(x y:D):Option D:=(bC 60 x y).map .bl
def Ai(x y:D):Option D:=(bC 60 x y).map λb=>.bl (!b)
theorem afs:qw C (ae2 C.K) pP:=by
 intro Pr F env σ H x y d vx vy Q r hx hy h q;unfold pP at h;cases e:bC 60 x y with
 | none=>rw[e] at h;cases h
 | some b=>
  rw[e] at h;cases h;exact⟨x,y,b,hx.rep r.fr,hy.rep r.fr,e,q _ H F r (aW.refl F) rfl⟩
theorem afm:qw C (aeT C.K) Ai:=by
 intro Pr F env σ H x y d vx vy Q r hx hy h q;unfold Ai at h;cases e:bC 60 x y with
 | none=>rw[e] at h;cases h
 | some b=>
  rw[e] at h;cases h;exact⟨x,y,b,hx.rep r.fr,hy.rep r.fr,e,q _ H F r (aW.refl F) rfl⟩
def Qj(x:D):List D->Option Bool
 | []=>some false
 | y::ys=>match bC 59 y x,Qj x ys with
  | some a,some b=>some (a||b)
  | _,_=>none
theorem Qi(x:D):∀(ys:List D) (b:Bool),Qj x ys=some b->(∀y∈ys,∃c,bC 59 y x=some c)/\(b=true ↔ ∃y∈ys,bC 59 y x=some true)
 | [],b,h=>by simp[Qj] at h;subst h;simp
 | y::ys,b,h=>by
  unfold Qj at h;cases h1:bC 59 y x with
  | none=>rw[h1] at h;simp at h
  | some c=>
   cases h2:Qj x ys with
   | none=>rw[h1,h2] at h;simp at h
   | some d=>
    rw[h1,h2] at h;obtain⟨i1,i2⟩:=Qi x ys d h2;have hb:b=(c||d):=by simpa using h.symm
    refine⟨λz hz=>?_,?_⟩
    ·rcases Qq5.mp hz with rfl|hz
     ·exact⟨c,h1⟩
     ·exact i1 z hz
    ·rw[hb,Bool.or_eq_true];constructor
     ·rintro(hc|hd)
      ·exact⟨y,Qqk,by rw[h1,hc]⟩
      ·obtain⟨z,hz,e⟩:=i2.mp hd;exact⟨z,Qqj _ hz,e⟩
     ·rintro⟨z,hz,e⟩;rcases Qq5.mp hz with rfl|hz
      ·rw[h1] at e;left;simpa using e
      ·right;exact i2.mpr ⟨z,hz,e⟩
open Classical in
noncomputable def Eh(h:Heap)(x:D)(u:Value):Bool:=decide (∃y,Sh h y u/\bC 59 y x=some true)
open Classical in
theorem HS{h:Heap}{x y:D}{u:Value}{c:Bool}(hy:Sh h y u)(e:bC 59 y x=some c):Eh h x u=c:=by
 unfold Eh;cases c with
 | true=>exact Qw2 ⟨y,hy,e⟩
 | false=>
  refine Qwk ?_;rintro⟨z,hz,e'⟩;have:=Qy 59 z y x u true false hz hy e' e;cases this
theorem yI{s:Shared}{A:Around}{x:D}{v:Value}{ys:List D}{us:List Value}{b:Bool}(hx:Sh s.heap x v)(hs:Gi s.heap ys us)(h:Qj x ys=some b)(hu:A.units+59<cLine) :
  (∀w,w∈us.toArray->SeqAt.EqAt A s w v (Eh s.heap x w))/\us.toArray.any (Eh s.heap x)=b:=by
 obtain⟨h1,h2⟩:=Qi x ys b h;have item:∀w∈us,∃y∈ys,Sh s.heap y w:=λw hw=>by
  obtain⟨j,hj,e⟩:=List.mem_iff_getElem.mp hw;obtain⟨d,e1,e2⟩:=pI hs (show us[j]? = some w by rw[Qq7 hj,e]);exact⟨d,Qq8 e1,e2⟩
 have back:∀{ys:List D} {us:List Value},Gi s.heap ys us->∀y∈ys,∃w∈us,Sh s.heap y w:=by
  intro ys
  induction ys with
  | nil=>intro us _ y hy;cases hy
  | cons z zs ih=>
   intro us hs y hy;obtain⟨w,r,rfl,g1,g2⟩:=hs;rcases Qq5.mp hy with rfl|hy
   ·exact⟨w,Qqk,g1⟩
   ·obtain⟨w',m,g⟩:=ih g2 y hy;exact⟨w',Qqj _ m,g⟩
 refine⟨λw hw=>?_,?_⟩
 ·obtain⟨y,hy,sy⟩:=item w (by simpa using hw);obtain⟨c,hc⟩:=h1 y hy;rw[HS sy hc];exact HB 59 y x w v c A s sy hx hc hu
 ·rw[List.any_toArray,Qkx,h2,List.any_eq_true];constructor
  ·rintro⟨w,hw,e⟩;obtain⟨y,hy,sy⟩:=item w hw;obtain⟨c,hc⟩:=h1 y hy;rw[HS sy hc] at e;subst e;exact⟨y,hy,hc⟩
  ·rintro⟨y,hy,e⟩;obtain⟨w,hw,sy⟩:=back hs y hy;exact⟨w,hw,HS sy e⟩
def Jo:D->Option (List D)
 | .tup xs=>some xs
 | .lst xs=>some xs
 | .arr xs=>some xs
 | _=>none
def Ro(K:Fg)(neg:Bool):R2:=λx y H Q=>∃dx dy ys b,Rep K H dx x/\Rep K H dy y/\Jo dy=some ys/\Qj dx ys=some b/\Q (.bl (if neg then !b else b)) H
theorem acy(hu:X.A.units+61<cLine):oG X (compareOp .In) (Ro X.K false):=by
 intro pins s σ H x y v u Q I rx ry h;obtain⟨dx,dy,ys,b,h1,h2,h3,h4,q⟩:=h;have hx:=Rep.sh I dx x v h1 rx;have hy:=Rep.sh I dy y u h2 ry;have hin:X.A.in1.units+59<cLine:=by show X.A.units+1+59<cLine;omega
 cases dy with
 | tup zs=>
  cases h3;obtain⟨a,its,rfl,p,hs⟩:=hy;obtain⟨g1,g2⟩:=yI (A:=X.A.in1) hx hs h4 hin;refine SeqAt.in_tupleAt (Eh s.heap dx) p g1 ⟨.bl _,H,I,rfl,?_⟩;rw[g2];exact q
 | lst zs=>
  cases h3;obtain⟨a,its,rfl,p,hs⟩:=hy;obtain⟨g1,g2⟩:=yI (A:=X.A.in1) hx hs h4 hin;refine SeqAt.in_listAt (Eh s.heap dx) p.isList g1 ⟨.bl _,H,I,rfl,?_⟩;rw[g2];exact q
 | arr zs=>
  cases h3;obtain⟨a,its,rfl,p,hs⟩:=hy;obtain⟨g1,g2⟩:=yI (A:=X.A.in1) hx hs h4 hin;refine SeqAt.in_listAt (Eh s.heap dx) p.isList g1 ⟨.bl _,H,I,rfl,?_⟩;rw[g2];exact q
 | _=>cases h3
theorem RK(hu:X.A.units+61<cLine):oG X (compareOp .NotIn) (Ro X.K true):=by
 intro pins s σ H x y v u Q I rx ry h;obtain⟨dx,dy,ys,b,h1,h2,h3,h4,q⟩:=h;have hx:=Rep.sh I dx x v h1 rx;have hy:=Rep.sh I dy y u h2 ry;have hin:X.A.in1.units+59<cLine:=by show X.A.units+1+59<cLine;omega
 cases dy with
 | tup zs=>
  cases h3;obtain⟨a,its,rfl,p,hs⟩:=hy;obtain⟨g1,g2⟩:=yI (A:=X.A.in1) hx hs h4 hin;refine SeqAt.notIn_tupleAt (Eh s.heap dx) p g1 ⟨.bl _,H,I,rfl,?_⟩;rw[g2];exact q
 | lst zs=>
  cases h3;obtain⟨a,its,rfl,p,hs⟩:=hy;obtain⟨g1,g2⟩:=yI (A:=X.A.in1) hx hs h4 hin;refine SeqAt.notIn_listAt (Eh s.heap dx) p.isList g1 ⟨.bl _,H,I,rfl,?_⟩;rw[g2];exact q
 | arr zs=>
  cases h3;obtain⟨a,its,rfl,p,hs⟩:=hy;obtain⟨g1,g2⟩:=yI (A:=X.A.in1) hx hs h4 hin;refine SeqAt.notIn_listAt (Eh s.heap dx) p.isList g1 ⟨.bl _,H,I,rfl,?_⟩;rw[g2];exact q
 | _=>cases h3
end
theorem qw.or{C:Cfg}{r r':R2}{g g':D->D->Option D}(h:qw C r g)(h':qw C r' g'):qw C (λx y H Q=>r x y H Q\/r' x y H Q) (λx y=>(g x y).or (g' x y)):=by
 intro Pr F env σ H x y d vx vy Q rl hx hy e q;have e:(g x y).or (g' x y)=some d:=e;cases e1:g x y with
 | some c=>
  rw[e1] at e;cases e;exact .inl (h Pr F env σ H x y d vx vy Q rl hx hy e1 q)
 | none=>
  rw[e1] at e;exact .inr (h' Pr F env σ H x y d vx vy Q rl hx hy e q)
section
variable{X:Cx}{C:Cfg}
def adA(x y:D):Option D:=match Jo y with
 | some ys=>(Qj x ys).map .bl
 | none=>none
def Ah(x y:D):Option D:=match Jo y with
 | some ys=>(Qj x ys).map λb=>.bl (!b)
 | none=>none
theorem acP:qw C (Ro C.K false) adA:=by
 intro Pr F env σ H x y d vx vy Q r hx hy h q;unfold adA at h;cases e1:Jo y with
 | none=>rw[e1] at h;cases h
 | some ys=>
  rw[e1] at h;cases e:Qj x ys with
  | none=>simp only[e,Option.map_none] at h;cases h
  | some b=>
   simp only[e,Option.map_some] at h;cases h;exact⟨x,y,ys,b,hx.rep r.fr,hy.rep r.fr,e1,e,q _ H F r (aW.refl F) rfl⟩
theorem RT:qw C (Ro C.K true) Ah:=by
 intro Pr F env σ H x y d vx vy Q r hx hy h q;unfold Ah at h;cases e1:Jo y with
 | none=>rw[e1] at h;cases h
 | some ys=>
  rw[e1] at h;cases e:Qj x ys with
  | none=>simp only[e,Option.map_none] at h;cases h
  | some b=>
   simp only[e,Option.map_some] at h;cases h;exact⟨x,y,ys,b,hx.rep r.fr,hy.rep r.fr,e1,e,q _ H F r (aW.refl F) rfl⟩
def adz(x y:D):Option D:=match x,y with
 | .str [c],.str z=>some (.bl (decide (c∈z)))
 | _,_=>none
def Ht(x y:D):Option D:=match x,y with
 | .str [c],.str z=>some (.bl (!decide (c∈z)))
 | _,_=>none
abbrev aeZ:R2:=λx y H Q=>∃i j,x = .str i/\y = .str j/\Q (.bl (!(Builtin.Str.occurrences j i 0 j.length 1).isEmpty)) H
abbrev Pj:R2:=λx y H Q=>∃i j,x = .str i/\y = .str j/\Q (.bl (!(!(Builtin.Str.occurrences j i 0 j.length 1).isEmpty))) H
theorem one_sign(c:Nat)(z:List Nat):(!(Builtin.Str.occurrences (strOf z) (strOf [c]) 0 (strOf z).length 1).isEmpty)=decide (c∈z):=by
 have:=StrLaws.found_one (strOf z) c;unfold strOf at this ⊢
 simpa using this
theorem acO:qw C aeZ adz:=by
 intro Pr F env σ H x y d vx vy Q r hx hy h q;unfold adz at h;split at h
 ·rename_i c z;cases h;obtain⟨rfl,_⟩:=hx.str;obtain⟨rfl,_⟩:=hy.str;refine⟨_,_,rfl,rfl,?_⟩;rw[one_sign];exact q _ H F r (aW.refl F) rfl
 ·cases h
theorem RQ:qw C Pj Ht:=by
 intro Pr F env σ H x y d vx vy Q r hx hy h q;unfold Ht at h;split at h
 ·rename_i c z;cases h;obtain⟨rfl,_⟩:=hx.str;obtain⟨rfl,_⟩:=hy.str;refine⟨_,_,rfl,rfl,?_⟩;rw[one_sign];exact q _ H F r (aW.refl F) rfl
 ·cases h
def gIn(x y:D):Option D:=(adA x y).or (adz x y)
def yJ(x y:D):Option D:=(Ah x y).or (Ht x y)
abbrev ae1(K:Fg):R2:=λx y H Q=>Ro K false x y H Q\/aeZ x y H Q
abbrev Pk(K:Fg):R2:=λx y H Q=>Ro K true x y H Q\/Pj x y H Q
theorem acz(hu:X.A.units+61<cLine):oG X (compareOp .In) (ae1 X.K):=(acy hu).or RN
theorem RL(hu:X.A.units+61<cLine):oG X (compareOp .NotIn) (Pk X.K):=(RK hu).or G9
theorem afq:qw C (ae1 C.K) gIn:=acP.or acO
theorem VN:qw C (Pk C.K) yJ:=RT.or RQ
def isPlain(x:V):Prop:=x = .non\/∃b,x = .bl b
theorem acx:oG X (compareOp .Is) (λx y H Q=>isPlain y/\Q (.bl (decide (x=y))) H):=by
 intro pins s σ H x y v u Q I rx ry h;obtain⟨hp,q⟩:=h;rcases hp with rfl|⟨b,rfl⟩
 ·exact acw pins s σ H x .non v u Q I rx ry ⟨rfl,q⟩
 ·cases ry;refine wpAny_is_plain ?_ (Cy I q ?_)
  ·cases x<;>first|(cases rx;rfl)|(obtain⟨t,rfl⟩:=rx;rfl)
  ·cases x with
   | bl c=>cases rx;cases b<;>cases c<;>rfl
   | _=>first|(cases rx;rfl)|(obtain⟨t,rfl⟩:=rx;rfl)
def isD:D->D->Option Bool
 | .non,.non=>some true
 | .bl a,.bl b=>some (a == b)
 | _,.non=>some false
 | _,.bl _=>some false
 | _,_=>none
def gIs(x y:D):Option D:=(isD x y).map .bl
theorem afP{F H:Hp}{x y:D}{vx vy:V}{b:Bool}(hx:iR C.K F H x vx)(hy:iR C.K F H y vy)(h:isD x y=some b):isPlain vy/\decide (vx=vy)=b:=by
 have ahe:∀a,¬(V.ref a=V.non):=λa e=>by cases e
 cases y with
 | non=>
  obtain rfl:=hy.non;refine⟨.inl rfl,?_⟩;cases x with
  | non=>obtain rfl:=hx.non;simp[isD] at h;simp[h]
  | bl c=>obtain rfl:=hx.bl;simp[isD] at h;simp[h]
  | int i=>obtain rfl:=hx.int;simp[isD] at h;simp[h]
  | str z=>obtain⟨rfl,_⟩:=hx.str;simp[isD] at h;simp[h]
  | tup xs=>rcases hx with ⟨_,a,_,rfl,_⟩|⟨a,rfl,_⟩<;>(simp[isD] at h;simp[h])
  | lst xs=>rcases hx with ⟨_,a,_,rfl,_⟩|⟨a,rfl,_⟩<;>(simp[isD] at h;simp[h])
  | arr xs=>rcases hx with ⟨_,a,_,rfl,_⟩|⟨a,rfl,_⟩<;>(simp[isD] at h;simp[h])
  | dct xs=>rcases hx with ⟨_,a,_,rfl,_⟩|⟨a,rfl,_⟩<;>(simp[isD] at h;simp[h])
  | fG xs=>rcases hx with ⟨_,a,_,rfl,_⟩|⟨a,rfl,_⟩<;>(simp[isD] at h;simp[h])
  | clo st xs=>rcases hx with ⟨a,_,rfl,_⟩|⟨a,rfl,_⟩<;>(simp[isD] at h;simp[h])
 | bl k=>
  obtain rfl:=hy.bl;refine⟨.inr ⟨k,rfl⟩,?_⟩;cases x with
  | non=>obtain rfl:=hx.non;simp[isD] at h;simp[h]
  | bl c=>obtain rfl:=hx.bl;simp only[isD,Qxj] at h;rw[<-h,adN]
  | int i=>obtain rfl:=hx.int;simp[isD] at h;simp[h]
  | str z=>obtain⟨rfl,_⟩:=hx.str;simp[isD] at h;simp[h]
  | tup xs=>rcases hx with ⟨_,a,_,rfl,_⟩|⟨a,rfl,_⟩<;>(simp[isD] at h;simp[h])
  | lst xs=>rcases hx with ⟨_,a,_,rfl,_⟩|⟨a,rfl,_⟩<;>(simp[isD] at h;simp[h])
  | arr xs=>rcases hx with ⟨_,a,_,rfl,_⟩|⟨a,rfl,_⟩<;>(simp[isD] at h;simp[h])
  | dct xs=>rcases hx with ⟨_,a,_,rfl,_⟩|⟨a,rfl,_⟩<;>(simp[isD] at h;simp[h])
  | fG xs=>rcases hx with ⟨_,a,_,rfl,_⟩|⟨a,rfl,_⟩<;>(simp[isD] at h;simp[h])
  | clo st xs=>rcases hx with ⟨a,_,rfl,_⟩|⟨a,rfl,_⟩<;>(simp[isD] at h;simp[h])
 | _=>cases x<;>simp[isD] at h
theorem afp:qw C (λx y H Q=>isPlain y/\Q (.bl (decide (x=y))) H) gIs:=by
 intro Pr F env σ H x y d vx vy Q r hx hy h q;unfold gIs at h;cases e:isD x y with
 | none=>rw[e] at h;cases h
 | some b=>
  rw[e] at h;cases h;obtain⟨h1,h2⟩:=afP hx hy e;exact⟨h1,by rw[h2];exact q _ H F r (aW.refl F) rfl⟩
def gI(c:Int->Int->Bool)(f:Int->Int->D)(x y:D):Option D:=match x,y with
 | .int i,.int j=>if c i j=true then some (f i j) else none
 | _,_=>none
theorem VP{Cd:Int->Int->Prop}{c:Int->Int->Bool}{f:Int->Int->D}{g:Int->Int->V}(hc:∀i j,c i j=true->Cd i j)(hf:∀i j F,Rep C.K F (f i j) (g i j)):qw C (rI Cd g) (gI c f):=by
 intro Pr F env σ H x y d vx vy Q r hx hy h q;unfold gI at h;split at h
 ·rename_i i j;split at h
  ·rename_i hcc;cases h;obtain rfl:=hx.int;obtain rfl:=hy.int;exact⟨i,j,rfl,rfl,hc i j hcc,q _ H F r (aW.refl F) (hf i j F)⟩
  ·cases h
 ·cases h
theorem JK{f:Int->Int->D}{g:Int->Int->V}(hf:∀i j F,Rep C.K F (f i j) (g i j)):qw C (Ly g) (gI (λ_ _=>true) f):=by
 intro Pr F env σ H x y d vx vy Q r hx hy h q;unfold gI at h;split at h
 ·rename_i i j;rw[if_pos rfl] at h;cases h;obtain rfl:=hx.int;obtain rfl:=hy.int;exact⟨i,j,rfl,rfl,q _ H F r (aW.refl F) (hf i j F)⟩
 ·cases h
def mR(i j:Int):Bool:=decide (Builtin.Int.intBits i+Builtin.Int.intBits j<=134217728)
theorem YK:oG X (binaryOp .Mult) (rI (λi j=>mR i j=true) λi j=>.int (i*j)):=
 opI λi j _ _ _ _ _ hc q=>mul_int q (mulOk_of_bits (Qqw _) (Qqw _) (Qxw hc))
def vG:D->D->Option D:=gI mR λi j=>.int (i*j)
def Sv:D->D->Option D:=gI (λ_ _=>true) λi j=>.int (i - j)
def adx:D->D->Option D:=gI (λ_ j=>decide (0<j)) λi j=>.int (i % j)
def NT:D->D->Option D:=gI (λi j=>decide (0<=j/\j<=1000000/\i.natAbs<2^64)) λi j=>.int (i^j.toNat)
def ZD:D->D->Option D:=gI (λi j=>decide (0<=j/\j<=1000000/\i.natAbs<2^64)) λi j=>.int (i*2^j.toNat)
def Kh:D->D->Option D:=gI (λ_ j=>decide (0<=j)) λi j=>.int (i / 2^j.toNat)
def Kp:D->D->Option D:=gI (λ_ _=>true) λi j=>.int (Builtin.bitAnd i j)
theorem acK:qw C (rI (λi j=>mR i j=true) λi j=>.int (i*j)) vG:=VP (λ_ _ h=>h) λ_ _ _=>rfl
theorem acG:qw C (Ly λi j=>.int (i - j)) Sv:=JK λ_ _ _=>rfl
theorem acL:qw C (rI (λ_ j=>0<j) λi j=>.int (i % j)) adx:=VP (λ_ _ h=>Qxw h) λ_ _ _=>rfl
theorem acJ:qw C (rI aar λi j=>.int (i^j.toNat)) NT:=VP (λi j h=>(show 0<=j/\j<=1000000/\i.natAbs<2^64 from Qxw h)) λ_ _ _=>rfl
theorem acI:qw C (rI aar λi j=>.int (i*2^j.toNat)) ZD:=VP (λi j h=>(show 0<=j/\j<=1000000/\i.natAbs<2^64 from Qxw h)) λ_ _ _=>rfl
theorem acH:qw C (rI (λ_ j=>0<=j) λi j=>.int (i / 2^j.toNat)) Kh:=VP (λ_ _ h=>Qxw h) λ_ _ _=>rfl
theorem acQ:qw C (Ly λi j=>.int (Builtin.bitAnd i j)) Kp:=JK λ_ _ _=>rfl
abbrev aeU:R2:=λx y H Q=>∃i j,x = .str i/\y = .str j/\Q (.bl (decide (i.cps.toList<j.cps.toList))) H
def afY:D->D->Option D:=gI (λ_ _=>true) λi j=>.bl (decide (i<j))
def ady(x y:D):Option D:=match x,y with
 | .str a,.str b=>some (.bl (decide (a<b)))
 | _,_=>none
def uP(x y:D):Option D:=(afY x y).or (ady x y)
def gLe:D->D->Option D:=gI (λ_ _=>true) λi j=>.bl (decide (i<=j))
def gGt:D->D->Option D:=gI (λ_ _=>true) λi j=>.bl (decide (j<i))
theorem acM:qw C aeU ady:=by
 intro Pr F env σ H x y d vx vy Q r hx hy h q;unfold ady at h;split at h
 ·cases h;obtain⟨rfl,_⟩:=hx.str;obtain⟨rfl,_⟩:=hy.str;exact⟨_,_,rfl,rfl,q _ H F r (aW.refl F) (by show V.bl _=V.bl _;congr)⟩
 ·cases h
abbrev aeV:R2:=λx y H Q=>Ly (λi j=>.bl (decide (i<j))) x y H Q\/aeU x y H Q
theorem acv:oG X (compareOp .Lt) aeV:=afi.or RM
theorem acN:qw C (Ly λi j=>.bl (decide (i<j))) afY:=JK λ_ _ _=>rfl
theorem afn:qw C aeV uP:=acN.or acM
theorem afo:qw C (Ly λi j=>.bl (decide (i<=j))) gLe:=JK λ_ _ _=>rfl
theorem afr:qw C (Ly λi j=>.bl (decide (j<i))) gGt:=JK λ_ _ _=>rfl
def U0(K:Fg):R2:=λx y H Q=>∃a b ys,x = .ref a/\y = .ref b/\oE K H a []/\oE K H b ys/\Q (.ref b) H
theorem VM:oG X (binaryOp .Add) (U0 X.K):=by
 intro pins s σ H x y v u Q I rx ry h;obtain⟨a,b,ys,rfl,rfl,ha,hb,q⟩:=h;cases rx;cases ry;obtain⟨its,r1,p1,_⟩:=I.tuple ha;obtain⟨its2,r2,p2,_⟩:=I.tuple hb;cases r1;obtain⟨⟨cls,dd,data,sl⟩,ho,hc,n,hd⟩:=id p1;obtain⟨⟨cls2,dd2,data2,sl2⟩,ho2,hc2,n2,hd2⟩:=id p2;simp only at hc hd hc2 hd2;subst hc hd hc2 hd2;exact concat_meets ⟨_,ho,rfl⟩ ⟨_,ho2,rfl⟩ noFill_tuple_add seq_tuple_add PySem.F.slot_tuple_add PySem.F.entry_tuple_add (PySem.F.args_tuple_add_2 _ _)
  (tuple_addW0 a b ([]:List Value).toArray its2.toArray n n2 dd dd2 sl sl2 (by simp)) ⟨ho,ho2,⟨.ref b,H,I,rfl,q⟩⟩
abbrev ae4:R2:=λx y H Q=>∃i j,x = .str i/\y = .str j/\i.length+j.length<=sizeLine/\Q (.str (i++j)) H
abbrev ae5(K:Fg):R2:=λx y H Q=>Ly (λi j=>.int (i+j)) x y H Q\/ae4 x y H Q\/ae3 x y H Q\/aaO K x y H Q\/U0 K x y H Q
theorem YM:oG X (binaryOp .Add) (ae5 X.K):=acD.or (Nf.or (acB.or (YL.or VM)))
def dC(x y:D):Option D:=match x,y with
 | .int i,.int j=>some (.int (i+j))
 | .str a,.str b=>if a.length+b.length<=sizeLine then some (.str (a++b)) else none
 | .lst a,.lst b=>if a.length+b.length<=sizeLine then some (.lst (a++b)) else none
 | .tup a,.tup b=>if a.length+b.length<=sizeLine then some (.tup (a++b)) else none
 | _,_=>none
theorem Gs(a b:List Nat):strOf a++strOf b=strOf (a++b):=by show(⟨(strOf a).cps++(strOf b).cps⟩:Str)=_;unfold strOf;simp
theorem iC(a:List Nat):(strOf a).length=a.length:=by show a.toArray.size=a.length;simp
theorem acR:qw C (ae5 C.K) dC:=by
 intro Pr F env σ H x y d vx vy Q r hx hy h q;unfold dC at h;split at h
 ·cases h;obtain rfl:=hx.int;obtain rfl:=hy.int;exact .inl ⟨_,_,rfl,rfl,q _ H F r (aW.refl F) rfl⟩
 ·split at h
  ·rename_i hz;cases h;obtain⟨rfl,_⟩:=hx.str;obtain⟨rfl,_⟩:=hy.str;refine .inr (.inl ⟨_,_,rfl,rfl,by rw[iC,iC];exact hz,?_⟩);rw[Gs];exact q _ H F r (aW.refl F) ⟨rfl,by rw[Qqy];exact hz⟩
  ·cases h
 ·split at h
  ·rename_i hz;cases h;obtain⟨_,a,vs,rfl,h1,h2⟩:=hx.lst r.fr;obtain⟨_,b,ws,rfl,h3,h4⟩:=hy.lst r.fr;refine .inr (.inr (.inl ⟨a,b,vs,ws,rfl,rfl,h1,h3,by rw[h2.length,h4.length];exact hz,λp hp=>?_⟩));obtain⟨r2,s2⟩:=r.new (o:=.lst (vs++ws)) hp;exact q _ _ _ r2 s2 ⟨by rw[Qqy];exact hz,p,_,rfl,bf,bL.mono s2 _ _ (h2.append h4)⟩
  ·cases h
 ·split at h
  ·rename_i hz;cases h;obtain⟨z1,a,vs,rfl,h1,f1,h2⟩:=hx.tup r.fr;obtain⟨z2,b,ws,rfl,h3,f3,h4⟩:=hy.tup r.fr;by_cases hv:vs=[]
   ·subst hv;have e1:_=0:=h2.length.symm;have e2:=Qz9 e1;subst e2;refine .inr (.inr (.inr (.inr ⟨a,b,ws,rfl,rfl,h1,h3,?_⟩)));exact q _ H F r (aW.refl F) ⟨z2,b,ws,rfl,f3,h4⟩
   ·refine .inr (.inr (.inr (.inl ⟨a,b,vs,ws,rfl,rfl,h1,h3,hv,by rw[h2.length,h4.length];exact hz,λhw=>?_,λhw p hp=>?_⟩)))
    ·subst hw;have e1:_=0:=h4.length.symm;have e2:=Qz9 e1;subst e2;rw[Qw8] at q;exact q _ H F r (aW.refl F) ⟨z1,a,vs,rfl,f1,h2⟩
    ·obtain⟨r2,s2⟩:=r.new (o:=.tup (vs++ws)) hp;exact q _ _ _ r2 s2 ⟨by rw[Qqy];exact hz,p,_,rfl,oE.of bf,bL.mono s2 _ _ (h2.append h4)⟩
  ·cases h
 ·cases h
def Lx(K:Fg)(F H:Hp):List D->List V->Prop
 | [],vs=>vs=[]
 | d::ds,vs=>∃v r,vs=v::r/\iR K F H d v/\Lx K F H ds r
def tAB(C:Cfg)(ev:d7):TA:=λσ H Q=>∃(Pr F:Hp) (env env':Env) (ds:List D),Rel C Pr F env σ H/\ev env = .ok ds env'/\
 ∀vs H' F',Rel C Pr F' env' σ H'->aW F F'->Lx C.K F' H' ds vs->Q vs H'
def aal(X:Cx)(C:Cfg)(es:List Expr)(ev:d7):Prop:=PA X es (tAB C ev)
def CallD(C:Cfg)(r:List V->Hp->VK->Prop)(g:List D->Option D):Prop:=∀(Pr F:Hp) (env:Env) (σ:L2.St) (H:Hp) (ds:List D) (d:D) (vs:List V) (Q:VK),Rel C Pr F env σ H->Lx C.K F H ds vs->g ds=some d->
 (∀v H' F',Rel C Pr F' env σ H'->aW F F'->Rep C.K F' d v->Q v H')->r vs H Q
def ao(g:List D->Option D)(a:d7):Ev:=λenv=>bindR (a env) λds aN=>gC (g ds) aN
theorem QG{r:List V->Hp->VK->Prop}{g:List D->Option D}{a:d7}(o:CallD C r g)(σ:L2.St)(H:Hp)(Q:VK)(h:tE C (ao g a) σ H Q):tCB r (tAB C a) σ H Q:=by obtain⟨Pr,F,env,env',d,rl,e,q⟩:=h;obtain⟨ds,aN,e1,e2⟩:=aZ e;obtain⟨e3,rfl⟩:=fH e2;exact⟨Pr,F,env,env',ds,rl,e1,λvs H1 F1 r1 s1 p1=>o Pr F1 env' σ H1 ds d vs Q r1 p1 e3 λv H2 F2 r2 s2 p2=>q v H2 F2 r2 (s1.trans s2) p2⟩
theorem oZ{x:Str}{p pos:Pos}{e:Expr}{es:List Expr}{id:String}{r:List V->Hp->VK->Prop}{g:List D->Option D}{a:d7}(hc:iz X (.builtin id) r)(o:CallD C r g)(hg:Gl X x)(hm:X.mg x=none)(hv:bootBuiltins x=some (.builtin id))(ha:aal X C (e::es) a)
  (hn:x ≠ "__name__":=by decide) (hdb:nH x:=by decide) (he:starEach (e::es) X.env=(false,eval e X.env)::starEach es X.env:=by rfl) (hpl:(backTo pos (starEach es X.env)).any (·.1)=false:=by rfl) :
  PX X C (.Call (.Name x p) (e::es) [] pos) (ao g a):=(Bv hc hg hm hv ha hn hdb he hpl).imp (QG o)
theorem ur{x:Str}{p pos:Pos}{e:Expr}{es:List Expr}{T:String}{r:List V->Hp->VK->Prop}{g:List D->Option D}{a:d7}(hc:iz X (.type T) r)(o:CallD C r g)(hg:Gl X x)(hm:X.mg x=none)(hv:bootBuiltins x=some (.type T))(ha:aal X C (e::es) a)
  (hn:x ≠ "__name__":=by decide) (hdb:nH x:=by decide) (he:starEach (e::es) X.env=(false,eval e X.env)::starEach es X.env:=by rfl) (hpl:(backTo pos (starEach es X.env)).any (·.1)=false:=by rfl) :
  PX X C (.Call (.Name x p) (e::es) [] pos) (ao g a):=(uv hc hg hm hv ha hn hdb he hpl).imp (QG o)
theorem mJ{K:Fg}{F H:Hp}{d:D}{vs:List V}(h:Lx K F H [d] vs):∃v,vs=[v]/\iR K F H d v:=by obtain⟨v,r,rfl,h1,h2⟩:=h;cases h2;exact⟨v,rfl,h1⟩
theorem Oh{K:Fg}{F H:Hp}{d e:D}{vs:List V}(h:Lx K F H [d,e] vs):∃v w,vs=[v,w]/\iR K F H d v/\iR K F H e w:=by obtain⟨v,r,rfl,h1,h2⟩:=h;obtain⟨w,rfl,h3⟩:=mJ h2;exact⟨v,w,rfl,h1,h3⟩
def cz:List D->Option D
 | [.str x]=>some (.int x.length)
 | [.tup xs]=>some (.int xs.length)
 | [.lst xs]=>some (.int xs.length)
 | [.arr xs]=>some (.int xs.length)
 | _=>none
theorem adW:CallD C (λxs H Q=>∃x n,xs=[x]/\agl C.K x H n/\Q (.int n) H) cz:=by
 intro Pr F env σ H ds d vs Q r hs h q;unfold cz at h;split at h
 ·cases h;obtain⟨v,rfl,hv⟩:=mJ hs;obtain⟨rfl,hz⟩:=hv.str;exact⟨_,_,rfl,⟨by rw[iC];exact hz,(iC _).symm⟩,q _ H F r (aW.refl F) rfl⟩
 ·cases h;obtain⟨v,rfl,hv⟩:=mJ hs;obtain⟨_,a,ws,rfl,h1,_,h2⟩:=hv.tup r.fr;exact⟨_,_,rfl,.inr ⟨ws,h1,h2.length.symm⟩,q _ H F r (aW.refl F) rfl⟩
 ·cases h;obtain⟨v,rfl,hv⟩:=mJ hs;obtain⟨_,a,ws,rfl,h1,h2⟩:=hv.lst r.fr;exact⟨_,_,rfl,.inl ⟨ws,jR.of h1,h2.length.symm⟩,q _ H F r (aW.refl F) rfl⟩
 ·cases h;obtain⟨v,rfl,hv⟩:=mJ hs;obtain⟨_,a,ws,rfl,h1,h2⟩:=hv.arr r.fr;exact⟨_,_,rfl,.inl ⟨ws,h1,h2.length.symm⟩,q _ H F r (aW.refl F) rfl⟩
 ·cases h
def bZ:List D->Option D
 | [.tup xs]=>some (.tup xs)
 | [.lst xs]=>some (.tup xs)
 | _=>none
abbrev Ux(K:Fg):List V->Hp->VK->Prop:=λxs H Q=>∃p ys,xs=[.ref p]/\((jR K H p ys/\∀l,H l=none->Q (.ref l) (upd H l (.tup ys)))\/(oE K H p ys/\Q (.ref p) H))
theorem W2:CallD C (Ux C.K) bZ:=by
 intro Pr F env σ H ds d vs Q r hs h q;unfold bZ at h;split at h
 ·cases h;obtain⟨v,rfl,hv⟩:=mJ hs;obtain⟨z,a,ws,rfl,h1,f1,h2⟩:=hv.tup r.fr;exact⟨a,ws,rfl,.inr ⟨h1,q _ H F r (aW.refl F) ⟨z,a,ws,rfl,f1,h2⟩⟩⟩
 ·cases h;obtain⟨v,rfl,hv⟩:=mJ hs;obtain⟨z,a,ws,rfl,h1,h2⟩:=hv.lst r.fr;refine⟨a,ws,rfl,.inl ⟨jR.of h1,λl hl=>?_⟩⟩;obtain⟨r2,s2⟩:=r.new (o:=.tup ws) hl;exact q _ _ _ r2 s2 ⟨z,l,ws,rfl,oE.of bf,bL.mono s2 _ _ h2⟩
 ·cases h
def signs(x:List Nat):List D:=x.map λc=>.str [c]
abbrev Uy:List V->Hp->VK->Prop:=λxs H Q=>∃z,xs=[.str z]/\z.length<=sizeLine/\∀l,H l=none->Q (.ref l) (upd H l (.lst (z.cps.toList.map λc=>V.str ⟨#[c]⟩)))
theorem Oc(hh:X.calm=true):iz X (.type "list") Uy:=by
 intro pins s σ H xs us Q I r h;obtain⟨z,rfl,hz,q⟩:=h;obtain⟨u,rfl,⟨t,rfl⟩⟩:=vals1 r;refine call_list_str (I.ok.hd hh) z t (λh' tk acc' c' kp e hacc=>?_) hz;refine⟨.ref s.heap.objs.size,_,I.laid kp (Qqw _) (show gP X.prog X.w _ h' _ (.lst (z.cps.toList.map λc=>V.str ⟨#[c]⟩)) from⟨?_,acc'.toList,c',?_,by simpa using e⟩),rfl,q _ (I.hok.fresh (Qqw _))⟩
 ·simpa[Str.length] using hz
 ·obtain⟨hsz,hit⟩:=hacc;have go:∀(cs:List Nat) (vs:List Value),vs.length=cs.length->(∀(j:Nat) (v:Value),vs[j]? = some v->∃(c:Nat) (u:Tok),cs[j]? = some c/\v=Value.str ⟨#[c]⟩ u)->Vals (cs.map λc=>V.str ⟨#[c]⟩) vs:=by
   intro cs
   induction cs with
   | nil=>intro vs hl _;rw[Qz9 hl];exact .nil
   | cons c cs ih=>
    intro vs hl hv;cases vs with
    | nil=>simp at hl
    | cons v vs=>
     obtain⟨c',u,e1,e2⟩:=hv 0 v rfl;simp at e1;subst e1 e2;exact .cons ⟨u,rfl⟩ (ih vs (by simpa using hl) λj w hw=>by simpa using hv (j+1) w (by simpa using hw))
  refine go _ _ (by simpa using hsz) λj v hv=>?_;obtain⟨c,u,e1,e2⟩:=hit j v (by simpa using hv);exact⟨c,u,by simpa using e1,e2⟩
def Cr:List D->Option D
 | [.tup xs]=>some (.lst xs)
 | [.lst xs]=>some (.lst xs)
 | [.str x]=>some (.lst (signs x))
 | _=>none
abbrev UG(K:Fg):List V->Hp->VK->Prop:=λxs H Q=>(∃p ys,xs=[.ref p]/\(jR K H p ys\/oE K H p ys)/\∀l,H l=none->Q (.ref l) (upd H l (.lst ys)))\/Uy xs H Q
theorem Oe(hh:X.calm=true):iz X (.type "list") (UG X.K):=HJ.or (Oc hh)
theorem Bo{K:Fg}{F:Hp}:∀x:List Nat,bL K F (signs x) (x.map λc=>V.str ⟨#[c]⟩)
 | []=>rfl
 | c::x=>⟨_,_,rfl,⟨rfl,by rw[sizeLine_eq];simp⟩,Bo x⟩
theorem Z1:CallD C (UG C.K) Cr:=by
 intro Pr F env σ H ds d vs Q r hs h q;unfold Cr at h;split at h
 ·cases h;obtain⟨v,rfl,hv⟩:=mJ hs;obtain⟨z,a,ws,rfl,h1,f1,h2⟩:=hv.tup r.fr;refine .inl ⟨a,ws,rfl,.inr h1,λl hl=>?_⟩;obtain⟨r2,s2⟩:=r.new (o:=.lst ws) hl;exact q _ _ _ r2 s2 ⟨z,l,ws,rfl,bf,bL.mono s2 _ _ h2⟩
 ·cases h;obtain⟨v,rfl,hv⟩:=mJ hs;obtain⟨z,a,ws,rfl,h1,h2⟩:=hv.lst r.fr;refine .inl ⟨a,ws,rfl,.inl (jR.of h1),λl hl=>?_⟩;obtain⟨r2,s2⟩:=r.new (o:=.lst ws) hl;exact q _ _ _ r2 s2 ⟨z,l,ws,rfl,bf,bL.mono s2 _ _ h2⟩
 ·rename_i x;cases h;obtain⟨v,rfl,hv⟩:=mJ hs;obtain⟨rfl,hz⟩:=hv.str;refine .inr ⟨_,rfl,by rw[iC];exact hz,λl hl=>?_⟩;obtain⟨r2,s2⟩:=r.new (o:=.lst ((strOf x).cps.toList.map λc=>V.str ⟨#[c]⟩)) hl;refine q _ _ _ r2 s2 ⟨by simpa[signs] using hz,l,_,rfl,bf,?_⟩;have e:(strOf x).cps.toList=x:=by simp[strOf]
  rw[e];exact Bo x
 ·cases h
def Sx:List D->Option D
 | [.int i,.int j]=>some (.int (if j > i then j else i))
 | _=>none
def Sw:List D->Option D
 | [.int i,.int j]=>some (.int (if j<i then j else i))
 | _=>none
theorem adV:CallD C (λxs H Q=>∃i j,xs=[.int i,.int j]/\Q (.int (if j > i then j else i)) H) Sx:=by
 intro Pr F env σ H ds d vs Q r hs h q;unfold Sx at h;split at h
 ·cases h;obtain⟨v,w,rfl,hv,hw⟩:=Oh hs;obtain rfl:=hv.int;obtain rfl:=hw.int;exact⟨_,_,rfl,q _ H F r (aW.refl F) rfl⟩
 ·cases h
theorem adU:CallD C (λxs H Q=>∃i j,xs=[.int i,.int j]/\Q (.int (if j<i then j else i)) H) Sw:=by
 intro Pr F env σ H ds d vs Q r hs h q;unfold Sw at h;split at h
 ·cases h;obtain⟨v,w,rfl,hv,hw⟩:=Oh hs;obtain rfl:=hv.int;obtain rfl:=hw.int;exact⟨_,_,rfl,q _ H F r (aW.refl F) rfl⟩
 ·cases h
def uz:List D->Option D
 | [.int i,.int j]=>if 0<j/\j<1073741824 then some (.tup [.int (i / j),.int (i % j)]) else none
 | _=>none
theorem S9:CallD C (λxs H Q=>∃i j,xs=[.int i,.int j]/\agm i j/\∀p,H p=none->Q (.ref p) (upd H p (.tup [.int (i / j),.int (i % j)]))) uz:=by
 intro Pr F env σ H ds d vs Q r hs h q;unfold uz at h;split at h
 ·split at h
  ·rename_i hj;cases h;obtain⟨v,w,rfl,hv,hw⟩:=Oh hs;obtain rfl:=hv.int;obtain rfl:=hw.int;refine⟨_,_,rfl,hj,λp hp=>?_⟩;obtain⟨r2,s2⟩:=r.new (o:=.tup [.int _,.int _]) hp;exact q _ _ _ r2 s2 ⟨by rw[sizeLine_eq];simp,p,_,rfl,oE.of bf,⟨_,_,rfl,rfl,_,_,rfl,rfl,rfl⟩⟩
  ·cases h
 ·cases h
def OJ:D->String
 | .non=>"NoneType"
 | .bl _=>"bool"
 | .int _=>"int"
 | .str _=>"str"
 | .tup _=>"tuple"
 | .lst _=>"list"
 | .arr _=>"list"
 | .dct _=>"dict"
 | .fG _=>"dict"
 | .clo _ _=>"NoneType"
def pO(d:D)(T:String):Bool:=OJ d == T||(OJ d == "bool" && T == "int")
theorem adg{d:D}{u c:Value}{b:Bool}{s:Shared}{A:Around}{E:Value->Shared->Prop}{Q:Value->Shared->Prop}(R4:X.K.In s.heap)(nc:∀st ds,d ≠ .clo st ds)(h:Sh s.heap d u)(e:PySem.W.kitOne X.K (.type (OJ d)) c=some b)(q:∀tk,Q (.bool b) { s with toks:=tk }) :
  wpAny (model X.prog X.w) A (call (.builtin "isinstance") [u,c]) Q E s:=by
 cases d with
 | non=>cases h;exact PySem.W.kia_one PySem.W.kitx_none R4 True.intro e (λz=>nomatch z) q
 | bl y=>cases h;exact PySem.W.kia_one PySem.W.kitx_bool R4 True.intro e (λz=>nomatch z) q
 | int i=>obtain⟨t,rfl⟩:=h;exact PySem.W.kia_one PySem.W.kitx_int R4 True.intro e (λz=>nomatch z) q
 | str y=>obtain⟨t,rfl⟩:=h;exact PySem.W.kia_one PySem.W.kitx_str R4 True.intro e (λz=>nomatch z) q
 | tup xs=>
  obtain⟨a,its,rfl,p,_⟩:=h;obtain⟨o,h1,h2,_⟩:=p;exact PySem.W.kia_one PySem.W.kitx_tuple R4 ⟨o,h1,h2⟩ e (λz=>nomatch z) q
 | lst xs=>
  obtain⟨a,its,rfl,p,_⟩:=h;obtain⟨o,h1,h2,_⟩:=p.isList;exact PySem.W.kia_one PySem.W.kitx_list R4 ⟨o,h1,h2⟩ e (λz=>nomatch z) q
 | arr xs=>
  obtain⟨a,its,rfl,p,_⟩:=h;obtain⟨o,h1,h2,_⟩:=p.isList;exact PySem.W.kia_one PySem.W.kitx_list R4 ⟨o,h1,h2⟩ e (λz=>nomatch z) q
 | dct kvs=>
  obtain⟨a,o,rfl,h1,h2⟩:=h;exact PySem.W.kia_one PySem.W.kitx_dict R4 ⟨o,h1,h2.1⟩ e (λz=>nomatch z) q
 | fG kvs=>
  obtain⟨a,o,rfl,h1,h2⟩:=h;exact PySem.W.kia_one PySem.W.kitx_dict R4 ⟨o,h1,h2.1⟩ e (λz=>nomatch z) q
 | clo st ds=>exact(nc st ds rfl).elim
def zV(T:String)(d:D):Option D:=match d with
 | .clo _ _=>none
 | _=>some (.bl (pO d T))
theorem ZF{T:String}{d e:D}(h:zV T d=some e):(∀st ds,d ≠ .clo st ds)/\e = .bl (pO d T):=by cases d<;>simp[zV] at h<;>exact⟨λ_ _ z=>(by cases z),h.symm⟩
theorem W5{T:String}(hk:∀d:D,PySem.W.kitOne X.K (.type (OJ d)) (.type T)=some (pO d T)) :
  iz X (.builtin "isinstance") (λxs H Q=>∃d x,xs=[x,.ty T]/\(∀st ds,d ≠ .clo st ds)/\Rep X.K H d x/\Q (.bl (pO d T)) H):=by
 intro pins s σ H xs us Q I r h;obtain⟨d,x,rfl,nc,hr,q⟩:=h;obtain⟨u,w,rfl,r1,r2⟩:=vals2 r;cases r2;exact adg (X:=X) I.kIn nc (Rep.sh I d x u hr r1) (hk d) λtk=>⟨.bl _,H,I.tok tk,rfl,q⟩
theorem ab2{T:String}{xT:Str}{e:Expr}{a:Ev}{p q pos:Pos}(hg:Gl X "isinstance")(hm:X.mg "isinstance" = none)(hgT:Gl X xT)(hmT:X.mg xT=none)(hvT:bootBuiltins xT=some (.type T))
  (hk:∀d:D,PySem.W.kitOne X.K (.type (OJ d)) (.type T)=some (pO d T)) (hK:X.K=C.K) (ha:PX X C e a) (hn:xT ≠ "__name__":=by decide) (hd:nH xT:=by decide)
  (he:starEach [e,.Name xT q] X.env=(false,eval e X.env)::starEach [.Name xT q] X.env:=by rfl) :
  PX X C (.Call (.Name "isinstance" p) [e,.Name xT q] [] pos) (nW (zV T) a):=by
 refine(Bv (W5 hk) hg hm boot_isinstance (jL ha (jL (YC (v:=.ty T) hgT hmT hvT rfl hn hd) rA) he) (by decide) (by decide) he rfl).imp λσ H Q h=>?_;obtain⟨Pr,F,env,env',d,rl,e1,qq⟩:=h;obtain⟨d0,aN,e2,e3⟩:=aZ e1;obtain⟨e4,rfl⟩:=fH e3;obtain⟨nc,rfl⟩:=ZF e4;refine⟨Pr,F,env,env',d0,rl,e2,λv H1 F1 r1 s1 p1=>⟨d0,v,rfl,nc,?_,qq _ H1 F1 r1 s1 rfl⟩⟩;rw[hK];exact Rep.mono r1.fr d0 v p1
def ue:List D->Option (List Bool)
 | []=>some []
 | .bl b::r=>(ue r).map (b :: ·)
 | _=>none
theorem Jv{K:Fg}{F:Hp}:∀{ds:List D} {bs:List Bool} {vs:List V},ue ds=some bs->bL K F ds vs->vs=bs.map V.bl
 | [],bs,vs,h,hr=>by simp[ue] at h;subst h;cases hr;rfl
 | d::ds,bs,vs,h,hr=>by
  obtain⟨v,r,rfl,h1,h2⟩:=hr;cases d with
  | bl b=>
   simp only[ue] at h;cases e:ue ds with
   | none=>rw[e] at h;cases h
   | some cs=>
    rw[e] at h;cases h;cases h1;rw[Jv e h2]
    rfl
  | _=>simp[ue] at h
theorem Ir:∀{bs:List Bool} {us:List Value},Vals (bs.map V.bl) us->us=bs.map Value.bool
 | [],_,.nil=>rfl
 | b::bs,_,.cons r t=>by
  cases r;rw[Ir t]
  rfl
theorem Ei(bs:List Bool):(List.range bs.length).all (λi=>bs.getD i true)=bs.all id:=by
 induction bs with
 | nil=>rfl
 | cons b bs ih=>
  rw[Qqv,List.range_succ_eq_map,List.all_cons,List.all_map,List.all_cons];simp only[List.getD_cons_zero,id]
  congr 1
theorem Tj(hc:X.calm=true):iz X (.builtin "all") (λxs H Q=>∃(p:Addr) (bs:List Bool),xs=[.ref p]/\jR X.K H p (bs.map V.bl)/\Q (.bl (bs.all id)) H):=by
 intro pins s σ H xs us Q I r h;obtain⟨p,bs,rfl,hq,q⟩:=h;obtain⟨u,rfl,rx⟩:=vals1 r;cases rx;obtain⟨its,rv,pl,_⟩:=I.list hq;have e:=Ir rv;subst e;refine call_all_walk (wpAny_pyIter_list pl.isList ?_);have hlt:p<s.heap.objs.size:=by obtain⟨o,e,_⟩:=pl.isList;exact Qwj e
 refine⟨s.heap.objs.size,_,_,_,_,_,λi=>bs.getD i true,rfl,Walks.list (A:=X.A.in1) (show X.A.in1.handled=none from I.ok.hd hc) s.heap.objs.size p (Qw7 hlt) (bs.map Value.bool).toArray,⟨⟨_,Qwy _ rfl,rfl,rfl⟩,by obtain⟨o,e,rr⟩:=pl.isList;exact⟨o,Qqz _ e,rr⟩⟩,?_,λh' tk hk=>?_⟩
 ·intro i v s' Q' E' hv hq';have hv:(bs.map Value.bool).toArray[i]? = some v:=hv;rw[Qj4,Qwx] at hv;cases hb:bs[i]? with
  | none=>rw[hb] at hv;cases hv
  | some b=>
   rw[hb] at hv;cases hv;refine Qj9 ?_;have this:bs.getD i true=b:=by simp[Qq9,hb]
   have hq':Q' (bs.getD i true) s':=hq'
   rwa [this] at hq'
 ·have I1:Inv X pins σ H { s with heap:=h',toks:=tk }:=I.kept λb o e=>hk b o (by simp;exact Qw7 (Qwj e)) (Qqz _ e);refine⟨.bl _,H,I1,rfl,?_⟩;have e2:(bs.map Value.bool).toArray.size=bs.length:=by simp
  rw[e2,Ei];exact q
def Sy:List D->Option D
 | [.lst ds]=>(ue ds).map λbs=>.bl (bs.all id)
 | _=>none
theorem adX:CallD C (λxs H Q=>∃(p:Addr) (bs:List Bool),xs=[.ref p]/\jR C.K H p (bs.map V.bl)/\Q (.bl (bs.all id)) H) Sy:=by
 intro Pr F env σ H ds d vs Q r hs h q;unfold Sy at h;split at h
 ·rename_i es;cases e:ue es with
  | none=>rw[e] at h;cases h
  | some bs=>
   rw[e] at h;cases h;obtain⟨v,rfl,hv⟩:=mJ hs;obtain⟨z,a,ws,rfl,h1,h2⟩:=hv.lst r.fr;have e2:=Jv e h2;subst e2;exact⟨a,bs,rfl,jR.of h1,q _ H F r (aW.refl F) rfl⟩
 ·cases h
def km:List D->Option (List (List Nat))
 | []=>some []
 | .str x::r=>(km r).map (x :: ·)
 | _=>none
def Cj(sep:List Nat):List (List Nat)->List Nat
 | []=>[]
 | x::r=>r.foldl (λacc y=>acc++sep++y) x
theorem Wh(sep:List Nat)(xs:List (List Nat)):Txt.join (strOf sep) (xs.map strOf)=strOf (Cj sep xs):=by
 unfold Txt.join;unfold Builtin.Str.glued;cases xs with
 | nil=>rfl
 | cons x r=>
  show(⟨(r.map strOf).foldl (λacc p=>acc++(strOf sep).cps++p.cps) (strOf x).cps⟩:Str)=strOf (r.foldl (λacc y=>acc++sep++y) x);have go:∀(r:List (List Nat)) (x:List Nat),(r.map strOf).foldl (λacc p=>acc++(strOf sep).cps++p.cps) (strOf x).cps=(strOf (r.foldl (λacc y=>acc++sep++y) x)).cps:=by
   intro r
   induction r with
   | nil=>intro x;rfl
   | cons y r ih=>
    intro x;rw[Qq2,Qz7,Qz7];rw[<-ih (x++sep++y)]
    congr 1
    simp[strOf]
  rw[go]
theorem yq{K:Fg}{F:Hp}:∀{ds:List D} {xs:List (List Nat)} {vs:List V},km ds=some xs->bL K F ds vs->vs=xs.map λx=>V.str (strOf x)
 | [],bs,vs,h,hr=>by simp[km] at h;subst h;cases hr;rfl
 | d::ds,bs,vs,h,hr=>by
  obtain⟨v,r,rfl,h1,h2⟩:=hr;cases d with
  | str b=>
   simp only[km] at h;cases e:km ds with
   | none=>rw[e] at h;cases h
   | some cs=>
    rw[e] at h;cases h;cases h1.1;rw[yq e h2]
    rfl
  | _=>simp[km] at h
theorem xU:∀{xs:List (List Nat)} {us:List Value},Vals (xs.map λx=>V.str (strOf x)) us->StrsAre us (xs.map strOf)
 | [],_,.nil=>.nil
 | x::xs,_,.cons r t=>by
  obtain⟨k,rfl⟩:=r;exact .cons _ k (xU t)
def joinFits(sep:List Nat)(xs:List (List Nat)):Bool:=decide ((xs.map List.length).sum+xs.length*sep.length<=16777216)
def rJoin(K:Fg):V->List V->Hp->VK->Prop:=λx vs H Q=>∃sep xs p,x = .str (strOf sep)/\vs=[.ref p]/\jR K H p (xs.map λx=>V.str (strOf x))/\joinFits sep xs=true/\Q (.str (strOf (Cj sep xs))) H
theorem Y6:MtR X "str.join" (rJoin X.K):=by
 intro pins s σ H x vs v us Q I rx rv h;obtain⟨sep,xs,p,rfl,rfl,hq,hf,q⟩:=h;obtain⟨t,rfl⟩:=rx;obtain⟨u,rfl,ru⟩:=vals1 rv;cases ru;obtain⟨its,r,pl,_⟩:=I.list hq;have hs:=xU r;refine join_list pl.isList (by simpa using hs) ?_ λt' k=>?_
 ·have hf':=Qxw hf;have e:((xs.map strOf).map (·.length))=xs.map List.length:=by
   rw[Qw5];apply Qx4;intro z _;exact iC z
  rw[e,iC,Qqq];exact hf'
 ·rw[Wh];exact⟨.str _,H,I.tok k,⟨t',rfl⟩,q⟩
theorem Jf(sep:List Nat):∀(r:List (List Nat)) (x:List Nat),(r.foldl (λacc y=>acc++sep++y) x).length=x.length+(r.map List.length).sum+r.length*sep.length
 | [],x=>by simp
 | y::r,x=>by
  rw[Qz7,Jf sep r,Qqy,Qqy,Qq2,List.sum_cons,Qqv,Nat.add_mul];omega
theorem Wi{sep:List Nat}{xs:List (List Nat)}(h:joinFits sep xs=true):(Cj sep xs).length<=sizeLine:=by
 have h':=Qxw h;rw[sizeLine_eq];cases xs with
 | nil=>simp[Cj]
 | cons x r=>
  show(r.foldl (λacc y=>acc++sep++y) x).length<=_;rw[Jf];rw[Qq2,List.sum_cons,Qqv,Nat.add_mul] at h';omega
def rW(x y:D):Option D:=match x,y with
 | .str sep,.lst ds=>(match km ds with
  | some xs=>if joinFits sep xs=true then some (.str (Cj sep xs)) else none
  | none=>none)
 | _,_=>none
theorem Yl{o e:Expr}{a b:Ev}{apos cpos:Pos}(hK:X.K=C.K)(ho:PX X C o a)(he:QT X C e b)(hbase:attributeBase o "join" X.env (eval o X.env)=eval o X.env:=by rfl)
  (hs:Ig e X.env:=by rfl)
  (hfew:((backTo cpos (starEach [e] X.env)).all (λx=>!x.1)&&(backToKw cpos (keywordEach [] X.env)).all (λx=>x.1.isSome)
   && decide ([e].length+([]:List Keyword).length+(if ([]:List Keyword).isEmpty then 0 else 1)<30))=true:=by rfl)
  (hline:(apos.endLine == cpos.line)=true:=by rfl) (hplain:(backTo cpos (starEach [] X.env)).any (·.1)=false:=by rfl) :
  PX X C (.Call (.Attribute o "join" apos) [e] [] cpos) (aR rW a b):=by
 refine(aaS PySem.F.plainAttrs_str PySem.F.slot_str_join PySem.F.type_str_join Y6 ho (jL he rA hs) hbase hfew hline hs hplain).imp λσ H Q h=>?_;obtain⟨Pr,F,env,env',d,rl,e0,q⟩:=h;obtain⟨x,aN,e1,e2⟩:=aZ e0;obtain⟨y,dR,e3,e4⟩:=aZ e2;obtain⟨e5,rfl⟩:=fH e4;unfold rW at e5;split at e5
 ·rename_i sep ds;split at e5
  ·rename_i xs hxs;split at e5
   ·rename_i hf;cases e5;refine⟨Pr,F,env,aN,_,rl,e1,λvx H1 F1 r1 s1 p1=>?_⟩;obtain⟨rfl,_⟩:=p1;refine⟨rfl,Pr,F1,aN,env',_,r1,e3,λvy H2 F2 r2 s2 p2=>?_⟩;obtain⟨z,l,ws,rfl,h1,h2⟩:=p2.lst r2.fr;have e6:=yq hxs h2;subst e6;exact⟨sep,xs,l,rfl,rfl,jR.of h1,hf,q _ H2 F2 r2 (s1.trans s2) ⟨rfl,Wi hf⟩⟩
   ·cases e5
  ·cases e5
 ·cases e5
end
theorem Rel.put{C:Cfg}{Pr F:Hp}{env:Env}{σ:L2.St}{H:Hp}(r:Rel C Pr F env σ H){i:Nat}{d:D}{v:V}(hfx:C.fx i=none)(p:Rep C.K F d v):Rel C Pr F (env.set i (some (false,d))) (σ.set i (some v)) H:=by
 refine⟨r.pr,r.fr,by rw[Qzq,Qzq];exact r.len,λj e he=>?_,λj e he=>?_,λj k e f b hj hk g1 g2=>?_,r.dj,λj a hj=>?_⟩
 ·by_cases hji:j=i
  ·subst hji;have hl:j<env.length:=by
    have:=(Qq4.mp he).1
    rwa [Qzq] at this
   rw[Qw3 hl] at he;cases he;exact⟨v,Qw3 (by rw[<-r.len];exact hl),p⟩
  ·rw[Qw0 (Ne.symm hji)] at he ⊢;exact r.val j e he
 ·by_cases hji:j=i
  ·subst hji;have hl:j<env.length:=by
    have:=(Qq4.mp he).1
    rwa [Qzq] at this
   rw[Qw3 hl] at he;cases he
  ·rw[Qw0 (Ne.symm hji)] at he ⊢;exact r.own j e he
 ·have nn:∀(j:Nat) (e:D),(env.set i (some (false,d)))[j]? = some (some (true,e))->j≠i:=λj e he z=>by
   subst z;have hl:j<env.length:=by
    have:=(Qq4.mp he).1
    rwa [Qzq] at this
   rw[Qw3 hl] at he;cases he
  have nj:=nn j e hj;have nk:=nn k f hk;rw[Qw0 (Ne.symm nj)] at hj g1;rw[Qw0 (Ne.symm nk)] at hk g2;exact r.apart j k e f b hj hk g1 g2
 ·have hji:j≠i:=λz=>by rw[z,hfx] at hj;cases hj
  rw[Qw0 (Ne.symm hji)];exact r.fix j a hj
structure TJ(K:Fg)(Pr F:Hp)(env:Env)(σ:L2.St)(H:Hp)(d:D)(a:Addr):Prop where
 own:nD K F H d a
 nF:F a=none
 nP:Pr a=none
 ap:∀(j:Nat) (e:D),env[j]? = some (some (true,e))->σ[j]? = some (some (V.ref a))->False
theorem TJ.of{C:Cfg}{Pr F:Hp}{env:Env}{σ:L2.St}{H:Hp}{a:Addr}{o:HO}{d:D}(r:Rel C Pr F env σ H)(h:H a=none)(ho:nD C.K F (upd H a o) d a):TJ C.K Pr F env σ (upd H a o) d a:=
 ⟨ho,r.fr.free h,r.pr.free h,λj e he hs=>by
  obtain⟨b,h1,h2,_⟩:=r.own j e he;rw[hs] at h1;cases h1;obtain⟨u,hu⟩:=h2.some;rw[h] at hu;cases hu⟩
theorem Rel.Vg{C:Cfg}{Pr F:Hp}{env:Env}{σ:L2.St}{H:Hp}(r:Rel C Pr F env σ H){i:Nat}{d:D}{a:Addr}(hfx:C.fx i=none)(n:TJ C.K Pr F env σ H d a):Rel C Pr F (env.set i (some (true,d))) (σ.set i (some (.ref a))) H:=by
 have same:∀(j:Nat) (x:Bool×D),(env.set i (some (true,d)))[j]? = some (some x)->j=i->x=(true,d)/\j<env.length:=λj x he z=>by
  subst z;have hl:j<env.length:=by
   have:=(Qq4.mp he).1
   rwa [Qzq] at this
  rw[Qw3 hl] at he;cases he;exact⟨rfl,hl⟩
 refine⟨r.pr,r.fr,by rw[Qzq,Qzq];exact r.len,λj e he=>?_,λj e he=>?_,λj k e f b hj hk g1 g2=>?_,r.dj,λj a hj=>?_⟩
 ·by_cases hji:j=i
  ·have:=(same j _ he hji).1;cases this
  ·rw[Qw0 (Ne.symm hji)] at he ⊢;exact r.val j e he
 ·by_cases hji:j=i
  ·obtain⟨z,hl⟩:=same j _ he hji;cases z;subst hji;exact⟨a,Qw3 (by rw[<-r.len];exact hl),n.own,n.nF,n.nP⟩
  ·rw[Qw0 (Ne.symm hji)] at he ⊢;exact r.own j e he
 ·by_cases nj:j=i
  ·by_cases nk:k=i
   ·rw[nj,nk]
   ·obtain⟨z,hl⟩:=same j _ hj nj;subst nj;rw[Qw3 (by rw[<-r.len];exact hl)] at g1;cases g1;rw[Qw0 (Ne.symm nk)] at hk g2;exact(n.ap k f hk g2).elim
  ·rw[Qw0 (Ne.symm nj)] at hj g1;by_cases nk:k=i
   ·obtain⟨z,hl⟩:=same k _ hk nk;subst nk;rw[Qw3 (by rw[<-r.len];exact hl)] at g2;cases g2;exact(n.ap j e hj g1).elim
   ·rw[Qw0 (Ne.symm nk)] at hk g2;exact r.apart j k e f b hj hk g1 g2
 ·have hji:j≠i:=λz=>by rw[z,hfx] at hj;cases hj
  rw[Qw0 (Ne.symm hji)];exact r.fix j a hj
theorem Rel.keep{C:Cfg}{Pr F:Hp}{env:Env}{σ:L2.St}{H:Hp}{d:D}{a:Addr}(r:Rel C Pr F env σ H)(n:TJ C.K Pr F env σ H d a):∃F',Rel C Pr F' env σ H/\aW F F'/\Rep C.K F' d (.ref a):=by
 obtain⟨o,ho⟩:=n.own.some;have s1:aW F (upd F a o):=oV n.nF;have rep:Rep C.K (upd F a o) d (.ref a):=by
  have h2:=n.own;cases d with
  | lst xs=>obtain⟨z,vs,g1,g2⟩:=h2;rw[ho] at g1;cases g1;exact⟨z,a,vs,rfl,bf,bL.mono s1 _ _ g2⟩
  | dct kvs=>obtain⟨z,ks,g1,g2⟩:=h2;rw[ho] at g1;cases g1;exact⟨z,a,ks,rfl,.inl bf,eF.mono s1 _ _ g2⟩
  | fG kvs=>obtain⟨z,ks,g1,g2⟩:=h2;rw[ho] at g1;cases g1;exact⟨z,a,ks,rfl,.inl bf,cZ.mono s1 _ _ g2⟩
  | _=>exact h2.elim
 refine⟨upd F a o,⟨r.pr,λb u e=>?_,r.len,λj e he=>?_,λj e he=>?_,r.apart,λb u e=>?_,r.fix⟩,s1,rep⟩
 ·by_cases hb:b=a
  ·subst hb;rw[bf] at e;cases e;exact ho
  ·rw[bI hb] at e;exact r.fr b u e
 ·obtain⟨v,g1,g2⟩:=r.val j e he;exact⟨v,g1,Rep.mono s1 e v g2⟩
 ·obtain⟨b,g1,g2,g3,g4⟩:=r.own j e he;have hb:b≠a:=λz=>by subst z;exact n.ap j e he g1
  exact⟨b,g1,g2.mono s1 rfl,by rw[bI hb];exact g3,g4⟩
 ·by_cases hb:b=a
  ·subst hb;exact n.nP
  ·rw[bI hb] at e;exact r.dj b u e
theorem Rel.write{C:Cfg}{Pr F:Hp}{env:Env}{σ:L2.St}{H:Hp}{i:Nat}{d d':D}{a:Addr}{u:HO}(r:Rel C Pr F env σ H)(h:env[i]? = some (some (true,d)))(hs:σ[i]? = some (some (V.ref a)))(ho:nD C.K F (upd H a u) d' a) :
  Rel C Pr F (env.set i (some (true,d'))) σ (upd H a u):=by
 obtain⟨a',h1,h2,h3,h4⟩:=r.own i d h;rw[hs] at h1;cases h1;have hi:i<env.length:=(Qq4.mp h).1;have ne:∀(j:Nat) (e:D) (b:Addr),j≠i->env[j]? = some (some (true,e))->σ[j]? = some (some (V.ref b))->b≠a:=λj e b hj he g z=>hj (r.apart j i e d a he h (by rw[<-z];exact g) hs);refine⟨λb w e=>?_,λb w e=>?_,by rw[Qzq];exact r.len,λj e he=>?_,λj e he=>?_,λj k e f b hj hk g1 g2=>?_,r.dj,r.fix⟩
 ·have hb:b≠a:=λz=>by rw[z,h4] at e;cases e
  rw[bI hb];exact r.pr b w e
 ·have hb:b≠a:=λz=>by rw[z,h3] at e;cases e
  rw[bI hb];exact r.fr b w e
 ·by_cases hj:j=i
  ·subst hj;rw[Qw3 hi] at he;cases he
  ·rw[Qw0 (Ne.symm hj)] at he;exact r.val j e he
 ·by_cases hj:j=i
  ·subst hj;rw[Qw3 hi] at he;cases he;exact⟨a,hs,ho,h3,h4⟩
  ·rw[Qw0 (Ne.symm hj)] at he;obtain⟨b,g1,g2,g3,g4⟩:=r.own j e he;exact⟨b,g1,g2.mono (aW.refl F) (bI (ne j e b hj he g1)),g3,g4⟩
 ·have un:∀(j:Nat) (e:D),(env.set i (some (true,d')))[j]? = some (some (true,e))->∃e',env[j]? = some (some (true,e')):=λj e he=>by
   by_cases hj:j=i
   ·subst hj;exact⟨d,h⟩
   ·rw[Qw0 (Ne.symm hj)] at he;exact⟨e,he⟩
  obtain⟨e',hj'⟩:=un j e hj;obtain⟨f',hk'⟩:=un k f hk;exact r.apart j k e' f' b hj' hk' g1 g2
def tN(C:Cfg)(ev:Ev):TE:=λσ H Q=>∃(Pr F:Hp) (env env':Env) (d:D),Rel C Pr F env σ H/\ev env = .ok d env'/\
 ∀a H' F',Rel C Pr F' env' σ H'->aW F F'->TJ C.K Pr F' env' σ H' d a->Q (.ref a) H'
def QS(X:Cx)(C:Cfg)(e:Expr)(ev:Ev):Prop:=PE X e (tN C ev)
section
variable{X:Cx}{C:Cfg}{pos:Pos}
theorem QS.px{e:Expr}{ev:Ev}(h:QS X C e ev):PX X C e ev:=PE.imp h λσ H Q hq=>by
 obtain⟨Pr,F,env,env',d,r,e,q⟩:=hq;refine⟨Pr,F,env,env',d,r,e,λa H' F' r' s' n'=>?_⟩;obtain⟨F2,r2,s2,p2⟩:=r'.keep n';exact q _ _ F2 r2 (s'.trans s2) p2
theorem Pn{es:List Expr}{r:d7}(h:Ln X C es r):QS X C (.List es pos) (bT r):=(aci h).imp λσ H Q hq=>by
 obtain⟨Pr,F,env,env',d,rl,e,q⟩:=hq;obtain⟨ds,aN,e1,e2⟩:=aZ e;split at e2
 ·rename_i hz;cases e2;refine⟨Pr,F,env,env',ds,rl,e1,λvs H1 F1 r1 s1 p1=>⟨by rw[p1.length];exact hz,λp hp=>?_⟩⟩;exact q _ _ F1 (r1.fresh hp) s1 (TJ.of r1 hp ⟨hz,vs,bf,p1⟩)
 ·cases e2
abbrev GV:=D->Env->Option Env
abbrev Xo:=List D->Env->Option Env
def tG(C:Cfg)(lo:Nat)(gv:GV):TG:=λv σ H Q=>∃(Pr F:Hp) (env env':Env) (d:D),Rel C Pr F env σ H/\Rep C.K F d v/\gv d env=some env'/\
 ∀σ' H' F',Rel C Pr F' env' σ' H'->aW F F'->σ'.take lo=σ.take lo->Q σ' H'
def tGs(C:Cfg)(lo:Nat)(gv:Xo):TGs:=λvs σ H Q=>∃(Pr F:Hp) (env env':Env) (ds:List D),Rel C Pr F env σ H/\bL C.K F ds vs/\gv ds env=some env'/\
 ∀σ' H' F',Rel C Pr F' env' σ' H'->aW F F'->σ'.take lo=σ.take lo->Q σ' H'
def PXG(X:Cx)(C:Cfg)(lo:Nat)(e:Expr)(gv:GV):Prop:=PG X e (tG C lo gv)
def aea(X:Cx)(C:Cfg)(lo:Nat)(es:List Expr)(gv:Xo):Prop:=PGs X es (tGs C lo gv)
theorem _root_.L2.PG.imp{X:Cx}{e:Expr}{t t':TG}(h:PG X e t)(i:∀v σ H Q,t' v σ H Q->t v σ H Q):PG X e t':=λpins s σ H v u Q I r q=>h pins s σ H v u Q I r (i v σ H Q q)
theorem _root_.L2.PGs.imp{X:Cx}{e:List Expr}{t t':TGs}(h:PGs X e t)(i:∀v σ H Q,t' v σ H Q->t v σ H Q):PGs X e t':=λpins s σ H v u Q I r q=>h pins s σ H v u Q I r (i v σ H Q q)
def ak(i:Nat):GV:=λd env=>some (env.set i (some (false,d)))
theorem Vd{lo i:Nat}{x:Str}(hN:X.N.Nodup)(hi:X.N[i]? = some x)(hx:Loc X.env.scope x)(hlo:lo<=i)(hfx:C.fx i=none)(hf:X.fn x=true\/X.env.scope.names.lookup x=some .local:=by first|exact .inl rfl|exact .inr rfl|assumption):PXG X C lo (.Name x pos) (ak i):=
 (Yw hN hi hx hf).imp λv σ H Q h=>by
  obtain⟨Pr,F,env,env',d,r,p,e,q⟩:=h;cases e;exact q _ _ F (r.put hfx p) (aW.refl F) (by rw[List.take_set_of_le hlo])
def bF:Xo:=λds env=>if ds.isEmpty then some env else none
def aA(g:GV)(gs:Xo):Xo:=λds env=>match ds with
 | d::r=>(g d env).bind λe1=>gs r e1
 | []=>none
theorem Vc{lo:Nat}:aea X C lo [] bF:=Yv.imp λv σ H Q h=>by
 obtain⟨Pr,F,env,env',ds,r,p,e,q⟩:=h;cases ds with
 | nil=>cases e;cases p;exact⟨rfl,q _ _ F r (aW.refl F) rfl⟩
 | cons d ds=>cases e
def bB(n:Nat)(gs:Xo):GV:=λd env=>match d with
 | .tup ds=>if ds.length=n then gs ds env else none
 | _=>none
theorem Yj{lo:Nat}{es:List Expr}{k:Nat}{gs:Xo}{n:Nat}(hc:X.calm=true)(hK:X.K=C.K)(h:aea X C lo es gs)
  (hn:(assignEach es X.env).length=n:=by rfl) (hst:(assignEach es X.env).findIdx? (·.1)=none:=by rfl):PXG X C lo (.Tuple es k pos) (bB n gs):=(acd hc h hn hst).imp λv σ H Q h=>by
 obtain⟨Pr,F,env,env',d,r,p,e,q⟩:=h;cases d with
 | tup ds=>
  obtain⟨z,a,vs,rfl,h1,h2⟩:=p;unfold bB at e;simp only at e;split at e
  ·rename_i hl;rw[hK];exact⟨a,vs,rfl,aW.tupK r.fr h1,by rw[h2.length];exact hl,Pr,F,env,env',ds,r,h2,e,q⟩
  ·cases e
 | _=>cases e
def Wt(i:Nat)(ix:Ev):GV:=λd env=>match env[i]? with
 | some (some (_,_))=>(match ix env with
  | .ok (.int k) aN=>(match aN[i]? with
   | some (some (true,.lst xs))=>(Wk xs.length k).map λj=>aN.set i (some (true,.lst (xs.set j d)))
   | _=>none)
  | _=>none)
 | _=>none
theorem abV{lo i:Nat}{x:Str}{ix:Expr}{ev:Ev}{px:Pos}(hN:X.N[i]? = some x)(hv:uK X.env.scope x)(h:PX X C ix ev)
  (ha:∀v,assign (.Subscript (.Name x px) ix pos) X.env v=(do
   let ov <-holding [v] (eval (.Name x px) X.env)
   let iv <-holding [v,ov] (eval ix X.env)
   standAt pos
   holding [v,ov,iv] (setItem ov iv v)
   release [v,ov,iv] []):=by intro _;rfl)
  (hd:nH x:=by decide) (hcd:vB x:=by decide):PXG X C lo (.Subscript (.Name x px) ix pos) (Wt i ev):=
 (ace (lF hN hv hd hcd) h set_list ha).imp λv σ H Q hq=>by
  obtain⟨Pr,F,env,env',d,r,p,e,q⟩:=hq;unfold Wt at e;split at e
  ·rename_i o0 d0 h0;obtain⟨v0,hv0,_⟩:=r.rd h0;split at e
   ·rename_i k aN e1;split at e
    ·rename_i xs h2;obtain⟨j,hj,e3⟩:=Qww.mp e;subst e3;refine⟨v0,hv0,Pr,F,env,aN,.int k,r,e1,λvi H1 F1 r1 s1 p1=>?_⟩;cases p1;obtain⟨a,g1,⟨z,vs,g2,g3⟩,g4,g5⟩:=r1.own i _ h2;rw[hv0] at g1;cases g1;refine⟨a,vs,k,j,rfl,rfl,g2,by rw[g3.length];exact hj,?_⟩;refine q σ _ F1 (r1.write h2 hv0 ⟨by rw[Qzq];exact z,vs.set j v,bf,bL.set (Rep.mono s1 d v p) j g3⟩) s1 rfl
    ·cases e
   ·cases e
  ·cases e
end
inductive Out where
 | nx (env:Env)
 | rt (o:Bool) (d:D) (env:Env)
 | bk (env:Env)
 | ct (env:Env)
 | stuck
abbrev bO:=Env->Out
def Fin(C:Cfg)(Pr F:Hp)(D:Ends):Out->Prop
 | .nx env'=>∀σ' H' F',Rel C Pr F' env' σ' H'->aW F F'->D.nx σ' H'
 | .rt false d env'=>∀v σ' H' F',Rel C Pr F' env' σ' H'->aW F F'->Rep C.K F' d v->D.rt v H'
 | .rt true d env'=>∀a σ' H' F',Rel C Pr F' env' σ' H'->aW F F'->TJ C.K Pr F' env' σ' H' d a->D.rt (.ref a) H'
 | .bk env'=>∀σ' H' F',Rel C Pr F' env' σ' H'->aW F F'->D.bk σ' H'
 | .ct env'=>∀σ' H' F',Rel C Pr F' env' σ' H'->aW F F'->D.ct σ' H'
 | .stuck=>False
theorem Fin.mono{C:Cfg}{Pr F F1:Hp}{D:Ends}(s:aW F F1):∀{o:Out},Fin C Pr F D o->Fin C Pr F1 D o
 | .nx _,h=>λσ' H' F' r t=>h σ' H' F' r (s.trans t)
 | .rt false _ _,h=>λv σ' H' F' r t=>h v σ' H' F' r (s.trans t)
 | .rt true _ _,h=>λv σ' H' F' r t=>h v σ' H' F' r (s.trans t)
 | .bk _,h=>λσ' H' F' r t=>h σ' H' F' r (s.trans t)
 | .ct _,h=>λσ' H' F' r t=>h σ' H' F' r (s.trans t)
 | .stuck,h=>h
def tS(C:Cfg)(ev:bO):TS:=λD σ H=>∃(Pr F:Hp) (env:Env),Rel C Pr F env σ H/\Fin C Pr F D (ev env)
def Xi(X:Cx)(C:Cfg)(st:Stmt)(ev:bO):Prop:=PS X st (tS C ev)
def Ek(X:Cx)(C:Cfg)(st:List Stmt)(ev:bO):Prop:=Lp X st (tS C ev)
def jG{α:Type}(x:R α)(f:α->Env->Out):Out:=match x with
 | .ok a env=>f a env
 | .stuck=>.stuck
theorem eQ{C:Cfg}{Pr F:Hp}{D:Ends}{α:Type}{x:R α}{f:α->Env->Out}(h:Fin C Pr F D (jG x f)):∃a aN,x = .ok a aN/\Fin C Pr F D (f a aN):=by
 cases x with
 | ok a aN=>exact⟨a,aN,rfl,h⟩
 | stuck=>exact h.elim
section
variable{X:Cx}{C:Cfg}{pos:Pos}
def cM:bO:=λenv=>.nx env
def aF(a b:bO):bO:=λenv=>match a env with
 | .nx e=>b e
 | .rt o d e=>.rt o d e
 | .bk e=>.bk e
 | .ct e=>.ct e
 | .stuck=>.stuck
theorem U5:Ek X C [] cM:=Yn.imp λD σ H h=>by
 obtain⟨Pr,F,env,r,f⟩:=h;exact f σ H F r (aW.refl F)
theorem Rr:Xi X C (.Break pos) (λenv=>.bk env):=Vr.imp λD σ H h=>by
 obtain⟨Pr,F,env,r,f⟩:=h;exact f σ H F r (aW.refl F)
def gr(t:gK)(a b:bO):bO:=λenv=>jG (t env) λc aN=>if c=true then a aN else b aN
def bD(a:Ev):bO:=λenv=>jG (a env) λd aN=>.rt false d aN
def Bc(a:Ev):bO:=λenv=>jG (a env) λd aN=>.rt true d aN
def Wc(o:Option Env):Out:=match o with
 | some e=>.nx e
 | none=>.stuck
def aX(a:Ev)(g:GV):bO:=λenv=>jG (a env) λd aN=>Wc (g d aN)
theorem ad0{a:Ev}{g:GV}{D:Ends}{σ:L2.St}{H:Hp}(h:tS C (aX a g) D σ H):XH (tE C a) (tG C 0 g) D σ H:=by
 obtain⟨Pr,F,env,r,f⟩:=h;obtain⟨d,aN,e1,f1⟩:=eQ f;refine⟨Pr,F,env,aN,d,r,e1,λv H1 F1 r1 s1 p1=>?_⟩;cases e2:g d aN with
 | none=>rw[e2] at f1;exact f1.elim
 | some dR=>rw[e2] at f1;exact⟨Pr,F1,aN,dR,d,r1,p1,e2,λσ2 H2 F2 r2 s2 _=>f1 σ2 H2 F2 r2 (s1.trans s2)⟩
theorem Yb{i:Nat}{x:Str}{e:Expr}{a:Ev}{pos':Pos}(hN:X.N.Nodup)(hi:X.N[i]? = some x)(hx:Loc X.env.scope x)(hfx:C.fx i=none)(he:PX X C e a)(hs:swapsWith e (some (.Name x pos')) pos.line X.env=pure false:=by rfl)(hf:X.fn x=true\/X.env.scope.names.lookup x=some .local:=by first|exact .inl rfl|exact .inr rfl|assumption) :
  Xi X C (.Assign [.Name x pos'] e pos) (aX a (ak i)):=(Vo hN hi hx he hs hf).imp λD σ H h=>by
 obtain⟨Pr,F,env,r,f⟩:=h;obtain⟨d,aN,e1,f1⟩:=eQ f;exact⟨Pr,F,env,aN,d,r,e1,λv H1 F1 r1 s1 p1=>f1 _ H1 F1 (r1.put hfx p1) s1⟩
def cI(i:Nat)(a:Ev):bO:=λenv=>jG (a env) λd aN=>.nx (aN.set i (some (true,d)))
theorem Yc{i:Nat}{x:Str}{e:Expr}{a:Ev}{pos':Pos}(hN:X.N.Nodup)(hi:X.N[i]? = some x)(hx:Loc X.env.scope x)(hfx:C.fx i=none)(he:QS X C e a)(hs:swapsWith e (some (.Name x pos')) pos.line X.env=pure false:=by rfl)(hf:X.fn x=true\/X.env.scope.names.lookup x=some .local:=by first|exact .inl rfl|exact .inr rfl|assumption) :
  Xi X C (.Assign [.Name x pos'] e pos) (cI i a):=(Vo hN hi hx he hs hf).imp λD σ H h=>by
 obtain⟨Pr,F,env,r,f⟩:=h;obtain⟨d,aN,e1,f1⟩:=eQ f;exact⟨Pr,F,env,aN,d,r,e1,λv H1 F1 r1 s1 p1=>f1 _ H1 F1 (r1.Vg hfx p1) s1⟩
def dJ(i:Nat)(a:Ev):bO:=λenv=>match env[i]? with
 | some (some (true,.lst _))=>jG (a env) λd aN=>(match aN[i]? with
  | some (some (true,.lst xs))=>if xs.length<sizeLine then .nx (aN.set i (some (true,.lst (xs++[d])))) else .stuck
  | _=>.stuck)
 | _=>.stuck
theorem Ye{i:Nat}{x:Str}{e:Expr}{a:Ev}{px apos cpos:Pos}(hN:X.N[i]? = some x)(hv:uK X.env.scope x)(he:PX X C e a)(hK:X.K=C.K)
  (hs:swapsWith (.Call (.Attribute (.Name x px) "append" apos) [e] [] cpos) none pos.line X.env=pure false:=by rfl)
  (hfew:((backTo cpos (starEach [e] X.env)).all (λx=>!x.1)&&(backToKw cpos (keywordEach [] X.env)).all (λx=>x.1.isSome)
   && decide (([e]:List Expr).length+([]:List Keyword).length+(if ([]:List Keyword).isEmpty then 0 else 1)<30))=true:=by rfl)
  (hbase:attributeBase (.Name x px) "append" X.env (eval (.Name x px) X.env)=eval (.Name x px) X.env:=by rfl)
  (hline:(apos.endLine == cpos.line)=true:=by rfl) (hst:Ig e X.env:=by rfl) (hplain:(backTo cpos (starEach [] X.env)).any (·.1)=false:=by rfl)
  (hd:nH x:=by decide) (hcd:vB x:=by decide):Xi X C (.Expr (.Call (.Attribute (.Name x px) "append" apos) [e] [] cpos) pos) (dJ i a):=by
 refine PS.imp (Yo (aaS PySem.F.plainAttrs_list PySem.F.slot_list_append PySem.F.type_list_append Fj (lF hN hv hd hcd) (jL he rA hst) hbase hfew hline hst hplain) hs) λD σ H h=>?_;obtain⟨Pr,F,env,r,f⟩:=h;unfold dJ at f;split at f
 ·rename_i xs0 h0;obtain⟨d,aN,e1,f1⟩:=eQ f;obtain⟨a0,hv0,⟨z0,vs0,g0,_⟩,_⟩:=r.own i _ h0;refine⟨_,hv0,.inl ⟨rfl,vs0,jR.of g0⟩,Pr,F,env,aN,d,r,e1,λv H1 F1 r1 s1 p1=>?_⟩;split at f1
  ·rename_i xs h1;split at f1
   ·rename_i hz;obtain⟨a,g1,⟨z,vs,g2,g3⟩,g4,g5⟩:=r1.own i _ h1;rw[hv0] at g1;cases g1;refine⟨a0,vs,v,rfl,rfl,g2,by rw[g3.length];exact hz,?_⟩;exact f1 σ _ F1 (r1.write h1 hv0 ⟨by rw[Qqy];exact hz,vs++[v],bf,g3.append (bL.one p1)⟩) s1
   ·exact f1.elim
  ·exact f1.elim
 ·exact f.elim
def rR(K:Fg)(F:Hp)(ds:List D)(J:It):Prop:=∀(i:Nat) (H:Hp),aW F H->(ds[i]? = none->i=ds.length->J.stop i H)/\∀d,ds[i]? = some d->J.go i H/\∀x H',J.yld i H x H'->
 (H'=H/\Rep K F d x)\/∃p vs es,H p=none/\H'=upd H p (.tup vs)/\x = .ref p/\d = .tup es/\es.length<=sizeLine/\bL K F es vs
def tI(C:Cfg)(ev:d7):TI:=λσ H R=>∃(Pr F:Hp) (env env':Env) (ds:List D),Rel C Pr F env σ H/\ev env = .ok ds env'/\
 ∀J H' F',Rel C Pr F' env' σ H'->aW F F'->rR C.K F' ds J->R J H'
def TF(X:Cx)(C:Cfg)(tg iter:Expr)(ev:d7):Prop:=PI X tg iter (tI C ev)
theorem _root_.L2.PI.imp{X:Cx}{tg e:Expr}{t t':TI}(h:PI X tg e t)(i:∀σ H R,t' σ H R->t σ H R):PI X tg e t':=λpins s σ H R I q=>h pins s σ H R I (i σ H R q)
theorem rR.item{Pr F F1:Hp}{env:Env}{σ:L2.St}{H:Hp}{ds:List D}{J:It}{i:Nat}{d:D}{x:V}{H':Hp}(r:Rel C Pr F1 env σ H)(s:aW F F1)(y:rR C.K F ds J)(hd:ds[i]? = some d)(hy:J.yld i H x H') :
  ∃F2,Rel C Pr F2 env σ H'/\aW F1 F2/\Rep C.K F2 d x:=by
 rcases((y i H (s.trans r.fr)).2 d hd).2 x H' hy with ⟨rfl,p⟩|⟨p,vs,es,hp,rfl,rfl,rfl,hz,q⟩
 ·exact⟨F1,r,aW.refl F1,Rep.mono s _ _ p⟩
 ·obtain⟨r2,s2⟩:=r.new (o:=.tup vs) hp;exact⟨_,r2,s2,hz,p,vs,rfl,oE.of bf,bL.mono (s.trans s2) _ _ q⟩
def ir(g:GV)(b:bO):List D->bO
 | [],env=>.nx env
 | d::ds,env=>(match g d env with
  | none=>.stuck
  | some e1=>(match b e1 with
   | .nx e2=>ir g b ds e2
   | .ct e2=>ir g b ds e2
   | .bk e2=>.nx e2
   | .rt o d e2=>.rt o d e2
   | .stuck=>.stuck))
def eE(it:d7)(g:GV)(b:bO):bO:=λenv=>jG (it env) λds aN=>ir g b ds aN
theorem Yd{tg iter:Expr}{body:List Stmt}{it:d7}{g:GV}{b:bO}(hp:PassesOwn (model X.prog X.w) X.A X.env X.xe)(hc:X.calm=true)(hi:TF X C tg iter it)(hg:PXG X C 0 tg g)(hb:Ek X C body b)
  (hs:∀x,foldedSetIterable iter X.env x=pure x:=by intro _;rfl):Xi X C (.For tg iter body [] pos) (eE it g b):=(ab7 hp hc hi hg hb hs).imp λD σ H h=>by
 obtain⟨Pr,F,env,r,f⟩:=h;obtain⟨ds,aN,e1,f1⟩:=eQ f;refine⟨Pr,F,env,aN,ds,r,e1,λJ H1 F1 r1 s1 y1=>?_⟩;refine⟨λi m σ' H'=>m=ds.length - i/\i<=ds.length/\∃F' env',Rel C Pr F' env' σ' H'/\aW F1 F'/\Fin C Pr F' D (ir g b (ds.drop i) env'),⟨ds.length,rfl,Qx3 _,F1,aN,r1,aW.refl _,f1.mono s1⟩,?_⟩;rintro i m σ' H' ⟨rfl,hi,F',env',r',s',f'⟩;by_cases hl:i<ds.length
 ·have hd:ds[i]? = some ds[i]:=Qq7 hl;have hdr:ds.drop i=ds[i]::ds.drop (i+1):=Qz8 hl;have yy:=y1 i H' (s'.trans r'.fr);refine .inr ⟨(yy.2 _ hd).1,λσ2 H2=>∃F' env',Rel C Pr F' env' σ2 H2/\aW F1 F'/\Fin C Pr F' D (ir g b (ds.drop (i+1)) env'),λσ2 H2 h2=>⟨ds.length - (i+1),by omega,rfl,hl,h2⟩,λx H2 hy=>?_⟩;obtain⟨F2,r2,s2,p2⟩:=rR.item r' s' y1 hd hy;rw[hdr] at f';have f2:=f'.mono s2;unfold ir at f2;cases eg:g ds[i] env' with
  | none=>rw[eg] at f2;exact f2.elim
  | some e2=>
   rw[eg] at f2;refine⟨Pr,F2,env',e2,ds[i],r2,p2,eg,λσ3 H3 F3 r3 s3 _=>⟨Pr,F3,e2,r3,?_⟩⟩;simp only at f2;have s13:aW F1 F3:=(s'.trans s2).trans s3;cases eb:b e2 with
   | nx e3=>rw[eb] at f2;exact λσ4 H4 F4 r4 s4=>⟨F4,e3,r4,s13.trans s4,f2.mono (s3.trans s4)⟩
   | ct e3=>rw[eb] at f2;exact λσ4 H4 F4 r4 s4=>⟨F4,e3,r4,s13.trans s4,f2.mono (s3.trans s4)⟩
   | bk e3=>rw[eb] at f2;exact λσ4 H4 F4 r4 s4=>f2 σ4 H4 F4 r4 (s3.trans s4)
   | rt o d e3=>rw[eb] at f2;cases o<;>exact λv σ4 H4 F4 r4 s4 p4=>f2 v σ4 H4 F4 r4 (s3.trans s4) p4
   | stuck=>rw[eb] at f2;exact f2.elim
 ·have e:i=ds.length:=by omega
  subst e;rw[List.drop_length] at f';exact .inl ⟨(y1 _ H' (s'.trans r'.fr)).1 (Qjj (Qqw _)) rfl,f' σ' H' F' r' (aW.refl F')⟩
def dI(t:gK)(b:bO):Nat->bO
 | 0,_=>.stuck
 | n+1,env=>jG (t env) λc e1=>if c=true then (match b e1 with
   | .nx e2=>dI t b n e2
   | .ct e2=>dI t b n e2
   | .bk e2=>.nx e2
   | .rt o d e2=>.rt o d e2
   | .stuck=>.stuck) else .nx e1
theorem Rp{c:Expr}{body:List Stmt}{t:gK}{b:bO}(n:Nat)(hp:PassesOwn (model X.prog X.w) X.A X.env X.xe)(hc:PXT X C c t)(hb:Ek X C body b):Xi X C (.While c body [] pos) (dI t b n):=(Vm hp hc hb).imp λD σ H h=>by
 obtain⟨Pr,F,env,r,f⟩:=h;refine⟨λm σ' H'=>∃F' env',Rel C Pr F' env' σ' H'/\aW F F'/\Fin C Pr F' D (dI t b m env'),⟨n,F,env,r,aW.refl _,f⟩,?_⟩;rintro m σ' H' ⟨F',env',r',s',f'⟩;cases m with
 | zero=>exact f'.elim
 | succ m=>
  unfold dI at f';obtain⟨k,e1,e2,f1⟩:=eQ f';refine⟨Pr,F',env',e1,k,r',e2,λH1 F1 r1 s1=>?_⟩;have f2:=f1.mono s1;show if k=true then _ else _
  split at f2
  ·rename_i hk;rw[if_pos hk];refine⟨λσ2 H2=>∃F' env',Rel C Pr F' env' σ2 H2/\aW F F'/\Fin C Pr F' D (dI t b m env'),λσ2 H2 h2=>⟨m,Nat.lt_succ_self _,h2⟩,Pr,F1,e1,r1,?_⟩;have s13:aW F F1:=s'.trans s1;cases eb:b e1 with
   | nx e3=>rw[eb] at f2;exact λσ4 H4 F4 r4 s4=>⟨F4,e3,r4,s13.trans s4,f2.mono s4⟩
   | ct e3=>rw[eb] at f2;exact λσ4 H4 F4 r4 s4=>⟨F4,e3,r4,s13.trans s4,f2.mono s4⟩
   | bk e3=>rw[eb] at f2;exact λσ4 H4 F4 r4 s4=>f2 σ4 H4 F4 r4 s4
   | rt o d e3=>rw[eb] at f2;cases o<;>exact λv σ4 H4 F4 r4 s4 p4=>f2 v σ4 H4 F4 r4 s4 p4
   | stuck=>rw[eb] at f2;exact f2.elim
  ·rename_i hk;rw[if_neg hk];exact f2 σ' H1 F1 r1 (aW.refl F1)
end
end Ev
namespace L2
open PySem PySem.Spec PyProof.Rows
def Its(z:Str):It:=⟨λi _=>i<z.cps.size,λi H x H'=>H'=H/\∃c,z.cps[i]? = some c/\x = .str ⟨#[c]⟩,λi _=>z.cps.size<=i⟩
theorem Q3{P:Program}{w:World}{K:PySem.W.Frag}{tg:Expr}(it:Addr)(z:Str)(t:Tok):Turn P w K tg (Its z) [it] it (λi h=>h.IsStrIter it "str_ascii_iterator" z t i/\i<=z.cps.size) where
 mem:=by simp
 obj:=λi h st b hb=>by
  have e:b=it:=by simpa using hb
  subst e;obtain⟨⟨o,ho,hc,hd⟩,_⟩:=st;exact⟨o,ho,λv z=>by rw[hd] at z;cases z⟩
 keep:=λi h h' st k=>let ⟨⟨o,ho,r⟩,l⟩:=st;⟨⟨o,k it (by simp) o ho,r⟩,l⟩
 item:=by intro X hP hw hK hc i pins s σ H E I hf st hg;subst hP hw hK;obtain⟨f0,f1,f2,f3,f4,f5⟩:=hf it (by simp);have hg':i<z.cps.size:=hg;refine wpAny_pyNext_ascii_item st.1 (c:=z.cps[i]) (by simp[hg']) λh' hit' hs'=>?_;have I1:Inv X pins σ H { s with heap:=h',toks:=s.toks+1 }:=I.turned (λb o hb e=>hs'.extBut b o hb e) f0 f1 f3 f4 f5;obtain⟨o,ho,hcl,hda⟩:=hit';refine⟨_,rfl,Fw (s:={ s with heap:=h',toks:=s.toks+1 }) (n:="str_ascii_iterator") ho hcl hda (by decide) ⟨.str ⟨#[z.cps[i]]⟩,H,I1,⟨_,rfl⟩,⟨rfl,_,by simp[hg'],rfl⟩,⟨⟨o,ho,hcl,hda⟩,hg'⟩,λb hb=>(hf b hb).1⟩⟩
 done:=by intro X hP hw hK hc i pins s σ H E I hf st hg;subst hP hw hK;obtain⟨f0,f1,f2,f3,f4,f5⟩:=hf it (by simp);have hg':z.cps.size<=i:=hg;exact wpAny_pyNext_ascii_end (I.ok.hd hc) st.1 (by simp;omega) λh' eb=>⟨rfl,I.turned (t':=s.toks) (λb o hb e=>eb b o hb e) f0 f1 f3 f4 f5⟩
 self:=λ_ _ _ _ _ st h=>wpAny_pyIter_striter_ascii st.1 h
theorem Q0{P:Program}{w:World}{K:PySem.W.Frag}{tg:Expr}(it:Addr)(z:Str)(t:Tok):Turn P w K tg (Its z) [it] it (λi h=>h.IsStrIter it "str_iterator" z t i/\i<=z.cps.size) where
 mem:=by simp
 obj:=λi h st b hb=>by
  have e:b=it:=by simpa using hb
  subst e;obtain⟨⟨o,ho,hc,hd⟩,_⟩:=st;exact⟨o,ho,λv z=>by rw[hd] at z;cases z⟩
 keep:=λi h h' st k=>let ⟨⟨o,ho,r⟩,l⟩:=st;⟨⟨o,k it (by simp) o ho,r⟩,l⟩
 item:=by intro X hP hw hK hc i pins s σ H E I hf st hg;subst hP hw hK;obtain⟨f0,f1,f2,f3,f4,f5⟩:=hf it (by simp);have hg':i<z.cps.size:=hg;refine wpAny_pyNext_wide_item st.1 (c:=z.cps[i]) (by simp[hg']) λh' hit' hs'=>?_;have I1:Inv X pins σ H { s with heap:=h',toks:=s.toks+1 }:=I.turned (λb o hb e=>hs'.extBut b o hb e) f0 f1 f3 f4 f5;obtain⟨o,ho,hcl,hda⟩:=hit';refine⟨_,rfl,Fw (s:={ s with heap:=h',toks:=s.toks+1 }) (n:="str_iterator") ho hcl hda (by decide) ⟨.str ⟨#[z.cps[i]]⟩,H,I1,⟨_,rfl⟩,⟨rfl,_,by simp[hg'],rfl⟩,⟨⟨o,ho,hcl,hda⟩,hg'⟩,λb hb=>(hf b hb).1⟩⟩
 done:=by intro X hP hw hK hc i pins s σ H E I hf st hg;subst hP hw hK;obtain⟨f0,f1,f2,f3,f4,f5⟩:=hf it (by simp);have hg':z.cps.size<=i:=hg;exact wpAny_pyNext_wide_end (I.ok.hd hc) st.1 (by simp;omega) λh' eb=>⟨rfl,I.turned (t':=s.toks) (λb o hb e=>eb b o hb e) f0 f1 f3 f4 f5⟩
 self:=λ_ _ _ _ _ st h=>wpAny_pyIter_striter_wide st.1 h
section
variable{X:Cx}{tg:Expr}
def aht(K:PySem.W.Frag)(tl:TE):TI:=λσ H R=>tl σ H λx H1=>(∃a,x = .ref a/\(∃xs,jR K H1 a xs)/\R (Itl K a) H1)\/(∃a,x = .ref a/\(∃xs,oE K H1 a xs)/\R (Itt K a) H1)\/∃z,x = .str z/\R (Its z) H1
theorem acb{l:Expr}{tl:TE}(hl:PE X l tl):PI X tg l (aht X.K tl):=by
 intro pins s σ H R I h;refine gm (hl pins s σ H _ I h) λv s1 ⟨x,H1,I1,r1,q1⟩=>?_;have own:∀b ∈ [s1.heap.objs.size],uL X pins H1 b:=λb hb=>by
  have e:b=s1.heap.objs.size:=by simpa using hb
  subst e;exact I1.N5 (Qqw _) (I1.hok.fresh (Qqw _))
 rcases q1 with ⟨a,e,⟨xs,hq⟩,q⟩|⟨a,e,⟨xs,hq⟩,q⟩|⟨z,e,q⟩
 ·subst e;cases r1;obtain⟨its,rv,p,hz⟩:=I1.list hq;refine wpAny_pyIter_list p.isList ?_;exact⟨s1.heap.objs.size,[s1.heap.objs.size],_,_,H1,rfl,I1.kept (t':=s1.toks) λb o e=>Qqz _ e,Q4 a _,⟨_,Qwy _ rfl,rfl,rfl⟩,own,q⟩
 ·subst e;cases r1;obtain⟨its,rv,p,hz⟩:=I1.tuple hq;refine wpAny_pyIter_tuple (show s1.heap.IsTuple a its.toArray from p) ?_;exact⟨s1.heap.objs.size,[s1.heap.objs.size],_,_,H1,rfl,I1.kept (t':=s1.toks) λb o e=>Qqz _ e,Mh a _,⟨_,Qwy _ rfl,rfl,rfl⟩,own,q⟩
 ·subst e;obtain⟨t,rfl⟩:=r1;cases ha:z.cps.all (·< 128)
  ·exact wpAny_pyIter_wide ha ⟨s1.heap.objs.size,[s1.heap.objs.size],_,_,H1,rfl,I1.kept (t':=s1.toks) λb o e=>Qqz _ e,Q0 _ z t,⟨⟨_,Qwy _ rfl,rfl,rfl⟩,Qx3 _⟩,own,q⟩
  ·exact wpAny_pyIter_ascii ha ⟨s1.heap.objs.size,[s1.heap.objs.size],_,_,H1,rfl,I1.kept (t':=s1.toks) λb o e=>Qqz _ e,Q3 _ z t,⟨⟨_,Qwy _ rfl,rfl,rfl⟩,Qx3 _⟩,own,q⟩
def aec(lo c:Int)(n:Nat):It:=⟨λi _=>i<n,λi H x H'=>H'=H/\x = .int (lo+i*c),λi _=>n<=i⟩
theorem Iv{P:Program}{w:World}{K:PySem.W.Frag}{tg:Expr}(it:Addr)(lo c:Int)(n:Nat):Turn P w K tg (aec lo c n) [it] it (λi h=>IsRangeIter h it (lo+(i:Nat)*c) ((n:Int) - (i:Nat)) c) where
 mem:=by simp
 obj:=λi h st b hb=>by
  have e:b=it:=by simpa using hb
  subst e;exact⟨_,st,λv z=>by
   have z':Data.fields _=Data.cell v:=z;cases z'⟩
 keep:=λi h h' st k=>k it (by simp) _ st
 item:=by intro X hP hw hK hc i pins s σ H E I hf st hg;subst hP hw hK;obtain⟨f0,f1,f2,f3,f4,f5⟩:=hf it (by simp);have W:=Walks.range (prog:=X.prog) (w:=X.w) (I.ok.hd hc) it lo c n;refine W.item i s _ _ hg st λv h' tk hv st' kk=>?_;obtain⟨t,rfl⟩:=hv;have I1:Inv X pins σ H { s with heap:=h',toks:=tk }:=I.turned (λb o hb e=>kk b o (by simpa using hb) e) f0 f1 f3 f4 f5;exact⟨_,rfl,Fw (s:={ s with heap:=h',toks:=tk }) (n:="range_iterator") st' rfl rfl (by decide) ⟨.int (lo+i*c),H,I1,⟨t,rfl⟩,⟨rfl,rfl⟩,st',λb hb=>(hf b hb).1⟩⟩
 done:=by intro X hP hw hK hc i pins s σ H E I hf st hg;subst hP hw hK;obtain⟨f0,f1,f2,f3,f4,f5⟩:=hf it (by simp);exact wpAny_pyNext_range_end (I.ok.hd hc) st (by have:n<=i:=hg;omega) λh' eb=>⟨rfl,I.turned (t':=s.toks) (λb o hb e=>eb b o hb e) f0 f1 f3 f4 f5⟩
 self:=λ_ _ _ _ _ st h=>wpAny_pyIter_rangeiter st h
def afR(ta:TA):TI:=λσ H R=>ta σ H λvs H1=>∃i j c:Int,vs=[.int i,.int j,.int c]/\c≠0/\c.natAbs<1073741824/\Builtin.Range.small i j c=true/\R (aec i c (Builtin.Range.rangeSize i j c).toNat) H1
theorem RC{a b c:Expr}{ta:TA}{p pos:Pos}(hg:Gl X "range")(hm:X.mg "range" = none)(ha:PA X [a,b,c] ta)(hs:starEach [a,b,c] X.env=[(false,eval a X.env),(false,eval b X.env),(false,eval c X.env)]:=by rfl)(hs2:starEach [b,c] X.env=[(false,eval b X.env),(false,eval c X.env)]:=by rfl) :
  PI X tg (.Call (.Name "range" p) [a,b,c] [] pos) (afR ta):=by
 intro pins s σ H R I h;refine Call_ (tO I hg hm boot_range (Qz0 (gm (ha pos pins s σ H _ I h) λus s1 ⟨vs,H1,I1,r1,q1⟩=>?_) (by rw[hs,hs2]) (by rw[hs2];rfl)));obtain⟨i,j,c,e,hc,hcs,hsm,q⟩:=q1;subst e;cases r1 with
 | cons r rr=>
  cases rr with
  | cons r' rr=>
   cases rr with
   | cons r'' rr=>
    cases rr;obtain⟨t,rfl⟩:=r;obtain⟨t',rfl⟩:=r';obtain⟨t'',rfl⟩:=r'';refine call_range_3 hc ?_ (.inl (PyProof.noPylong_small hcs));refine wpAny_pyIter_range (IsRange.new ..) hsm ?_;generalize ho:({ cls:=.type "range",data:=.fields #[.int i t,.int j t',.int c t''] }:Obj)=o;have I2:Inv X pins σ H1 { s1 with heap:=s1.heap.push o,toks:=s1.toks }:=I1.kept λb o e=>Qqz _ e;refine⟨(s1.heap.push o).objs.size,[(s1.heap.push o).objs.size],_,_,H1,rfl,I2.kept (t':=s1.toks) λb o e=>Qqz _ e,Iv _ i c (Builtin.Range.rangeSize i j c).toNat,?_,λb hb=>?_,q⟩
    ·have e1:i+((0:Nat):Int)*c=i:=by simp
     have e2:(((Builtin.Range.rangeSize i j c).toNat:Nat):Int) - ((0:Nat):Int)=Builtin.Range.rangeSize i j c:=by have:=PyProof.Rows.rangeSize_toNat i j c;omega
     show IsRangeIter _ _ (i+((0:Nat):Int)*c) (((Builtin.Range.rangeSize i j c).toNat:Int) - ((0:Nat):Int)) c;rw[e1,e2];exact Qwy _ rfl
    ·have e:b=(s1.heap.push o).objs.size:=by simpa using hb
     subst e;exact I2.N5 (Qqw _) (I2.hok.fresh (Qqw _))
end
end L2
namespace Ev
open PySem PySem.Spec PyProof.Rows L2
section
variable{X:Cx}{C:Cfg}{pos:Pos}{tg:Expr}
def sG(x:List Nat):List D:=x.map λc=>.str [c]
theorem Lz{F:Hp}{a:Addr}{vs:List V}{ds:List D}(h:oE C.K F a vs)(p:bL C.K F ds vs):rR C.K F ds (Itt C.K a):=λi H s=>by
 refine⟨λ_ e=>⟨vs,aW.tupK s h,by rw[p.length,e];exact Qqw _⟩,λd hd=>?_⟩;obtain⟨v,h1,h2⟩:=p.get hd;refine⟨⟨vs,v,aW.tupK s h,h1⟩,λx H' hy=>.inl ⟨hy.1,?_⟩⟩;have:=hy.2 vs (aW.tupK s h);rw[h1] at this;cases this;exact h2
theorem LC{F:Hp}{x:List Nat}:rR C.K F (sG x) (Its (strOf x)):=λi H s=>by
 refine⟨λ_ e=>?_,λd hd=>?_⟩
 ·show x.toArray.size<=i;rw[e];simp[sG]
 ·unfold sG at hd;rw[Qwx] at hd;obtain⟨c,hc,rfl⟩:=Qww.mp hd;refine⟨?_,λv H' hy=>.inl ⟨hy.1,?_⟩⟩
  ·show i<x.toArray.size;have:=(Qq4.mp hc).1
   simpa using this
  ·obtain⟨c',h1,rfl⟩:=hy.2;have h2:x[i]? = some c':=by simpa[strOf] using h1
   rw[hc] at h2;cases h2;exact⟨rfl,by show 1<=sizeLine;decide⟩
def itD:D->Option (List D)
 | .lst xs=>some xs
 | .arr xs=>some xs
 | .tup xs=>some xs
 | .str x=>some (sG x)
 | _=>none
def dB(a:Ev):d7:=λenv=>bindR (a env) λd aN=>gC (itD d) aN
theorem Yi{l:Expr}{a:Ev}(hK:X.K=C.K)(h:PX X C l a):TF X C tg l (dB a):=(acb h).imp λσ H R hq=>by
 obtain⟨Pr,F,env,env',ds,r,e,q⟩:=hq;obtain⟨d,aN,e1,e2⟩:=aZ e;obtain⟨e3,rfl⟩:=fH e2;refine⟨Pr,F,env,env',d,r,e1,λv H1 F1 r1 s1 p1=>?_⟩;rw[hK];cases d with
 | lst xs=>
  cases e3;obtain⟨z,a,vs,rfl,g1,g2⟩:=p1;refine .inl ⟨a,rfl,⟨vs,jR.of (r1.fr _ _ g1)⟩,q _ H1 F1 r1 s1 λi H s=>?_⟩;refine⟨λ_ e=>⟨vs,jR.of (s _ _ g1),by rw[g2.length,e];exact Qqw _⟩,λd hd=>?_⟩;obtain⟨v,h1,h2⟩:=g2.get hd;refine⟨⟨vs,v,jR.of (s _ _ g1),h1⟩,λx H' hy=>.inl ⟨hy.1,?_⟩⟩;have:=hy.2 vs (jR.of (s _ _ g1));rw[h1] at this;cases this;exact h2
 | arr xs=>
  cases e3;obtain⟨z,a,vs,rfl,g1,g2⟩:=p1;refine .inl ⟨a,rfl,⟨vs,r1.fr.seq g1⟩,q _ H1 F1 r1 s1 λi H s=>?_⟩;refine⟨λ_ e=>⟨vs,s.seq g1,by rw[g2.length,e];exact Qqw _⟩,λd hd=>?_⟩;obtain⟨v,h1,h2⟩:=g2.get hd;refine⟨⟨vs,v,s.seq g1,h1⟩,λx H' hy=>.inl ⟨hy.1,?_⟩⟩;have:=hy.2 vs (s.seq g1);rw[h1] at this;cases this;exact h2
 | tup xs=>
  cases e3;obtain⟨z,a,vs,rfl,g1,g2⟩:=p1;exact .inr (.inl ⟨a,rfl,⟨vs,aW.tupK r1.fr g1⟩,q _ H1 F1 r1 s1 (Lz g1 g2)⟩)
 | str x=>
  cases e3;obtain⟨rfl,z⟩:=p1;exact .inr (.inr ⟨_,rfl,q _ H1 F1 r1 s1 LC⟩)
 | _=>cases e3
def jb(lo c:Int)(n:Nat):List D:=(List.range n).map λ(i:Nat)=>.int (lo+i*c)
theorem qW(lo c:Int)(n:Nat):(jb lo c n).length=n:=by simp[jb]
theorem Ba{lo c:Int}{n i:Nat}{d:D}(h:(jb lo c n)[i]? = some d):i<n/\d = .int (lo+i*c):=by
 have hi:i<n:=by
  have:=(Qq4.mp h).1
  rwa [qW] at this
 refine⟨hi,?_⟩;unfold jb at h;rw[Qwx,List.getElem?_range hi] at h;cases h;rfl
theorem LK{F:Hp}{lo:Int}{n:Nat}:rR C.K F (jb lo 1 n) (Itr lo n):=λi H s=>by
 refine⟨λ_ e=>by show n<=i;rw[e,qW];exact Qqw _,λd hd=>?_⟩;obtain⟨hi,rfl⟩:=Ba hd;refine⟨hi,λx H' hy=>.inl ⟨hy.1,?_⟩⟩;show x = .int _;rw[Int.mul_one];exact hy.2
theorem Im{F:Hp}{lo c:Int}{n:Nat}:rR C.K F (jb lo c n) (aec lo c n):=λi H s=>by
 refine⟨λ_ e=>by show n<=i;rw[e,qW];exact Qqw _,λd hd=>?_⟩;obtain⟨hi,rfl⟩:=Ba hd;exact⟨hi,λx H' hy=>.inl ⟨hy.1,hy.2⟩⟩
def mL(j:Int):Bool:=decide (-(2^62)<=j)&&decide (j<2^62)
theorem MT{j:Int}(h:mL j=true) : -(2^62)<=j/\j<2^62:=by unfold mL at h;rw[Qjy] at h;exact⟨Qxw h.1,Qxw h.2⟩
def yp:List D->Option (List D)
 | [.int j]=>if mL j=true then some (jb 0 1 j.toNat) else none
 | [.int i,.int j]=>if mL i=true/\mL j=true then some (jb i 1 (j - i).toNat) else none
 | [.int i,.int j,.int c]=>if c≠0/\c.natAbs<1073741824/\Builtin.Range.small i j c=true then some (jb i c (Builtin.Range.rangeSize i j c).toNat) else none
 | _=>none
def ju(a:d7):d7:=λenv=>bindR (a env) λds aN=>gC (yp ds) aN
theorem bL.ahr{F:Hp}{i:Int}{vs:List V}(h:bL C.K F [.int i] vs):vs=[.int i]:=by obtain⟨v,r,rfl,h1,h2⟩:=h;cases h1;cases h2;rfl
theorem bL.ahq{F:Hp}{i j k:Int}{vs:List V}(h:bL C.K F [.int i,.int j,.int k] vs):vs=[.int i,.int j,.int k]:=by obtain⟨v,r,rfl,h1,v',r',rfl,h2,v'',r'',rfl,h3,h4⟩:=h;cases h1;cases h2;cases h3;cases h4;rfl
theorem M7{a:Expr}{ea:d7}{p pos:Pos}(hg:Gl X "range")(hm:X.mg "range" = none)(ha:Ln X C [a] ea)(hl:∀env ds env',ea env = .ok ds env'->ds.length=1)(hs:starEach [a] X.env=[(false,eval a X.env)]:=by rfl):TF X C tg (.Call (.Name "range" p) [a] [] pos) (ju ea):=
 (RD hg hm ha hs).imp λσ H R hq=>by
  obtain⟨Pr,F,env,env',ds,r,e,q⟩:=hq;obtain⟨as,aN,e1,e2⟩:=aZ e;obtain⟨e3,rfl⟩:=fH e2;refine⟨Pr,F,env,env',as,r,e1,λvs H1 F1 r1 s1 p1=>?_⟩;have:=hl _ _ _ e1;unfold yp at e3;split at e3
  ·split at e3
   ·rename_i hf;cases e3;have hb:=MT hf;exact⟨_,p1.ahr,hb.1,hb.2,q _ H1 F1 r1 s1 LK⟩
   ·cases e3
  ·simp at this
  ·simp at this
  ·cases e3
theorem M6{a b c:Expr}{ea:d7}{p pos:Pos}(hg:Gl X "range")(hm:X.mg "range" = none)(ha:Ln X C [a,b,c] ea)(hl:∀env ds env',ea env = .ok ds env'->ds.length=3)(hs:starEach [a,b,c] X.env=[(false,eval a X.env),(false,eval b X.env),(false,eval c X.env)]:=by rfl)(hs2:starEach [b,c] X.env=[(false,eval b X.env),(false,eval c X.env)]:=by rfl):TF X C tg (.Call (.Name "range" p) [a,b,c] [] pos) (ju ea):=
 (RC hg hm ha hs hs2).imp λσ H R hq=>by
  obtain⟨Pr,F,env,env',ds,r,e,q⟩:=hq;obtain⟨as,aN,e1,e2⟩:=aZ e;obtain⟨e3,rfl⟩:=fH e2;refine⟨Pr,F,env,env',as,r,e1,λvs H1 F1 r1 s1 p1=>?_⟩;have:=hl _ _ _ e1;unfold yp at e3;split at e3
  ·simp at this
  ·simp at this
  ·split at e3
   ·rename_i hf;cases e3;exact⟨_,_,_,p1.ahq,hf.1,hf.2.1,hf.2.2,q _ H1 F1 r1 s1 Im⟩
   ·cases e3
  ·cases e3
theorem SM(env:Env)(ds:List D)(env':Env)(h:aj env = .ok ds env'):ds.length=0:=by cases h;rfl
theorem N7{a:Ev}{r:d7}{n:Nat}(hr:∀env ds env',r env = .ok ds env'->ds.length=n)(env:Env)(ds:List D)(env':Env)(h:aa a r env = .ok ds env'):ds.length=n+1:=by obtain⟨d,aN,e1,e2⟩:=aZ h;obtain⟨ds2,dR,e3,e4⟩:=aZ e2;cases e4;rw[Qqv,hr _ _ _ e3]
theorem bL.xQ{F:Hp}{K:Fg}{ds:List D}{vs:List V}{k:Int}{d:D}(h:bL K F ds vs)(e:L2.xQ ds k=some d):∃v,L2.xQ vs k=some v/\Rep K F d v:=by unfold L2.xQ at e ⊢;rw[h.length];obtain⟨j,h1,h2⟩:=Qx6.mp e;obtain⟨v,h3,h4⟩:=h.get h2;exact⟨v,by rw[h1];exact h3,h4⟩
def cU:D->D->Option D
 | .lst xs,.int k=>xQ xs k
 | .arr xs,.int k=>xQ xs k
 | .tup xs,.int k=>xQ xs k
 | .str x,.int k=>(xQ x k).map λc=>.str [c]
 | _,_=>none
theorem aaT:qw C (rIx C.K) cU:=by
 intro Pr F env σ H x y d vx vy Q r px py e q;unfold cU at e;split at e
 ·obtain⟨z,a,vs,rfl,h1,h2⟩:=px.lst r.fr;cases py.int;obtain⟨v,e1,p1⟩:=h2.xQ e;exact .inl ⟨a,vs,_,v,rfl,rfl,jR.of h1,e1,q _ _ F r (aW.refl F) p1⟩
 ·obtain⟨z,a,vs,rfl,h1,h2⟩:=px.arr r.fr;cases py.int;obtain⟨v,e1,p1⟩:=h2.xQ e;exact .inl ⟨a,vs,_,v,rfl,rfl,h1,e1,q _ _ F r (aW.refl F) p1⟩
 ·obtain⟨z,a,vs,rfl,h1,_,h2⟩:=px.tup r.fr;cases py.int;obtain⟨v,e1,p1⟩:=h2.xQ e;exact .inr (.inl ⟨a,vs,_,v,rfl,rfl,h1,e1,q _ _ F r (aW.refl F) p1⟩)
 ·obtain⟨rfl,z⟩:=px.str;cases py.int;obtain⟨c,e1,rfl⟩:=Qww.mp e;exact .inr (.inr ⟨_,_,c,rfl,rfl,by simpa[strOf,Str.length] using z,by simpa[strOf] using e1,q _ _ F r (aW.refl F) ⟨rfl,by show 1<=sizeLine;decide⟩⟩)
 ·cases e
theorem ae8{x y:Expr}{a b:Ev}(hK:X.K=C.K)(ha:PX X C x a)(hb:QT X C y b)(hs:xN y:=by intro _ _;rfl):PX X C (.Subscript x y pos) (aR cU a b):=by have h:=(aaR (pos:=pos) Wj ha hb hs);rw[hK] at h;exact h.imp (HN aaT)
theorem ab1{y:Expr}{b:Ev}{px:Pos}(i:Nat){x:Str}(hK:X.K=C.K)(hN:X.N[i]? = some x)(hv:uK X.env.scope x)(hb:QT X C y b)(hs:xN y:=by intro _ _;rfl)
  (hd:nH x:=by decide) (hcd:vB x:=by decide):PX X C (.Subscript (.Name x px) y pos) (au cU i b):=by
 have h:=(aaR (pos:=pos) Wj (lF (pos:=px) hN hv hd hcd) hb hs);rw[hK] at h;exact h.imp (uD aaT)
def cutD{α:Type}(xs:List α)(lo hi:Option Int):List α:=(xs.drop (HT.gB xs.length 0 lo)).take (HT.gB xs.length xs.length hi - HT.gB xs.length 0 lo)
theorem t7{α:Type}(xs:List α)(lo hi:Option Int):(cutD xs lo hi).length<=xs.length:=by unfold cutD;rw[Qzv,Qz2];omega
theorem bL.cut{F:Hp}{K:Fg}{ds:List D}{vs:List V}(h:bL K F ds vs)(lo hi:Option Int):bL K F (cutD ds lo hi) (zY vs lo hi):=by unfold cutD zY;rw[h.length];exact bL.take _ (bL.drop _ h)
abbrev Xm:=Env->R (Option Int)
def tP(C:Cfg)(ev:Xm):TO:=λσ H Q=>∃(Pr F:Hp) (env env':Env) (o:Option Int),Rel C Pr F env σ H/\ev env = .ok o env'/\∀H' F',Rel C Pr F' env' σ H'->aW F F'->Q o H'
def PXP(X:Cx)(C:Cfg)(e:Option Expr)(ev:Xm):Prop:=PO X e (tP C ev)
theorem _root_.L2.PO.imp{X:Cx}{e:Option Expr}{t t':TO}(h:PO X e t)(i:∀σ H Q,t' σ H Q->t σ H Q):PO X e t':=λpins s σ H Q I q=>h pins s σ H Q I (i σ H Q q)
def n6:Xm:=λenv=>.ok none env
def yM(a:Ev):Xm:=λenv=>bindR (a env) λd aN=>match d with
 | .int i=>.ok (some i) aN
 | _=>.stuck
theorem U7:PXP X C none n6:=Ys.imp λσ H Q h=>by
 obtain⟨Pr,F,env,env',d,r,e,q⟩:=h;cases e;exact q H F r (aW.refl F)
def gSl:D->Option Int->Option Int->Option D
 | .lst xs,lo,hi=>some (.lst (cutD xs lo hi))
 | .arr xs,lo,hi=>some (.lst (cutD xs lo hi))
 | .tup xs,lo,hi=>if HT.gB xs.length 0 lo=0/\HT.gB xs.length xs.length hi=xs.length then none else some (.tup (cutD xs lo hi))
 | _,_,_=>none
def zW(a:Ev)(lo hi:Xm):Ev:=λenv=>bindR (a env) λd aN=>bindR (lo aN) λl dR=>bindR (hi dR) λu KD=>gC (gSl d l u) KD
theorem Ul{Pr F:Hp}{env:Env}{σ:L2.St}{H:Hp}{x d:D}{v:V}{lo hi:Option Int}{Q:VK}(r:Rel C Pr F env σ H)(p:iR C.K F H x v)(e:gSl x lo hi=some d)(q:∀v H' F',Rel C Pr F' env σ H'->aW F F'->Rep C.K F' d v->Q v H') :
  aeR C.K v lo hi H Q\/abT C.K v lo hi H Q:=by
 unfold gSl at e;split at e
 ·cases e;obtain⟨z,a,vs,rfl,h1,h2⟩:=p.lst r.fr;refine .inl ⟨a,vs,rfl,jR.of h1,λb hb=>?_⟩;obtain⟨r2,s2⟩:=r.new (o:=.lst (zY vs lo hi)) hb;exact q _ _ _ r2 s2 ⟨Qq0 (t7 _ _ _) z,b,_,rfl,bf,bL.mono s2 _ _ (h2.cut lo hi)⟩
 ·cases e;obtain⟨z,a,vs,rfl,h1,h2⟩:=p.arr r.fr;refine .inl ⟨a,vs,rfl,h1,λb hb=>?_⟩;obtain⟨r2,s2⟩:=r.new (o:=.lst (zY vs lo hi)) hb;exact q _ _ _ r2 s2 ⟨Qq0 (t7 _ _ _) z,b,_,rfl,bf,bL.mono s2 _ _ (h2.cut lo hi)⟩
 ·obtain⟨z,a,vs,rfl,h1,_,h2⟩:=p.tup r.fr;split at e
  ·cases e
  ·rename_i hn;cases e;refine .inr ⟨a,vs,rfl,h1,by rw[h2.length];exact hn,λb hb=>?_⟩;obtain⟨r2,s2⟩:=r.new (o:=.tup (zY vs lo hi)) hb;exact q _ _ _ r2 s2 ⟨Qq0 (t7 _ _ _) z,b,_,rfl,oE.of bf,bL.mono s2 _ _ (h2.cut lo hi)⟩
 ·cases e
theorem ae6{x:Expr}{lo hi:Option Expr}{a:Ev}{el eh:Xm}{p2:Pos}(hK:X.K=C.K)(ha:PX X C x a)(hl:PXP X C lo el)(hh:PXP X C hi eh):PX X C (.Subscript x (.Slice lo hi none p2) pos) (zW a el eh):=by have h:=JD (pos:=pos) (p2:=p2) (QL.or O7 Mx) ha hl hh;rw[hK] at h;refine h.imp λσ H Q hq=>?_;obtain⟨Pr,F,env,env',d,r,e,q⟩:=hq;obtain⟨x,aN,e1,e2⟩:=aZ e;obtain⟨l,dR,e3,e4⟩:=aZ e2;obtain⟨u,KD,e5,e6⟩:=aZ e4;obtain⟨e7,rfl⟩:=fH e6;refine⟨Pr,F,env,aN,x,r,e1,λv H1 F1 r1 s1 p1=>⟨Pr,F1,aN,dR,l,r1,e3,λH2 F2 r2 s2=>⟨Pr,F2,dR,env',u,r2,e5,λH3 F3 r3 s3=>?_⟩⟩⟩;exact Ul r3 (.inl (Rep.mono (s2.trans s3) _ _ p1)) e7 λv H' F' r' s' p'=>q v H' F' r' (((s1.trans s2).trans s3).trans s') p'
def m5(kvs:List (D×D))(q:Key):Option D:=match kvs with
 | []=>none
 | (k,d)::r=>if ou k=some q then some d else m5 r q
def zM(kvs:List (D×D))(q:Key)(d:D):List (D×D):=match kvs with
 | []=>[]
 | (k,e)::r=>(if ou k=some q then (k,d) else (k,e))::zM r q d
def putD(kvs:List (D×D))(k:D)(q:Key)(d:D):List (D×D):=if (m5 kvs q).isSome then zM kvs q d else kvs++[(k,d)]
theorem eF.length{K:Fg}{F:Hp}:∀{ds:List (D×D)} {vs:List (Key×V)},eF K F ds vs->vs.length=ds.length
 | [],_,h=>by cases h;rfl
 | (k,d)::ds,vs,h=>by
  obtain⟨q,v,r,rfl,_,_,h2⟩:=h;rw[Qqv,Qqv,h2.length]
theorem eF.val{K:Fg}{F:Hp}(q:Key):∀{ds:List (D×D)} {vs:List (Key×V)},eF K F ds vs->(m5 ds q=none/\uW vs q=none)\/∃d v,m5 ds q=some d/\uW vs q=some v/\Rep K F d v
 | [],_,h=>by cases h;exact .inl ⟨rfl,rfl⟩
 | (k,d)::ds,vs,h=>by
  obtain⟨q',v,r,rfl,hk,h1,h2⟩:=h;unfold m5;by_cases e:q'=q
  ·subst e;rw[if_pos hk];exact .inr ⟨d,v,rfl,vO rfl,h1⟩
  ·rw[if_neg (λz=>e (Qwv (hk.symm.trans z))),vP (p:=(q',v)) e];exact eF.val q h2
theorem eF.set{K:Fg}{F:Hp}(q:Key){d:D}{v:V}(hd:Rep K F d v):∀{ds:List (D×D)} {vs:List (Key×V)},eF K F ds vs->eF K F (zM ds q d) (vs.map λkv=>if kv.1=q then (kv.1,v) else kv)
 | [],_,h=>by cases h;exact rfl
 | (k,e)::ds,vs,h=>by
  obtain⟨q',u,r,rfl,hk,h1,h2⟩:=h;unfold zM;by_cases e':q'=q
  ·subst e';rw[if_pos hk];refine⟨q',v,_,?_,hk,hd,eF.set q' hd h2⟩;rw[Qq2,if_pos rfl]
  ·rw[if_neg (λz=>e' (Qwv (hk.symm.trans z)))];refine⟨q',u,_,?_,hk,h1,eF.set q hd h2⟩;rw[Qq2,if_neg e']
theorem eF.append{K:Fg}{F:Hp}:∀{ds es:List (D×D)} {vs ws:List (Key×V)},eF K F ds vs->eF K F es ws->eF K F (ds++es) (vs++ws)
 | [],es,vs,ws,h,g=>by cases h;exact g
 | (k,d)::ds,es,vs,ws,h,g=>by
  obtain⟨q,v,r,rfl,h0,h1,h2⟩:=h;exact⟨q,v,r++ws,rfl,h0,h1,eF.append h2 g⟩
theorem Jm(q:Key)(d:D):∀kvs:List (D×D),(zM kvs q d).length=kvs.length
 | []=>rfl
 | (k,e)::r=>by unfold zM;rw[Qqv,Qqv,Jm q d r]
theorem JC(kvs:List (D×D))(k:D)(q:Key)(d:D):(putD kvs k q d).length<=kvs.length+1:=by
 unfold putD;split
 ·rw[Jm];omega
 ·rw[Qqy];exact Qqw _
theorem eF.put{K:Fg}{F:Hp}{ds:List (D×D)}{vs:List (Key×V)}{k:D}{q:Key}{d:D}{v:V}(h:eF K F ds vs)(hk:ou k=some q)(hd:Rep K F d v):eF K F (putD ds k q d) (putK vs q v):=by
 unfold putD putK;rw[Aw];rcases h.val q with ⟨e1,e2⟩|⟨d',v',e1,e2,_⟩
 ·rw[e1,e2];exact h.append ⟨q,v,[],rfl,hk,hd,rfl⟩
 ·rw[e1,e2];exact eF.set q hd h
theorem Nx{K:Fg}{F:Hp}{k:D}{q:Key}{v:V}(h:ou k=some q)(p:Rep K F k v):v=kV q:=by
 cases k with
 | int i=>cases h;exact p
 | str x=>cases h;exact p.1
 | _=>cases h
theorem Ny{K:Fg}{F H:Hp}{k:D}{q:Key}{v:V}(h:ou k=some q)(p:iR K F H k v):v=kV q:=by
 cases k with
 | int i=>cases h;exact p.int
 | str x=>cases h;exact p.str.1
 | _=>cases h
theorem iR.dct{K:Fg}{F H:Hp}{kvs:List (D×D)}{v:V}(s:aW F H)(h:iR K F H (.dct kvs) v):kvs.length<=sizeLine/\∃a ks,v = .ref a/\Rd H a (.dK ks)/\eF K F kvs ks:=by
 rcases h with ⟨z,a,vs,rfl,h1,h2⟩|⟨a,rfl,z,vs,h1,h2⟩
 ·exact⟨z,a,vs,rfl,aW.rd s h1,h2⟩
 ·exact⟨z,a,vs,rfl,.inl h1,h2⟩
def aaN:R2:=λx y H Q=>∃a v,x = .ref a/\Lw H a y (some v)/\Q v H
def jD:D->D->Option D
 | .dct kvs,k=>(ou k).bind λq=>m5 kvs q
 | _,_=>none
theorem YW:qw C aaN jD:=by
 intro Pr F env σ H x y d vx vy Q r px py e q;unfold jD at e;split at e
 ·obtain⟨z,a,ks,rfl,h1,h2⟩:=px.dct r.fr;obtain⟨k,hk,hv⟩:=Qx6.mp e;cases Ny hk py;rcases h2.val k with ⟨e1,_⟩|⟨d',v',e1,e2,p2⟩
  ·rw[e1] at hv;cases hv
  ·rw[e1] at hv;cases hv;exact⟨a,v',rfl,.inl ⟨ks,k,h1,rfl,e2.symm⟩,q _ _ F r (aW.refl F) p2⟩
 ·cases e
theorem Vf{y:Expr}{b:Ev}{px:Pos}(i:Nat){x:Str}(hu:X.A.units+1<cLine)(hN:X.N[i]? = some x)(hv:uK X.env.scope x)(hb:QT X C y b)(hs:Oo y:=by intro _ _;rfl)
  (hd:nH x:=by decide) (hcd:vB x:=by decide):PX X C (.Subscript (.Name x px) y pos) (au jD i b):=by
 have h:PE X (.Subscript (.Name x px) y pos) (XD aaN _ _):=YB (pos:=pos) hu (lF (pos:=px) hN hv hd hcd) hb hs;exact h.imp (uD YW)
def Hx:Ev:=λenv=>.ok (.dct []) env
theorem U9:QS X C (.Dict [] [] pos) Hx:=VD.imp λσ H Q hq=>by
 obtain⟨Pr,F,env,env',d,r,e,q⟩:=hq;cases e;exact λp hp=>q _ _ F (r.fresh hp) (aW.refl F) (TJ.of r hp ⟨Qx3 _,[],bf,rfl⟩)
def oU(i:Nat)(k a:Ev):bO:=λenv=>jG (a env) λd aN=>match aN[i]? with
 | some (some (_,_))=>jG (k aN) λkd dR=>(match dR[i]?,ou kd with
  | some (some (true,.dct kvs)),some q=>if kvs.length<sizeLine then .nx (dR.set i (some (true,.dct (putD kvs kd q d)))) else .stuck
  | _,_=>.stuck)
 | _=>.stuck
theorem U6{i:Nat}{x:Str}{k e:Expr}{ek a:Ev}{px pos':Pos}(hu:X.A.units+1<cLine)(hN:X.N[i]? = some x)(hv:uK X.env.scope x)(hk:PX X C k ek)(he:PX X C e a)
  (hs:swapsWith e (some (.Subscript (.Name x px) k pos')) pos.line X.env=pure false:=by rfl)
  (hd:nH x:=by decide) (hcd:vB x:=by decide):Xi X C (.Assign [.Subscript (.Name x px) k pos'] e pos) (oU i ek a):=
 (Yp hu (lF hN hv hd hcd) hk he hs).imp λD σ H h=>by
  obtain⟨Pr,F,env,r,f⟩:=h;obtain⟨d,aN,e1,f1⟩:=eQ f;refine⟨Pr,F,env,aN,d,r,e1,λv H1 F1 r1 s1 p1=>?_⟩;split at f1
  ·rename_i o0 d0 h0;obtain⟨v0,hv0,_⟩:=r1.rd h0;obtain⟨kd,dR,e2,f2⟩:=eQ f1;refine⟨v0,hv0,Pr,F1,aN,dR,kd,r1,e2,λvk H2 F2 r2 s2 p2=>?_⟩;split at f2
   ·rename_i kvs q h2 hq;split at f2
    ·rename_i hz;obtain⟨b,g1,⟨z,ks,g2,g3⟩,g4,g5⟩:=r2.own i _ h2;rw[hv0] at g1;cases g1;have hz':ks.length<sizeLine:=by rw[g3.length];exact hz
     cases Nx hq p2;refine⟨b,_,rfl,Xn.k g2 hz',?_⟩;refine f2 σ _ F2 (r2.write h2 hv0 ⟨Qq0 (JC _ _ _ _) hz,_,bf,g3.put hq (Rep.mono s2 _ _ p1)⟩) (s1.trans s2)
    ·exact f2.elim
   ·exact f2.elim
  ·exact f1.elim
def Sg(x:List Nat):List (List Nat)->List (List Nat)
 | []=>[x]
 | y::r=>if y<x then y::Sg x r else x::y::r
def jz:List (List Nat)->List (List Nat)
 | []=>[]
 | x::r=>Sg x (jz r)
theorem yH(x:List Nat):∀l,(Sg x l).Perm (x::l)
 | []=>.refl _
 | y::r=>by
  unfold Sg;split
  ·exact((yH x r).cons y).trans (.swap x y r)
  ·exact .refl _
theorem jh:∀l,(jz l).Perm l
 | []=>.refl _
 | x::r=>(yH x (jz r)).trans ((jh r).cons x)
theorem yW(x:List Nat):∀l,l.Pairwise (λa b=>a<=b)->(Sg x l).Pairwise (λa b=>a<=b)
 | [],_=>List.pairwise_singleton _ _
 | y::r,h=>by
  unfold Sg;have h1:=Qk5.mp h;split
  ·rename_i hyx;refine Qk5.mpr ⟨λz hz=>?_,yW x r h1.2⟩;rcases Qq5.mp ((yH x r).mem_iff.mp hz) with rfl|hz
   ·exact List.le_of_lt hyx
   ·exact h1.1 z hz
  ·rename_i hyx;have hxy:x<=y:=List.not_lt.mp hyx;refine Qk5.mpr ⟨λz hz=>?_,h⟩;rcases Qq5.mp hz with rfl|hz
   ·exact hxy
   ·exact List.le_trans hxy (h1.1 z hz)
theorem vY:∀l,(jz l).Pairwise (λa b=>a<=b)
 | []=>.nil
 | x::r=>yW x _ (vY r)
theorem Ew:∀(p:Str) (l:List Str),risingS p l=true->(p::l).Pairwise (λa b=>a.cps.toList<=b.cps.toList)
 | p,[],_=>List.pairwise_singleton _ _
 | p,x::r,h=>by
  have h':(!Spec.ltCps x.cps.toList p.cps.toList&&risingS x r)=true:=h;rw[Qjy,PyProof.Rows.ltCps_eq] at h';have hxp:¬x.cps.toList<p.cps.toList:=by
   have:=h'.1
   simpa using this
  have ih:=Ew x r h'.2;refine Qk5.mpr ⟨λz hz=>?_,ih⟩;have hpx:p.cps.toList<=x.cps.toList:=List.not_lt.mp hxp;rcases Qq5.mp hz with rfl|hz
  ·exact hpx
  ·exact List.le_trans hpx ((Qk5.mp ih).1 z hz)
theorem Rb:∀(l:List Str),sortedS l=true->l.Pairwise (λa b=>a.cps.toList<=b.cps.toList)
 | [],_=>.nil
 | x::r,h=>Ew x r h
theorem Q7(s:Str):strOf s.cps.toList=s:=by obtain⟨c⟩:=s;simp[strOf]
theorem Gw{xs:List (List Nat)}{ss ss':List Str}(e:ss=xs.map strOf)(hp:ss'.Perm ss)(hs:sortedS ss'=true):ss'=(jz xs).map strOf:=by
 subst e;have h1:(ss'.map λs=>s.cps.toList).Perm xs:=by
  have:=hp.map (λs:Str=>s.cps.toList);rw[Qw5] at this;have e2:xs.map ((λs:Str=>s.cps.toList) ∘ strOf)=xs:=by rw[Qx4 (g:=id) (λx _=>by simp[strOf])];simp
  rwa [e2] at this
 have h2:(ss'.map λs=>s.cps.toList)=jz xs:=by refine List.Perm.eq_of_pairwise (le:=λa b=>a<=b) (λa b _ _=>List.le_antisymm) ?_ (vY xs) (h1.trans (jh xs).symm);exact List.pairwise_map.mpr (Rb ss' hs)
 rw[<-h2,Qw5];have e3:∀l:List Str,l.map (strOf ∘ λs=>s.cps.toList)=l:=λl=>by
  induction l with
  | nil=>rfl
  | cons a r ih=>rw[Qq2,ih];show strOf a.cps.toList::r=a::r;rw[Q7]
 exact(e3 ss').symm
theorem vN:∀{us:List Value} {ss:List Str},StrsAre us ss->Vals (ss.map V.str) us
 | _,_,.nil=>.nil
 | _,_,.cons y t h=>.cons ⟨t,rfl⟩ (vN h)
theorem wB{K:Fg}{F:Hp}:∀(xs:List (List Nat)),(∀x∈xs,x.length<=sizeLine)->bL K F (xs.map D.str) (xs.map λz=>V.str (strOf z))
 | [],_=>rfl
 | x::xs,h=>⟨_,_,rfl,⟨rfl,h x (Qqk ..)⟩,wB xs λy hy=>h y (Qqj _ hy)⟩
def G4(K:Fg):List V->Hp->VK->Prop:=λxs H Q=>∃p zs,xs=[.ref p]/\(jR K H p (zs.map λz=>V.str (strOf z))\/∃ks,Rd H p (.dK ks)/\ks.map (·.1)=zs.map λz=>Sum.inr (strOf z))/\zs.length<64/\∀l,H l=none->Q (.ref l) (upd H l (.lst ((jz zs).map λz=>V.str (strOf z))))
theorem Jj{pins:List (Addr×Obj)}{s:Shared}{σ:L2.St}{H:Hp}{Q:VK}{zs:List (List Nat)}{out:Array Value}{ss':List Str}{a:Addr}{e:Nat}{h':Heap}{tk:Nat}(I:Inv X pins σ H s)(hz:zs.length<64)(q:∀l,H l=none->Q (.ref l) (upd H l (.lst ((jz zs).map λz=>V.str (strOf z)))))
  (a1:StrsAre out.toList ss') (a2:ss'.Perm (zs.map strOf)) (a3:sortedS ss'=true) (hk:∀b o,s.heap.get? b=some o->h'.get? b=some o) (ha:s.heap.objs.size<=a) (ho:h'.get? a=some (seqObj "list" out e)):EP X pins σ Q (.ref a) { s with heap:=h',toks:=tk }:=by
 have e1:=Gw rfl a2 a3;subst e1;have rv:=vN a1;rw[Qw5] at rv;have hl:((jz zs).map λz=>V.str (strOf z)).length<=sizeLine:=by rw[Qqq,(jh zs).length_eq];exact Qq0 (Qvz hz) (by decide)
 exact⟨.ref a,_,I.laid (t':=tk) hk ha (show gP X.prog X.w _ h' a (.lst ((jz zs).map λz=>V.str (strOf z))) from⟨hl,out.toList,e,rv,by simpa[seqObj] using ho⟩),rfl,q a (I.hok.fresh ha)⟩
theorem K5(hc:X.calm=true):iz X (.builtin "sorted") (G4 X.K):=by
 intro pins s σ H xs us Q I r h;obtain⟨p,zs,rfl,hq,hz,q⟩:=h;obtain⟨u,rfl,rx⟩:=vals1 r;cases rx;rcases hq with hq|⟨ks,hq,hks⟩
 ·obtain⟨its,r',pl,hzz⟩:=I.list hq;have hS:StrsAre its (zs.map strOf):=xU r';refine sorted_strs pl.isList hS (by rw[<-r'.length,Qqq];exact hz) λout ss' a1 a2 a3=>?_;obtain⟨e,he⟩:=sortedAll_at s.heap its out;exact Jj (tk:=s.toks) I hz q a1 a2 a3 (λb o e=>sortedAll_old e) (Nat.le_succ _) he
 ·obtain⟨hz2,hsys,vs,rkv,hD⟩:=CZ I.hok hq;obtain⟨ep,hat⟩:=hD.dictAt;have hlen:vs.length=zs.length:=by
   have e1:=rkv.length;have e2:=Qxy List.length hks;rw[Qqq,Qqq] at e2;omega
  refine Calls.call_function_entry kind_sorted plain_sorted entry_sorted (args_sorted1 _) ?_;unfold Builtin.«sorted»;refine Qqx (m:=checkCount "sorted" 1 1 _) (Qq1 ?_);refine Qqx (PySem.W.kdu_collect (A:=X.A.in1) (PySem.W.kdl_dict (knd:=dM X.prog X.w) (kvs:=vs) (ep:=ep) hsys) (I.ok.hd hc) hat (by rw[hlen];exact Qq0 (Qvz hz) (by decide)) λh' tk acc hk hacc=>?_);have hl:acc.toList.length=vs.length:=by rw[Qz1];exact hacc.1
  have hS:StrsAre acc.toList (zs.map strOf):=by
   have keys:∀j:Nat,j<vs.length->∃v t,acc.toList[j]? = some v/\v=Value.str (strOf (zs.getD j [])) t:=λj hj=>by
    have hja:j<acc.size:=by rw[hacc.1];exact hj
    have e1:acc[j]? = some acc[j]:=by simp[hja]
    obtain⟨k,x,hx,hkx⟩:=hacc.2 j _ e1;have e2:(vs.map (·.1))[j]? = some k:=by rw[Qwx,hx];rfl
    rw[<-rkv.keys,hks,Qwx] at e2;obtain⟨z,hzj,rfl⟩:=Qww.mp e2;rcases fP (k:=Sum.inr (strOf z)) (v:=acc[j]) hkx with ⟨i,t,z1,_⟩|⟨y,t,z1,z2⟩
    ·cases z1
    ·cases z1;exact⟨_,t,by rw[Qkw];exact e1,by rw[z2,Qq9,hzj];rfl⟩
   have build:∀(us:List Value) (ys:List (List Nat)),us.length=ys.length->(∀j:Nat,j<us.length->∃v t,us[j]? = some v/\v=Value.str (strOf (ys.getD j [])) t)->StrsAre us (ys.map strOf):=λus=>by
    induction us with
    | nil=>intro ys hl _;cases ys with
     | nil=>exact .nil
     | cons _ _=>cases hl
    | cons u us ih=>intro ys hl hk;cases ys with
     | nil=>cases hl
     | cons y ys=>
      obtain⟨v,t,e1,e2⟩:=hk 0 (Nat.succ_pos _);cases e1;rw[e2];exact .cons _ t (ih ys (by simpa using hl) λj hj=>by
       obtain⟨v,t,e1,e2⟩:=hk (j+1) (by simpa using hj);exact⟨v,t,by simpa using e1,by simpa using e2⟩)
   exact build _ _ (by rw[hl,hlen]) λj hj=>keys j (by rw[<-hl];exact hj)
  refine Qqx (wpAny_newList ?_ (by rw[hl,hlen];exact Qq0 (Qvz hz) (by decide)));have hoL:(h'.push (seqObj "list" acc.toList.toArray 0)).get? h'.objs.size=some (seqObj "list" acc.toList.toArray 0):=Qwy _ rfl;show wpAny _ _ _ _ _ { s with heap:=h'.push (seqObj "list" acc.toList.toArray 0),toks:=tk };refine Qqx (Qz3 (Qjw slot_list_sort ⟨_,hoL,rfl⟩ entry_list_sort (list_sort_treeK strKind_oneLt hoL hS.keysOf (λv₁ v₂ rest e=>keyKind_strs (by rw[<-e];exact hS)) (by rw[hl,hlen];exact hz) λst' b1 b2=>⟨_,rfl,?_⟩) (args_list_sort _)));obtain⟨ss',a1,a2,a3⟩:=sorted_out_str hS b1 b2;obtain⟨e,he⟩:=sortedHeap_at (out:=(arrOf st').map (·.2)) hoL;refine Qq1 ⟨_,rfl,?_⟩;have I1:L2.Inv X pins σ H { s with heap:=h',toks:=tk }:=I.kept hk;refine Jj (s:={ s with heap:=h',toks:=tk }) (tk:=tk) I1 hz q a1 a2 a3 (λb o e=>?_) (Qqw _) he;have lt':=Qwj e;rw[sortedHeap_old (Qw7 lt') (by rw[size_push'];exact Qk9 lt')];exact Qqz _ e
def jn:List D->Option D
 | [.lst ds]=>(km ds).bind λzs=>if zs.length<64/\(∀z∈zs,z.length<=sizeLine) then some (.lst ((jz zs).map .str)) else none
 | [.dct kvs]=>(km (kvs.map (·.1))).bind λzs=>if zs.length<64/\(∀z∈zs,z.length<=sizeLine) then some (.lst ((jz zs).map .str)) else none
 | _=>none
theorem eF.keys{K:Fg}{F:Hp}:∀{kvs:List (D×D)} {ks:List (Key×V)} {zs:List (List Nat)},eF K F kvs ks->km (kvs.map (·.1))=some zs->ks.map (·.1)=zs.map λz=>Sum.inr (strOf z)
 | [],ks,zs,h,e=>by cases h;simp[km] at e;subst e;rfl
 | (k,d)::kvs,ks,zs,h,e=>by
  obtain⟨q,v,r,rfl,h0,h1,h2⟩:=h;cases k with
  | str x=>
   cases h0;have e':(km (kvs.map (·.1))).map (x :: ·)=some zs:=by simpa[km] using e
   obtain⟨zs',e1,rfl⟩:=Qww.mp e';rw[Qq2,Qq2,eF.keys h2 e1]
  | _=>simp[km] at e
theorem Mw{Pr F:Hp}{env:Env}{σ:L2.St}{H:Hp}{l:Addr}{zs:List (List Nat)}(r:Rel C Pr F env σ H)(hl:H l=none)(hz:zs.length<64/\∀z∈zs,z.length<=sizeLine) :
  nD C.K F (upd H l (.lst ((jz zs).map λz=>V.str (strOf z)))) (.lst ((jz zs).map .str)) l:=by
 refine⟨by rw[Qqq,(jh zs).length_eq];exact Qq0 (Qvz hz.1) (by decide),_,bf,wB _ λz h=>hz.2 z ((jh zs).mem_iff.mp h)⟩
theorem S8:CallD C (G4 C.K) jn:=by
 intro Pr F env σ H ds d vs Q r p e q;have fin:∀(zs:List (List Nat)) (l:Addr),(zs.length<64/\∀z∈zs,z.length<=sizeLine)->d = .lst ((jz zs).map .str)->H l=none->Q (.ref l) (upd H l (.lst ((jz zs).map λz=>V.str (strOf z)))):=λzs l hz hd hl=>by
  subst hd;obtain⟨F2,r2,s2,p2⟩:=(r.fresh (o:=.lst ((jz zs).map λz=>V.str (strOf z))) hl).keep (TJ.of r hl (Mw r hl hz));exact q _ _ F2 r2 s2 p2
 unfold jn at e;split at e
 ·obtain⟨v,w,rfl,p1,p2⟩:=p;cases p2;obtain⟨zs,e1,e2⟩:=Qx6.mp e;split at e2
  ·rename_i hz;cases e2;obtain⟨z,a,ws,rfl,h1,h2⟩:=p1.lst r.fr;have e6:=yq e1 h2;subst e6;exact⟨a,zs,rfl,.inl (jR.of h1),hz.1,λl hl=>fin zs l hz rfl hl⟩
  ·cases e2
 ·obtain⟨v,w,rfl,p1,p2⟩:=p;cases p2;obtain⟨zs,e1,e2⟩:=Qx6.mp e;split at e2
  ·rename_i hz;cases e2;obtain⟨z,a,ks,rfl,h1,h2⟩:=p1.dct r.fr;exact⟨a,zs,rfl,.inr ⟨ks,h1,h2.keys e1⟩,hz.1,λl hl=>fin zs l hz rfl hl⟩
  ·cases e2
 ·cases e
theorem Rw{p:Pos}{e:Expr}{a:d7}(hK:X.K=C.K)(hc:X.calm=true)(hg:Gl X "sorted")(hm:X.mg "sorted" = none)(ha:aal X C [e] a)(he:Ig e X.env:=by rfl)(hpl:(backTo pos (starEach [] X.env)).any (·.1)=false:=by rfl) :
  PX X C (.Call (.Name "sorted" p) [e] [] pos) (ao jn a):=
 oZ (X:=X) (r:=G4 C.K) (by rw[<-hK];exact K5 hc) S8 hg hm PyProof.Rows.boot_sorted ha (by decide) (by decide) he hpl
end
theorem Rel.pad{C:Cfg}{Pr F:Hp}{env:Env}{σ:L2.St}{H:Hp}(m:Nat)(r:Rel C Pr F env σ H):Rel C Pr F (env++List.replicate m none) (wH m σ) H:=by
 have un:∀(j:Nat) (x:Bool×D),(env++List.replicate m none)[j]? = some (some x)->env[j]? = some (some x):=λj x he=>by
  by_cases hj:j<env.length
  ·rwa [Qxq hj] at he
  ·rw[Qx0 (by omega),Qz5] at he;split at he<;>cases he
 have up:∀(j:Nat) (v:V),σ[j]? = some (some v)->(wH m σ)[j]? = some (some v):=λj v h=>by
  unfold wH;rw[Qxq (Qq4.mp h).1];exact h
 have dn:∀(j:Nat) (v:V),(wH m σ)[j]? = some (some v)->σ[j]? = some (some v):=λj v he=>by
  unfold wH at he;by_cases hj:j<σ.length
  ·rwa [Qxq hj] at he
  ·rw[Qx0 (by omega),Qz5] at he;split at he<;>cases he
 refine⟨r.pr,r.fr,by unfold wH;rw[Qqy,Qqy,Qzz,Qzz,r.len],λj e he=>?_,λj e he=>?_,λj k e f b hj hk g1 g2=>r.apart j k e f b (un _ _ hj) (un _ _ hk) (dn _ _ g1) (dn _ _ g2),r.dj,λj a h=>up _ _ (r.fix j a h)⟩
 ·obtain⟨v,h1,h2⟩:=r.val j e (un _ _ he);exact⟨v,up _ _ h1,h2⟩
 ·obtain⟨a,h1,h2⟩:=r.own j e (un _ _ he);exact⟨a,up _ _ h1,h2⟩
theorem Rel.cut{C:Cfg}{Pr F:Hp}{env:Env}{σ σ0:L2.St}{H:Hp}(r:Rel C Pr F env σ H)(h:σ.take σ0.length=σ0)(fix:∀i a,C.fx i=some a->σ0[i]? = some (some (V.ref a))):Rel C Pr F (env.take σ0.length) σ0 H:=by
 have hl:σ0.length<=σ.length:=by have:=Qxy List.length h;rw[Qzv] at this;omega
 have un:∀(j:Nat) (x:Bool×D),(env.take σ0.length)[j]? = some (some x)->env[j]? = some (some x)/\j<σ0.length:=λj x he=>by
  have hj:j<σ0.length:=by have:=(Qq4.mp he).1;rw[Qzv] at this;omega
  rw[Qjz hj] at he;exact⟨he,hj⟩
 have dn:∀(j:Nat),j<σ0.length->σ[j]? = σ0[j]?:=λj hj=>by
  have:=Qjz (l:=σ) hj;rw[h] at this;exact this.symm
 refine⟨r.pr,r.fr,by rw[Qzv,r.len];omega,λj e he=>?_,λj e he=>?_,λj k e f b hj hk g1 g2=>r.apart j k e f b (un _ _ hj).1 (un _ _ hk).1 (by rw[dn _ (un _ _ hj).2];exact g1) (by rw[dn _ (un _ _ hk).2];exact g2),r.dj,fix⟩
 ·obtain⟨e1,e2⟩:=un _ _ he;rw[<-dn j e2];exact r.val j e e1
 ·obtain⟨e1,e2⟩:=un _ _ he;rw[<-dn j e2];exact r.own j e e1
def Ih(g:GV)(c:gK)(e:Ev):List D->Env->R (List D)
 | [],env=>.ok [] env
 | d::ds,env=>(match g d env with
  | none=>.stuck
  | some e1=>bindR (c e1) λb e2=>if b=true then bindR (e e2) λy e3=>bindR (Ih g c e ds e3) λys e4=>.ok (y::ys) e4 else Ih g c e ds e2)
def dH(lo n:Nat)(it:d7)(g:GV)(c:gK)(e:Ev):Ev:=λenv=>bindR (it env) λds aN=>if aN.length=lo then bindR (Ih g c e ds (aN++List.replicate (n - lo) none)) λys dR=>(if ys.length<=sizeLine then .ok (.lst ys) (dR.take lo) else .stuck) else .stuck
def Tt(X:Cx)(C:Cfg)(ifs:List Expr)(ev:gK):Prop:=PIf X ifs (tT C ev)
def bK:gK:=λenv=>.ok true env
theorem Vb{X:Cx}{C:Cfg}:Tt X C [] bK:=λpins s σ H Q I h=>by
 obtain⟨Pr,F,env,env',b,r,e,q⟩:=h;cases e;exact Yu pins s σ H Q I (q H F r (aW.refl F))
theorem aaY{C:Cfg}{lo n:Nat}{it:d7}{g:GV}{c:gK}{e:Ev}{σ:L2.St}{H:Hp}{Q:VK}(h:tN C (dH lo n it g c e) σ H Q):tLC n (tI C it) (tG C lo g) (tT C c) (tE C e) σ H Q:=by
 obtain⟨Pr,F,env,env',d,r,ev,q⟩:=h;obtain⟨ds,aN,e1,e2⟩:=aZ ev;split at e2
 ·rename_i hlo;obtain⟨ys,dR,e3,e4⟩:=aZ e2;split at e4
  ·rename_i hz;cases e4;refine⟨Pr,F,env,aN,ds,r,e1,λJ H1 F1 r1 s1 y1 a ha=>?_⟩;have hσ:σ.length=lo:=r1.len.symm.trans hlo;have hPa:Pr a=none:=r1.pr.free ha;refine⟨λi m σ' H'=>m=ds.length - i/\i<=ds.length/\∃F' KC acc ws rest,Rel C (upd Pr a (.lst ws)) F' KC σ' H'/\aW F1 F'/\bL C.K F' acc ws/\σ'.take lo=σ/\Ih g c e (ds.drop i) KC = .ok rest dR/\acc++rest=ys,
    ⟨ds.length,rfl,Qx3 _,F1,aN++List.replicate (n - lo) none,[],[],ys,?_,aW.refl _,rfl,?_,e3,rfl⟩,?_⟩
   ·rw[hσ];exact(r1.aside (o:=.lst []) ha).pad _
   ·unfold wH;rw[<-hσ,List.take_left]
   rintro i m σ' H' ⟨rfl,hi,F',KC,acc,ws,rest,r',s',p',t',l',hacc⟩;have hFa:F' a=none:=by
    cases ez:F' a with
    | none=>rfl
    | some w=>have:=r'.dj a w ez;rw[bf] at this;cases this
   by_cases hl:i<ds.length
   ·have hd:ds[i]? = some ds[i]:=Qq7 hl;have hdr:ds.drop i=ds[i]::ds.drop (i+1):=Qz8 hl;have yy:=y1 i H' (s'.trans r'.fr);refine .inr ⟨(yy.2 _ hd).1,λσ2 H2=>∃F' KC acc ws rest,Rel C (upd Pr a (.lst ws)) F' KC σ2 H2/\aW F1 F'/\bL C.K F' acc ws/\σ2.take lo=σ/\Ih g c e (ds.drop (i+1)) KC = .ok rest dR/\acc++rest=ys,
     λσ2 H2 h2=>⟨ds.length - (i+1),by omega,rfl,hl,h2⟩,λx H2 hy=>?_⟩
    obtain⟨F2,r2,s2,p2⟩:=rR.item r' s' y1 hd hy;rw[hdr] at l';unfold Ih at l';cases eg:g ds[i] KC with
    | none=>rw[eg] at l';cases l'
    | some e5=>
     rw[eg] at l';obtain⟨b,e6,c1,l2⟩:=aZ l';refine⟨_,F2,KC,e5,ds[i],r2,p2,eg,λσ3 H3 F3 r3 s3 t3=>⟨_,F3,e5,e6,b,r3,c1,λH4 F4 r4 s4=>?_⟩⟩;have t3':σ3.take lo=σ:=t3.trans t';have s24:aW F' F4:=(s2.trans s3).trans s4;cases b with
     | false=>
      show if false=true then _ else _
      rw[if_neg Qxx];rw[if_neg Qxx] at l2;exact⟨F4,e6,acc,ws,rest,r4,s'.trans s24,bL.mono s24 _ _ p',t3',l2,hacc⟩
     | true=>
      show if true=true then _ else _
      rw[if_pos rfl];rw[if_pos rfl] at l2;obtain⟨y,e7,c2,l3⟩:=aZ l2;obtain⟨ys2,e8,c3,l4⟩:=aZ l3;cases l4;refine⟨_,F4,e6,e7,y,r4,c2,λv H5 F5 r5 s5 p5=>?_⟩;have hlen:acc.length+(ys2.length+1)=ys.length:=by rw[<-hacc,Qqy,Qqv]
      refine⟨ws,r5.pr _ _ bf,by rw[p'.length];omega,F5,e7,acc++[y],ws++[v],ys2,?_,s'.trans (s24.trans s5),(bL.mono (s24.trans s5) _ _ p').append (bL.one p5),t3',c3,by rw[Qxk];exact hacc⟩;have r6:=r5.turn (u:=.lst (ws++[v])) bf
      rwa [Xx] at r6
   ·have ei:i=ds.length:=by omega
    subst ei;rw[List.drop_length] at l';cases l';rw[Qw8] at hacc;subst hacc;refine .inl ⟨(y1 _ H' (s'.trans r'.fr)).1 (Qjj (Qqw _)) rfl,?_⟩;have sP:aW Pr (upd Pr a (.lst ws)):=oV hPa;have r7:Rel C Pr F' (dR.take lo) σ H':=by
     have:=(r'.less sP).cut (σ0:=σ) (by rw[hσ];exact t') r1.fix
     rwa [hσ] at this
    refine q a H' F' r7 (s1.trans s') ⟨⟨hz,ws,r'.pr _ _ bf,p'⟩,hFa,hPa,λj e he hs=>?_⟩;have hj:j<σ.length:=(Qq4.mp hs).1;have he':dR[j]? = some (some (true,e)):=by rw[Qjz (by rw[<-hσ];exact hj)] at he;exact he
    obtain⟨b,g1,_,_,g4⟩:=r'.own j e he';have:σ'[j]? = some (some (V.ref a)):=by rw[<-t',Qjz (by rw[<-hσ];exact hj)] at hs;exact hs
    rw[this] at g1;cases g1;rw[bf] at g4;cases g4
  ·cases e4
 ·cases e2
section
variable{X:Cx}{C:Cfg}{pos:Pos}
theorem abU{elt tg iter:Expr}{ifs:List Expr}{scope:Scope}(N':List Str){it:d7}{g:GV}{c:gK}{e:Ev}(lo:Nat)(ok:pC X scope N')(hc:X.calm=true)(hi:TF X C tg iter it)
  (bg:∀X',lR X scope N' X'->PXG X' C lo tg g) (bc:∀X',lR X scope N' X'->Tt X' C ifs c) (be:∀X',lR X scope N' X'->PX X' C elt e)
  (hs:∀x,foldedSetIterable iter X.env x=pure x:=by intro _;rfl):QS X C (.ListComp elt [⟨tg,iter,ifs,0⟩] scope pos) (dH lo N'.length it g c e):=
 (afg ok hc hi bg bc be hs).imp λσ H Q h=>aaY h
theorem Rq{elt tg iter:Expr}{ifs:List Expr}{scope:Scope}(N':List Str){spos py:Pos}{it:d7}{g:GV}{c:gK}{e:Ev}(lo:Nat){i:Nat}{y:Str}(ok:pC X scope N')(hc:X.calm=true)(hi:TF X C tg iter it)
  (bg:∀X',lR X scope N' X'->PXG X' C lo tg g) (bc:∀X',lR X scope N' X'->Tt X' C ifs c) (be:∀X',lR X scope N' X'->PX X' C elt e)
  (hN:X.N.Nodup) (hy:X.N[i]? = some y) (hx:Loc X.env.scope y) (hfx:C.fx i=none)
  (hsw:swapsWith (.ListComp elt [⟨tg,iter,ifs,0⟩] scope pos) (some (.Name y py)) spos.line X.env=pure true)
  (hf:X.fn y=true\/X.env.scope.names.lookup y=some .local:=by first|exact .inl rfl|exact .inr rfl|assumption)
  (hs:∀x,foldedSetIterable iter X.env x=pure x:=by intro _;rfl):Xi X C (.Assign [.Name y py] (.ListComp elt [⟨tg,iter,ifs,0⟩] scope pos) spos) (cI i (dH lo N'.length it g c e)):=
 (Vn ok hc hi bg bc be hN hy hx hsw hf hs).imp λD σ H h=>by
  obtain⟨Pr,F,env,r,f⟩:=h;obtain⟨d,aN,e1,f1⟩:=eQ f;have:tN C (dH lo N'.length it g c e) σ H λv H1=>Kl i v σ H1 D.nx:=⟨Pr,F,env,aN,d,r,e1,λv H1 F1 r1 s1 p1=>f1 _ H1 F1 (r1.Vg hfx p1) s1⟩;exact aaY this
end
def qu(K:Fg)(n:Nat)(f:List D->Option D):Sp:=λvs H Q _=>∃(F:Hp) (ds:List D) (d:D),ds.length=n/\aW F H/\bL K F ds vs/\f ds=some d/\
 ∀v H' F',aW H H'->aW F' H'->aW F F'->(∀b o,F' b=some o->F b=some o\/H b=none)->Rep K F' d v->Q v H'
def spN(K:Fg)(n:Nat)(f:List D->Option D):Sp:=λvs H Q _=>∃(F:Hp) (ds:List D) (d:D),ds.length=n/\aW F H/\bL K F ds vs/\f ds=some d/\
 ∀a H' F',aW H H'->aW F' H'->aW F F'->(∀b o,F' b=some o->F b=some o\/H b=none)->nD K F' H' d a->F' a=none->H a=none->Q (.ref a) H'
def vX(K:Fg)(n:Nat)(f:List D->Option (D×D)):Sp:=λvs H Q _=>∃(F:Hp) (a:Addr) (r:List V) (x:D) (ds:List D) (d x':D),vs = .ref a::r/\ds.length+1=n/\aW F H/\F a=none/\nD K F H x a/\bL K F ds r/\f (x::ds)=some (d,x')/\
 ∀v H' F',(∀b o,b≠a->H b=some o->H' b=some o)->aW F' H'->aW F F'->(∀b o,F' b=some o->F b=some o\/H b=none)->nD K F' H' x' a->Rep K F' d v->Q v H'
theorem Rel.after{C:Cfg}{Pr F F':Hp}{env:Env}{σ:L2.St}{H H':Hp}(r:Rel C Pr F env σ H)(s:aW H H')(sF:aW F' H')(sF':aW F F')(nw:∀b o,F' b=some o->F b=some o\/H b=none):Rel C Pr F' env σ H':=by
 refine⟨r.pr.trans s,sF,r.len,λj e he=>?_,λj e he=>?_,r.apart,λb o e=>?_,r.fix⟩
 ·obtain⟨v,h1,h2⟩:=r.val j e he;exact⟨v,h1,Rep.mono sF' _ _ h2⟩
 ·obtain⟨a,h1,h2,h3,h4⟩:=r.own j e he;obtain⟨o,ho⟩:=h2.some;refine⟨a,h1,h2.mono sF' (by rw[ho,s _ _ ho]),?_,h4⟩;cases e:F' a with
  | none=>rfl
  | some u=>
   rcases nw a u e with z|z
   ·rw[h3] at z;cases z
   ·rw[ho] at z;cases z
 ·rcases nw b o e with z|z
  ·exact r.dj b o z
  ·exact r.pr.free z
theorem Rel.Z9{C:Cfg}{Pr F F':Hp}{env:Env}{σ:L2.St}{H H':Hp}{i:Nat}{a:Addr}{d d':D}(r:Rel C Pr F env σ H)(h:env[i]? = some (some (true,d)))(hs:σ[i]? = some (some (V.ref a)))(s:∀b o,b≠a->H b=some o->H' b=some o)(sF:aW F' H')(sF':aW F F')(nw:∀b o,F' b=some o->F b=some o\/H b=none)(ho:nD C.K F' H' d' a):Rel C Pr F' (env.set i (some (true,d'))) σ H':=by
 obtain⟨a',h1,h2,h3,h4⟩:=r.own i d h;rw[hs] at h1;cases h1;have hi:i<env.length:=(Qq4.mp h).1;obtain⟨oa,hoa⟩:=h2.some;have ne:∀(j:Nat) (e:D) (b:Addr),j≠i->env[j]? = some (some (true,e))->σ[j]? = some (some (V.ref b))->b≠a:=λj e b hj he g z=>hj (r.apart j i e d a he h (by rw[<-z];exact g) hs);have nF:∀b u,F b=none->H b=some u->F' b=none:=λb u e1 e2=>by
  cases e:F' b with
  | none=>rfl
  | some w=>
   rcases nw b w e with z|z
   ·rw[e1] at z;cases z
   ·rw[e2] at z;cases z
 refine⟨λb w e=>?_,sF,by rw[Qzq];exact r.len,λj e he=>?_,λj e he=>?_,λj k e f b hj hk g1 g2=>?_,λb o e=>?_,r.fix⟩
 ·have hb:b≠a:=λz=>by rw[z,h4] at e;cases e
  exact s b w hb (r.pr b w e)
 ·by_cases hj:j=i
  ·subst hj;rw[Qw3 hi] at he;cases he
  ·rw[Qw0 (Ne.symm hj)] at he;obtain⟨v,g1,g2⟩:=r.val j e he;exact⟨v,g1,Rep.mono sF' _ _ g2⟩
 ·by_cases hj:j=i
  ·subst hj;rw[Qw3 hi] at he;cases he;exact⟨a,hs,ho,nF a oa h3 hoa,h4⟩
  ·rw[Qw0 (Ne.symm hj)] at he;obtain⟨b,g1,g2,g3,g4⟩:=r.own j e he;obtain⟨ob,hob⟩:=g2.some;exact⟨b,g1,g2.mono sF' (by rw[hob,s b ob (ne j e b hj he g1) hob]),nF b ob g3 hob,g4⟩
 ·have un:∀(j:Nat) (e:D),(env.set i (some (true,d')))[j]? = some (some (true,e))->∃e',env[j]? = some (some (true,e')):=λj e he=>by
   by_cases hj:j=i
   ·subst hj;exact⟨d,h⟩
   ·rw[Qw0 (Ne.symm hj)] at he;exact⟨e,he⟩
  obtain⟨e',hj'⟩:=un j e hj;obtain⟨f',hk'⟩:=un k f hk;exact r.apart j k e' f' b hj' hk' g1 g2
 ·rcases nw b o e with z|z
  ·exact r.dj b o z
  ·exact r.pr.free z
section
variable{X:Cx}{C:Cfg}{pos p:Pos}{k n:Nat}{f:Addr}{fd:FuncData}{ps:List Str}{x:Str}{e:Expr}{es:List Expr}
theorem CN{g:List D->Option D}{a:d7}{env env':Env}{d:D}(h:ao g a env = .ok d env'):∃ds,a env = .ok ds env'/\g ds=some d:=by obtain⟨ds,aN,e1,e2⟩:=aZ h;obtain⟨e3,rfl⟩:=fH e2;exact⟨ds,e1,e3⟩
theorem abY{g:List D->Option D}{a:d7}(G:qT X.prog X.w X.K X.mg X.base Ie k f fd ps (qu C.K n g))(hr:jy k X.A)(hg:Gl X x)(hm:X.mg x=some (.ref f))(hk:PySem.W.keepIn X.K (.ref f)=true)(hb:Binds X.K fd ps [])
  (ha:Ln X C (e::es) a) (hn:∀env ds env',a env = .ok ds env'->ds.length=n) (hdb:nH x:=by decide) (he:starEach (e::es) X.env=(false,eval e X.env)::starEach es X.env:=by rfl) (hpl:(backTo pos (starEach es X.env)).any (·.1)=false:=by rfl) :
  PX X C (.Call (.Name x p) (e::es) [] pos) (ao g a):=(G7 G hr hg hm hk hb .nil VH ha hdb he hpl).imp λσ H Q hq=>by
 obtain⟨Pr,F,env,env',d,r,e,q⟩:=hq;obtain⟨ds,e1,e2⟩:=CN e;refine⟨Pr,F,env,env',ds,r,e1,λvs H1 F1 r1 s1 p1=>?_⟩;show qu C.K n g (vs++[]) H1 Q E0;rw[Qw8];exact⟨F1,ds,d,hn _ _ _ e1,r1.fr,p1,e2,λv H2 F2 t1 t2 t3 t4 p2=>q v H2 F2 (r1.after t1 t2 t3 t4) (s1.trans t3) p2⟩
theorem Yg{g:List D->Option D}{a:d7}(G:qT X.prog X.w X.K X.mg X.base Ie k f fd ps (spN C.K n g))(hr:jy k X.A)(hg:Gl X x)(hm:X.mg x=some (.ref f))(hk:PySem.W.keepIn X.K (.ref f)=true)(hb:Binds X.K fd ps [])
  (ha:Ln X C (e::es) a) (hn:∀env ds env',a env = .ok ds env'->ds.length=n) (hdb:nH x:=by decide) (he:starEach (e::es) X.env=(false,eval e X.env)::starEach es X.env:=by rfl) (hpl:(backTo pos (starEach es X.env)).any (·.1)=false:=by rfl) :
  QS X C (.Call (.Name x p) (e::es) [] pos) (ao g a):=(G7 G hr hg hm hk hb .nil VH ha hdb he hpl).imp λσ H Q hq=>by
 obtain⟨Pr,F,env,env',d,r,e,q⟩:=hq;obtain⟨ds,e1,e2⟩:=CN e;refine⟨Pr,F,env,env',ds,r,e1,λvs H1 F1 r1 s1 p1=>?_⟩;show spN C.K n g (vs++[]) H1 Q E0;rw[Qw8];refine⟨F1,ds,d,hn _ _ _ e1,r1.fr,p1,e2,λb H2 F2 t1 t2 t3 t4 ho hF hH=>q b H2 F2 (r1.after t1 t2 t3 t4) (s1.trans t3) ⟨ho,hF,r1.pr.free hH,λj e he hs=>?_⟩⟩;obtain⟨c,h1,h2,_⟩:=r1.own j e he;rw[hs] at h1;cases h1;obtain⟨u,hu⟩:=h2.some;rw[hH] at hu;cases hu
def eU(f:List D->Option (D×D))(i:Nat)(a:d7):Ev:=λenv=>match env[i]? with
 | some (some (true,_))=>bindR (a env) λds aN=>(match aN[i]? with
  | some (some (true,x))=>(match f (x::ds) with
   | some (d,x')=>.ok d (aN.set i (some (true,x')))
   | none=>.stuck)
  | _=>.stuck)
 | _=>.stuck
theorem ae9{g:List D->Option (D×D)}{a:d7}{i:Nat}{y:Str}{py:Pos}(hN:X.N[i]? = some y)(hv:uK X.env.scope y)(G:qT X.prog X.w X.K X.mg X.base Ie k f fd ps (vX C.K n g))(hr:jy k X.A)(hg:Gl X x)(hm:X.mg x=some (.ref f))(hk:PySem.W.keepIn X.K (.ref f)=true)(hb:Binds X.K fd ps [])
  (ha:Ln X C es a) (hn:∀env ds env',a env = .ok ds env'->ds.length+1=n) (hdb:nH x:=by decide) (he:starEach (.Name y py::es) X.env=(false,eval (.Name y py) X.env)::starEach es X.env:=by rfl) (hpl:(backTo pos (starEach es X.env)).any (·.1)=false:=by rfl)
  (hd:nH y:=by decide) (hcd:vB y:=by decide) :
  PX X C (.Call (.Name x p) (.Name y py::es) [] pos) (eU g i a):=(G7 G hr hg hm hk hb .nil VH (jL (lF hN hv hd hcd) ha he) hdb he hpl).imp λσ H Q hq=>by
 obtain⟨Pr,F,env,env',d,r,e,q⟩:=hq;unfold eU at e;split at e
 ·rename_i d0 h0;obtain⟨ds,aN,e1,e2⟩:=aZ e;split at e2
  ·rename_i z hz;split at e2
   ·rename_i d1 z' hg;cases e2;obtain⟨a0,hs0,_⟩:=r.own i _ h0;refine⟨_,hs0,Pr,F,env,aN,ds,r,e1,λvs H1 F1 r1 s1 p1=>?_⟩;obtain⟨a1,hs1,ho1,hF1,hP1⟩:=r1.own i _ hz;rw[hs0] at hs1;cases hs1;show vX C.K n g (_::vs++[]) H1 Q E0;rw[Qw8];exact⟨F1,a0,vs,z,ds,d,z',rfl,hn _ _ _ e1,r1.fr,hF1,ho1,p1,hg,λv H2 F2 t1 t2 t3 t4 t5 p2=>q v H2 F2 (r1.Z9 hz hs0 t1 t2 t3 t4 t5) (s1.trans t3) p2⟩
   ·cases e2
  ·cases e2
 ·cases e
end
def envOf(n:Nat)(ds:List D):Env:=ds.map (λd=>some (false,d))++List.replicate (n - ds.length) none
def CV(n:Nat)(x:D)(ds:List D):Env:=some (true,x)::(ds.map (λd=>some (false,d))++List.replicate (n - (ds.length+1)) none)
def cH(n:Nat)(ev:bO)(ds:List D):Option D:=match ev (envOf n ds) with
 | .rt false d _=>some d
 | .nx _=>some .non
 | _=>none
def runN(n:Nat)(ev:bO)(ds:List D):Option D:=match ev (envOf n ds) with
 | .rt true d _=>some d
 | _=>none
def ji(n:Nat)(ev:bO)(ds:List D):Option (D×D):=match ds with
 | []=>none
 | x::r=>(match ev (CV n x r) with
  | .rt false d env=>(match env[0]? with
   | some (some (true,x'))=>some (d,x')
   | _=>none)
  | .nx env=>(match env[0]? with
   | some (some (true,x'))=>some (.non,x')
   | _=>none)
  | _=>none)
def C0(K:Fg):Cfg:=⟨K,λ_=>none⟩
def C1(K:Fg)(a:Addr):Cfg:=⟨K,λi=>if i=0 then some a else none⟩
def Hk(H F:Hp):Hp:=λb=>if (F b).isSome then none else H b
theorem JZ{H F:Hp}{b:Addr}{o:HO}(h:Hk H F b=some o):H b=some o/\F b=none:=by
 unfold Hk at h;split at h
 ·cases h
 ·rename_i z;exact⟨h,by cases e:F b with|none=>rfl|some w=>rw[e] at z;exact absurd rfl z⟩
theorem BP{H F:Hp}{b:Addr}(h:Hk H F b=none):H b=none\/∃o,F b=some o:=by
 unfold Hk at h;split at h
 ·rename_i z;exact .inr (Qjx.mp z)
 ·exact .inl h
theorem Ey{K:Fg}{F H:Hp}{ds:List D}{vs:List V}{N:List Str}(s:aW F H)(p:bL K F ds vs):Rel (C0 K) (Hk H F) F (envOf N.length ds) (start N vs) H:=by
 have un:∀(j:Nat) (x:Bool×D),(envOf N.length ds)[j]? = some (some x)->∃d,x=(false,d)/\ds[j]? = some d:=λj x he=>by
  unfold envOf at he;by_cases hj:j<(ds.map λd=>some (false,d)).length
  ·rw[Qxq hj,Qwx] at he;obtain⟨d,h1,h2⟩:=Qww.mp he;cases h2;exact⟨d,rfl,h1⟩
  ·rw[Qx0 (by omega),Qz5] at he;split at he<;>cases he
 refine⟨λb o e=>(JZ e).1,s,?_,λj d he=>?_,λj d he=>?_,λj k d e a hj hk=>?_,λb o e=>?_,λi a h=>by cases h⟩
 ·unfold envOf L2.start;rw[Qqy,Qqy,Qqq,Qqq,Qzz,Qzz,p.length]
 ·obtain⟨d',z,hd⟩:=un j _ he;cases z;obtain⟨v,h1,h2⟩:=p.get hd;refine⟨v,?_,h2⟩;unfold L2.start;rw[Qxq (by rw[Qqq];exact(Qq4.mp h1).1),Qwx,h1]
  rfl
 ·obtain⟨d',z,_⟩:=un j _ he;cases z
 ·obtain⟨d',z,_⟩:=un j _ hj;cases z
 ·unfold Hk;rw[e];rfl
theorem aW.Ng{H F F' H':Hp}(s1:aW (Hk H F) H')(s2:aW F F')(s3:aW F' H')(sF:aW F H):aW H H':=λb o e=>by
 cases z:F b with
 | none=>exact s1 b o (by unfold Hk;rw[z];exact e)
 | some w=>
  have:=sF b w z;rw[e] at this;cases this;exact s3 b o (s2 b o z)
theorem Nr{H F F':Hp}(s2:aW F F')(dj:∀b o,F' b=some o->Hk H F b=none)(b:Addr)(o:HO)(h:F' b=some o):F b=some o\/H b=none:=by
 rcases BP (dj b o h) with z|⟨w,z⟩
 ·exact .inr z
 ·have:=s2 b w z;rw[h] at this;cases this;exact .inl z
section
variable{P:Program}{w:World}{K:Fg}{mg:Str->Option Value}{base:Heap}{x qual:Str}{st:Stmt}{f:Addr}{fd:FuncData}{N ps:List Str}{k:Nat}{ev:bO}
abbrev bx(P:Program)(w:World)(K:Fg)(mg:Str->Option Value)(base:Heap)(N:List Str)(qual:Str)(st:Stmt)(f:Addr)(cdv:Value)(A:Around)(outer:List PySem.Env)(s:Shared)(H:Hp)(E:XK):Cx:=(N8 Ie P w K mg base N qual (aU st) f cdv A outer s H E).nox
theorem KZ(F:Xk K x qual st f fd)(S:bG N ps (aU st))
  (hb:∀(cdv:Value) (A:Around) (outer:List PySem.Env) (s:Shared) (H:Hp) (E:XK),jy k (A.deeper (envOfC qual (aU st) s.heap.objs.size f cdv))->Ek (bx P w K mg base N qual st f cdv A outer s H E) (C0 K) (gk st) ev) :
  qT P w K mg base Ie (k+1) f fd ps (qu K ps.length (cH N.length ev)):=by
 refine F.ok S (λvs H Q E h=>?_) (λcdv A outer s H vs Q E hr h=>?_)
 ·obtain⟨F0,ds,d,hl,_,p,_⟩:=h;rw[p.length,hl]
 ·obtain⟨F0,ds,d,hl,sF,p,e,q⟩:=h;refine⟨_,hb cdv A outer s H E hr,Hk H F0,F0,envOf N.length ds,Ey sF p,?_⟩;unfold cH at e;split at e
  ·rename_i d' env' h1;cases e;rw[h1];exact λv σ' H' F' r' s' p'=>q v H' F' (aW.Ng r'.pr s' r'.fr sF) r'.fr s' (Nr s' r'.dj) p'
  ·rename_i env' h1;cases e;rw[h1];exact λσ' H' F' r' s'=>q .non H' F' (aW.Ng r'.pr s' r'.fr sF) r'.fr s' (Nr s' r'.dj) rfl
  ·cases e
theorem ZR(F:Xk K x qual st f fd)(S:bG N ps (aU st))
  (hb:∀(cdv:Value) (A:Around) (outer:List PySem.Env) (s:Shared) (H:Hp) (E:XK),jy k (A.deeper (envOfC qual (aU st) s.heap.objs.size f cdv))->Ek (bx P w K mg base N qual st f cdv A outer s H E) (C0 K) (gk st) ev) :
  qT P w K mg base Ie (k+1) f fd ps (spN K ps.length (runN N.length ev)):=by
 refine F.ok S (λvs H Q E h=>?_) (λcdv A outer s H vs Q E hr h=>?_)
 ·obtain⟨F0,ds,d,hl,_,p,_⟩:=h;rw[p.length,hl]
 ·obtain⟨F0,ds,d,hl,sF,p,e,q⟩:=h;refine⟨_,hb cdv A outer s H E hr,Hk H F0,F0,envOf N.length ds,Ey sF p,?_⟩;unfold runN at e;split at e
  ·rename_i d' env' h1;cases e;rw[h1];refine λa σ' H' F' r' s' n'=>q a H' F' (aW.Ng r'.pr s' r'.fr sF) r'.fr s' (Nr s' r'.dj) n'.own n'.nF ?_;rcases BP n'.nP with z|⟨u,z⟩
   ·exact z
   ·have:=s' a u z;rw[n'.nF] at this;cases this
  ·cases e
theorem Jw{K:Fg}{F H:Hp}{y:D}{a:Addr}{ds:List D}{vs:List V}{N:List Str}(s:aW F H)(hF:F a=none)(ho:nD K F H y a)(p:bL K F ds vs):Rel (C1 K a) (λb=>if b=a then none else Hk H F b) F (CV N.length y ds) (start N (.ref a::vs)) H:=by
 have un:∀(j:Nat) (x:Bool×D),(CV N.length y ds)[j]? = some (some x)->(j=0/\x=(true,y))\/∃i d,j=i+1/\x=(false,d)/\ds[i]? = some d:=λj x he=>by
  unfold CV at he;cases j with
  | zero=>cases he;exact .inl ⟨rfl,rfl⟩
  | succ i=>
   rw[List.getElem?_cons_succ] at he;by_cases hj:i<(ds.map λd=>some (false,d)).length
   ·rw[Qxq hj,Qwx] at he;obtain⟨d,h1,h2⟩:=Qww.mp he;cases h2;exact .inr ⟨i,d,rfl,rfl,h1⟩
   ·rw[Qx0 (by omega),Qz5] at he;split at he<;>cases he
 have z0:(start N (.ref a::vs))[0]? = some (some (V.ref a)):=rfl;refine⟨λb o e=>?_,s,?_,λj d he=>?_,λj d he=>?_,λj k d e b hj hk _ _=>?_,λb o e=>?_,λi b h=>?_⟩
 ·have e':(if b=a then none else Hk H F b)=some o:=e;split at e'
  ·cases e'
  ·exact(JZ e').1
 ·unfold CV L2.start;simp only[Qqv,Qqy,Qqq,Qzz,p.length,Qq2];omega
 ·rcases un j _ he with ⟨_,z⟩|⟨i,d',rfl,z,hd⟩
  ·cases z
  ·cases z;obtain⟨v,h1,h2⟩:=p.get hd;refine⟨v,?_,h2⟩;unfold L2.start;rw[Qq2,List.cons_append,List.getElem?_cons_succ,Qxq (by rw[Qqq];exact(Qq4.mp h1).1),Qwx,h1]
   rfl
 ·rcases un j _ he with ⟨rfl,z⟩|⟨i,d',rfl,z,hd⟩
  ·cases z;exact⟨a,z0,ho,hF,if_pos rfl⟩
  ·cases z
 ·rcases un j _ hj with ⟨rfl,_⟩|⟨i,d',rfl,z,_⟩
  ·rcases un k _ hk with ⟨rfl,_⟩|⟨i,d',rfl,z,_⟩
   ·rfl
   ·cases z
  ·cases z
 ·show(if b=a then none else Hk H F b)=none;split
  ·rfl
  ·unfold Hk;rw[e];rfl
 ·have h':(if i=0 then some a else none)=some b:=h;split at h'
  ·rename_i hi;cases h';rw[hi];exact z0
  ·cases h'
theorem adM{y:Str}{qs:List Str}(F:Xk K x qual st f fd)(S:bG N (y::qs) (aU st))
  (hb:∀(cdv:Value) (A:Around) (outer:List PySem.Env) (s:Shared) (H:Hp) (E:XK) (a:Addr),jy k (A.deeper (envOfC qual (aU st) s.heap.objs.size f cdv))->Ek (bx P w K mg base N qual st f cdv A outer s H E) (C1 K a) (gk st) ev) :
  qT P w K mg base Ie (k+1) f fd (y::qs) (vX K (qs.length+1) (ji N.length ev)):=by
 refine F.ok S (λvs H Q E h=>?_) (λcdv A outer s H vs Q E hr h=>?_)
 ·obtain⟨F0,a,r,z,ds,d,z',rfl,hl,_,_,_,p,_⟩:=h;rw[Qqv,Qqv,p.length];exact hl
 ·obtain⟨F0,a,r,z,ds,d,z',rfl,hl,sF,hFa,ho,p,e,q⟩:=h;refine⟨_,hb cdv A outer s H E a hr,_,F0,CV N.length z ds,Jw sF hFa ho p,?_⟩;have fin:∀(env':Env) (σ':L2.St) (H' F':Hp) (v:V) (d:D) (z':D),env'[0]? = some (some (true,z'))->Rel (C1 K a) (λb=>if b=a then none else Hk H F0 b) F' env' σ' H'->aW F0 F'->Rep K F' d v->(∀v H' F',(∀b o,b≠a->H b=some o->H' b=some o)->aW F' H'->aW F0 F'->(∀b o,F' b=some o->F0 b=some o\/H b=none)->nD K F' H' z' a->Rep K F' d v->Q v H')->Q v H':=λenv' σ' H' F' v d z' h0 r' s' p' q=>by
   obtain⟨b,g1,g2,g3,g4⟩:=r'.own 0 z' h0;have g5:=r'.fix 0 a rfl;rw[g1] at g5;cases g5;refine q v H' F' (λc o hc e=>?_) r'.fr s' (λc o e=>?_) g2 p'
   ·cases u:F0 c with
    | none=>exact r'.pr c o (by show(if c=a then none else Hk H F0 c)=some o;rw[if_neg hc];unfold Hk;rw[u];exact e)
    | some w=>
     have:=sF c w u;rw[e] at this;cases this;exact r'.fr c o (s' c o u)
   ·by_cases hc:c=a
    ·subst hc;rw[g3] at e;cases e
    ·have h1:=r'.dj c o e;have h1':(if c=a then none else Hk H F0 c)=none:=h1;rw[if_neg hc] at h1';rcases BP h1' with u|⟨w,u⟩
     ·exact .inr u
     ·have:=s' c w u;rw[e] at this;cases this;exact .inl u
  unfold ji at e;simp only at e;split at e
  ·rename_i d' env' h1;split at e
   ·rename_i z1 h0;cases e;rw[h1];exact λv σ' H' F' r' s' p'=>fin env' σ' H' F' v _ _ h0 r' s' p' q
   ·cases e
  ·rename_i env' h1;split at e
   ·rename_i z1 h0;cases e;rw[h1];exact λσ' H' F' r' s'=>fin env' σ' H' F' .non .non _ h0 r' s' rfl q
   ·cases e
  ·cases e
end
structure Good(X:Cx)(C:Cfg):Prop where
 K:X.K=C.K
 calm:X.calm=true
 un:X.A.units+64<cLine
theorem Good.u1{X:Cx}{C:Cfg}(G:Good X C):X.A.units+1<cLine:=Qw4 (Nat.add_le_add_left (by decide:1<=64) _) G.un
theorem Good.u60{X:Cx}{C:Cfg}(G:Good X C):X.A.units+60<cLine:=Qw4 (Nat.add_le_add_left (by decide:60<=64) _) G.un
theorem Good.u61{X:Cx}{C:Cfg}(G:Good X C):X.A.units+61<cLine:=Qw4 (Nat.add_le_add_left (by decide:61<=64) _) G.un
theorem Good.at{X X':Cx}{C:Cfg}{scope:Scope}{N':List Str}(G:Good X C)(h:lR X scope N' X'):Good X' C:=by obtain⟨_,_,_,_,_,rfl⟩:=h;exact⟨G.K,G.calm,G.un⟩
def Own(P:Program)(w:World)(K:Fg)(mg:Str->Option Value)(base:Heap)(x:Str)(k:Nat)(ps:List Str)(sp:Sp):Prop:=
 ∃f fd,qT P w K mg base Ie k f fd ps sp/\mg x=some (.ref f)/\PySem.W.keepIn K (.ref f)=true/\Binds K fd ps []
def Glb(K:Fg)(mg:Str->Option Value)(x:Str)(d:D):Prop:=∃v u,mg x=some u/\RelV v u/\∀F,Rep K F d v
def di(K:Fg)(mg:Str->Option Value)(x:Str)(st:Stmt)(ps:List Str):Prop:=∃f fd,Xk K x x st f fd/\mg x=some (.ref f)/\Binds K fd ps []
def o6:List Str->Bool
 | []=>true
 | x::r=>!(r.contains x)&&o6 r
theorem kJ:∀{l:List Str},o6 l=true->l.Nodup
 | [],_=>.nil
 | x::r,h=>by
  have h':(!(r.contains x)&&o6 r)=true:=h;rw[Qjy] at h';refine Qx9.mpr ⟨λhm=>?_,kJ h'.2⟩;have:r.contains x=true:=List.contains_iff_mem.mpr hm;rw[this] at h';exact absurd h'.1 (by decide)
def Qq(outer:List (Str×NameKind)):List (Str×NameKind)->Bool
 | []=>true
 | (n,k)::r=>(!decide (k = .free)||decide (outer.lookup n=some .cell)||decide (outer.lookup n=some .free))&&Qq outer r
theorem Kr{outer:List (Str×NameKind)}:∀{l:List (Str×NameKind)},Qq outer l=true->∀x∈l,x.2 = .free->outer.lookup x.1=some .cell\/outer.lookup x.1=some .free
 | [],_,x,hx,_=>by simp at hx
 | (n,k)::r,h,x,hx,hf=>by
  have h':((!decide (k = .free)||decide (outer.lookup n=some .cell)||decide (outer.lookup n=some .free))&&Qq outer r)=true:=h;rw[Qjy,Bool.or_eq_true,Bool.or_eq_true] at h';rcases Qq5.mp hx with rfl|hx
  ·rcases h'.1 with (z|z)|z
   ·have hf':k = .free:=hf;rw[Qw2 hf'] at z;exact absurd z (by decide)
   ·exact .inl (Qxw z)
   ·exact .inr (Qxw z)
  ·exact Kr h'.2 x hx hf
theorem gh{X:Cx}{scope:Scope}{N':List Str}(h1:scope.kind = .function:=by rfl)(h2:o6 (scope.names.map (·.1))=true:=by rfl)(h3:Qq X.env.scope.names scope.names=true:=by rfl)(h4:W0 scope.names N' X.N=true:=by rfl)(h5:Nat.ble X.N.length N'.length=true:=by rfl):pC X scope N':=
 ⟨h1,kJ h2,Kr h3,h4,Qkv h5⟩
section
variable{X:Cx}{C:Cfg}{pos p px:Pos}{x y z:Expr}{a b c:Ev}{t u:gK}{i:Nat}{n:Str}
structure Bi(X:Cx)(C:Cfg)(op:Operator)(g:D->D->Option D):Prop where
 ex:∃r,oG X (binaryOp op) r/\qw C r g
structure Cm(X:Cx)(C:Cfg)(op:CmpOp)(g:D->D->Option D):Prop where
 ex:∃r,oG X (compareOp op) r/\qw C r g
theorem lZ(G:Good X C):Bi X C .Add dC:=⟨_,YM,by rw[G.K];exact acR⟩
theorem aga:Bi X C .Sub Sv:=⟨_,acn,acG⟩
theorem W6:Bi X C .Mult vG:=⟨_,YK,acK⟩
theorem agc:Bi X C .Mod adx:=⟨_,acu,acL⟩
theorem abd:Bi X C .Pow NT:=⟨_,acr,acJ⟩
theorem agb:Bi X C .LShift ZD:=⟨_,acp,acI⟩
theorem abb:Bi X C .RShift Kh:=⟨_,aco,acH⟩
theorem abf:Bi X C .BitAnd Kp:=⟨_,acC,acQ⟩
theorem uJ(G:Good X C):Cm X C .Eq pP:=⟨_,acA G.u60,by rw[G.K];exact afs⟩
theorem K9(G:Good X C):Cm X C .NotEq Ai:=⟨_,acs G.u60,by rw[G.K];exact afm⟩
theorem af7(G:Good X C):Cm X C .In gIn:=⟨_,acz G.u61,by rw[G.K];exact afq⟩
theorem Z7(G:Good X C):Cm X C .NotIn yJ:=⟨_,RL G.u61,by rw[G.K];exact VN⟩
theorem ahV:Cm X C .Is gIs:=⟨_,acx,afp⟩
theorem La:Cm X C .Lt uP:=⟨_,acv,afn⟩
theorem ahU:Cm X C .LtE gLe:=⟨_,afj,afo⟩
theorem ahW:Cm X C .Gt gGt:=⟨_,afk,afr⟩
theorem abp{op:CmpOp}{g:D->D->Option D}(i:Nat)(o:Cm X C op g)(hb:QT X C y b)(hN:X.N[i]? = some n:=by rfl)(hv:uK X.env.scope n:=by first|exact Or.inl rfl|exact Or.inr (Or.inl rfl)|exact Or.inr (Or.inr rfl))(hm:behindInMarks op y=false:=by rfl)(hd:nH n:=by decide)(hcd:vB n:=by decide):PX X C (.Compare (.Name n px) [op] [y] pos) (au g i b):=by obtain⟨r,h1,h2⟩:=o.ex;exact(Pz h1 (lF hN hv hd hcd) hb hm).imp (uD h2)
theorem abz{op:CmpOp}{g:D->D->Option D}(i:Nat)(o:Cm X C op g)(hb:QT X C y b)(hN:X.N[i]? = some n:=by rfl)(hv:uK X.env.scope n:=by first|exact Or.inl rfl|exact Or.inr (Or.inl rfl)|exact Or.inr (Or.inr rfl))(hm:behindInMarks op y=false:=by rfl)(hd:nH n:=by decide)(hcd:vB n:=by decide):PXT X C (.Compare (.Name n px) [op] [y] pos) (dD (au g i b)):=by obtain⟨r,h1,h2⟩:=o.ex;exact(Px h1 (lF hN hv hd hcd) hb hm).imp λσ H Q h=>uD h2 σ H _ (O3 h)
variable{e:Expr}{es:List Expr}{ea:d7}
theorem aev{k k':Nat}{m:Nat}{ps:List Str}{g:List D->Option D}(O:Own X.prog X.w X.K X.mg X.base n k ps (qu X.K m g))(G:Good X C)(hr:jy k' X.A)(hk:Nat.ble k k'=true)(ha:Ln X C (e::es) ea)(hn:∀env ds env',ea env = .ok ds env'->ds.length=m)
  (hg:Gl X n:=by rfl) (hdb:nH n:=by decide) (he:starEach (e::es) X.env=(false,eval e X.env)::starEach es X.env:=by rfl) (hpl:(backTo pos (starEach es X.env)).any (·.1)=false:=by rfl):PX X C (.Call (.Name n p) (e::es) [] pos) (ao g ea):=by
 obtain⟨f,fd,h1,h2,h3,h4⟩:=O;rw[G.K] at h1;have h1':qT X.prog X.w X.K X.mg X.base Ie k f fd ps (qu C.K m g):=by rw[G.K];exact h1
 exact abY h1' (hr.mono (Qkv hk)) hg h2 h3 h4 ha hn hdb he hpl
theorem afA{k k':Nat}{m:Nat}{ps:List Str}{g:List D->Option D}(O:Own X.prog X.w X.K X.mg X.base n k ps (spN X.K m g))(G:Good X C)(hr:jy k' X.A)(hk:Nat.ble k k'=true)(ha:Ln X C (e::es) ea)(hn:∀env ds env',ea env = .ok ds env'->ds.length=m)
  (hg:Gl X n:=by rfl) (hdb:nH n:=by decide) (he:starEach (e::es) X.env=(false,eval e X.env)::starEach es X.env:=by rfl) (hpl:(backTo pos (starEach es X.env)).any (·.1)=false:=by rfl):QS X C (.Call (.Name n p) (e::es) [] pos) (ao g ea):=by
 obtain⟨f,fd,h1,h2,h3,h4⟩:=O;rw[G.K] at h1;have h1':qT X.prog X.w X.K X.mg X.base Ie k f fd ps (spN C.K m g):=by rw[G.K];exact h1
 exact Yg h1' (hr.mono (Qkv hk)) hg h2 h3 h4 ha hn hdb he hpl
theorem agQ{k k':Nat}{m:Nat}{ps:List Str}{g:List D->Option (D×D)}{v:Str}{pv:Pos}(i:Nat)(O:Own X.prog X.w X.K X.mg X.base n k ps (vX X.K m g))(G:Good X C)(hr:jy k' X.A)(hk:Nat.ble k k'=true)(ha:Ln X C es ea)(hn:∀env ds env',ea env = .ok ds env'->ds.length+1=m)
  (hN:X.N[i]? = some v:=by rfl) (hv:uK X.env.scope v:=by first|exact Or.inl rfl|exact Or.inr (Or.inl rfl)|exact Or.inr (Or.inr rfl))
  (hg:Gl X n:=by rfl) (hdb:nH n:=by decide) (he:starEach (.Name v pv::es) X.env=(false,eval (.Name v pv) X.env)::starEach es X.env:=by rfl) (hpl:(backTo pos (starEach es X.env)).any (·.1)=false:=by rfl)
  (hd:nH v:=by decide) (hcd:vB v:=by decide):PX X C (.Call (.Name n p) (.Name v pv::es) [] pos) (eU g i ea):=by
 obtain⟨f,fd,h1,h2,h3,h4⟩:=O;rw[G.K] at h1;have h1':qT X.prog X.w X.K X.mg X.base Ie k f fd ps (vX C.K m g):=by rw[G.K];exact h1
 exact ae9 hN hv h1' (hr.mono (Qkv hk)) hg h2 h3 h4 ha hn hdb he hpl hd hcd
theorem len0:∀(env:Env) (ds:List D) (env':Env),aj env = .ok ds env'->ds.length=0:=SM
theorem bM{a:Ev}{r:d7}{m:Nat}(hr:∀env ds env',r env = .ok ds env'->ds.length=m):∀(env:Env) (ds:List D) (env':Env),aa a r env = .ok ds env'->ds.length=m+1:=N7 hr
theorem kO{r:d7}{m:Nat}(hr:∀env ds env',r env = .ok ds env'->ds.length=m):∀(env:Env) (ds:List D) (env':Env),r env = .ok ds env'->ds.length+1=m+1:=λenv ds env' h=>by rw[hr env ds env' h]
theorem ahk{elt tg iter:Expr}{ifs:List Expr}{scope:Scope}(N':List Str){it:d7}{g:GV}{cc:gK}{ee:Ev}(lo:Nat)(ok:pC X scope N')(G:Good X C)(hi:TF X C tg iter it)
  (bg:∀X',lR X scope N' X'->PXG X' C lo tg g) (bc:∀X',lR X scope N' X'->Tt X' C ifs cc) (be:∀X',lR X scope N' X'->PX X' C elt ee)
  (hs:∀x,foldedSetIterable iter X.env x=pure x:=by intro _;rfl):QS X C (.ListComp elt [⟨tg,iter,ifs,0⟩] scope pos) (dH lo N'.length it g cc ee):=abU N' lo ok G.calm hi bg bc be hs
theorem ag9{elt tg iter:Expr}{ifs:List Expr}{scope:Scope}(N':List Str){spos py:Pos}{it:d7}{g:GV}{cc:gK}{ee:Ev}(lo:Nat)(i:Nat)(ok:pC X scope N')(G:Good X C)(hi:TF X C tg iter it)
  (bg:∀X',lR X scope N' X'->PXG X' C lo tg g) (bc:∀X',lR X scope N' X'->Tt X' C ifs cc) (be:∀X',lR X scope N' X'->PX X' C elt ee)
  (hnd:o6 X.N=true:=by rfl) (hfx:C.fx i=none:=by rfl) (hy:X.N[i]? = some n:=by rfl) (hx:Loc X.env.scope n:=by first|exact Or.inl rfl|exact Or.inr rfl)
  (hsw:swapsWith (.ListComp elt [⟨tg,iter,ifs,0⟩] scope pos) (some (.Name n py)) spos.line X.env=pure true:=by rfl)
  (hf:X.fn n=true\/X.env.scope.names.lookup n=some .local:=by first|exact .inl rfl|exact .inr rfl)
  (hs:∀x,foldedSetIterable iter X.env x=pure x:=by intro _;rfl):Xi X C (.Assign [.Name n py] (.ListComp elt [⟨tg,iter,ifs,0⟩] scope pos) spos) (cI i (dH lo N'.length it g cc ee)):=Rq N' lo ok G.calm hi bg bc be (kJ hnd) hy hx hfx hsw hf hs
end
section
variable{P:Program}{w:World}{K:Fg}{mg:Str->Option Value}{base:Heap}{x:Str}{st:Stmt}{N ps:List Str}{k:Nat}{ev:bO}
theorem Ag{x:Str}{f:Addr}{cdv:Value}{A:Around}{outer:List PySem.Env}{s:Shared}{H:Hp}{E:XK}{C:Cfg}(hC:C.K=K)(hr:jy k (A.deeper (envOfC x (aU st) s.heap.objs.size f cdv))):Good (bx P w K mg base N x st f cdv A outer s H E) C:=⟨hC.symm,rfl,hr.units⟩
theorem bU(F:di K mg x st ps)(S:bG N ps (aU st))
  (hb:∀(f:Addr) (cdv:Value) (A:Around) (outer:List PySem.Env) (s:Shared) (H:Hp) (E:XK),jy k (A.deeper (envOfC x (aU st) s.heap.objs.size f cdv))->Good (bx P w K mg base N x st f cdv A outer s H E) (C0 K)->Ek (bx P w K mg base N x st f cdv A outer s H E) (C0 K) (gk st) ev) :
  Own P w K mg base x (k+1) ps (qu K ps.length (cH N.length ev)):=by
 obtain⟨f,fd,h1,h2,h3⟩:=F;exact⟨f,fd,KZ h1 S λcdv A outer s H E hr=>hb f cdv A outer s H E hr (Ag rfl hr),h2,h1.kp,h3⟩
theorem YG(F:di K mg x st ps)(S:bG N ps (aU st))
  (hb:∀(f:Addr) (cdv:Value) (A:Around) (outer:List PySem.Env) (s:Shared) (H:Hp) (E:XK),jy k (A.deeper (envOfC x (aU st) s.heap.objs.size f cdv))->Good (bx P w K mg base N x st f cdv A outer s H E) (C0 K)->Ek (bx P w K mg base N x st f cdv A outer s H E) (C0 K) (gk st) ev) :
  Own P w K mg base x (k+1) ps (spN K ps.length (runN N.length ev)):=by
 obtain⟨f,fd,h1,h2,h3⟩:=F;exact⟨f,fd,ZR h1 S λcdv A outer s H E hr=>hb f cdv A outer s H E hr (Ag rfl hr),h2,h1.kp,h3⟩
theorem vA{y:Str}{qs:List Str}(F:di K mg x st (y::qs))(S:bG N (y::qs) (aU st))
  (hb:∀(f:Addr) (cdv:Value) (A:Around) (outer:List PySem.Env) (s:Shared) (H:Hp) (E:XK) (a:Addr),jy k (A.deeper (envOfC x (aU st) s.heap.objs.size f cdv))->Good (bx P w K mg base N x st f cdv A outer s H E) (C1 K a)->Ek (bx P w K mg base N x st f cdv A outer s H E) (C1 K a) (gk st) ev) :
  Own P w K mg base x (k+1) (y::qs) (vX K (qs.length+1) (ji N.length ev)):=by
 obtain⟨f,fd,h1,h2,h3⟩:=F;exact⟨f,fd,adM h1 S λcdv A outer s H E a hr=>hb f cdv A outer s H E a hr (Ag rfl hr),h2,h1.kp,h3⟩
theorem iD{sc:Scope}(h1:sc.kind = .function:=by rfl)(h2:sc.isCoroutine=false:=by rfl)(h3:sc.isGenerator=false:=by rfl)(h4:o6 N=true:=by rfl)(h5:N.take ps.length=ps:=by rfl)
  (h6:(ps.all λx=>decide (sc.names.lookup x=some .local)||decide (sc.names.lookup x=some .cell))=true:=by rfl) (h7:(sc.names.all λy=>!decide (y.2 = .free))=true:=by rfl):bG N ps sc:=by
 refine⟨h1,h2,h3,kJ h4,h5,λx hx=>?_,λy hy z=>?_⟩
 ·have:=Qxv.mp h6 x hx;rw[Bool.or_eq_true] at this;rcases this with z|z
  ·exact .inl (Qxw z)
  ·exact .inr (Qxw z)
 ·have:=Qxv.mp h7 y hy;rw[Qw2 z] at this;exact absurd this (by decide)
end
open PySem PySem.Spec PySem.W PySem.Calls PyProof.Rows L2
theorem yQ:∀(ns:List Int) (i:Int),i∈ns->Builtin.Int.intBits i<=WData.weightAll (ns.map WData.int)
 | [],_,h=>by simp at h
 | n::ns,i,h=>by
  rw[Qq2,WData.weightAll];rcases Qq5.mp h with rfl|h
  ·have e:WData.weight (.int i)=Builtin.Int.intBits i:=by rw[WData.weight];rfl
   rw[e];omega
  ·have:=yQ ns i h;omega
def Oq(ns:List Int):Prop:=∀i∈ns,Builtin.Int.intBits i<=2^20
theorem HQ{l:OpenLaw}{n:Nat}{q:Program}{loose:List Str}{XP:(Str->Option Value)->Heap->Prop}{YP:World->Heap->Prop}{d:DefRec}
  (hn:l.most=some n) (hdf:d.params.defaults=[])
  (call:∀(w:World) (s₀ s₁:Shared) (mg mb:Str->Option Value) (fa:Addr) (o:Obj) (pm cd doc:Value) (a:Addr) (vs:List Value) (ns:List Int),
   Ground q loose [] XP w s₀ mg mb s₁.heap->YP w s₁.heap->
   s₁.heap.get? fa=some o->o.data = .func (docDef d.name d.params d.body d.scope pm cd doc)->s₁.heap.CodeRec cd d.name->mg d.name=some (.ref fa)->
   s₁.heap.get? a=some { cls:=.type "list",data:=.seq vs.toArray }->IntsAre vs ns->ns.length<=n->Oq ns->s₁.gens = #[]->
   codeAny (model l.prog w) callerA (.call (.ref fa) ⟨[.ref a],[]⟩) (λr s'=>r = .ok (.ret (.bool true))/\OldK s₁.heap s'.heap/\s'.os=s₁.os/\AllBare s'.gens) s₁) :
  WalkO q loose XP YP l.row.toRowW d [] (λf vs=>PySem.call f vs):=by
 intro w s₀ s₁ mg mb G Y fa o pm cd doc dV kV ho hd hcd hD hmg hg args vals as hpre hlay hrd hwl hlo;obtain rfl:dV = .none:=Dflts.none hD hdf;obtain rfl:kV = .none:=Dflts.noKw hD;obtain⟨a,vs,ns,rfl,rfl,hobj,hints,hlen⟩:=Att.Rg hn hpre hwl;have Ql:Oq ns:=λi hi=>by
  have h1:=(layableW_iff.mp (layableW_arg hlay _ (Qq6.mpr rfl))).2.2;rw[WData.weight] at h1;exact Qq0 (yQ ns i hi) h1
 refine enter_call (codeAny_mono (call w s₀ s₁ mg mb fa o pm cd doc a vs ns G Y ho (fd_plain hd) hcd hmg hobj hints hlen Ql hg) λr s' hq=>?_);obtain⟨rfl,h2,h3,h4⟩:=hq;exact⟨.inl ⟨.bool true,.bool true,[],rfl,λ_=>rfl,.bool true,Att.Rz l _,λ_=>⟨List.Pairwise.nil,λ_ hm=>(nomatch hm)⟩⟩,h2,h3,h4⟩
theorem aew{l:PySem.W.OpenLaw}{n k:Nat}{q:Program}{loose:List Str}{XP:(Str->Option Value)->Heap->Prop}{YP:World->Heap->Prop}{d:DefRec}{K:Params->PySem.W.Frag}{x:Str}{f:List D->Option D}
  (hn:l.most=some n) (hn2:n<=sizeLine) (hdf:d.params.defaults=[]) (hr:jy k callerA)
  (hY:∀(w:World) (h:Heap),YP w h->(K w.params).In h)
  (hf:∀ns:List Int,ns.length<=n->Oq ns->f [.arr (ns.map .int)]=some (.bl true))
  (F:∀(w:World) (mg:Str->Option Value) (fa:Addr) (h:Heap),(K w.params).In h->h.Ns mainGlobals mg->mg d.name=some (.ref fa)->
   ∃fd:FuncData,(∀(s:Shared) (u:Value),BindsTo s fd ⟨[u],[]⟩ [(x,u)])/\
    ∀base:Heap,(K w.params).In base->base.Ns mainGlobals mg->qT l.prog w (K w.params) mg base Ie k fa fd [x] (qu (K w.params) 1 f)) :
  PySem.W.WalkO q loose XP YP l.row.toRowW d [] (λf vs=>PySem.call f vs):=by
 refine HQ hn hdf λw s₀ s₁ mg mb fa o pm cd doc a vs ns G Y ho hd hcd hmg hobj hints hlen Ql hg=>?_;have KX:=hY w _ Y;obtain⟨fd,hb,hF⟩:=F w mg fa _ KX G.T.g hmg;refine Wg KX G.T.g G.T.b G.T.builtins G.T.nolimit hg hobj hints (Qq0 hlen hn2) hr hF hb (λH hO hS=>?_) λH e s' z=>z;refine⟨H,[.arr (ns.map .int)],.bl true,rfl,aW.refl H,⟨_,_,rfl,⟨by rw[Qqq];exact Qq0 hlen hn2,a,_,rfl,hS,?_⟩,rfl⟩,hf ns hlen Ql,λv H' F' _ _ _ _ p=>p⟩;clear hints hlen Ql hS
 induction ns with
 | nil=>exact rfl
 | cons m ns ih=>exact⟨_,_,rfl,rfl,ih⟩
section
variable{K:Fg}{h:Heap}{mg:Str->Option Value}
theorem funAt{x:Str}{st:Stmt}{ps:List Str}{f:Addr}{oc:Value}{od an:Option Addr}{osl:Array (Option Value)}{kV doc pm cdv ct:Value}(X:K.In h)(G:h.Ns mainGlobals mg)
  (a:PySem.W.nsIn K mainGlobals x=some (some (.ref f))) (l:K.lookup f=some ⟨oc,od,.func (PySem.W.fnOf x x (lO st) (gk st) (aU st) .none kV doc pm an cdv ct),osl⟩)
  (c:PySem.W.codeIn K cdv x=true) (k:PySem.W.keepIn K (.ref f)=true)
  (b:∀(kV doc pm:Value) (an:Option Addr) (cdv ct:Value) (us:List Value),us.length=ps.length->bindArgs (PySem.W.fnOf x x (lO st) (gk st) (aU st) .none kV doc pm an cdv ct) ⟨us,[]⟩=pure (ps.zip us)):di K mg x st ps:=
 ⟨f,_,NZ l c k,PySem.W.mg_of X G a,(NZ (st:=st) l c k).binds b⟩
theorem Zy{x s:Str}{z:List Nat}{t:Tok}(X:K.In h)(G:h.Ns mainGlobals mg)(a:PySem.W.nsIn K mainGlobals x=some (some (.str s t)))(hs:s=strOf z)(hz:z.length<=sizeLine):Glb K mg x (.str z):=
 ⟨.str s,_,PySem.W.mg_of X G a,⟨t,rfl⟩,λF=>⟨by rw[hs],hz⟩⟩
theorem tK{x:Str}(X:K.In h)(G:h.Ns mainGlobals mg)(e:PySem.W.nsIn K mainGlobals x=some none):mg x=none:=PySem.W.mg_none_of X G e
end
open PySem L2
theorem xm{g:GV}{b:bO}(P:Env->Prop):∀(ds:List D),(∀d∈ds,∀env,P env->∃e1 e2,g d env=some e1/\b e1 = .nx e2/\P e2)->∀env,P env->∃e',ir g b ds env = .nx e'/\P e'
 | [],_,env,hp=>⟨env,rfl,hp⟩
 | d::ds,h,env,hp=>by
  obtain⟨e1,e2,h1,h2,h3⟩:=h d (Qqk ..) env hp;obtain⟨e',h4,h5⟩:=xm P ds (λd' hd=>h d' (Qqj _ hd)) e2 h3;refine⟨e',?_,h5⟩;unfold ir;rw[h1];simp only;rw[h2];exact h4
theorem Qs{g:GV}{b:bO}{all:List D}(P:List D->Env->Prop)(h:∀done d rest,all=done++d::rest->∀env,P done env->∃e1 e2,g d env=some e1/\b e1 = .nx e2/\P (done++[d]) e2):∀(ds done:List D),all=done++ds->∀env,P done env->∃e',ir g b ds env = .nx e'/\P all e'
 | [],done,ha,env,hp=>⟨env,rfl,by rw[ha,Qw8];exact hp⟩
 | d::ds,done,ha,env,hp=>by
  obtain⟨e1,e2,h1,h2,h3⟩:=h done d ds ha env hp;obtain⟨e',h4,h5⟩:=Qs P h ds (done++[d]) (by rw[Qxk];exact ha) e2 h3;refine⟨e',?_,h5⟩;unfold ir;rw[h1];simp only;rw[h2];exact h4
theorem yL{g:GV}{b:bO}(all:List D)(P:List D->Env->Prop)(h:∀done d rest,all=done++d::rest->∀env,P done env->∃e1 e2,g d env=some e1/\b e1 = .nx e2/\P (done++[d]) e2)(env:Env)(h0:P [] env):∃e',ir g b all env = .nx e'/\P all e':=Qs P h all [] rfl env h0
theorem aB{a b:bO}{env e:Env}(h:a env = .nx e):aF a b env=b e:=by unfold aF;rw[h]
theorem vW{a b:bO}{env e:Env}{o:Bool}{d:D}(h:a env = .rt o d e):aF a b env = .rt o d e:=by unfold aF;rw[h]
theorem dh{it:d7}{g:GV}{b:bO}{env e:Env}{ds:List D}(h:it env = .ok ds e):eE it g b env=ir g b ds e:=by unfold eE;rw[h];rfl
theorem bQ{a:Ev}{g:GV}{env e e':Env}{d:D}(h:a env = .ok d e)(h':g d e=some e'):aX a g env = .nx e':=by unfold aX;rw[h];show Wc (g d e)=_;rw[h'];rfl
theorem lz{t:gK}{a b:bO}{env e:Env}(h:t env = .ok true e):gr t a b env=a e:=by unfold gr;rw[h];rfl
theorem fK{t:gK}{a b:bO}{env e:Env}(h:t env = .ok false e):gr t a b env=b e:=by unfold gr;rw[h];rfl
theorem bY{a:Ev}{env e:Env}{d:D}(h:a env = .ok d e):bD a env = .rt false d e:=by unfold bD;rw[h];rfl
theorem aM{g:List D->Option D}{a:d7}{env e:Env}{ds:List D}{d:D}(h:a env = .ok ds e)(h':g ds=some d):ao g a env = .ok d e:=by unfold ao;rw[h];show gC (g ds) e=_;rw[h'];rfl
theorem cj{g:D->D->Option D}{a b:Ev}{env e1 e2:Env}{x y d:D}(h1:a env = .ok x e1)(h2:b e1 = .ok y e2)(h3:g x y=some d):aR g a b env = .ok d e2:=by
 unfold aR;rw[h1];show bindR (b e1) _=_;rw[h2];show gC (g x y) e2=_;rw[h3]
 rfl
theorem FN{g:D->D->Option D}{i:Nat}{b:Ev}{env e2:Env}{x y d:D}{o o':Bool}{x0:D}(h1:env[i]? = some (some (o',x0)))(h2:b env = .ok y e2)(h4:e2[i]? = some (some (o,x)))(h3:g x y=some d):au g i b env = .ok d e2:=by
 unfold au;rw[h1];show bindR (b env) _=_;rw[h2];show(match e2[i]? with|some (some (_,x))=>gC (g x y) e2|_=>.stuck)=_;rw[h4];show gC (g x y) e2=_;rw[h3]
 rfl
theorem aH{a:Ev}{r:d7}{env e1 e2:Env}{d:D}{ds:List D}(h1:a env = .ok d e1)(h2:r e1 = .ok ds e2):aa a r env = .ok (d::ds) e2:=by
 unfold aa;rw[h1];show bindR (r e1) _=_;rw[h2]
 rfl
theorem bw{env:Env}:aj env = .ok [] env:=rfl
theorem Kw{r:d7}{env e:Env}{ds:List D}(h:r env = .ok ds e)(hz:ds.length<=sizeLine):bT r env = .ok (.lst ds) e:=by unfold bT;rw[h];show(if ds.length<=sizeLine then _ else _)=_;rw[if_pos hz]
theorem cB{r:d7}{env e:Env}{ds:List D}(h:r env = .ok ds e)(hz:ds.length<=sizeLine):bJ r env = .ok (.tup ds) e:=by unfold bJ;rw[h];show(if ds.length<=sizeLine then _ else _)=_;rw[if_pos hz]
theorem xq{f:List D->Option (D×D)}{i:Nat}{a:d7}{env e1:Env}{ds:List D}{x0 x d x':D}(h0:env[i]? = some (some (true,x0)))(h1:a env = .ok ds e1)(h2:e1[i]? = some (some (true,x)))(h3:f (x::ds)=some (d,x')):eU f i a env = .ok d (e1.set i (some (true,x'))):=by unfold eU;rw[h0];show bindR (a env) _=_;rw[h1];show(match e1[i]? with|some (some (true,x))=>(match f (x::ds) with|some (d,x')=>R.ok d (e1.set i (some (true,x')))|none=>R.stuck)|_=>R.stuck)=_;rw[h2];show(match f (x::ds) with|some (d,x')=>R.ok d (e1.set i (some (true,x')))|none=>.stuck)=_;rw[h3]
theorem Qn{i j:Int}(h:mR i j=true):vG (.int i) (.int j)=some (.int (i*j)):=by show gI mR (λi j=>D.int (i*j)) (.int i) (.int j)=_;unfold gI;simp only;rw[if_pos h]
theorem Wx{a b:List D}(h:a.length+b.length<=sizeLine):dC (.lst a) (.lst b)=some (.lst (a++b)):=by show(if a.length+b.length<=sizeLine then _ else _)=_;rw[if_pos h]
theorem d8{a:Ev}{env e:Env}{b:Bool}(h:a env = .ok (.bl b) e):dD a env = .ok b e:=by unfold dD;rw[h];rfl
theorem oR{i:Nat}{a:Ev}{env e:Env}{d:D}(h:a env = .ok d e):cI i a env = .nx (e.set i (some (true,d))):=by unfold cI;rw[h];rfl
theorem xn{a:Ev}{env e:Env}{d:D}{ds:List D}(h:a env = .ok d e)(h':itD d=some ds):dB a env = .ok ds e:=by unfold dB;rw[h];show gC (itD d) e=_;rw[h'];rfl
theorem jA{n:Nat}{ev:bO}{x d x':D}{r:List D}{env:Env}(h:ev (CV n x r) = .rt false d env)(h0:env[0]? = some (some (true,x'))):ji n ev (x::r)=some (d,x'):=by unfold ji;simp only;rw[h];simp only;rw[h0]
theorem cR{n:Nat}{ev:bO}{d:D}{ds:List D}{env:Env}(h:ev (envOf n ds) = .rt false d env):cH n ev ds=some d:=by unfold cH;rw[h]
theorem Hy{a b:Ev}{env e:Env}(h:a env = .ok (.bl true) e):FP a b env=b e:=by unfold FP;rw[h];rfl
theorem adF{a b:Ev}{env e:Env}(h:a env = .ok (.bl true) e):Hw a b env = .ok (.bl true) e:=by unfold Hw;rw[h];rfl
theorem adG{a b:Ev}{env e:Env}(h:a env = .ok (.bl false) e):Hw a b env=b e:=by unfold Hw;rw[h];rfl
theorem mX{a b:gK}{env e:Env}(h:a env = .ok false e):qK a b env=b e:=by unfold qK;rw[h];rfl
theorem oO{a:gK}{env e:Env}{b:Bool}(h:a env = .ok b e):jX a env = .ok (!b) e:=by unfold jX;rw[h];rfl
theorem Ad{g:GV}{e:Ev}(P:Env->Prop)(f:D->D):∀(ds:List D) (env:Env),P env->(∀d∈ds,∀env,P env->∃e1 e2,g d env=some e1/\e e1 = .ok (f d) e2/\P e2)->∃env',Ih g bK e ds env = .ok (ds.map f) env'/\P env'
 | [],env,hp,_=>⟨env,rfl,hp⟩
 | d::ds,env,hp,h=>by
  obtain⟨e1,e2,h1,h2,h3⟩:=h d (Qqk ..) env hp;obtain⟨e3,h4,h5⟩:=Ad P f ds e2 h3 λd' hd=>h d' (Qqj _ hd);refine⟨e3,?_,h5⟩;unfold Ih;rw[h1];show bindR (e e1) _=_;rw[h2];show bindR (Ih g bK e ds e2) _=_;rw[h4]
  rfl
theorem uA{lo n:Nat}{it:d7}{g:GV}{c:gK}{e:Ev}{env aN dR:Env}{ds ys:List D}(h1:it env = .ok ds aN)(hl:aN.length=lo)(h2:Ih g c e ds (aN++List.replicate (n - lo) none) = .ok ys dR)(hz:ys.length<=sizeLine):dH lo n it g c e env = .ok (.lst ys) (dR.take lo):=by unfold dH;rw[h1];show(if aN.length=lo then _ else _)=_;rw[if_pos hl,h2];show(if ys.length<=sizeLine then _ else _)=_;rw[if_pos hz]
theorem dig(n:Int)(m:Nat)(hm:0<m):∃d:Nat,d<m/\n % (m:Int)=(d:Int):=by have h1:0<=n % (m:Int):=Int.emod_nonneg n (by omega);have h2:n % (m:Int)<m:=Int.emod_lt_of_pos n (by omega);exact⟨(n % (m:Int)).toNat,by omega,by omega⟩
theorem Oi{α:Type}{xs:List α}{d:Nat}(h:d<xs.length):xQ xs (d:Int)=some xs[d]:=rQ (Qq7 h)
def okN:Nat->D->Bool
 | 0,_=>false
 | n+1,.tup xs=>xs.all (okN n)
 | n+1,.lst xs=>xs.all (okN n)
 | _+1,.dct _=>false
 | _+1,.fG _=>false
 | _+1,.clo _ _=>false
 | _+1,.arr _=>false
 | _+1,_=>true
theorem CT{f:D->D->Option Bool}:∀(xs:List D),(∀x∈xs,f x x=some true)->uQ f xs xs=some true
 | [],_=>rfl
 | x::r,h=>by
  unfold uQ;rw[h x (Qqk ..),CT r λy hy=>h y (Qqj _ hy)]
  rfl
theorem CP:∀(n:Nat) (d:D),okN n d=true->bC n d d=some true
 | 0,_,h=>by cases h
 | n+1,d,h=>by
  cases d with
  | tup xs=>exact CT xs λx hx=>CP n x (Qxv.mp h x hx)
  | lst xs=>exact CT xs λx hx=>CP n x (Qxv.mp h x hx)
  | dct _=>cases h
  | fG _=>cases h
  | clo _ _=>cases h
  | arr _=>cases h
  | non=>rfl
  | bl b=>show some (b == b)=_;simp
  | int i=>show some (i == i)=_;simp
  | str x=>show some (x == x)=_;simp
end Ev
namespace L2
open PySem PySem.Spec PyProof.Rows
section
variable{X:Cx}{pins:List (Addr×Obj)}{σ:St}{H:Hp}{s:Shared}{h':Heap}
theorem Inv.drawn{t':Nat}{ch:List Addr}{T:Addr}{o:HO}(I:Inv X pins σ H s)(hch:∀b∈ch,uL X pins H b)(k:∀b u,b ∉ ch->s.heap.get? b=some u->h'.get? b=some u)(hT:s.heap.objs.size<=T)
  (new:gP X.prog X.w (upd H T o) h' T o):Inv X pins σ (upd H T o) { s with heap:=h',toks:=t' }:=by
 have nT:H T=none:=I.hok.fresh hT;have nit:∀b u,H b=some u->b ∉ ch:=λb u e z=>by rw[(hch b z).1] at e;cases e
 have up:∀b u,H b=some u->upd H T o b=some u:=λb u e=>by rw[bI (fj e nT)];exact e
 refine I.step (g':=s.gens) (d':=s.drawn) (ch:=ch) (λb hb=>?_) (λb u _ _ hc e _=>k b u hc e) (λb u _ _ hc e _=>⟨u.slots,k b u hc e⟩) (λb u hc e n=>?_)
  (λb u hc e=>⟨u,k b u hc e⟩) (λb xs e=>up b _ e) (λb u v e=>up b _ e) (λb ps e=>⟨#[],by rw[up b _ e];simp⟩) (λm hm=>?_) (λb u e=>?_) I.bare (λb qs e=>up b _ e)
 ·obtain⟨h0,h1,h2,h3,h4,h5⟩:=hch b hb;exact⟨h3,h1,h4,h5⟩
 ·have hb:b≠T:=λz=>by
   subst z;exact absurd (Qwj e) (Nat.not_lt.mpr hT)
  rw[bI hb];exact n
 ·obtain⟨u,es,ep,ho,r⟩:=hm;have hL:X.env.locals ∉ ch:=λz=>(hch _ z).2.1 rfl;exact⟨u,es,ep,k _ u hL ho,r⟩
 ·by_cases hb:b=T
  ·subst hb;rw[bf] at e;cases e;exact new
  ·rw[bI hb] at e;refine(I.hok b u e).stay (λc v hc q=>k c v ?_ q) (λc q=>up _ _ q) (λc xs q=>up _ _ q) λc _ _ _ _ q=>up _ _ q;rcases hc with z|z
   ·rw[z];exact nit b u e
   ·exact nit c _ z
theorem Inv.Gk{t':Nat}{ch:List Addr}(I:Inv X pins σ H s)(hch:∀b∈ch,uL X pins H b)(k:∀b u,b ∉ ch->s.heap.get? b=some u->h'.get? b=some u):Inv X pins σ H { s with heap:=h',toks:=t' }:=by
 have nit:∀b u,H b=some u->b ∉ ch:=λb u e z=>by rw[(hch b z).1] at e;cases e
 refine I.step (g':=s.gens) (d':=s.drawn) (ch:=ch) (λb hb=>?_) (λb u _ _ hc e _=>k b u hc e) (λb u _ _ hc e _=>⟨u.slots,k b u hc e⟩) (λb u hc e n=>n)
  (λb u hc e=>⟨u,k b u hc e⟩) (λb xs e=>e) (λb u v e=>e) (λb ps e=>⟨#[],by rw[e];simp⟩) (λm hm=>?_) (λb u e=>?_) I.bare
 ·obtain⟨h0,h1,h2,h3,h4,h5⟩:=hch b hb;exact⟨h3,h1,h4,h5⟩
 ·obtain⟨u,es,ep,ho,r⟩:=hm;have hL:X.env.locals ∉ ch:=λz=>(hch _ z).2.1 rfl;exact⟨u,es,ep,k _ u hL ho,r⟩
 ·refine(I.hok b u e).stay (λc v hc q=>k c v ?_ q) (λ_ q=>q) λ_ _ q=>q;rcases hc with z|z
  ·rw[z];exact nit b u e
  ·exact nit c _ z
end
end L2
namespace Ev
open PySem PySem.Spec PyProof.Rows L2 PySem.Builtin
def Vt(z:List Nat):List (List Nat)->Option Nat
 | []=>none
 | y::r=>if y=z then some 0 else (Vt z r).map (·+ 1)
end Ev
namespace L2
open PySem PySem.Spec PyProof.Rows PySem.Builtin PySem.Builtin.Str
section
variable{X:Cx}{pins:List (Addr×Obj)}{σ:St}{H:Hp}{s:Shared}{a:Addr}{xs:List V}
theorem Inv.abw(I:Inv X pins σ H s)(h:oE X.K H a xs):∃its:List Value,Vals xs its/\Ej s.heap a its.toArray:=by
 rcases h with h|⟨o,its,n,hk,hc,hdn,hs,hz,r⟩
 ·obtain⟨z,its,r,p⟩:=h.ok I.hok;exact⟨its,r,p⟩
 ·exact⟨its.toList,r,⟨o,I.kIn a o hk,hc,⟨n,by simpa using hs⟩,hdn⟩⟩
end
end L2
namespace Ev
open PySem PySem.Spec PyProof.Rows L2 PySem.Builtin
section
variable{X:Cx}{C:Cfg}{pos:Pos}{e x y:Expr}{a b:Ev}
def ahQ:D->Option D
 | .int i=>some (.int (-i))
 | _=>none
def ahO:D->Option D
 | .str z=>some (.str z.reverse)
 | _=>none
def aa3(a:Ev):Ev:=λenv=>bindR (a env) λd aN=>gC (ahO d) aN
def af2(x:List Nat):List D:=x.zipIdx.map λp=>.tup [.int (p.2:Nat),.str [p.1]]
def adH(a:d7):d7:=λenv=>bindR (a env) λds aN=>match ds with
 | [.str x]=>.ok (af2 x) aN
 | _=>.stuck
end
theorem R5{prog:Program}{w:World}{A:Around}{E:Value->Shared->Prop}{s:Shared}{a:Addr}{o:Obj}{xs:Array Value}{k:Nat}{Q:Option Value->Shared->Prop}
  (hx:s.heap.get? a=some o) (hc:o.cls = .type "tuple") (hdat:o.data = .seq xs k) (hd:o.dict=none) (hA:A.handled=none)
  (h:∀h' tk,(∀b u,s.heap.get? b=some u->h'.get? b=some u)->Q none { s with heap:=h',toks:=tk }):wpAny (model prog w) A (getAttr? (.ref a) "keys") Q E s:=by
 obtain⟨hp,g,d,tk,os⟩:=s;obtain⟨oc,od,dt,sl⟩:=o;cases hc;cases hdat;cases hd;have hT:∀tk',(⟨hp,g,d,tk',os⟩:Shared).TypeIs (.ref a) "tuple":=λ_=>⟨_,hx,rfl⟩;have f1:=sub_AttributeError;have f3:=F.slot_tuple_getattribute.lookup;have f4:=F.slot_tuple_getattribute.bind (.ref a);have f5:=am_tuple_getattr_none;have hmiss:typeLookup (.type "tuple") "keys" = pure none:=by rw[typeLookup_type,builtinLookup_eq_fast];kernel_rfl
 unfold getAttr? getAttrBy? getAttrBy
 repeat (any_goals (first|assumption|exact hT _|((with_reducible show wpAny _ _ (call (Value.builtin "tuple.__getattribute__") _ _) _ _ _);refine call_meets F.slot_tuple_getattribute (hT _) am_entry_tuple_getattribute (F.args_tuple_getattribute_2 _ _) (meets_getattribute_miss_tuple a xs k sl "keys" _ hmiss (by decide +kernel) (by decide +kernel)) ⟨hx,hA,λh' tk' e hx'=>?_⟩)|wp_step))
 obtain⟨t',u',he⟩:=hx'.there;show wpAny _ _ (getattributeRaised _ _ _ _ _ _ _) _ _ _;unfold getattributeRaised
 repeat (any_goals (first|assumption|wp_step))
 exact h _ _ hx'.keeps
structure Pr where
 p:Addr
 k:Key
 kv:Value
 v:Value
def Xh(h:Heap)(r:Pr):Prop:=h.IsTuple r.p #[r.kv,r.v]/\Cg r.k r.kv=true
theorem Xh.keep{h h':Heap}{r:Pr}{c d:Addr}(x:Xh h r)(n1:r.p≠c)(n2:r.p≠d)(k:∀b o,b≠c->b≠d->h.get? b=some o->h'.get? b=some o):Xh h' r:=
 let ⟨⟨o,ho,q⟩,y⟩:=x;⟨⟨o,k _ o n1 n2 ho,q⟩,y⟩
def putAll(kvs:List (Key×Value))(rs:List Pr):List (Key×Value):=rs.foldl (λacc r=>stored acc r.k r.v) kvs
theorem lE:plainId "dict.update.loop" = true:=by decide +kernel
theorem tZ:entryFor table "dict.update.loop" = some Builtin.«dict.update.loop»:=entryFor_of_tree (by kernel_rfl)
theorem Iu{prog:Program}{w:World}{d it a:Addr}{its:List Value}(hdi:d≠it)(hda:d≠a)(hia:it≠a):∀(rs:List Pr) (i:Nat) (kvs:List (Key×Value)) (A:Around) (R:Result->Shared->Prop) (s:Shared),
  A.handled=none->its.drop i=rs.map (λr=>Value.ref r.p)->s.heap.IsTuple a its.toArray->s.heap.IsTupleIter it a i->s.heap.DictOf (dM prog w) d kvs->(∀r∈rs,Xh s.heap r/\r.p≠d/\r.p≠it)->kvs.length+rs.length<=sizeLine->
  (∀h' tk,h'.DictOf (dM prog w) d (putAll kvs rs)->(∀b o,b≠d->b≠it->s.heap.get? b=some o->h'.get? b=some o)->R (.ok (.ret .none)) { s with heap:=h',toks:=tk })->
  wpAny (model prog w) A.in1 (Builtin.«dict.update.loop» ⟨[.ref d,.ref it,rawInt i,.none],[]⟩) (λfin s'=>match fin with|.done f=>R (.ok f) s'|.again c'=>c'.quiet=true/\codeAny (model prog w) A c' R s') (λe s'=>R (.error e) s') s
 | [],i,kvs,A,R,s,hh,hdr,ht,hit,hD,_,_,h=>by
  unfold Builtin.«dict.update.loop»;have hx:its.toArray[i]? = none:=by
   have:its.length<=i:=by have:=Qxy List.length hdr;rw[Qz2] at this;simp at this;omega
   simp;omega
  refine Qqx (wpAny_pyNext_tuple_end hh hit ht hx λh' hex=>?_);show wpAny _ _ (Builtin.Dict.addKeywords d [] >>= _) _ _ _;refine Qqx (Qq1 (Qq1 ?_));exact h h' s.toks (hD.extBut hex hdi) λb o _ h2 e=>hex b o h2 e
 | r::rs,i,kvs,A,R,s,hh,hdr,ht,hit,hD,hrs,hz,h=>by
  unfold Builtin.«dict.update.loop»;obtain⟨⟨lY,hkey⟩,n1,n2⟩:=hrs r (Qqk ..);have hlt:i<its.length:=by have:=Qxy List.length hdr;rw[Qz2,Qq2,Qqv] at this;omega
  have hx0:its[i]? = some (.ref r.p):=by
   have:=Qxy (λl=>l[0]?) hdr
   simpa using this
  have hx:its.toArray[i]? = some (.ref r.p):=by simpa using hx0
  have ahD:its.drop (i+1)=rs.map (λr=>Value.ref r.p):=by
   have:=Qxy List.tail hdr;rw[List.tail_drop] at this
   simpa using this
  refine Qqx (wpAny_pyNext_tuple_item hit ht hx λh' hit' hs'=>?_);have k1:∀b o,b≠it->s.heap.get? b=some o->h'.get? b=some o:=λb o hb e=>(hs'.2 b hb).trans e;obtain⟨op,hop,hcp,np,hdp⟩:=lY;have hop':h'.get? r.p=some op:=k1 _ _ n2 hop;dsimp only;refine Qqx (Qz3 (Qqx (wpAny_tryCatch ?_)));unfold Builtin.Dict.pairItems;refine Qqx (wpAny_typeOf (T:="tuple") ⟨op,hop',hcp⟩ ?_);rw[if_pos (by decide)];unfold seqItems?;refine Qqx (Qqx (wpAny_load hop' ?_));rw[hdp];refine Qq1 (Qq1 ?_);show wpAny _ _ (holding [r.kv,r.v] (dictSet d r.kv r.v)) _ _ _;have hzk:kvs.length<=sizeLine:=by rw[Qqv] at hz;omega
  refine Qz3 (wpAny_dictSet_pairs (knd:=dM prog w) (kvs:=kvs) (k:=r.k) (hsz:=hzk) hkey (hD.sameBut hs' hdi) λh'' ahI hs''=>?_);have k2:∀b o,b≠d->b≠it->s.heap.get? b=some o->h''.get? b=some o:=λb o hb1 hb2 e=>(hs''.2 b hb1).trans (k1 b o hb2 e);have hc:((i:Int)+1)=((i+1:Nat):Int):=by push_cast;rfl
  rw[hc];refine Qq1 ⟨plainId_quiet lE _,codeAny_builtin tZ ?_⟩;rw[Around.under_plainId lE _];have hln:(stored kvs r.k r.v).length<=kvs.length+1:=by have:=stored_length_le kvs r.k r.v;exact this
  refine Iu hdi hda hia rs (i+1) (stored kvs r.k r.v) A R _ hh ahD ?_ ?_ ahI (λq hq=>?_) (by rw[Qqv] at hz;omega) λh3 tk hD3 k3=>?_
  ·obtain⟨o,ho,q⟩:=ht;exact⟨o,k2 a o hda.symm hia.symm ho,q⟩
  ·obtain⟨o,ho,q⟩:=hit';exact⟨o,(hs''.2 it hdi.symm).trans ho,q⟩
  ·obtain⟨p1,p2,p3⟩:=hrs q (Qqj _ hq);exact⟨p1.keep p2 p3 k2,p2,p3⟩
  ·exact h h3 tk hD3 λb o hb1 hb2 e=>k3 b o hb1 hb2 (k2 b o hb1 hb2 e)
section
variable{X:Cx}{C:Cfg}{pos:Pos}
abbrev Pv:=Addr×Key×V
def pL(kvs:List (Key×V))(rs:List Pv):List (Key×V):=rs.foldl (λacc r=>putK acc r.2.1 r.2.2) kvs
def UW(K:Fg):List V->Hp->VK->Prop:=λxs H Q=>∃(a:Addr) (rs:List Pv),xs=[.ref a]/\oE K H a (rs.map λr=>V.ref r.1)/\(∀r∈rs,oE K H r.1 [kV r.2.1,r.2.2])/\rs.length<=sizeLine/\∀l,H l=none->Q (.ref l) (upd H l (.dK (pL [] rs)))
theorem JF{pins:List (Addr×Obj)}{σ:L2.St}{H:Hp}{s:Shared}(I:L2.Inv X pins σ H s):∀(rs:List Pv) (us:List Value),Vals (rs.map λr=>V.ref r.1) us->(∀r∈rs,oE X.K H r.1 [kV r.2.1,r.2.2])->∃ps:List Pr,us=ps.map (λr=>Value.ref r.p)/\(∀r∈ps,Xh s.heap r)/\Paired (λ(r:Pv) (q:Pr)=>r.2.1=q.k/\RelV r.2.2 q.v) rs ps
 | [],us,h,_=>by cases h;exact⟨[],rfl,λr hr=>by simp at hr,.nil⟩
 | r::rs,us,h,hp=>by
  cases h with
  | cons h1 h2=>
   cases h1;obtain⟨ps,rfl,q1,q2⟩:=JF I rs _ h2 λr' hr=>hp r' (Qqj _ hr);obtain⟨its,rv,ht,_⟩:=I.tuple (hp r (Qqk ..));obtain⟨u1,u2,rfl,r1,r2⟩:=rv.two;refine⟨⟨r.1,r.2.1,u1,u2⟩::ps,rfl,λq hq=>?_,.cons ⟨rfl,r2⟩ q2⟩;rcases Qq5.mp hq with rfl|hq
   ·exact⟨ht,Ci (P:=X.prog) (w:=X.w) r1⟩
   ·exact q1 q hq
theorem EY:∀{rs:List Pv} {ps:List Pr} {kvs:List (Key×V)} {vs:List (Key×Value)},Paired (λ(r:Pv) (q:Pr)=>r.2.1=q.k/\RelV r.2.2 q.v) rs ps->KV kvs vs->KV (pL kvs rs) (putAll vs ps)
 | _,_,_,_,.nil,h=>h
 | _,_,kvs,vs,.cons (a:=r) (b:=q) ⟨h1,h2⟩ hr,h=>by
  show KV (pL (putK kvs r.2.1 r.2.2) _) (putAll (stored vs q.k q.v) _);refine EY hr ?_;rw[h1];exact h.put q.k h2
theorem yU:∀(rs:List Pv) (kvs:List (Key×V)),(pL kvs rs).length<=kvs.length+rs.length
 | [],kvs=>Qqw _
 | r::rs,kvs=>by
  have h1:=yU rs (putK kvs r.2.1 r.2.2);have h2:=pM kvs r.2.1 r.2.2;show(pL (putK kvs r.2.1 r.2.2) rs).length<=_;rw[Qqv];omega
theorem Ti(hc:X.calm=true):iz X (.type "dict") (UW X.K):=by
 intro pins s σ H xs us Q I r h;obtain⟨a,rs,rfl,hq,hp,hz,q⟩:=h;obtain⟨u,rfl,rx⟩:=vals1 r;cases rx;obtain⟨its,rv,ob,h1,h2,⟨n,h3⟩,h4⟩:=I.abw hq;obtain⟨ps,rfl,hps,hpr⟩:=JF I rs its rv hp;have hA:=I.ok.hd hc;have hlt:a<s.heap.objs.size:=Qwj h1;refine callType_codes (Q₁:=λobj s₁=>obj = .ref s.heap.objs.size/\s₁ = { s with heap:=s.heap.push { cls:=.type "dict",data:=.dict #[] } }) F.kt_called_dict (F.kt_typeCall_dict_1 _) F.entry_dict_init (kt_code_dict_new _ ⟨rfl,rfl⟩) ?_;rintro obj s₁ ⟨rfl,rfl⟩;have hnew:(s.heap.push { cls:=.type "dict",data:=.dict #[] }).DictOf (dM X.prog X.w) s.heap.objs.size []:=Heap.DictOf.new s.heap;have k0:∀b o,s.heap.get? b=some o->(s.heap.push { cls:=.type "dict",data:=.dict #[] }).get? b=some o:=λb o e=>Qqz _ e;refine⟨hnew.typeIs,F.args_dict_init_2 _ _,?_⟩;unfold Builtin.«dict.__init__»;refine Qqx ?_;unfold Builtin.Dict.selfAndRest;refine Qqx (wpAny_notOrdered_dict hnew.typeIs ?_);show wpAny _ _ (pure (s.heap.objs.size,[Value.ref a])) _ _ _;refine Qq1 ?_;show wpAny _ _ (Builtin.Dict.updateFrom "dict.__init__" s.heap.objs.size (.ref a) [] .none) _ _ _;unfold Builtin.Dict.updateFrom;refine Qqx (wpAny_typeOf (T:="tuple") ⟨ob,k0 _ _ h1,h2⟩ ?_);rw[if_pos (by decide)];refine Qqx (R5 (k0 _ _ h1) h2 h3 h4 hA λh' tk hk=>?_);simp only[Option.isNone_none,if_true];refine Qqx (wpAny_rule (Qqx ?_));have hT:h'.IsTuple a (ps.map λr=>Value.ref r.p).toArray:=⟨ob,hk _ _ (k0 _ _ h1),h2,n,h3⟩;refine wpAny_pyIter_tuple hT ?_;refine Qq1 ⟨plainId_quiet lE _,codeAny_builtin tZ ?_⟩;rw[Around.under_plainId lE _];have hD0:h'.DictOf (dM X.prog X.w) s.heap.objs.size []:=hnew.keep hk;have adq:s.heap.objs.size<h'.objs.size:=by obtain⟨o,_,_,ho,_⟩:=hD0;exact Qwj ho
 have halt:a<h'.objs.size:=Qwj (hk _ _ (k0 _ _ h1));have hda:s.heap.objs.size≠a:=Qjv hlt;refine Iu (Qw7 adq) hda (Qjv halt) ps 0 [] X.A.in1 _ _ hA rfl ?_ ⟨_,Qwy _ rfl,rfl,rfl⟩ (hD0.push _) (λq hq=>?_) ?_ λh3 tk' hD3 k3=>?_
 ·obtain⟨o,ho,r⟩:=hT;exact⟨o,Qqz _ ho,r⟩
 ·obtain⟨⟨o,ho,r⟩,y⟩:=hps q hq;have afU:q.p<s.heap.objs.size:=Qwj ho;refine⟨⟨⟨o,Qqz _ (hk _ _ (k0 _ _ ho)),r⟩,y⟩,Qw7 afU,Qw7 (Nat.lt_trans afU adq)⟩
 ·rw[<-Paired.length hpr]
  simpa using hz
 ·refine⟨rfl,?_⟩;have kk:∀b u,s.heap.get? b=some u->h3.get? b=some u:=λb u e=>by
   have hb:b<s.heap.objs.size:=Qwj e;exact k3 b u (Qw7 hb) (Qw7 (Nat.lt_trans hb adq)) (Qqz _ (hk _ _ (k0 _ _ e)))
  have hsys:(s.heap.objs.size == sysModules)=false:=by rw[Qx7];exact Qjv I.big
  refine⟨.ref s.heap.objs.size,upd H s.heap.objs.size (.dK (pL [] rs)),I.laid (t':=tk') kk (Qqw _) ⟨?_,hsys,_,EY hpr .nil,hD3⟩,rfl,q _ (I.hok.fresh (Qqw _))⟩;have:=yU rs [];exact Qq0 this (by simpa using hz)
def Qg:D->Option (D×D)
 | .tup [k,v]=>(ou k).map λ_=>(k,v)
 | _=>none
def rn:List D->Option (List (D×D))
 | []=>some []
 | d::ds=>match Qg d,rn ds with
  | some p,some r=>some (p::r)
  | _,_=>none
def mQ(kvs : List (D × D)) : List (D × D) → List (D × D)
  | [] => kvs
  | (k, v) :: r => (match ou k with
    | some q => mQ (putD kvs k q v) r
    | none => mQ kvs r)
def yX:List D->Option D
 | [.tup ds]=>(rn ds).map λps=>.dct (mQ [] ps)
 | _=>none
theorem tD:∀(ps:List (D×D)) (kvs:List (D×D)),(mQ kvs ps).length<=kvs.length+ps.length
 | [],kvs=>Qqw _
 | (k,v)::r,kvs=>by
  unfold mQ;split
  ·rename_i q hq;have h1:=tD r (putD kvs k q v);have h2:=JC kvs k q v;rw[Qqv];omega
  ·have h1:=tD r kvs;rw[Qqv];omega
theorem Bw:∀{ds:List D} {ps:List (D×D)},rn ds=some ps->ps.length=ds.length
 | [],ps,h=>by cases h;rfl
 | d::ds,ps,h=>by
  unfold rn at h;split at h
  ·rename_i p r h1 h2;cases h;rw[Qqv,Qqv,Bw h2]
  ·cases h
theorem Fb{K:Fg}{F:Hp}:∀{ds:List D} {ps:List (D×D)} {vs:List V} {kvs:List (D×D)} {ks:List (Key×V)},rn ds=some ps->bL K F ds vs->eF K F kvs ks->
  ∃rs:List Pv,vs=rs.map (λr=>V.ref r.1)/\(∀r∈rs,oE K F r.1 [kV r.2.1,r.2.2])/\eF K F (mQ kvs ps) (pL ks rs)
 | [],ps,vs,kvs,ks,h,hr,hk=>by cases h;cases hr;exact⟨[],rfl,λr hr=>by simp at hr,hk⟩
 | d::ds,ps,vs,kvs,ks,h,hr,hk=>by
  unfold rn at h;split at h
  ·rename_i p r h1 h2;cases h;obtain⟨v,w,rfl,p1,p2⟩:=hr;unfold Qg at h1;split at h1
   ·rename_i k x;obtain⟨q,hq,rfl⟩:=Qww.mp h1;obtain⟨_,a,us,rfl,h3,h4⟩:=p1;obtain⟨u1,w1,rfl,q1,u2,w2,rfl,q2,q3⟩:=h4;cases q3;cases Nx hq q1;obtain⟨rs,rfl,g1,g2⟩:=Fb (kvs:=putD kvs k q x) (ks:=putK ks q u2) h2 p2 (hk.put hq q2);refine⟨(a,q,u2)::rs,rfl,λr hr=>?_,?_⟩
    ·rcases Qq5.mp hr with rfl|hr
     ·exact h3
     ·exact g1 r hr
    ·unfold mQ;rw[hq];exact g2
   ·cases h1
  ·cases h
theorem Z4:CallD C (UW C.K) yX:=by
 intro Pr F env σ H ds d vs Q r p e q;unfold yX at e;split at e
 ·rename_i ds;obtain⟨v,w,rfl,p1,p2⟩:=p;cases p2;obtain⟨ps,e1,rfl⟩:=Qww.mp e;obtain⟨z,a,us,rfl,h1,h1F,h2⟩:=p1.tup r.fr;obtain⟨rs,rfl,g1,g2⟩:=Fb (kvs:=[]) (ks:=[]) e1 h2 rfl;have hl:rs.length=ds.length:=by
   have:=h2.length
   rwa [Qqq] at this
  refine⟨a,rs,rfl,h1,λr' hr=>aW.tupK r.fr (g1 r' hr),by rw[hl];exact z,λl hlf=>?_⟩;obtain⟨F2,r2,s2,p2⟩:=(r.fresh (o:=.dK (pL [] rs)) hlf).keep (TJ.of (d:=.dct (mQ [] ps)) r hlf ⟨by
   have h5:=tD ps [];rw[Bw e1] at h5;exact Qq0 h5 (by simpa using z),_,bf,g2⟩)
  exact q _ _ F2 r2 s2 p2
 ·cases e
end
end Ev
namespace L2
open PySem PySem.Spec PyProof.Rows PySem.Builtin PySem.Builtin.Str
section
variable{X:Cx}
theorem K3(v:Int)(n d:Nat):max 0 (min (if v<0 then v+(n:Int) else v) (n:Int))=((HT.gB n d (some v):Nat):Int):=by
 show _=(((if v<0 then (v+(n:Int)).toNat else min v.toNat n):Nat):Int);by_cases hv:v<0
 ·simp only[if_pos hv];omega
 ·simp only[if_neg hv];omega
theorem range_one(a b:Nat):sliceRange (a:Int) (b:Int) 1=List.range' a (b - a):=by
 unfold sliceRange;have h1:(1:Int) > 0:=by decide
 simp only[if_pos h1];have hc:(if (a:Int)<(b:Int) then ((b:Int) - (a:Int)+1 - 1) / 1 else 0).toNat=b - a:=by
  by_cases h:(a:Int)<(b:Int)
  ·rw[if_pos h,Int.ediv_one];omega
  ·rw[if_neg h];omega
 rw[hc,List.range'_eq_map_range];apply Qx4;intro k _;omega
theorem Vu(lo hi:Option Int)(n:Nat):strSliceIndices lo hi 1 n=List.range' (HT.gB n 0 lo) (HT.gB n n hi - HT.gB n 0 lo):=by
 have h1:(1:Int) > 0:=by decide
 unfold strSliceIndices;simp only[if_pos h1];rw[<-range_one]
 congr 1
 ·cases lo with
  | none=>rfl
  | some v=>exact K3 v n 0
 ·cases hi with
  | none=>rfl
  | some v=>exact K3 v n n
theorem Ku(c:List Nat):∀(m a:Nat),a+m<=c.length->(List.range' a m).filterMap (c.toArray[·]?)=(c.drop a).take m
 | 0,a,_=>by simp
 | m+1,a,h=>by
  rw[List.range'_succ,Qk4];have e:c.toArray[a]? = some c[a]:=by simp
  rw[e,Ku c m (a+1) (by omega),Qz8 (l:=c) (i:=a) (by omega),List.take_succ_cons]
def Ed(z:List Nat)(lo hi:Option Int):List Nat:=(z.drop (HT.gB z.length 0 lo)).take (HT.gB z.length z.length hi - HT.gB z.length 0 lo)
def ahf:V->Option Int->Option Int->Hp->VK->Prop:=λx lo hi H Q=>∃z:List Nat,x = .str ⟨z.toArray⟩/\z.length<=sizeLine/\Q (.str ⟨(Ed z lo hi).toArray⟩) H
theorem part_of{v:Value}{o:Option Int}(p:IsPart v o):∃l:Option (Int×Tok),v=partValue l/\l.map (·.1)=o:=by
 cases p with
 | none=>exact⟨none,rfl,rfl⟩
 | int i t=>exact⟨some (i,t),rfl,rfl⟩
theorem abL:QL X ahf:=by
 intro pins s σ H x v vl vu lo hi sl Q I rx hs pl pu h;obtain⟨z,rfl,hz,q⟩:=h;obtain⟨t,rfl⟩:=rx;obtain⟨l,rfl,el⟩:=part_of pl;obtain⟨u,rfl,eu⟩:=part_of pu;refine⟨"str",_,PySem.F.slot_str_getitem.lookup,typeIs_str s _ t,?_⟩;obtain⟨o,h1,h2,h3⟩:=hs;refine wpAny_getItem_str_slice (l:=l) (u:=u) (st:=none) ⟨o,h1,h2,h3⟩ rfl ?_;have hp:slicePicked ⟨z.toArray⟩ l u none=List.range' (HT.gB z.length 0 lo) (HT.gB z.length z.length hi - HT.gB z.length 0 lo):=by unfold slicePicked;rw[el,eu];show strSliceIndices lo hi 1 z.toArray.size=_;rw[Qq3,Vu]
 have hle:HT.gB z.length 0 lo+(HT.gB z.length z.length hi - HT.gB z.length 0 lo)<=z.length\/HT.gB z.length z.length hi - HT.gB z.length 0 lo=0:=by have a1:=HT.GQ z.length 0 (Qx3 _) lo;have a2:=HT.GQ z.length z.length (Qqw _) hi;omega
 have ahE:((slicePicked ⟨z.toArray⟩ l u none).filterMap ((⟨z.toArray⟩:Str).cps[·]?))=Ed z lo hi:=by
  rw[hp];unfold Ed;rcases hle with hle|hle
  ·exact Ku z _ _ hle
  ·rw[hle];simp
 unfold sliceMade;split
 ·rename_i hc;have hlen:(slicePicked ⟨z.toArray⟩ l u none).length=z.length:=by
   have:=(Qk0.mp hc).2;have:=eq_of_beq this
   simpa[Str.length] using this
  have hw:Ed z lo hi=z:=by
   rw[hp,List.length_range'] at hlen;unfold Ed;have a2:=HT.GQ z.length z.length (Qqw _) hi;have a0:HT.gB z.length 0 lo=0\/z.length=0:=by omega
   rcases a0 with a0|a0
   ·rw[a0,List.drop_zero,Qkz (by omega)]
   ·have:z=[]:=Qz9 a0;subst this;simp
  rw[hw] at q;exact⟨.str ⟨z.toArray⟩,H,I,⟨t,rfl⟩,q⟩
 ·rw[ahE];refine⟨?_,⟨.str ⟨(Ed z lo hi).toArray⟩,H,I.tok _,⟨_,rfl⟩,q⟩⟩;show(Ed z lo hi).toArray.size<=sizeLine;rw[Qq3];unfold Ed;rw[Qzv,Qz2];omega
end
end L2
namespace Ev
open PySem PySem.Spec PyProof.Rows L2 PySem.Builtin
section
variable{X:Cx}{C:Cfg}{pos:Pos}{x y:Expr}{a b:Ev}
def adB(k y:D):Option D:=match y with
 | .dct kvs=>(ou k).map λq=>.bl (m5 kvs q).isSome
 | _=>none
theorem WT(z:List Nat)(lo hi:Option Int):(Ed z lo hi).length<=z.length:=by unfold Ed;rw[Qzv,Qz2];omega
end
end Ev
namespace HT
open PySem PySem.Spec PyProof PyProof.Rows PySem.Builtin
section
variable{prog:Program}{w:World}{A:Around}{E:Value->Shared->Prop}{s:Shared}
theorem uI{t sl:Addr}{items:Array Value}{vl vu:Value}{lo hi:Option Int}{Q:Value->Shared->Prop}(ht:IsTup s.heap t items)(hs:s.heap.IsSliceOf sl vl vu .none)(pl:IsPart vl lo)(pu:IsPart vu hi)
  (hw:gB items.size 0 lo=0/\gB items.size items.size hi=items.size)
  (h:Q (.ref t) s):wpAny (model prog w) A (getItem (.ref t) (.ref sl)) Q E s:=by
 obtain⟨os,hos,hcs,hds⟩:=id hs;have hTs:s.TypeIs (.ref sl) "slice":=⟨os,hos,hcs⟩;unfold getItem
 try with_reducible refine Qz3 ?_
 first|refine Qqx (Qq1 ?_)|skip
 refine Qqx (wpAny_sequenceKey ht.typeIs (by decide) ?_);refine Qqx (Qz4 (name:=Str.ofString "__getitem__") ht.typeIs Qj2
  (Qjw Qj2 ht.typeIs entry_tuple_getitem ?_ (args_tuple_getitem _ _)))
 show wpAny _ _ (Builtin.Tuple.tupleItemsOf (.ref t) >>= _) _ _ s;refine Qqx (tupleItemsOf_ ht ?_);refine Qqx (wpAny_typeOf hTs ?_);rw[if_pos (by decide)];refine Qqx (qz hs pl pu ?_);have ahv:(((gB items.size 0 lo:Nat):Int) == 0&&(1:Int) == 1&&(gB items.size items.size hi - gB items.size 0 lo) == items.size)=true:=by rw[hw.1,hw.2];simp
 show wpAny _ _ (if (((gB items.size 0 lo:Nat):Int) == 0&&(1:Int) == 1&&(gB items.size items.size hi - gB items.size 0 lo) == items.size)=true then _ else _) _ _ s;rw[if_pos ahv];refine Qqx (m:=Builtin.Tuple.tupleIsExact (.ref t)) ?_;unfold Builtin.Tuple.tupleIsExact;refine Qqx (wpAny_typeOf ht.typeIs ?_);refine Qq1 ?_;rw[if_pos (by decide)];exact Qqx (wpAny_rule (Qq1 ⟨_,rfl,Qq1 h⟩))
end
end HT
namespace L2
open PySem PySem.Spec PyProof.Rows
section
variable{X:Cx}
def aeQ(K:PySem.W.Frag):V->Option Int->Option Int->Hp->VK->Prop:=λx lo hi H Q=>∃a xs,x = .ref a/\oE K H a xs/\(HT.gB xs.length 0 lo=0/\HT.gB xs.length xs.length hi=xs.length)/\Q (.ref a) H
theorem Uk:QL X (aeQ X.K):=by
 intro pins s σ H x v vl vu lo hi sl Q I rx hs pl pu h;obtain⟨a,xs,rfl,hx,hw,q⟩:=h;cases rx;obtain⟨its,r,ht,hz⟩:=I.tuple hx;have hlen:its.toArray.size=xs.length:=by rw[Qq3];exact r.length.symm
 refine⟨"tuple",_,PyProof.Rows.slot_tuple_getitem.lookup,ht.typeIs,?_⟩;refine HT.uI ht hs pl pu (by rw[hlen];exact hw) ?_;exact⟨.ref a,H,I,rfl,q⟩
end
end L2
namespace Ev
open PySem PySem.Spec PyProof.Rows L2
section
variable{X:Cx}{C:Cfg}{pos:Pos}{x:Expr}{a:Ev}{y z:Expr}{b c:Ev}{apos:Pos}
def adw:D->Option Int->Option Int->Option D
 | .tup xs,lo,hi=>if HT.gB xs.length 0 lo=0/\HT.gB xs.length xs.length hi=xs.length then some (.tup xs) else some (.tup (cutD xs lo hi))
 | _,_,_=>none
theorem abM{Pr F:Hp}{env:Env}{σ:L2.St}{H:Hp}{x d:D}{v:V}{lo hi:Option Int}{Q:VK}(r:Rel C Pr F env σ H)(p:Rep C.K F x v)(e:adw x lo hi=some d)(q:∀v H' F',Rel C Pr F' env σ H'->aW F F'->Rep C.K F' d v->Q v H') :
  abT C.K v lo hi H Q\/aeQ C.K v lo hi H Q:=by
 unfold adw at e;split at e
 ·obtain⟨z,a,vs,rfl,h1,_,h2⟩:=iR.tup r.fr (.inl p);split at e
  ·rename_i hn;cases e;exact .inr ⟨a,vs,rfl,h1,by rw[h2.length];exact hn,q _ H F r (aW.refl F) p⟩
  ·rename_i hn;cases e;refine .inl ⟨a,vs,rfl,h1,by rw[h2.length];exact hn,λb hb=>?_⟩;obtain⟨r2,s2⟩:=r.new (o:=.tup (zY vs lo hi)) hb;exact q _ _ _ r2 s2 ⟨Qq0 (t7 _ _ _) z,b,_,rfl,oE.of bf,bL.mono s2 _ _ (h2.cut lo hi)⟩
 ·cases e
def xx(g g':D->D->Option D)(a b c:Ev):Ev:=λenv=>bindR (a env) λu e1=>bindR (b e1) λv e2=>match g u v with
 | some (.bl k)=>if k=true then bindR (c e2) λt e3=>gC (g' v t) e3 else .ok (.bl false) e2
 | _=>.stuck
def Ww:D->D->D->Option D
 | .dct kvs,k,t=>(ou k).map λq=>(m5 kvs q).getD t
 | _,_,_=>none
def CJ(a b c:Ev):Ev:=λenv=>bindR (a env) λd e1=>bindR (b e1) λk e2=>bindR (c e2) λt e3=>match d with
 | .dct kvs=>gC (Ww (.dct kvs) k t) e3
 | _=>.stuck
theorem abo(G:Good X C)(ha:PX X C x a)(hb:PX X C y b)(hc:PX X C z c)(m:M2 X x "get" apos y z pos:=by exact⟨by rfl,by rfl,by rfl,by rfl⟩):PX X C (.Call (.Attribute x "get" apos) [y,z] [] pos) (CJ a b c):=by
 refine(VG G.u1 ha hb hc m).imp λσ H Q hq=>?_;obtain⟨Pr,F,env,env',d,rl,e,q⟩:=hq;obtain⟨u,aN,e1,e2⟩:=aZ e;obtain⟨k,dR,e3,e4⟩:=aZ e2;obtain⟨t,KD,e5,e6⟩:=aZ e4;split at e6
 ·rename_i kvs;obtain⟨e7,rfl⟩:=fH e6;obtain⟨kk,hk,rfl⟩:=Qww.mp (show(ou k).map (λq=>(m5 kvs q).getD t)=some d from e7);refine⟨Pr,F,env,aN,.dct kvs,rl,e1,λvu H1 F1 r1 s1 p1=>?_⟩;obtain⟨z1,a1,ks,rfl,h1,h2⟩:=iR.dct r1.fr (.inl p1);refine⟨a1,rfl,.inl ⟨ks,h1⟩,Pr,F1,aN,dR,k,r1,e3,λvk H2 F2 r2 s2 p2=>⟨Pr,F2,dR,env',t,r2,e5,λvt H3 F3 r3 s3 p3=>?_⟩⟩;obtain⟨z2,a2,ks2,ea,h3,h4⟩:=iR.dct r3.fr (.inl (Rep.mono (s2.trans s3) _ _ p1));cases ea;cases Ny hk (.inl (Rep.mono s3 _ _ p2):iR C.K F3 H3 k vk);refine⟨uW ks2 kk,.inl ⟨ks2,kk,h3,rfl,rfl⟩,?_⟩;rcases h4.val kk with ⟨g1,g2⟩|⟨d',v',g1,g2,g3⟩
  ·rw[g2];rw[g1] at q;exact q _ H3 F3 r3 ((s1.trans s2).trans s3) p3
  ·rw[g2];rw[g1] at q;exact q _ H3 F3 r3 ((s1.trans s2).trans s3) g3
 ·cases e6
end
end Ev
namespace ZT
open PySem PySem.Spec PyProof.Rows L2 PySem.Builtin
section
variable{prog:Program}{w:World}{A:Around}{E:Value->Shared->Prop}{s:Shared}
theorem V4{j t:Addr}{n:Nat}{its:Array Value}{x:Value}{Q:Value->Shared->Prop}(hj:s.heap.IsTupleIter j t n)(ht:s.heap.IsTuple t its)(hx:its[n]? = some x)
  (q:∀g,g.IsTupleIter j t (n+1)->Heap.SameBut j s.heap g->Q x { s with heap:=g }):wpAny (model prog w) A (Builtin.SmallTypes.nextOf (.ref j)) Q E s:=by
 obtain⟨u,hu,uc,ud⟩:=id hj;obtain⟨ut,hut,_,m,mt⟩:=ht;unfold Builtin.SmallTypes.nextOf;refine Qqx (Qz4 (name:=Str.ofString "__next__") hj.typeIs F.slot_tuple_iterator_next (Qjw F.slot_tuple_iterator_next hj.typeIs F.entry_tuple_iterator_next ?_ (F.args_tuple_iterator_next_1 _)));show wpAny _ _ (field (.ref j) 0 >>= _) _ _ s;refine Qqx (Qjk hu ud (x:=.ref t) rfl ?_);show wpAny _ _ (if (Value.ref t == Value.none)=true then _ else _) _ _ s;rw[if_neg (show ¬((Value.ref t == Value.none)=true) from Qxx)];show wpAny _ _ (field (.ref j) 1 >>= _) _ _ s;refine Qqx (Qjk hu ud (x:=.int n 0) rfl ?_);show wpAny _ _ (seqItems? (.ref t) >>= _) _ _ s;refine Qqx (Qj7 hut mt ?_);simp only[Qzx,hx];refine Qqx (wpAny_setField hu ud (by simp) (Qq1 ⟨x,rfl,Qq1 (q _ ?_ (Heap.SameBut.update ..))⟩));exact⟨_,Heap.get?_update_self _ hu (Obj.isFreed_of_fields (Obj.data_mapFields ud _)),(Obj.cls_mapFields ..).trans uc,by rw[Obj.data_mapFields ud];simp[rawInt]⟩
theorem Hg{j t:Addr}{n:Nat}{its:Array Value}{Q:Value->Shared->Prop}(hh:A.handled=none)(hj:s.heap.IsTupleIter j t n)(ht:s.heap.IsTuple t its)(hx:its[n]? = none)
  (q:∀g e,Heap.ExtBut j s.heap g->(∃o,g.get? e=some o/\o.cls = .type "StopIteration")->E (.ref e) { s with heap:=g }):wpAny (model prog w) A (Builtin.SmallTypes.nextOf (.ref j)) Q E s:=by
 obtain⟨u,hu,uc,ud⟩:=id hj;obtain⟨ut,hut,_,m,mt⟩:=ht;unfold Builtin.SmallTypes.nextOf;refine Qqx (Qz4 (name:=Str.ofString "__next__") hj.typeIs F.slot_tuple_iterator_next (Qjw F.slot_tuple_iterator_next hj.typeIs F.entry_tuple_iterator_next ?_ (F.args_tuple_iterator_next_1 _)));show wpAny _ _ (field (.ref j) 0 >>= _) _ _ s;refine Qqx (Qjk hu ud (x:=.ref t) rfl ?_);show wpAny _ _ (if (Value.ref t == Value.none)=true then _ else _) _ _ s;rw[if_neg (show ¬((Value.ref t == Value.none)=true) from Qxx)];show wpAny _ _ (field (.ref j) 1 >>= _) _ _ s;refine Qqx (Qjk hu ud (x:=.int n 0) rfl ?_);show wpAny _ _ (seqItems? (.ref t) >>= _) _ _ s;refine Qqx (Qj7 hut mt ?_);simp only[Qzx,hx];refine Qqx (wpAny_rule (Qqx (wpAny_setField hu ud (by simp) ?_)));show wpAny _ _ (newExc (.type "StopIteration") [] >>= _) _ _ _;refine Qqx ?_;simp only[newExc,newTuple];refine Qqx (Qj8 ?_ (by size_fits));refine Qqx (m:=firstArgMember _ _) (wpAny_of_eq (a:=Value.none) (by first|rfl|(simp only[firstArgMember];rfl)) ?_);refine Qj8 ?_ (by size_fits);simp only[raiseNew];refine Qqx (wpAny_handled ?_)
 first|rw[show A.in1.handled=none from hh]|rw[hh]
 refine Qqx (Qq1 (wpAny_throw ?_));exact q _ _ (((Heap.SameBut.update ..).extBut.push _).push _) ⟨_,Qwy _ rfl,rfl⟩
end
theorem uB{prog:Program}{w:World}{A:Around}(hh:A.handled=none)(j t:Addr)(hne:t≠j)(its:Array Value) :
  Draws prog w A j [j,t] its.size (λi v=>its[i]? = some v) (λi h=>h.IsTupleIter j t i/\h.IsTuple t its) where
 live:=λ_ _ st=>let ⟨o,ho,_⟩:=st.1;⟨o,ho⟩
 frame:=λ_ _ _ st hk=>by
  obtain⟨⟨o,ho,r⟩,o2,ho2,r2⟩:=st;exact⟨⟨o,hk j (by simp) o ho,r⟩,o2,hk t (by simp) o2 ho2,r2⟩
 item:=λi s Q E hi st hQ=>by
  refine V4 st.1 st.2 (x:=its[i]) (by simp[hi]) λh' hit' hs'=>?_;exact hQ _ h' s.toks (by simp[hi]) ⟨hit',st.2.extBut hs'.extBut hne⟩ hs'
 done:=λs Q E st hE=>Hg hh st.1 st.2 (by simp) hE
structure Ap(z TI TO j1 j2:Addr)(f1 f2:List Addr):Prop where
 a1:TI≠z
 a2:TO≠z
 a3:TI≠TO
 a4:j1≠j2
 b1:j1∈f1
 b2:j2∈f2
 c1:z ∉ f1
 c2:z ∉ f2
 c3:TO ∉ f1
 c4:TO ∉ f2
 c5:TI ∉ f1
 c6:TI ∉ f2
 c7:j2 ∉ f1
 c8:j1 ∉ f2
section
variable{prog:Program}{w:World}{A:Around}{E:Value->Shared->Prop}{s:Shared}{z TI TO j1 j2:Addr}{f1 f2:List Addr}{n1 n2 k:Nat}{P1 P2:Nat->Value->Prop}{S1 S2:Nat->Heap->Prop}{a b:Value}
theorem gw{c d:Addr}{f:List Addr}(h:c∈f)(h':d ∉ f):c≠d:=λe=>h' (e ▸ h)
theorem TV{Q:Value->Shared->Prop}(D:Ap z TI TO j1 j2 f1 f2)(D1:Draws prog w A j1 f1 n1 P1 S1)(D2:Draws prog w A j2 f2 n2 P2 S2)(k1:k<n1)(k2:k<n2)
  (hz:IsZip s.heap z TI TO .none) (hTI:IsPair s.heap TI (.ref j1) (.ref j2)) (hTO:IsPair s.heap TO a b) (s1:S1 k s.heap) (s2:S2 k s.heap)
  (q:∀x y g tk,P1 k x->P2 k y->IsZip g z TI TO (rawInt s.heap.objs.size)->IsPair g TO x y->S1 (k+1) g->S2 (k+1) g->IsPair g s.heap.objs.size x y->g.objs.size=s.heap.objs.size+1->
   (∀c o,c≠z->c≠TO->c≠j1->c≠j2->s.heap.get? c=some o->g.get? c=some o)->Q (.ref s.heap.objs.size) { s with heap:=g,toks:=tk }) :
  wpAny (model prog w) A (Builtin.«zip.__next__» ⟨[.ref z],[]⟩) (λfin s'=>∃v,fin = .done (.ret v)/\Q v s') E s:=by
 have ZQ:j1≠z:=gw D.b1 D.c1;have adK:j2≠z:=gw D.b2 D.c2;have adL:j1≠TO:=gw D.b1 D.c3;have af5:j2≠TO:=gw D.b2 D.c4;show wpAny _ _ (field (.ref z) 2 >>= _) _ _ _;refine Qqx (Qjk hz rfl (x:=.bool false) rfl ?_);show wpAny _ _ (field (.ref z) 3 >>= _) _ _ _;refine Qqx (Qjk hz rfl (x:=.ref TI) rfl ?_);refine Qqx (Qj7 hTI rfl ?_);show wpAny _ _ (Builtin.SmallTypes.ownedTupleIsFree (.ref z) >>= _) _ _ _;refine Qqx ?_;unfold Builtin.SmallTypes.ownedTupleIsFree;refine Qqx (Qjk hz rfl (x:=.none) rfl (Qq1 ?_));simp only[if_true];refine Qqx (wpAny_rule ?_);refine Qqx (Qjk hz rfl (x:=.ref TO) rfl ?_);refine Qqx (Qkk hz (by simp) λg1 hz1 e1=>?_)
 replace hz1:IsZip g1 z TI TO .ellipsis:=hz1
 refine Qqx ?_;simp only[List.zipIdx_cons,List.zipIdx_nil,Qk7,Qky];refine Qqx (Qqx (wpAny_onRaise ?_));show wpAny _ _ (Builtin.SmallTypes.nextOf (.ref j1) >>= _) _ _ _;have s1':S1 k g1:=D1.frame k _ _ s1 λc hc o e=>e1.extBut _ _ (gw hc D.c1) e;refine Qqx (D1.item k { s with heap:=g1 } _ _ k1 s1' λx g2 tk2 px sx e2=>Qq1 ?_);have t2:IsPair g2 TO a b:=e2.extBut _ _ adL.symm (e1.extBut _ _ D.a2 hTO);refine Qqx (Qj7 t2 rfl ?_);refine Qqx (wpAny_updateSeq_pair t2 λg3 t3 e3=>?_)
 replace t3:IsPair g3 TO x b:=t3
 refine Qqx (wpAny_letGo (Qq1 ?_));refine Qqx (Qqx (wpAny_onRaise ?_));show wpAny _ _ (Builtin.SmallTypes.nextOf (.ref j2) >>= _) _ _ _;have s2':S2 k g3:=D2.frame k _ _ s2 λc hc o e=>e3.extBut _ _ (gw hc D.c4) (e2.extBut _ _ (gw hc D.c8) (e1.extBut _ _ (gw hc D.c2) e));refine Qqx (D2.item k { s with heap:=g3,toks:=tk2 } _ _ k2 s2' λy g4 tk4 py sy e4=>Qq1 ?_);have t4:IsPair g4 TO x b:=e4.extBut _ _ af5.symm t3;refine Qqx (Qj7 t4 rfl ?_);refine Qqx (wpAny_updateSeq_pair t4 λg5 t5 e5=>?_)
 replace t5:IsPair g5 TO x y:=t5
 refine Qqx (wpAny_letGo (Qq1 (Qq1 ?_)));refine Qqx (Qj7 t5 rfl ?_);refine Qqx (wpAny_newTuple ?_);have hsz:g5.objs.size=s.heap.objs.size:=by rw[e5.1,e4.1,e3.1,e2.1,e1.1]
 have hz5:IsZip g5 z TI TO .ellipsis:=e5.extBut _ _ D.a2.symm (e4.extBut _ _ adK.symm (e3.extBut _ _ D.a2.symm (e2.extBut _ _ ZQ.symm hz1)));have afI:∀c o,c≠z->c≠TO->c≠j1->c≠j2->s.heap.get? c=some o->g5.get? c=some o:=λc o c1 c2 c3 c4 e=>
  e5.extBut _ _ c2 (e4.extBut _ _ c4 (e3.extBut _ _ c2 (e2.extBut _ _ c3 (e1.extBut _ _ c1 e))))
 have s15:S1 (k+1) g5:=D1.frame _ _ _ sx λc hc o e=>e5.extBut _ _ (gw hc D.c3) (e4.extBut _ _ (gw hc D.c7) (e3.extBut _ _ (gw hc D.c3) e));have s25:S2 (k+1) g5:=D2.frame _ _ _ sy λc hc o e=>e5.extBut _ _ (gw hc D.c4) e;have zlt:z<g5.objs.size:=Qwj hz5;show wpAny _ _ (Builtin.SmallTypes.ownedTupleHandOut (.ref z) (.ref g5.objs.size) >>= _) _ _ _;refine Qqx ?_;unfold Builtin.SmallTypes.ownedTupleHandOut;have hz6:IsZip (g5.push { cls:=.type "tuple",data:=.seq #[x,y] }) z TI TO .ellipsis:=Qqz _ hz5;refine Qqx (Qkk hz6 (by simp) λg7 hz7 e7=>?_)
 replace hz7:IsZip g7 z TI TO (rawInt g5.objs.size):=hz7
 refine Qkk hz7 (by simp) λg8 hz8 e8=>?_
 replace hz8:IsZip g8 z TI TO (rawInt g5.objs.size):=hz8
 have up:∀c o,c≠z->g5.get? c=some o->g8.get? c=some o:=λc o c1 e=>e8.extBut _ _ c1 (e7.extBut _ _ c1 (Qqz _ e));have t8:IsPair g8 g5.objs.size x y:=e8.extBut _ _ (Qjv zlt) (e7.extBut _ _ (Qjv zlt) (Qwy _ rfl));have l8:g8.objs.size=g5.objs.size+1:=by rw[e8.1,e7.1,Qx5]
 rw[hsz] at hz8 t8 l8;refine Qq1 ⟨_,rfl,?_⟩;show Q (.ref g5.objs.size) _;rw[hsz];exact q x y g8 _ px py hz8 (up _ _ D.a2 t5) (D1.frame _ _ _ s15 λc hc o e=>up c o (gw hc D.c1) e) (D2.frame _ _ _ s25 λc hc o e=>up c o (gw hc D.c2) e) t8 l8 λc o c1 c2 c3 c4 e=>up c o c1 (afI c o c1 c2 c3 c4 e)
theorem Xp{Q:Fin->Shared->Prop}(D:Ap z TI TO j1 j2 f1 f2)(D1:Draws prog w A j1 f1 n1 P1 S1)(D2:Draws prog w A j2 f2 n2 P2 S2)(hk:k=n1\/(k<n1/\k=n2))
  (hz:IsZip s.heap z TI TO .none) (hTI:IsPair s.heap TI (.ref j1) (.ref j2)) (hTO:IsPair s.heap TO a b) (s1:S1 k s.heap) (s2:S2 k s.heap)
  (q:∀g e tk,(∀c o,c≠z->c≠TO->c≠j1->c≠j2->s.heap.get? c=some o->g.get? c=some o)->(∃o,g.get? e=some o/\o.cls = .type "StopIteration")->E (.ref e) { s with heap:=g,toks:=tk }) :
  wpAny (model prog w) A (Builtin.«zip.__next__» ⟨[.ref z],[]⟩) Q E s:=by
 have ZQ:j1≠z:=gw D.b1 D.c1;have adK:j2≠z:=gw D.b2 D.c2;have adL:j1≠TO:=gw D.b1 D.c3;have af5:j2≠TO:=gw D.b2 D.c4;show wpAny _ _ (field (.ref z) 2 >>= _) _ _ _;refine Qqx (Qjk hz rfl (x:=.bool false) rfl ?_);show wpAny _ _ (field (.ref z) 3 >>= _) _ _ _;refine Qqx (Qjk hz rfl (x:=.ref TI) rfl ?_);refine Qqx (Qj7 hTI rfl ?_);show wpAny _ _ (Builtin.SmallTypes.ownedTupleIsFree (.ref z) >>= _) _ _ _;refine Qqx ?_;unfold Builtin.SmallTypes.ownedTupleIsFree;refine Qqx (Qjk hz rfl (x:=.none) rfl (Qq1 ?_));simp only[if_true];refine Qqx (wpAny_rule ?_);refine Qqx (Qjk hz rfl (x:=.ref TO) rfl ?_);refine Qqx (Qkk hz (by simp) λg1 hz1 e1=>?_)
 replace hz1:IsZip g1 z TI TO .ellipsis:=hz1
 refine Qqx ?_;simp only[List.zipIdx_cons,List.zipIdx_nil,Qk7,Qky];refine Qqx (Qqx (wpAny_onRaise ?_));show wpAny _ _ (Builtin.SmallTypes.nextOf (.ref j1) >>= _) _ _ _;have s1':S1 k g1:=D1.frame k _ _ s1 λc hc o e=>e1.extBut _ _ (gw hc D.c1) e;rcases hk with rfl|⟨k1,rfl⟩
 ·refine Qqx (D1.done { s with heap:=g1 } _ _ s1' λg2 e x2 he=>?_);obtain⟨oe,hoe,hce⟩:=he;have hz2:IsZip g2 z TI TO .ellipsis:=x2 _ _ ZQ.symm hz1;have hez:e≠z:=λx=>by subst x;rw[hz2] at hoe;cases hoe;simp at hce
  exact Qkk hz2 (by simp) λg3 _ e3=>q g3 e s.toks (λc o c1 _ c3 _ x=>e3.extBut _ _ c1 (x2 _ _ c3 (e1.extBut _ _ c1 x))) ⟨oe,e3.extBut _ _ hez hoe,hce⟩
 ·refine Qqx (D1.item k { s with heap:=g1 } _ _ k1 s1' λx g2 tk2 px sx e2=>Qq1 ?_);have t2:IsPair g2 TO a b:=e2.extBut _ _ adL.symm (e1.extBut _ _ D.a2 hTO);refine Qqx (Qj7 t2 rfl ?_);refine Qqx (wpAny_updateSeq_pair t2 λg3 t3 e3=>?_);refine Qqx (wpAny_letGo (Qq1 ?_));refine Qqx (Qqx (wpAny_onRaise ?_));show wpAny _ _ (Builtin.SmallTypes.nextOf (.ref j2) >>= _) _ _ _;have s2':S2 k g3:=D2.frame k _ _ s2 λc hc o e=>e3.extBut _ _ (gw hc D.c4) (e2.extBut _ _ (gw hc D.c8) (e1.extBut _ _ (gw hc D.c2) e));refine Qqx (D2.done { s with heap:=g3,toks:=tk2 } _ _ s2' λg4 e x4 he=>?_);obtain⟨oe,hoe,hce⟩:=he;have hz4:IsZip g4 z TI TO .ellipsis:=x4 _ _ adK.symm (e3.extBut _ _ D.a2.symm (e2.extBut _ _ ZQ.symm hz1));have hez:e≠z:=λx=>by subst x;rw[hz4] at hoe;cases hoe;simp at hce
  exact Qkk hz4 (by simp) λg5 _ e5=>q g5 e tk2 (λc o c1 c2 c3 c4 x=>e5.extBut _ _ c1 (x4 _ _ c4 (e3.extBut _ _ c2 (e2.extBut _ _ c3 (e1.extBut _ _ c1 x))))) ⟨oe,e5.extBut _ _ hez hoe,hce⟩
theorem rU{Q:Option Value->Shared->Prop}(D:Ap z TI TO j1 j2 f1 f2)(D1:Draws prog w A.in1 j1 f1 n1 P1 S1)(D2:Draws prog w A.in1 j2 f2 n2 P2 S2)(k1:k<n1)(k2:k<n2)
  (hz:IsZip s.heap z TI TO .none) (hTI:IsPair s.heap TI (.ref j1) (.ref j2)) (hTO:IsPair s.heap TO a b) (s1:S1 k s.heap) (s2:S2 k s.heap)
  (q:∀x y g tk,P1 k x->P2 k y->IsZip g z TI TO (rawInt s.heap.objs.size)->IsPair g TO x y->S1 (k+1) g->S2 (k+1) g->IsPair g s.heap.objs.size x y->g.objs.size=s.heap.objs.size+1->
   (∀c o,c≠z->c≠TO->c≠j1->c≠j2->s.heap.get? c=some o->g.get? c=some o)->Q (some (.ref s.heap.objs.size)) { s with heap:=g,toks:=tk }) :
  wpAny (model prog w) A (pyNext (.ref z)) Q E s:=by
 have hT:s.TypeIs (.ref z) "zip":=⟨_,hz,rfl⟩;unfold pyNext;exact Qqx (wpAny_attempt (Qz4 (name:=Str.ofString "__next__") hT F.slot_zip_next (Qjw F.slot_zip_next hT F.entry_zip_next
  (TV D D1 D2 k1 k2 hz hTI hTO s1 s2 λx y g tk u1 u2 u3 u4 u5 u6 u7 u8 u9=>Qq1 (q x y g tk u1 u2 u3 u4 u5 u6 u7 u8 u9)) (F.args_zip_next_1 _))))
theorem tu{Q:Option Value->Shared->Prop}(D:Ap z TI TO j1 j2 f1 f2)(D1:Draws prog w A.in1 j1 f1 n1 P1 S1)(D2:Draws prog w A.in1 j2 f2 n2 P2 S2)(hk:k=n1\/(k<n1/\k=n2))
  (hz:IsZip s.heap z TI TO .none) (hTI:IsPair s.heap TI (.ref j1) (.ref j2)) (hTO:IsPair s.heap TO a b) (s1:S1 k s.heap) (s2:S2 k s.heap)
  (q:∀g tk,(∀c o,c≠z->c≠TO->c≠j1->c≠j2->s.heap.get? c=some o->g.get? c=some o)->Q none { s with heap:=g,toks:=tk }):wpAny (model prog w) A (pyNext (.ref z)) Q E s:=by
 have hT:s.TypeIs (.ref z) "zip":=⟨_,hz,rfl⟩;unfold pyNext;refine Qqx (wpAny_attempt (Qz4 (name:=Str.ofString "__next__") hT F.slot_zip_next (Qjw F.slot_zip_next hT F.entry_zip_next
  (Xp D D1 D2 hk hz hTI hTO s1 s2 λg e tk hkp he=>?_) (F.args_zip_next_1 _))))
 obtain⟨o,ho,hc⟩:=he;refine Qqx (wpAny_isInstance (T:="StopIteration") (b:=true) ⟨o,ho,hc⟩ isSubtype_stop ?_);exact Qq1 (q _ _ hkp)
end
end ZT
namespace L2
open PySem PySem.Spec PyProof.Rows PySem.Builtin ZT
def Itz(K:PySem.W.Frag)(a1 a2:Addr):It:=
 ⟨λi H=>∃xs ys x y,oE K H a1 xs/\oE K H a2 ys/\xs[i]? = some x/\ys[i]? = some y,
 λi H v H'=>∃p x y,(∀xs,oE K H a1 xs->xs[i]? = some x)/\(∀ys,oE K H a2 ys->ys[i]? = some y)/\H p=none/\H'=upd H p (.tup [x,y])/\v = .ref p,
 λi H=>∃xs ys,oE K H a1 xs/\oE K H a2 ys/\(i=xs.length\/(i<xs.length/\i=ys.length))⟩
structure Apz(z TI TO j1 j2 a1 a2:Addr):Prop where
 t1:TI≠z
 t2:TO≠z
 t3:TI≠TO
 t4:j1≠j2
 b1:z ∉ [j1,a1]
 b2:z ∉ [j2,a2]
 b3:TO ∉ [j1,a1]
 b4:TO ∉ [j2,a2]
 b5:TI ∉ [j1,a1]
 b6:TI ∉ [j2,a2]
 b7:j2 ∉ [j1,a1]
 b8:j1 ∉ [j2,a2]
 c1:a1≠j1
 c2:a2≠j2
theorem Apz.ap{z TI TO j1 j2 a1 a2:Addr}(D:Apz z TI TO j1 j2 a1 a2):Ap z TI TO j1 j2 [j1,a1] [j2,a2]:=⟨D.t1,D.t2,D.t3,D.t4,by simp,by simp,D.b1,D.b2,D.b3,D.b4,D.b5,D.b6,D.b7,D.b8⟩
theorem T7{P:Program}{w:World}{K:PySem.W.Frag}{elts:List Expr}{kk:Nat}{pos:Pos}(z TI TO j1 j2 a1 a2:Addr)(D:Apz z TI TO j1 j2 a1 a2) :
  Turn P w K (.Tuple elts kk pos) (Itz K a1 a2) [z,TI,TO,j1,j2] z (λi h=>IsZip h z TI TO .none/\IsPair h TI (.ref j1) (.ref j2)/\(∃a b,IsPair h TO a b)/\h.IsTupleIter j1 a1 i/\h.IsTupleIter j2 a2 i) where
 mem:=by simp
 obj:=λi h st b hb=>by
  obtain⟨hz,hTI,⟨a,c,hTO⟩,⟨o1,e1,_,d1⟩,o2,e2,_,d2⟩:=st;simp only[Qq5,Qw1,Qzy] at hb;rcases hb with rfl|rfl|rfl|rfl|rfl
  ·exact⟨_,hz,λv q=>by cases q⟩
  ·exact⟨_,hTI,λv q=>by cases q⟩
  ·exact⟨_,hTO,λv q=>by cases q⟩
  ·exact⟨o1,e1,λv q=>by rw[d1] at q;cases q⟩
  ·exact⟨o2,e2,λv q=>by rw[d2] at q;cases q⟩
 keep:=λi h h' st k=>by
  obtain⟨hz,hTI,⟨a,c,hTO⟩,⟨o1,e1,r1⟩,o2,e2,r2⟩:=st;exact⟨k z (by simp) _ hz,k TI (by simp) _ hTI,⟨a,c,k TO (by simp) _ hTO⟩,⟨o1,k j1 (by simp) _ e1,r1⟩,o2,k j2 (by simp) _ e2,r2⟩
 item:=by
  intro X hP hw hK hc i pins s σ H E I hf st hg;subst hP hw hK;obtain⟨hz,hTI,⟨a,b,hTO⟩,i1,i2⟩:=st;obtain⟨xs,ys,x,y,hx,hy,gx,gy⟩:=hg;obtain⟨us,ru,pu,zu⟩:=I.tuple hx;obtain⟨vs,rv,pv,zv⟩:=I.tuple hy;obtain⟨u,hu,rxu⟩:=ru.get gx;obtain⟨v,hv,ryv⟩:=rv.get gy;have lu:i<us.toArray.size:=by rw[Qq3];exact(Qq4.mp hu).1
  have lv:i<vs.toArray.size:=by rw[Qq3];exact(Qq4.mp hv).1
  have D1:Draws X.prog X.w X.A.in1 j1 [j1,a1] _ _ _:=uB (A:=X.A.in1) (show X.A.in1.handled=none from I.ok.hd hc) j1 a1 D.c1 us.toArray;have D2:Draws X.prog X.w X.A.in1 j2 [j2,a2] _ _ _:=uB (A:=X.A.in1) (show X.A.in1.handled=none from I.ok.hd hc) j2 a2 D.c2 vs.toArray;refine rU (A:=X.A) D.ap D1 D2 lu lv hz hTI hTO ⟨i1,pu⟩ ⟨i2,pv⟩ λx' y' g tk px py hz' adu s1 s2 hT hsz hk=>?_;have ex:x'=u:=by have:us.toArray[i]? = some x':=px;rw[Qj4,hu] at this;exact(Qwv this).symm
  have ey:y'=v:=by have:vs.toArray[i]? = some y':=py;rw[Qj4,hv] at this;exact(Qwv this).symm
  subst ex ey;refine⟨_,rfl,?_⟩;refine wpAny_letOwnedTupleGo_zip (s:={ s with heap:=g,toks:=tk }) hz' λg' hz'' e'=>?_;have ni:∀b o,b≠z->g.get? b=some o->g'.get? b=some o:=λb o hb q=>(e'.2 b hb).trans q;have lts:∀b ∈ [z,TI,TO,j1,j2],b<s.heap.objs.size:=λb hb=>by
   simp only[Qq5,Qw1,Qzy] at hb;rcases hb with rfl|rfl|rfl|rfl|rfl
   ·exact Qwj hz
   ·exact Qwj hTI
   ·exact Qwj hTO
   ·obtain⟨_,q,_⟩:=i1;exact Qwj q
   ·obtain⟨_,q,_⟩:=i2;exact Qwj q
  have nT:H s.heap.objs.size=none:=I.hok.fresh (Qqw _);refine⟨.ref s.heap.objs.size,upd H s.heap.objs.size (.tup [x,y]),I.drawn (t':=tk) (ch:=[z,TI,TO,j1,j2]) hf (λb o hb q=>?_) (Qqw _) ?_,rfl,⟨_,x,y,λzs hq=>by rw[I.xW hq hx];exact gx,λzs hq=>by rw[I.xW hq hy];exact gy,nT,rfl,rfl⟩,⟨hz'',?_,⟨_,_,ni TO _ D.t2 adu⟩,?_,?_⟩,λb hb=>?_⟩
  ·have n1:b≠z:=λq=>hb (by simp[q]);exact ni b o n1 (hk b o n1 (λq=>hb (by simp[q])) (λq=>hb (by simp[q])) (λq=>hb (by simp[q])) q)
  ·exact⟨by show 2<=sizeLine;decide,[x',y'],.cons rxu (.cons ryv .nil),_,ni _ _ (Qjv (lts z (by simp))) hT,rfl,⟨_,rfl⟩,rfl⟩
  ·exact ni TI _ D.t1 (hk TI _ D.t1 D.t3 (λq=>D.b5 (by simp[q])) (λq=>D.b6 (by simp[q])) hTI)
  ·obtain⟨o,q,r⟩:=s1.1;exact⟨o,ni j1 o (λq=>D.b1 (by simp[q])) q,r⟩
  ·obtain⟨o,q,r⟩:=s2.1;exact⟨o,ni j2 o (λq=>D.b2 (by simp[q])) q,r⟩
  ·rw[bI (Qw7 (lts b hb))];exact(hf b hb).1
 done:=by intro X hP hw hK hc i pins s σ H E I hf st hg;subst hP hw hK;obtain⟨hz,hTI,⟨a,b,hTO⟩,i1,i2⟩:=st;obtain⟨xs,ys,hx,hy,hi⟩:=hg;obtain⟨us,ru,pu,zu⟩:=I.tuple hx;obtain⟨vs,rv,pv,zv⟩:=I.tuple hy;have l1:=ru.length;have l2:=rv.length;have D1:Draws X.prog X.w X.A.in1 j1 [j1,a1] _ _ _:=uB (A:=X.A.in1) (show X.A.in1.handled=none from I.ok.hd hc) j1 a1 D.c1 us.toArray;have D2:Draws X.prog X.w X.A.in1 j2 [j2,a2] _ _ _:=uB (A:=X.A.in1) (show X.A.in1.handled=none from I.ok.hd hc) j2 a2 D.c2 vs.toArray;refine tu (A:=X.A) (k:=i) D.ap D1 D2 (by rw[Qq3,Qq3];omega) hz hTI hTO ⟨i1,pu⟩ ⟨i2,pv⟩ λg tk hk=>⟨rfl,I.Gk (t':=tk) (ch:=[z,TI,TO,j1,j2]) hf λb o hb e=>?_⟩;exact hk b o (λq=>hb (by simp[q])) (λq=>hb (by simp[q])) (λq=>hb (by simp[q])) (λq=>hb (by simp[q])) e
 self:=λA i s Q E st h=>wpAny_pyIter_zip st.1 h
end L2
namespace ZT
open PySem PySem.Spec PyProof.Rows L2 PySem.Builtin
abbrev h1T(h:Heap)(l1:Addr):Heap:=h.push { cls:=.type "tuple_iterator",data:=.fields #[.ref l1,.int 0 0] }
abbrev h2T(h:Heap)(l1 l2:Addr):Heap:=(h1T h l1).push { cls:=.type "tuple_iterator",data:=.fields #[.ref l2,.int 0 0] }
abbrev h3T(h:Heap)(l1 l2:Addr):Heap:=(h2T h l1 l2).push { cls:=.type "tuple",data:=.seq #[.ref h.objs.size,.ref (h1T h l1).objs.size] }
abbrev h4T(h:Heap)(l1 l2:Addr):Heap:=(h3T h l1 l2).push { cls:=.type "tuple",data:=.seq #[.none,.none] }
abbrev h5T(h:Heap)(l1 l2:Addr):Heap:=(h4T h l1 l2).push { cls:=.type "zip",data:=.fields #[.none,.bool false,.bool false,.ref (h2T h l1 l2).objs.size,.ref (h3T h l1 l2).objs.size] }
theorem acT(l1 l2:Addr)(xs ys:Array Value):Meets (Builtin.«zip.__new__» ⟨[.type "zip",.ref l1,.ref l2],[]⟩) (λ_ R s=>s.heap.IsTuple l1 xs/\s.heap.IsTuple l2 ys/\
   R (.ok (.ret (.ref (h4T s.heap l1 l2).objs.size))) { s with heap:=h5T s.heap l1 l2 }):=
 .of_wp λprog w A R s h=>by
  obtain⟨hp,g,d,tk,os⟩:=s;obtain⟨hl1,hl2,h⟩:=h;have hsub:=sub_zip;have hL1:Heap.IsTuple (Shared.heap ⟨hp,g,d,tk,os⟩) l1 xs:=hl1;have hL2:Heap.IsTuple (Shared.heap ⟨hp.push { cls:=.type "tuple_iterator",data:=.fields #[.ref l1,.int 0 0] },g,d,tk,os⟩) l2 ys:=Heap.IsTuple.push hl2 _
  wp_walk using wpAny_pyIter_tuple hL1,wpAny_pyIter_tuple hL2
  exact⟨_,rfl,h⟩
section
variable{prog:Program}{w:World}{A:Around}{E:Value->Shared->Prop}{s:Shared}
theorem Z6{l1 l2:Addr}{xs ys:Array Value}{Q:Value->Shared->Prop}(hl1:s.heap.IsTuple l1 xs)(hl2:s.heap.IsTuple l2 ys)
  (h:∀g,IsZip g (s.heap.objs.size+4) (s.heap.objs.size+2) (s.heap.objs.size+3) .none->IsPair g (s.heap.objs.size+2) (.ref s.heap.objs.size) (.ref (s.heap.objs.size+1))->
   IsPair g (s.heap.objs.size+3) .none .none->g.IsTupleIter s.heap.objs.size l1 0->g.IsTupleIter (s.heap.objs.size+1) l2 0->g.objs.size=s.heap.objs.size+5->
   (∀c o,s.heap.get? c=some o->g.get? c=some o)->Q (.ref (s.heap.objs.size+4)) { s with heap:=g }) :
  wpAny (model prog w) A (call (.type "zip") [.ref l1,.ref l2]) Q E s:=by
 refine callType_new F.called_zip (by decide) (F.typeCall_zip_2 _ _) (F.newCall_zip_2 _ _) (λobj=>F.args_object_init_3 obj _ _) F.entry_zip_new (acT l1 l2 xs ys) ⟨hl1,hl2,?_⟩;have z1:(h1T s.heap l1).objs.size=s.heap.objs.size+1:=Qx5 ..;have z2:(h2T s.heap l1 l2).objs.size=s.heap.objs.size+2:=by rw[Qx5,z1]
 have z3:(h3T s.heap l1 l2).objs.size=s.heap.objs.size+3:=by rw[Qx5,z2]
 have z4:(h4T s.heap l1 l2).objs.size=s.heap.objs.size+4:=by rw[Qx5,z3]
 have z5:(h5T s.heap l1 l2).objs.size=s.heap.objs.size+5:=by rw[Qx5,z4]
 have g5:(h5T s.heap l1 l2).get? (h4T s.heap l1 l2).objs.size=some _:=Qwy _ rfl;have g4:(h5T s.heap l1 l2).get? (h3T s.heap l1 l2).objs.size=some _:=Qqz _ (Qwy _ rfl);have g3:(h5T s.heap l1 l2).get? (h2T s.heap l1 l2).objs.size=some _:=Qqz _ (Qqz _ (Qwy _ rfl));have g2:(h5T s.heap l1 l2).get? (h1T s.heap l1).objs.size=some _:=Qqz _ (Qqz _ (Qqz _ (Qwy _ rfl)));have g1:(h5T s.heap l1 l2).get? s.heap.objs.size=some _:=Qqz _ (Qqz _ (Qqz _ (Qqz _ (Qwy _ rfl))));show _/\_;rw[z2,z3,z4] at g5;rw[z1,z2] at g3;rw[z3] at g4;rw[z1] at g2;rw[z4];exact⟨⟨_,g5,rfl⟩,h _ g5 g3 g4 ⟨_,g1,rfl,rfl⟩ ⟨_,g2,rfl,rfl⟩ z5 λc o x=>Qqz _ (Qqz _ (Qqz _ (Qqz _ (Qqz _ x))))⟩
end
end ZT
namespace L2
open PySem PySem.Spec PyProof.Rows PySem.Builtin ZT
section
variable{X:Cx}
def ahs(K:PySem.W.Frag)(ta:TA):TI:=λσ H R=>ta σ H λvs H1=>∃a1 a2,vs=[.ref a1,.ref a2]/\(∃xs,oE K H1 a1 xs)/\(∃ys,oE K H1 a2 ys)/\R (Itz K a1 a2) H1
theorem aca{elts:List Expr}{k:Nat}{tp:Pos}{a b:Expr}{ta:TA}{p pos:Pos}(hg:Gl X "zip")(hm:X.mg "zip" = none)(ha:PA X [a,b] ta)(hs:starEach [a,b] X.env=(false,eval a X.env)::starEach [b] X.env:=by rfl)(hs2:starEach [b] X.env=[(false,eval b X.env)]:=by rfl):PI X (.Tuple elts k tp) (.Call (.Name "zip" p) [a,b] [] pos) (ahs X.K ta):=by
 intro pins s σ H R I h;refine Call_ (tO I hg hm PyProof.Rows.boot_zip (Qz0 (gm (ha pos pins s σ H _ I h) λus s1 ⟨vs,H1,I1,r1,q1⟩=>?_) hs (by rw[hs2];rfl)));obtain⟨a1,a2,e,⟨xs,hx⟩,⟨ys,hy⟩,q⟩:=q1;subst e;cases r1 with
 | cons r rr=>
  cases rr with
  | cons r' rr'=>
   cases rr';cases r;cases r';obtain⟨u1,ru1,p1,z1⟩:=I1.tuple hx;obtain⟨u2,ru2,p2,z2⟩:=I1.tuple hy;have V9:a1<s1.heap.objs.size:=by obtain⟨_,e,_⟩:=p1;exact Qwj e
   have PL:a2<s1.heap.objs.size:=by obtain⟨_,e,_⟩:=p2;exact Qwj e
   refine Z6 p1 p2 λg hz hTI hTO i1 i2 hsz hk=>?_;refine wpAny_pyIter_zip hz ?_;have I2:Inv X pins σ H1 { s1 with heap:=g }:=I1.kept (t':=s1.toks) hk;have own:∀b,s1.heap.objs.size<=b->uL X pins H1 b:=λb hb=>I1.N5 hb (I1.hok.fresh hb);generalize hn:s1.heap.objs.size=n at *;have ne:∀{c d:Nat},c<d->(c:Addr)≠d:=λh e=>Qzj _ (by subst e;exact h);have ne':∀{c d:Nat},d<c->(c:Addr)≠d:=λh e=>Qzj _ (by subst e;exact h);have D:Apz (n+4) (n+2) (n+3) n (n+1) a1 a2:={
    t1:=ne (by omega),t2:=ne (by omega),t3:=ne (by omega),t4:=ne (by omega)
    b1:=by simp only[Qq5,Qw1,Qzy,not_or];exact⟨ne' (by omega),ne' (Qwq V9 (by omega))⟩
    b2:=by simp only[Qq5,Qw1,Qzy,not_or];exact⟨ne' (by omega),ne' (Qwq PL (by omega))⟩
    b3:=by simp only[Qq5,Qw1,Qzy,not_or];exact⟨ne' (by omega),ne' (Qwq V9 (by omega))⟩
    b4:=by simp only[Qq5,Qw1,Qzy,not_or];exact⟨ne' (by omega),ne' (Qwq PL (by omega))⟩
    b5:=by simp only[Qq5,Qw1,Qzy,not_or];exact⟨ne' (by omega),ne' (Qwq V9 (by omega))⟩
    b6:=by simp only[Qq5,Qw1,Qzy,not_or];exact⟨ne' (by omega),ne' (Qwq PL (by omega))⟩
    b7:=by simp only[Qq5,Qw1,Qzy,not_or];exact⟨ne' (by omega),ne' (Qwq V9 (by omega))⟩
    b8:=by simp only[Qq5,Qw1,Qzy,not_or];exact⟨ne (by omega),ne' PL⟩
    c1:=ne V9,c2:=ne (Qwq PL (by omega)) }
   refine⟨n+4,[n+4,n+2,n+3,n,n+1],_,_,H1,rfl,I2,T7 _ _ _ _ _ a1 a2 D,⟨hz,hTI,⟨_,_,hTO⟩,i1,i2⟩,λb hb=>own b ?_,q⟩;simp only[Qq5,Qw1,Qzy] at hb;rcases hb with rfl|rfl|rfl|rfl|rfl
   ·exact Qj6 _ _
   ·exact Qj6 _ _
   ·exact Qj6 _ _
   ·exact Qqw _
   ·exact Qj6 _ _
end
end L2
namespace Ev
open PySem PySem.Spec PyProof.Rows L2 PySem.Builtin
section
variable{X:Cx}{C:Cfg}{pos:Pos}{e e2:Expr}
def qb(x y:List D):List D:=(x.zip y).map λp=>.tup [p.1,p.2]
def za(a:d7):d7:=λenv=>bindR (a env) λds aN=>match ds with
 | [.tup x,.tup y]=>.ok (qb x y) aN
 | _=>.stuck
theorem wC{K:Fg}{F:Hp}:∀{ds:List D} {vs:List V},bL K F ds vs->∀{i:Nat} {d:D},ds[i]? = some d->∃v,vs[i]? = some v/\Rep K F d v
 | [],vs,_,i,d,h=>by simp at h
 | x::ds,vs,r,i,d,h=>by
  obtain⟨v,w,rfl,p,q⟩:=r;cases i with
  | zero=>simp at h;subst h;exact⟨v,rfl,p⟩
  | succ i=>obtain⟨u,h1,h2⟩:=wC q (i:=i) (by simpa using h);exact⟨u,by simpa using h1,h2⟩
theorem afQ{elts:List Expr}{k:Nat}{tp p:Pos}{ea:d7}(G:Good X C)(hm:X.mg "zip" = none)(ha:Ln X C [e,e2] ea)(hg:Gl X "zip":=by rfl)(hs:starEach [e,e2] X.env=(false,eval e X.env)::starEach [e2] X.env:=by rfl)(hs2:starEach [e2] X.env=[(false,eval e2 X.env)]:=by rfl):TF X C (.Tuple elts k tp) (.Call (.Name "zip" p) [e,e2] [] pos) (za ea):=by
 have h:=aca (elts:=elts) (k:=k) (tp:=tp) (p:=p) (pos:=pos) hg hm ha hs hs2;rw[G.K] at h;refine h.imp λσ H R hq=>?_;obtain⟨Pr,F,env,env',ds,r,e,q⟩:=hq;obtain⟨as,aN,e1,e2⟩:=aZ e;refine⟨Pr,F,env,aN,as,r,e1,λvs H1 F1 r1 s1 p1=>?_⟩;split at e2
 ·rename_i xs ys;cases e2;obtain⟨v,w,rfl,p2,v2,w2,rfl,p3,p4⟩:=p1;cases p4;obtain⟨z1,a1,us,rfl,h1,h2⟩:=p2;obtain⟨z2,a2,ws,rfl,h3,h4⟩:=p3;have l1:=h2.length;have l2:=h4.length;refine⟨a1,a2,rfl,⟨us,aW.tupK r1.fr h1⟩,⟨ws,aW.tupK r1.fr h3⟩,q _ H1 F1 r1 s1 λi H2 s2=>⟨λ_ ei=>⟨us,ws,aW.tupK s2 h1,aW.tupK s2 h3,?_⟩,λd hd=>?_⟩⟩
  ·have:(qb xs ys).length=min xs.length ys.length:=by unfold qb;rw[Qqq,List.length_zip]
   omega
  ·unfold qb at hd;rw[Qwx] at hd;obtain⟨⟨c,j⟩,hc,rfl⟩:=Qww.mp hd;obtain⟨g1,g2⟩:=List.getElem?_zip_eq_some.mp hc;obtain⟨v1,k1,k2⟩:=wC h2 g1;obtain⟨v2,k3,k4⟩:=wC h4 g2;refine⟨⟨us,ws,v1,v2,aW.tupK s2 h1,aW.tupK s2 h3,k1,k3⟩,λy H3 hy=>.inr ?_⟩;obtain⟨p,x',y',m1,m2,m3,rfl,rfl⟩:=hy;have n1:=m1 us (aW.tupK s2 h1);have n2:=m2 ws (aW.tupK s2 h3);rw[k1] at n1;rw[k3] at n2;cases n1;cases n2;exact⟨p,_,_,m3,rfl,rfl,rfl,by show 2<=sizeLine;decide,_,_,rfl,k2,_,_,rfl,k4,rfl⟩
 ·cases e2
end
end Ev
namespace L2
open PySem PySem.Spec PyProof.Rows PySem.Builtin
section
variable{X:Cx}
def UL:List V->Hp->VK->Prop:=λxs H Q=>∃b:Bool,xs=[.bl b]/\Q (.int (if b then 1 else 0)) H
theorem Th:iz X (.type "int") UL:=by
 intro pins s σ H vs us Q I r h;obtain⟨b,rfl,q⟩:=h;cases r with
 | cons r rr=>
  cases rr;cases r;exact call_int_bool ⟨.int (if b then 1 else 0),H,I.tok _,⟨_,rfl⟩,q⟩
end
end L2
namespace Ev
open PySem PySem.Spec PyProof.Rows L2 PySem.Builtin
section
variable{X:Cx}{C:Cfg}{pos p:Pos}{e:Expr}{ea:d7}
def Km:List D->Option D
 | [.bl b]=>some (.int (if b then 1 else 0))
 | _=>none
theorem Z3:CallD C UL Km:=by
 intro Pr F env σ H ds d vs Q r hs h q;unfold Km at h;split at h
 ·rename_i b;cases h;obtain⟨v,rfl,hv⟩:=mJ hs;exact⟨b,by rw[hv.bl],q _ H F r (aW.refl F) rfl⟩
 ·cases h
end
open PySem PySem.Spec PyProof.Rows L2
section
variable{X:Cx}{C:Cfg}{pos:Pos}{x y z:Expr}{a b c:Ev}
theorem Zz{K:Fg}{h:Heap}{mg:Str->Option Value}{x:Str}{i:Int}{t:Tok}(X:K.In h)(G:h.Ns mainGlobals mg)(a:PySem.W.nsIn K mainGlobals x=some (some (.int i t))):Glb K mg x (.int i):=
 ⟨.int i,_,PySem.W.mg_of X G a,⟨t,rfl⟩,λF=>rfl⟩
theorem XC{op op':CmpOp}{g g':D->D->Option D}(o:Cm X C op g)(o':Cm X C op' g')(ha:PX X C x a)(hb:PX X C y b)(hc:PX X C z c)(hm:lastMarks [op,op'] [y,z]=false:=by with_unfolding_all rfl):PXT X C (.Compare x [op,op'] [y,z] pos) (dD (xx g g' a b c)):=by
 obtain⟨r,h1,h2⟩:=o.ex;obtain⟨r',h1',h2'⟩:=o'.ex;refine(Vk (pos:=pos) h1 h1' ha hb hc hm).imp λσ H Q' hq'=>?_;have hq:=O3 hq';show Ue r r' (tE C a) (tE C b) (tE C c) σ H _;generalize(λ(z:V) (H':Hp)=>∃b,z = .bl b/\Q' b H')=Q at *;obtain⟨Pr,F,env,env',d,rl,e,q⟩:=hq;obtain⟨u,aN,e1,e2⟩:=aZ e;obtain⟨v,dR,e3,e4⟩:=aZ e2;refine⟨Pr,F,env,aN,u,rl,e1,λvu H1 F1 r1 s1 p1=>⟨Pr,F1,aN,dR,v,r1,e3,λvv H2 F2 r2 s2 p2=>?_⟩⟩;split at e4
 ·rename_i k hg;refine h2 Pr F2 dR σ H2 u v (.bl k) vu vv _ r2 (.inl (Rep.mono s2 _ _ p1)) (.inl p2) hg λvz H3 F3 r3 s3 p3=>⟨k,p3,?_⟩;cases k with
  | false=>
   rw[if_neg Qxx] at e4 ⊢;cases e4;exact q _ H3 F3 r3 ((s1.trans s2).trans s3) rfl
  | true=>
   rw[if_pos rfl] at e4 ⊢;obtain⟨t,KD,e5,e6⟩:=aZ e4;obtain⟨e7,rfl⟩:=fH e6;exact⟨Pr,F3,dR,env',t,r3,e5,λvt H4 F4 r4 s4 p4=>h2' Pr F4 env' σ H4 v t d vv vt Q r4 (.inl (Rep.mono (s3.trans s4) _ _ p2)) (.inl p4) e7 λv' H5 F5 r5 s5 p5=>q v' H5 F5 r5 ((((s1.trans s2).trans s3).trans s4).trans s5) p5⟩
 ·cases e4
end
end Ev
namespace SX
open PySem PySem.Spec PyProof.Rows L2 PySem.Builtin
def led(w:World):Bool:=!(w.params.followText "set-order")
theorem G8(t:SetTable)(n:Nat):(t.orStandIn n).led=t.led/\(t.plain=false->(t.orStandIn n).plain=false):=by
 unfold SetTable.orStandIn;split
 ·exact⟨rfl,id⟩
 ·exact⟨rfl,λ_=>rfl⟩
theorem Ae(t:SetTable)(es:Array (Int×Value))(h:Int)(x:Value):(layNew t es h x).2.1.led=t.led/\(t.plain=false->(layNew t es h x).2.1.plain=false):=by
 unfold layNew;split
 ·exact G8 _ _
 ·exact⟨rfl,λ_=>rfl⟩
theorem wR{mask finger moves:Nat}{l p:Bool}{hs:Array Int}{t:SetTable}{o:Array Nat}(h:SetTable.laid mask finger moves l p hs=some (t,o)):t.led=l/\t.plain=p:=by
 unfold SetTable.laid at h;cases h1:SetTable.layClean mask hs with
 | none=>rw[h1] at h;cases h
 | some ow=>rw[h1] at h;injection h with h;injection h with h _;subst h;exact⟨rfl,rfl⟩
theorem uq(t:SetTable)(es:Array (Int×Value))(n:Nat):(relayAll t es n).2.1.led=t.led/\(t.plain=false->(relayAll t es n).2.1.plain=false):=by
 unfold relayAll;split
 ·rename_i t' order e;obtain⟨h1,h2⟩:=wR e;dsimp only;split
  ·exact⟨h1,λz=>h2.trans z⟩
  ·exact⟨rfl,λ_=>rfl⟩
 ·exact⟨rfl,λ_=>rfl⟩
section
variable{P:Program}{w:World}{A:Around}{E:Value->Shared->Prop}{s:Shared}{a:Addr}
theorem Ar(b:Bool){n:String}{s₁:Shared}{Q:Unit->Shared->Prop}(h:Q () s₁):wpAny (model P w) A (match b with|true=>rule n|false=>pure ()) Q E s₁:=by
 cases b
 ·exact Qq1 h
 ·exact wpAny_rule h
theorem Ac(v:Value){Q:Value->Shared->Prop}(h:Q (.ref s.heap.objs.size) { s with heap:=s.heap.push { cls:=.type "set",dict:=none,data:=.set #[] 0 (.fresh 0 0 (led w)) } }) :
  codeAny (model P w) A (.call (.builtin "set.__new__") ⟨[.type "set",v],[]⟩) (wants Q E) s:=by
 refine codeAny_of_tree ?_;show wpAny _ _ (checkBuiltinCall "set.__new__" ⟨[.type "set",v],[]⟩ >>= λ_=>again (.builtin "set.__new__" ⟨[.type "set",v],[]⟩)) _ _ s;refine Qqx (wpAny_of_eq (PySem.F.newCall_set_1 v) (Qq1 ⟨plainId_quiet PySem.F.plain_set_new _,codeAny_builtin PySem.F.entry_set_new ?_⟩));rw[Around.under_plainId PySem.F.plain_set_new _];unfold Builtin.«set.__new__» Builtin.Frozenset.newClass;have hs:=sub_set_self;obtain⟨_,_,_,_,_⟩:=s;dsimp only
 wp_walk
 refine wpAny_askSetting (Qq1 ?_);dsimp only;simp only[newObj];exact Qqx (wpAny_alloc (Qq1 (Qq1 h)))
def fresh(w:World):Obj:={ cls:=.type "set",dict:=none,data:=.set #[] 0 (.fresh 0 0 (led w)) }
end
open PySem PySem.Spec PyProof.Rows L2 PySem.Builtin Ev
theorem kE{x y:List Nat}(h:Ev.strOf x=Ev.strOf y):x=y:=by
 have:=Qxy (λs:Str=>s.cps.toList) h
 simpa[Ev.strOf] using this
end SX
namespace Ev
open PySem PySem.Spec PyProof.Rows L2 PySem.Builtin
section
variable{X:Cx}{C:Cfg}{pos:Pos}
structure PXL(X:Cx)(C:Cfg)(es:List Expr)(ev:d7):Prop where
 go:Ln X C es ev
theorem Yh:PXL X C [] aj:=⟨Pq⟩
end
open PySem L2
theorem nr{α:Type}{a b:α}(h:a=b):a=b:=h
theorem bR{α β:Type}(a:α)(e:Env)(f:α->Env->R β):bindR (.ok a e) f=f a e:=nr rfl
def jK{α:Type}(_:Env):R α:=.stuck
theorem Wv(xs:List D)(lo hi:Option Int):adw (.tup xs) lo hi=some (.tup (cutD xs lo hi)):=by
 show(if HT.gB xs.length 0 lo=0/\HT.gB xs.length xs.length hi=xs.length then some (D.tup xs) else some (D.tup (cutD xs lo hi)))=_;split
 ·rename_i h;unfold cutD;rw[h.1,h.2];simp
 ·rfl
theorem HD{α:Type}(xs:List α)(k:Nat):cutD xs none (some (k:Int))=xs.take k:=by
 unfold cutD;rw[HT.Pa];have:HT.gB xs.length 0 none=0:=rfl;rw[this,List.drop_zero,Nat.sub_zero];by_cases h:k<=xs.length
 ·rw[Nat.min_eq_left h]
 ·rw[Nat.min_eq_right (by omega),Qkz (Qqw _),Qkz (by omega)]
theorem FZ{α:Type}(xs:List α)(k:Nat):cutD xs (some (k:Int)) none=xs.drop k:=by
 unfold cutD;rw[HT.Pa];have:HT.gB xs.length xs.length none=xs.length:=rfl;rw[this];by_cases h:k<=xs.length
 ·rw[Nat.min_eq_left h];exact Qkz (by rw[Qz2];omega)
 ·rw[Nat.min_eq_right (by omega),List.drop_of_length_le (by omega:xs.length<=k)];simp
theorem af9{α:Type}(p:α->Bool):∀l:List α,ue (l.map λa=>D.bl (p a))=some (l.map p)
 | []=>rfl
 | a::l=>by
  rw[Qq2];unfold ue;rw[af9 p l]
  rfl
theorem aa2{α:Type}(p:α->Bool)(l:List α):Sy [.lst (l.map λa=>D.bl (p a))]=some (.bl (l.all p)):=by show(ue _).map _=_;rw[af9];simp[List.all_map]
theorem abI(n:Nat):jb 0 1 n=(List.range n).map λ(i:Nat)=>D.int (i:Int):=by
 unfold jb;apply Qx4;intro i _
 congr 1
 omega
theorem abR{n:Nat}(h:n<2^62):yp [.int (n:Int)]=some ((List.range n).map λ(i:Nat)=>D.int (i:Int)):=by
 have hf:mL (n:Int)=true:=by unfold mL;simp only[Qjy,decide_eq_true_eq];omega
 show(if mL (n:Int)=true then some (jb 0 1 (n:Int).toNat) else none)=_;rw[if_pos hf,Qzx,abI]
theorem aaZ{α:Type}{g:GV}{c:gK}{e:Ev}(enc:α->D)(ext:α->Env)(p:α->Bool)(out:α->D)(env:Env)(k:Nat):∀(l:List α) (vs:Env),vs.length=k->
  (∀a∈l,(ext a).length=k/\(∀vs:Env,vs.length=k->g (enc a) (env++vs)=some (env++ext a))/\c (env++ext a) = .ok (p a) (env++ext a)/\(p a=true->e (env++ext a) = .ok (out a) (env++ext a)))->
  ∃vs',vs'.length=k/\Ih g c e (l.map enc) (env++vs) = .ok ((l.filter p).map out) (env++vs')
 | [],vs,hv,_=>⟨vs,hv,rfl⟩
 | a::l,vs,hv,h=>by
  obtain⟨h1,h2,h3,h4⟩:=h a Qqk;obtain⟨vs',h5,h6⟩:=aaZ enc ext p out env k l (ext a) h1 λb hb=>h b (Qqj _ hb);refine⟨vs',h5,?_⟩;rw[Qq2];unfold Ih;rw[h2 vs hv];show bindR (c (env++ext a)) _=_;rw[h3,bR];cases hp:p a with
  | true=>rw[if_pos rfl,h4 hp,bR,h6,bR,List.filter_cons_of_pos hp,Qq2]
  | false=>rw[if_neg Qxx,h6,List.filter_cons_of_neg (by rw[hp];exact Qxx)]
theorem CG{α:Type}{lo n:Nat}{it:d7}{g:GV}{c:gK}{e:Ev}{env aN:Env}(l:List α)(enc:α->D)(ext:α->Env)(p:α->Bool)(out:α->D)(hit:it env = .ok (l.map enc) aN)(hlo:aN.length=lo)
  (h:∀a∈l,(ext a).length=n - lo/\(∀vs:Env,vs.length=n - lo->g (enc a) (aN++vs)=some (aN++ext a))/\c (aN++ext a) = .ok (p a) (aN++ext a)/\(p a=true->e (aN++ext a) = .ok (out a) (aN++ext a)))
  (hz:l.length<=sizeLine):dH lo n it g c e env = .ok (.lst ((l.filter p).map out)) aN:=by
 obtain⟨vs',h5,h6⟩:=aaZ enc ext p out aN (n - lo) l (List.replicate (n - lo) none) Qzz h;have:=uA hit hlo h6 (Qq0 (by rw[Qqq];exact List.length_filter_le _ _) hz);rw[this,<-hlo,List.take_left]
theorem N6{α:Type}{lo n:Nat}{it:d7}{e:Ev}{env aN:Env}(l:List α)(enc:α->D)(out:α->D)(hit:it env = .ok (l.map enc) aN)(hlo:aN.length=lo)(hn:n=lo+1)
  (h:∀a∈l,e (aN++[some (false,enc a)]) = .ok (out a) (aN++[some (false,enc a)])) (hz:l.length<=sizeLine):dH lo n it (ak lo) bK e env = .ok (.lst (l.map out)) aN:=by
 subst hn hlo;have:=CG (lo:=aN.length) (n:=aN.length+1) (it:=it) (g:=ak aN.length) (c:=bK) (e:=e) (env:=env) l enc (λa=>[some (false,enc a)]) (λ_=>true) out hit rfl (λa ha=>⟨by simp,λvs hv=>?_,rfl,λ_=>h a ha⟩) hz
 ·rw[this,Qk3.mpr (λ_ _=>rfl)]
 ·have hv:vs.length=1:=by omega
  obtain⟨v,rfl⟩:=List.length_eq_one_iff.mp hv;unfold ak;rw[List.set_append_right _ _ (Qqw _),Nat.sub_self]
  rfl
open PySem PySem.Spec PyProof.Rows L2
section
variable{X:Cx}{C:Cfg}{pos:Pos}{x:Expr}{a:Ev}
def ahM:D->Option Int->Option Int->Option D
 | .str z,lo,hi=>some (.str (cutD z lo hi))
 | .tup xs,lo,hi=>some (.tup (cutD xs lo hi))
 | .lst xs,lo,hi=>some (.lst (cutD xs lo hi))
 | .arr xs,lo,hi=>some (.lst (cutD xs lo hi))
 | _,_,_=>none
def pU(a:Ev)(lo hi:Xm):Ev:=λenv=>bindR (a env) λd aN=>bindR (lo aN) λl dR=>bindR (hi dR) λu KD=>gC (ahM d l u) KD
theorem aeu{lo hi:Option Expr}{el eh:Xm}{p2:Pos}(G:Good X C)(ha:PX X C x a)(hl:PXP X C lo el)(hh:PXP X C hi eh):PX X C (.Subscript x (.Slice lo hi none p2) pos) (pU a el eh):=by
 have h:=JD (pos:=pos) (p2:=p2) (QL.or (QL.or O7 Mx) (QL.or (QL.or Mx Uk) abL)) ha hl hh;rw[G.K] at h;refine h.imp λσ H Q hq=>?_;obtain⟨Pr,F,env,env',d,r,e,q⟩:=hq;obtain⟨x,aN,e1,e2⟩:=aZ e;obtain⟨l,dR,e3,e4⟩:=aZ e2;obtain⟨u,KD,e5,e6⟩:=aZ e4;obtain⟨e7,rfl⟩:=fH e6;refine⟨Pr,F,env,aN,x,r,e1,λv H1 F1 r1 s1 p1=>⟨Pr,F1,aN,dR,l,r1,e3,λH2 F2 r2 s2=>⟨Pr,F2,dR,env',u,r2,e5,λH3 F3 r3 s3=>?_⟩⟩⟩;have p3:=Rep.mono (s2.trans s3) _ _ p1;have q3:∀v H' F',Rel C Pr F' env' σ H'->aW F3 F'->Rep C.K F' d v->Q v H':=λv H' F' r' s' p'=>q v H' F' r' (((s1.trans s2).trans s3).trans s') p';cases x with
 | str z=>
  cases e7;obtain⟨rfl,hz⟩:=p1;exact .inr (.inr ⟨z,rfl,hz,q3 _ H3 F3 r3 (aW.refl _) ⟨rfl,Qq0 (WT _ _ _) hz⟩⟩)
 | tup xs=>
  exact .inr (.inl (abM r3 p3 (by rw[Wv];exact e7) q3))
 | lst xs=>exact .inl (Ul r3 (.inl p3) e7 q3)
 | arr xs=>exact .inl (Ul r3 (.inl p3) e7 q3)
 | _=>cases e7
end
structure SX(X:Cx)(C:Cfg)(e:Expr)(ev:Ev):Prop where
 u:Ev.PX X C e ev
structure QR(X:Cx)(C:Cfg)(e:Expr)(ev:Ev):Prop where
 u:Ev.QT X C e ev
structure Tz(X:Cx)(C:Cfg)(e:Expr)(ev:Ev):Prop where
 u:Ev.QS X C e ev
structure QM(X:Cx)(C:Cfg)(e:Expr)(ev:gK):Prop where
 u:Ev.PXT X C e ev
structure SXW(X:Cx)(C:Cfg)(e:Expr)(ev:gK):Prop where
 u:Ev.PXW X C e ev
structure Om(X:Cx)(C:Cfg)(e:List Expr)(ev:d7):Prop where
 u:Ev.Ln X C e ev
structure xK(X:Cx)(C:Cfg)(e:List Expr)(ev:d7):Prop where
 u:Ev.aal X C e ev
structure SXL(X:Cx)(C:Cfg)(e:List Expr)(ev:d7):Prop where
 u:Ev.PXL X C e ev
structure Lk(X:Cx)(C:Cfg)(e:Stmt)(ev:bO):Prop where
 u:Ev.Xi X C e ev
structure gj(X:Cx)(C:Cfg)(e:List Stmt)(ev:bO):Prop where
 u:Ev.Ek X C e ev
structure aae(X:Cx)(C:Cfg)(e:List Expr)(ev:gK):Prop where
 u:Ev.Tt X C e ev
structure SXP(X:Cx)(C:Cfg)(e:Option Expr)(ev:Xm):Prop where
 u:Ev.PXP X C e ev
structure SXI(X:Cx)(C:Cfg)(tg e:Expr)(ev:d7):Prop where
 u:Ev.TF X C tg e ev
structure SXG(X:Cx)(C:Cfg)(lo:Nat)(e:Expr)(ev:GV):Prop where
 u:Ev.PXG X C lo e ev
structure aag(X:Cx)(C:Cfg)(lo:Nat)(e:List Expr)(ev:Xo):Prop where
 u:Ev.aea X C lo e ev
section
variable{X:Cx}{C:Cfg}{pos p px:Pos}{x y z:Expr}{a b c:Ev}{t u:gK}{i:Nat}{n:Str}{e:Expr}{es:List Expr}{ea:d7}{apos:Pos}{e2:Expr}
theorem aD{e:Expr}{es:List Expr}{a:Ev}{r:d7}(ha:SX X C e a)(hr:Om X C es r)(hs:starEach (e::es) X.env=(false,eval e X.env)::starEach es X.env:=by rfl):Om X C (e::es) (aa a r):=⟨Ev.Jz ha.u hr.u hs⟩
theorem bu(i:Nat)(hN:X.N[i]? = some n:=by rfl)(hv:uK X.env.scope n:=by first|exact Or.inl rfl|exact Or.inr (Or.inl rfl)|exact Or.inr (Or.inr rfl))(hd:nH n:=by decide)(hcd:vB n:=by decide):SX X C (.Name n pos) (aL i):=⟨abW i hN hv hd hcd⟩
theorem eG{X:Cx}{C:Cfg}{n:Str}{pos:Pos}{es:List Expr}{r:d7}(i:Nat)(hr:Om X C es r)(hN:X.N[i]? = some n:=by rfl)(hv:uK X.env.scope n:=by first|exact Or.inl rfl|exact Or.inr (Or.inl rfl)|exact Or.inr (Or.inr rfl))(hd:nH n:=by decide)(hcd:vB n:=by decide)(hs:starEach (.Name n pos::es) X.env=(false,eval (.Name n pos) X.env)::starEach es X.env:=by rfl):Om X C (.Name n pos::es) (aa (aL i) r):=aD (bu i hN hv hd hcd) hr hs
theorem az  : Om X C [] aj:=⟨Ev.Pq ⟩
theorem aY{e:Expr}{ev:Ev}(h:SX X C e ev):QR X C e ev:=⟨Ev.PX.b h.u⟩
theorem aQ{i:Int}{j:Nat}:SX X C (.Constant (.int i) j pos) (zc (.int i)):=⟨Ev.ab3 ⟩
theorem aq{st:Stmt}{rest:List Stmt}{a b:bO}(h1:Lk X C st a)(h2:gj X C rest b):gj X C (st::rest) (aF a b):=⟨(Vl h1.u h2.u).imp λD σ H h=>by
 obtain⟨Pr,F,env,r,f⟩:=h;refine⟨Pr,F,env,r,?_⟩;unfold aF at f;cases e:a env with
 | nx e1=>rw[e] at f;exact λσ' H' F' r' s'=>⟨Pr,F',e1,r',f.mono s'⟩
 | rt o d e1=>rw[e] at f;cases o<;>exact f
 | bk e1=>rw[e] at f;exact f
 | ct e1=>rw[e] at f;exact f
 | stuck=>rw[e] at f;exact f⟩
theorem aG{st:Stmt}{a:bO}(h1:Lk X C st a):gj X C [st] a:=⟨Ym h1.u⟩
theorem aK{lo:Nat}(i:Nat)(hnd:o6 X.N=true:=by rfl)(hlo:Nat.ble lo i=true:=by rfl)(hfx:C.fx i=none:=by rfl)(hi:X.N[i]? = some n:=by rfl)(hx:Loc X.env.scope n:=by first|exact Or.inl rfl|exact Or.inr rfl)(hf:X.fn n=true\/X.env.scope.names.lookup n=some .local:=by first|exact .inl rfl|exact .inr rfl):SXG X C lo (.Name n pos) (ak i):=⟨Vd (kJ hnd) hi hx (Qkv hlo) hfx hf⟩
theorem cO(z:List Nat){x:Str}{j:Nat}(hz:x=strOf z:=by decide +kernel)(hl:z.length<=sizeLine:=by decide):SX X C (.Constant (.str x) j pos) (zc (.str z)):=⟨Ev.abX z hz hl⟩
theorem bH(i:Nat)(hN:X.N[i]? = some n:=by rfl)(hv:uK X.env.scope n:=by first|exact Or.inl rfl|exact Or.inr (Or.inl rfl)|exact Or.inr (Or.inr rfl))(hd:nH n:=by decide)(hcd:vB n:=by decide):QR X C (.Name n pos) (aO i):=⟨Yk i hN hv hd hcd⟩
theorem cD{pos':Pos}(i:Nat)(he:SX X C e a)(hnd:o6 X.N=true:=by rfl)(hfx:C.fx i=none:=by rfl)(hi:X.N[i]? = some n:=by rfl)(hx:Loc X.env.scope n:=by first|exact Or.inl rfl|exact Or.inr rfl)(hs:swapsWith e (some (.Name n pos')) pos.line X.env=pure false:=by rfl)(hf:X.fn n=true\/X.env.scope.names.lookup n=some .local:=by first|exact .inl rfl|exact .inr rfl):Lk X C (.Assign [.Name n pos'] e pos) (aX a (ak i)):=⟨Yb (kJ hnd) hi hx hfx he.u hs hf⟩
theorem bj{e:Expr}{a:Ev}(h:SX X C e a):Lk X C (.Return (some e) pos) (bD a):=⟨(Vp h.u).imp λD σ H hq=>by
 obtain⟨Pr,F,env,r,f⟩:=hq;obtain⟨d,aN,e1,f1⟩:=eQ f;exact⟨Pr,F,env,aN,d,r,e1,λv H1 F1 r1 s1 p1=>f1 v σ H1 F1 r1 s1 p1⟩⟩
theorem aP{e:Expr}{a:Ev}(h:QR X C e a)(hs:Ig e X.env:=by rfl):xK X C [e] (aa a aj):=⟨(jL h.u rA hs).imp λσ H Q hq=>by
 obtain⟨Pr,F,env,env',ds,rl,e,q⟩:=hq;obtain⟨d1,aN,e1,e2⟩:=aZ e;cases e2;exact⟨Pr,F,env,env',d1,rl,e1,λv H1 F1 r1 s1 p1=>q _ H1 F1 r1 s1 ⟨v,[],rfl,p1,rfl⟩⟩⟩
theorem cC{k k':Nat}{m:Nat}{ps:List Str}{g:List D->Option D}(O:Own X.prog X.w X.K X.mg X.base n k ps (qu X.K m g))(G:Good X C)(hr:jy k' X.A)(ha:Om X C (e::es) ea)(hn:∀env ds env',ea env = .ok ds env'->ds.length=m)(hk:Nat.ble k k'=true:=by rfl)(hg:Gl X n:=by rfl)(hdb:nH n:=by decide)(he:starEach (e::es) X.env=(false,eval e X.env)::starEach es X.env:=by rfl)(hpl:(backTo pos (starEach es X.env)).any (·.1)=false:=by rfl):SX X C (.Call (.Name n p) (e::es) [] pos) (ao g ea):=⟨Ev.aev O G hr hk ha.u hn hg hdb he hpl⟩
theorem bV{es:List Expr}{r:d7}{k:Nat}(h:Om X C es r):SX X C (.Tuple es k pos) (bJ r):=⟨(acf h.u).imp λσ H Q hq=>by
 obtain⟨Pr,F,env,env',d,rl,e,q⟩:=hq;obtain⟨ds,aN,e1,e2⟩:=aZ e;split at e2
 ·rename_i hz;cases e2;refine⟨Pr,F,env,env',ds,rl,e1,λvs H1 F1 r1 s1 p1=>⟨by rw[p1.length];exact hz,λp hp=>?_⟩⟩;obtain⟨r2,s2⟩:=r1.new (o:=.tup vs) hp;exact q _ _ _ r2 (s1.trans s2) ⟨hz,p,vs,rfl,oE.of bf,bL.mono s2 _ _ p1⟩
 ·cases e2⟩
theorem aC{lo:Nat}{e:Expr}{es:List Expr}{g:GV}{gs:Xo}(h1:SXG X C lo e g)(h2:aag X C lo es gs)(hs:(assignEach (e::es) X.env).map (·.2)=assign e X.env::(assignEach es X.env).map (·.2):=by rfl):aag X C lo (e::es) (aA g gs):=⟨(Vx h1.u h2.u hs).imp λv σ H Q h=>by
 obtain⟨Pr,F,env,env',ds,r,p,e,q⟩:=h;cases ds with
 | nil=>cases e
 | cons d ds=>
  obtain⟨u,w,rfl,p1,p2⟩:=p;obtain⟨aN,e1,e2⟩:=Qx6.mp e;refine⟨u,w,rfl,Pr,F,env,aN,d,r,p1,e1,λσ1 H1 F1 r1 s1 t1=>?_⟩;exact⟨Pr,F1,aN,env',ds,r1,bL.mono s1 _ _ p2,e2,λσ2 H2 F2 r2 s2 t2=>q σ2 H2 F2 r2 (s1.trans s2) (t2.trans t1)⟩⟩
theorem cL{e:Expr}{ev:Ev}(h:Tz X C e ev):SX X C e ev:=⟨Ev.QS.px h.u⟩
theorem bW(i:Nat)(G:Good X C)(hb:QR X C y b)(hN:X.N[i]? = some n:=by rfl)(hv:uK X.env.scope n:=by first|exact Or.inl rfl|exact Or.inr (Or.inl rfl)|exact Or.inr (Or.inr rfl))(hs:xN y:=by intro _ _;rfl)(hd:nH n:=by decide)(hcd:vB n:=by decide):SX X C (.Subscript (.Name n px) y pos) (au cU i b):=⟨ab1 i G.K hN hv hb.u hs hd hcd⟩
theorem kh{k k':Nat}{m:Nat}{ps:List Str}{g:List D->Option (D×D)}{v:Str}{pv:Pos}(i:Nat)(O:Own X.prog X.w X.K X.mg X.base n k ps (vX X.K m g))(G:Good X C)(hr:jy k' X.A)(ha:Om X C es ea)(hn:∀env ds env',ea env = .ok ds env'->ds.length+1=m)(hk:Nat.ble k k'=true:=by rfl)(hN:X.N[i]? = some v:=by rfl)(hv:uK X.env.scope v:=by first|exact Or.inl rfl|exact Or.inr (Or.inl rfl)|exact Or.inr (Or.inr rfl))(hg:Gl X n:=by rfl)(hdb:nH n:=by decide)(he:starEach (.Name v pv::es) X.env=(false,eval (.Name v pv) X.env)::starEach es X.env:=by rfl)(hpl:(backTo pos (starEach es X.env)).any (·.1)=false:=by rfl)(hd:nH v:=by decide)(hcd:vB v:=by decide):SX X C (.Call (.Name n p) (.Name v pv::es) [] pos) (eU g i ea):=⟨Ev.agQ i O G hr hk ha.u hn hN hv hg hdb he hpl hd hcd⟩
theorem iZ{op:Operator}{g:D->D->Option D}(o:Bi X C op g)(ha:SX X C x a)(hb:QR X C y b):SX X C (.BinOp x op y pos) (aR g a b):=⟨let ⟨_,h1,h2⟩:=o.ex;ae7 h1 h2 ha.u hb.u⟩
theorem oK{e:Expr}{es:List Expr}{a:Ev}{r:d7}(ha:SX X C e a)(hr:SXL X C es r)(hs:starEach (e::es) X.env=(false,eval e X.env)::starEach es X.env:=by rfl):SXL X C (e::es) (aa a r):=⟨⟨Ev.Jz ha.u hr.u.go hs⟩⟩
theorem jl{op:Operator}{g:D->D->Option D}(i:Nat)(o:Bi X C op g)(hb:QR X C y b)(hN:X.N[i]? = some n:=by rfl)(hv:uK X.env.scope n:=by first|exact Or.inl rfl|exact Or.inr (Or.inl rfl)|exact Or.inr (Or.inr rfl))(hd:nH n:=by decide)(hcd:vB n:=by decide):SX X C (.BinOp (.Name n px) op y pos) (au g i b):=⟨let ⟨_,h1,h2⟩:=o.ex;abZ i hN hv h1 h2 hb.u hd hcd⟩
theorem du{c:Expr}{a b:List Stmt}{t:gK}{ea eb:bO}(hc:QM X C c t)(ha:gj X C a ea)(hb:gj X C b eb):Lk X C (.If c a b pos) (gr t ea eb):=⟨(afc hc.u ha.u hb.u).imp λD σ H h=>by
 obtain⟨Pr,F,env,r,f⟩:=h;obtain⟨k,aN,e1,f1⟩:=eQ f;refine⟨Pr,F,env,aN,k,r,e1,λH1 F1 r1 s1=>?_⟩;split at f1
 ·rename_i hk;rw[if_pos hk];exact⟨Pr,F1,aN,r1,f1.mono s1⟩
 ·rename_i hk;rw[if_neg hk];exact⟨Pr,F1,aN,r1,f1.mono s1⟩⟩
theorem cN{es:List Expr}{r:d7}(h:Om X C es r):Tz X C (.List es pos) (bT r):=⟨Ev.Pn h.u⟩
theorem cA  : gj X C [] cM:=⟨Ev.U5 ⟩
theorem dG{tg:Expr}(G:Good X C)(h:SX X C x a):SXI X C tg x (dB a):=⟨Yi G.K h.u⟩
theorem o4{b:Bool}{j:Nat}:SX X C (.Constant (.bool b) j pos) (zc (.bl b)):=⟨Ev.afa ⟩
theorem lH{elt tg iter:Expr}{ifs:List Expr}{scope:Scope}(N':List Str){it:d7}{g:GV}{cc:gK}{ee:Ev}(lo:Nat)(ok:pC X scope N')(G:Good X C)(hi:SXI X C tg iter it)(bg:∀X',lR X scope N' X'->SXG X' C lo tg g)(bc:∀X',lR X scope N' X'->aae X' C ifs cc)(be:∀X',lR X scope N' X'->SX X' C elt ee)(hs:∀x,foldedSetIterable iter X.env x=pure x:=by intro _;rfl):Tz X C (.ListComp elt [⟨tg,iter,ifs,0⟩] scope pos) (dH lo N'.length it g cc ee):=⟨Ev.ahk N' lo ok G hi.u (λX1 h1=>(bg X1 h1).u) (λX1 h1=>(bc X1 h1).u) (λX1 h1=>(be X1 h1).u) hs⟩
theorem dg(G:Good X C)(hm:X.mg "len" = none)(ha:xK X C [e] ea)(hg:Gl X "len":=by rfl)(he:Ig e X.env:=by rfl):SX X C (.Call (.Name "len" p) [e] [] pos) (ao cz ea):=⟨oZ (by rw[<-G.K];exact W4) adW hg hm PySem.boot_len ha.u (by decide) (by decide) he rfl⟩
theorem eV{e:Expr}{a:Ev}(h:SX X C e a)(he:∀whole,isTrue e X.env whole=(do let v <-whole;standAt e.pos;holding [v] (truthy v)):=by intro _;rfl):QM X C e (dD a):=⟨(ab5 h.u he).imp λσ H Q hq=>O3 hq⟩
theorem bz{lo:Nat}:aag X C lo [] bF:=⟨Ev.Vc ⟩
theorem cJ{lo:Nat}{k:Nat}{gs:Xo}{m:Nat}(G:Good X C)(h:aag X C lo es gs)(hn:(assignEach es X.env).length=m:=by rfl)(hst:(assignEach es X.env).findIdx? (·.1)=none:=by rfl):SXG X C lo (.Tuple es k pos) (bB m gs):=⟨Yj G.calm G.K h.u hn hst⟩
theorem cQ{X:Cx}{C:Cfg}:aae X C [] bK:=⟨Ev.Vb ⟩
theorem gW{tg iter:Expr}{body:List Stmt}{it:d7}{g:GV}{bs:bO}(G:Good X C)(hi:SXI X C tg iter it)(hg:SXG X C 0 tg g)(hb:gj X C body bs)(hp:PassesOwn (model X.prog X.w) X.A X.env X.xe:=by exact PassesOwn.never)(hs:∀x,foldedSetIterable iter X.env x=pure x:=by intro _;rfl):Lk X C (.For tg iter body [] pos) (eE it g bs):=⟨Yd hp G.calm hi.u hg.u hb.u hs⟩
theorem jT{op:CmpOp}{g:D->D->Option D}(o:Cm X C op g)(ha:SX X C x a)(hb:QR X C y b)(hm:behindInMarks op y=false:=by rfl):QM X C (.Compare x [op] [y] pos) (dD (aR g a b)):=⟨let ⟨_,h1,h2⟩:=o.ex;X8 h1 h2 ha.u hb.u hm⟩
theorem gV{pos':Pos}(i:Nat)(he:Tz X C e a)(hnd:o6 X.N=true:=by rfl)(hfx:C.fx i=none:=by rfl)(hi:X.N[i]? = some n:=by rfl)(hx:Loc X.env.scope n:=by first|exact Or.inl rfl|exact Or.inr rfl)(hs:swapsWith e (some (.Name n pos')) pos.line X.env=pure false:=by rfl)(hf:X.fn n=true\/X.env.scope.names.lookup n=some .local:=by first|exact .inl rfl|exact .inr rfl):Lk X C (.Assign [.Name n pos'] e pos) (cI i a):=⟨Yc (kJ hnd) hi hx hfx he.u hs hf⟩
theorem d9(G:Good X C)(hm:X.mg "tuple" = none)(ha:xK X C [e] ea)(hg:Gl X "tuple":=by rfl)(he:Ig e X.env:=by rfl):SX X C (.Call (.Name "tuple" p) [e] [] pos) (ao bZ ea):=⟨ur (T:="tuple") (r:=Ux C.K) (by rw[<-G.K];exact Ef) W2 hg hm (by decide +kernel) ha.u (by decide) (by decide) he rfl⟩
theorem sH(G:Good X C)(ha:SX X C x a)(hb:QR X C y b)(hs:xN y:=by intro _ _;rfl):SX X C (.Subscript x y pos) (aR cU a b):=⟨ae8 G.K ha.u hb.u hs⟩
theorem iB{op:CmpOp}{g:D->D->Option D}(i:Nat)(o:Cm X C op g)(hb:QR X C y b)(hN:X.N[i]? = some n:=by rfl)(hv:uK X.env.scope n:=by first|exact Or.inl rfl|exact Or.inr (Or.inl rfl)|exact Or.inr (Or.inr rfl))(hm:behindInMarks op y=false:=by rfl)(hd:nH n:=by decide)(hcd:vB n:=by decide):QM X C (.Compare (.Name n px) [op] [y] pos) (dD (au g i b)):=⟨Ev.abz i o hb.u hN hv hm hd hcd⟩
theorem eY{tg e:Expr}{a:Ev}{g:GV}(he:SX X C e a)(hg:SXG X C 0 tg g)(hs:swapsWithSole [tg] e pos.line X.env=pure false:=by rfl)(hw:swappedStores [tg] e X.env=pure none:=by rfl)(h1:(assignEach [tg] X.env).map (·.2)=[assign tg X.env]:=by rfl):Lk X C (.Assign [tg] e pos) (aX a g):=⟨(ab9 he.u hg.u hs hw h1).imp λD σ H h=>ad0 h⟩
theorem kI{e:Expr}{a:Ev}(h:SX X C e a):SXP X C (some e) (yM a):=⟨(Yr h.u).imp λσ H Q hq=>by
 obtain⟨Pr,F,env,env',o,r,e,q⟩:=hq;obtain⟨d,aN,e1,e2⟩:=aZ e;refine⟨Pr,F,env,aN,d,r,e1,λv H1 F1 r1 s1 p1=>?_⟩;cases d with
 | int i=>cases e2;exact⟨i,p1,q H1 F1 r1 s1⟩
 | _=>cases e2⟩
theorem iJ{x:Expr}{a:gK}(h:QM X C x a):QM X C (.UnaryOp .Not x pos) (jX a):=⟨(ab6 h.u).imp λσ H Q hq=>by
 obtain⟨Pr,F,env,env',b,rl,e,q⟩:=hq;obtain⟨c,aN,e1,e2⟩:=aZ e;cases e2;exact⟨Pr,F,env,env',c,rl,e1,λH1 F1 r1 s1=>q H1 F1 r1 s1⟩⟩
theorem oF{e:Expr}{a:gK}(h:SXW X C e a):QM X C e a:=⟨Ev.PXW.pt h.u⟩
theorem rF{tg:Expr}(hm:X.mg "range" = none)(ha:Om X C [e] ea)(hl:∀env ds env',ea env = .ok ds env'->ds.length=1)(hg:Gl X "range":=by rfl)(hs:starEach [e] X.env=[(false,eval e X.env)]:=by rfl):SXI X C tg (.Call (.Name "range" p) [e] [] pos) (ju ea):=⟨M7 hg hm ha.u hl hs⟩
theorem uo{op:CmpOp}{g:D->D->Option D}(i:Nat)(o:Cm X C op g)(hb:QR X C y b)(hN:X.N[i]? = some n:=by rfl)(hv:uK X.env.scope n:=by first|exact Or.inl rfl|exact Or.inr (Or.inl rfl)|exact Or.inr (Or.inr rfl))(hm:behindInMarks op y=false:=by rfl)(hd:nH n:=by decide)(hcd:vB n:=by decide):SX X C (.Compare (.Name n px) [op] [y] pos) (au g i b):=⟨Ev.abp i o hb.u hN hv hm hd hcd⟩
theorem Pu{j:Nat}:SX X C (.Constant .none j pos) (zc .non):=⟨Ev.ab0 ⟩
theorem vq{e:Expr}{es:List Expr}{a:Ev}{r:d7}(ha:SX X C e a)(hr:xK X C es r)(hs:starEach (e::es) X.env=(false,eval e X.env)::starEach es X.env:=by rfl):xK X C (e::es) (aa a r):=⟨(jL ha.u hr.u hs).imp λσ H Q h=>by
  obtain⟨Pr,F,env,env',ds,rl,e,q⟩:=h;obtain⟨d1,aN,e1,e2⟩:=aZ e;obtain⟨ds2,dR,e3,e4⟩:=aZ e2;cases e4;refine⟨Pr,F,env,aN,d1,rl,e1,λv H1 F1 r1 s1 p1=>?_⟩;refine⟨Pr,F1,aN,env',ds2,r1,e3,λvs H2 F2 r2 s2 p2=>?_⟩;exact q _ H2 F2 r2 (s1.trans s2) ⟨v,vs,rfl,.inl (Rep.mono s2 d1 v p1),p2⟩⟩
theorem Ab{op:BoolOp}{x:Expr}{a:Ev}(h:SX X C x a):SX X C (.BoolOp op [x] pos) a:=⟨M9 h.u⟩
theorem lD{apos cpos:Pos}(i:Nat)(G:Good X C)(he:SX X C e a)(hN:X.N[i]? = some n:=by rfl)(hv:uK X.env.scope n:=by first|exact Or.inl rfl|exact Or.inr (Or.inl rfl)|exact Or.inr (Or.inr rfl))(hs:swapsWith (.Call (.Attribute (.Name n px) "append" apos) [e] [] cpos) none pos.line X.env=pure false:=by rfl) (hfew:((backTo cpos (starEach [e] X.env)).all (λx=>!x.1)&&(backToKw cpos (keywordEach [] X.env)).all (λx=>x.1.isSome)
   && decide (([e]:List Expr).length+([]:List Keyword).length+(if ([]:List Keyword).isEmpty then 0 else 1)<30))=true:=by rfl) (hbase:attributeBase (.Name n px) "append" X.env (eval (.Name n px) X.env)=eval (.Name n px) X.env:=by rfl) (hline:(apos.endLine == cpos.line)=true:=by rfl) (hst:Ig e X.env:=by rfl) (hplain:(backTo cpos (starEach [] X.env)).any (·.1)=false:=by rfl) (hd:nH n:=by decide) (hcd:vB n:=by decide):Lk X C (.Expr (.Call (.Attribute (.Name n px) "append" apos) [e] [] cpos) pos) (dJ i a):=⟨Ye hN hv he.u G.K hs hfew hbase hline hst hplain hd hcd⟩
theorem oJ  : SXP X C none n6:=⟨Ev.U7 ⟩
theorem G5{x y:Expr}{rest:List Expr}{a b:Ev}(ha:SX X C x a)(hb:SX X C (.BoolOp .And (y::rest) pos) b):SX X C (.BoolOp .And (x::y::rest) pos) (FP a b):=⟨(ack ha.u hb.u).imp λσ H Q hq=>by
  obtain⟨Pr,F,env,env',k,rl,e,q⟩:=hq;obtain⟨c,aN,e1,e2⟩:=aZ e;refine⟨Pr,F,env,aN,c,rl,e1,λv H1 F1 r1 s1 p1=>?_⟩;cases c with
  | bl z=>
   refine⟨z,p1,?_⟩;cases z with
   | true=>exact afM ⟨Pr,F1,aN,env',k,r1,e2,λv2 H2 F2 r2 s2 p2=>q v2 H2 F2 r2 (s1.trans s2) p2⟩
   | false=>cases e2;exact afN (q _ H1 F1 r1 s1 rfl)
  | _=>cases e2⟩
theorem mO{x y:Expr}{rest:List Expr}{a b:gK}(ha:QM X C x a)(hb:SXW X C (.BoolOp .Or (y::rest) pos) b):SXW X C (.BoolOp .Or (x::y::rest) pos) (qK a b):=⟨(pw_or ha.u hb.u).imp λσ H Q hq=>by
  obtain⟨Pr,F,env,env',k,rl,e,q⟩:=hq;obtain⟨c,aN,e1,e2⟩:=aZ e;refine⟨Pr,F,env,aN,c,rl,e1,λH1 F1 r1 s1=>?_⟩;split at e2
  ·rename_i hc;rw[if_pos hc];cases e2;exact q H1 F1 r1 s1
  ·rename_i hc;rw[if_neg hc];exact⟨Pr,F1,aN,env',k,r1,e2,λH2 F2 r2 s2=>q H2 F2 r2 (s1.trans s2)⟩⟩
theorem T6(G:Good X C)(hm:X.mg "all" = none)(ha:xK X C [e] ea)(hg:Gl X "all":=by rfl)(he:Ig e X.env:=by rfl):SX X C (.Call (.Name "all" p) [e] [] pos) (ao Sy ea):=⟨oZ (by rw[<-G.K];exact Tj G.calm) adX hg hm (by decide +kernel) ha.u (by decide) (by decide) he rfl⟩
theorem qD{x:Expr}{a:gK}(h:QM X C x a):SXW X C (.BoolOp .Or [x] pos) a:=⟨pw_or1 h.u⟩
theorem pK{T:String}{xT:Str}{e:Expr}{a:Ev}{p q pos:Pos}(hg:Gl X "isinstance")(hm:X.mg "isinstance" = none)(hgT:Gl X xT)(hmT:X.mg xT=none)(hvT:bootBuiltins xT=some (.type T))(hk:∀d:D,PySem.W.kitOne X.K (.type (OJ d)) (.type T)=some (pO d T))(hK:X.K=C.K)(ha:SX X C e a)(hn:xT ≠ "__name__":=by decide)(hd:nH xT:=by decide)(he:starEach [e,.Name xT q] X.env=(false,eval e X.env)::starEach [.Name xT q] X.env:=by rfl):SX X C (.Call (.Name "isinstance" p) [e,.Name xT q] [] pos) (nW (zV T) a):=⟨Ev.ab2 hg hm hgT hmT hvT hk hK ha.u hn hd he⟩
theorem yt{X:Cx}{C:Cfg}{c:Expr}{t:gK}(h:QM X C c t):aae X C [c] t:=⟨Yt h.u⟩
theorem ac0{k k':Nat}{m:Nat}{ps:List Str}{g:List D->Option D}(O:Own X.prog X.w X.K X.mg X.base n k ps (spN X.K m g))(G:Good X C)(hr:jy k' X.A)(ha:Om X C (e::es) ea)(hn:∀env ds env',ea env = .ok ds env'->ds.length=m)(hk:Nat.ble k k'=true:=by rfl)(hg:Gl X n:=by rfl)(hdb:nH n:=by decide)(he:starEach (e::es) X.env=(false,eval e X.env)::starEach es X.env:=by rfl)(hpl:(backTo pos (starEach es X.env)).any (·.1)=false:=by rfl):Tz X C (.Call (.Name n p) (e::es) [] pos) (ao g ea):=⟨Ev.afA O G hr hk ha.u hn hg hdb he hpl⟩
theorem wF{x y:Expr}{rest:List Expr}{a b:gK}(ha:QM X C x a)(hb:SXW X C (.BoolOp .And (y::rest) pos) b):SXW X C (.BoolOp .And (x::y::rest) pos) (ik a b):=⟨(pw_and ha.u hb.u).imp λσ H Q hq=>by
  obtain⟨Pr,F,env,env',k,rl,e,q⟩:=hq;obtain⟨c,aN,e1,e2⟩:=aZ e;refine⟨Pr,F,env,aN,c,rl,e1,λH1 F1 r1 s1=>?_⟩;split at e2
  ·rename_i hc;rw[if_pos hc];exact⟨Pr,F1,aN,env',k,r1,e2,λH2 F2 r2 s2=>q H2 F2 r2 (s1.trans s2)⟩
  ·rename_i hc;rw[if_neg hc];cases e2;exact q H1 F1 r1 s1⟩
theorem Bs{x:Str}{v:V}{u:Value}(d:D)(hg:Gl X x)(hm:X.mg x=some u)(rv:RelV v u)(hr:∀F,Rep C.K F d v)(hd:nH x:=by decide):SX X C (.Name x pos) (zc d):=⟨(Yx hg hm rv hd).imp λσ H Q h=>by
  obtain⟨Pr,F,env,env',d,r,e,q⟩:=h;cases e;exact q _ _ F r (aW.refl F) (hr F)⟩
theorem Ox{o:Expr}{apos cpos:Pos}(G:Good X C)(ho:SX X C o a)(he:QR X C e b)(hbase:attributeBase o "join" X.env (eval o X.env)=eval o X.env:=by rfl)(hs:Ig e X.env:=by rfl) (hfew:((backTo cpos (starEach [e] X.env)).all (λx=>!x.1)&&(backToKw cpos (keywordEach [] X.env)).all (λx=>x.1.isSome)
   && decide ([e].length+([]:List Keyword).length+(if ([]:List Keyword).isEmpty then 0 else 1)<30))=true:=by rfl) (hline:(apos.endLine == cpos.line)=true:=by rfl) (hplain:(backTo cpos (starEach [] X.env)).any (·.1)=false:=by rfl):SX X C (.Call (.Attribute o "join" apos) [e] [] cpos) (aR rW a b):=⟨Yl G.K ho.u he.u hbase hs hfew hline hplain⟩
theorem aaA{lo hi:Option Expr}{el eh:Xm}{p2:Pos}(G:Good X C)(ha:SX X C x a)(hl:SXP X C lo el)(hh:SXP X C hi eh):SX X C (.Subscript x (.Slice lo hi none p2) pos) (zW a el eh):=⟨ae6 G.K ha.u hl.u hh.u⟩
theorem yr{x:Expr}{a:gK}(h:QM X C x a):SXW X C (.BoolOp .And [x] pos) a:=⟨pw_and1 h.u⟩
theorem LQ{op:CmpOp}{g:D->D->Option D}(o:Cm X C op g)(ha:SX X C x a)(hb:QR X C y b)(hm:behindInMarks op y=false:=by rfl):SX X C (.Compare x [op] [y] pos) (aR g a b):=⟨let ⟨_,h1,h2⟩:=o.ex;ab4 h1 h2 ha.u hb.u hm⟩
theorem Va  : SXL X C [] aj:=⟨Ev.Yh ⟩
theorem Y4{es:List Expr}{a:d7}(h:SXL X C es a):Tz X C (.List es pos) (bT a):=⟨Ev.Pn h.u.go⟩
theorem Io(i:Nat)(G:Good X C)(hb:QR X C y b)(hN:X.N[i]? = some n:=by rfl)(hv:uK X.env.scope n:=by first|exact Or.inl rfl|exact Or.inr (Or.inl rfl)|exact Or.inr (Or.inr rfl))(hs:Oo y:=by intro _ _;rfl)(hd:nH n:=by decide)(hcd:vB n:=by decide):SX X C (.Subscript (.Name n px) y pos) (au jD i b):=⟨Vf i G.u1 hN hv hb.u hs hd hcd⟩
theorem abn{e2:Expr}(G:Good X C)(hm:X.mg "max" = none)(ha:xK X C [e,e2] ea)(hg:Gl X "max":=by rfl)(he:starEach [e,e2] X.env=(false,eval e X.env)::starEach [e2] X.env:=by rfl)(hpl:(backTo pos (starEach [e2] X.env)).any (·.1)=false:=by rfl):SX X C (.Call (.Name "max" p) [e,e2] [] pos) (ao Sx ea):=⟨oZ (Te G.calm) adV hg hm (by decide +kernel) ha.u (by decide) (by decide) he hpl⟩
theorem Rv  : Tz X C (.Dict [] [] pos) Hx:=⟨Ev.U9 ⟩
theorem abm{e2:Expr}(G:Good X C)(hm:X.mg "min" = none)(ha:xK X C [e,e2] ea)(hg:Gl X "min":=by rfl)(he:starEach [e,e2] X.env=(false,eval e X.env)::starEach [e2] X.env:=by rfl)(hpl:(backTo pos (starEach [e2] X.env)).any (·.1)=false:=by rfl):SX X C (.Call (.Name "min" p) [e,e2] [] pos) (ao Sw ea):=⟨oZ (Td G.calm) adU hg hm (by decide +kernel) ha.u (by decide) (by decide) he hpl⟩
theorem En(G:Good X C)(hm:X.mg "sorted" = none)(ha:xK X C [e] ea)(hg:Gl X "sorted":=by rfl)(he:Ig e X.env:=by rfl):SX X C (.Call (.Name "sorted" p) [e] [] pos) (ao jn ea):=⟨Rw G.K G.calm hg hm ha.u he rfl⟩
theorem Ve{x y:Expr}{rest:List Expr}{a b:Ev}(ha:SX X C x a)(hb:SX X C (.BoolOp .Or (y::rest) pos) b):SX X C (.BoolOp .Or (x::y::rest) pos) (Hw a b):=⟨(afe ha.u hb.u).imp λσ H Q hq=>by
  obtain⟨Pr,F,env,env',k,rl,e,q⟩:=hq;obtain⟨c,aN,e1,e2⟩:=aZ e;refine⟨Pr,F,env,aN,c,rl,e1,λv H1 F1 r1 s1 p1=>?_⟩;cases c with
  | bl z=>
   refine⟨z,p1,?_⟩;cases z with
   | true=>cases e2;exact afM (q _ H1 F1 r1 s1 rfl)
   | false=>exact afN ⟨Pr,F1,aN,env',k,r1,e2,λv2 H2 F2 r2 s2 p2=>q v2 H2 F2 r2 (s1.trans s2) p2⟩
  | _=>cases e2⟩
theorem Zm{tg e2 e3:Expr}(hm:X.mg "range" = none)(ha:Om X C [e,e2,e3] ea)(hl:∀env ds env',ea env = .ok ds env'->ds.length=3)(hg:Gl X "range":=by rfl)(hs:starEach [e,e2,e3] X.env=[(false,eval e X.env),(false,eval e2 X.env),(false,eval e3 X.env)]:=by rfl)(hs2:starEach [e2,e3] X.env=[(false,eval e2 X.env),(false,eval e3 X.env)]:=by rfl):SXI X C tg (.Call (.Name "range" p) [e,e2,e3] [] pos) (ju ea):=⟨M6 hg hm ha.u hl hs hs2⟩
theorem Ov(G:Good X C)(hm:X.mg "list" = none)(ha:xK X C [e] ea)(hg:Gl X "list":=by rfl)(he:Ig e X.env:=by rfl):SX X C (.Call (.Name "list" p) [e] [] pos) (ao Cr ea):=⟨ur (T:="list") (r:=UG C.K) (by rw[<-G.K];exact Oe G.calm) Z1 hg hm (by decide +kernel) ha.u (by decide) (by decide) he rfl⟩
theorem O8{elt tg iter:Expr}{ifs:List Expr}{scope:Scope}(N':List Str){spos py:Pos}{it:d7}{g:GV}{cc:gK}{ee:Ev}(lo:Nat)(i:Nat)(ok:pC X scope N')(G:Good X C)(hi:SXI X C tg iter it)(bg:∀X',lR X scope N' X'->SXG X' C lo tg g)(bc:∀X',lR X scope N' X'->aae X' C ifs cc)(be:∀X',lR X scope N' X'->SX X' C elt ee)(hnd:o6 X.N=true:=by rfl)(hfx:C.fx i=none:=by rfl)(hy:X.N[i]? = some n:=by rfl)(hx:Loc X.env.scope n:=by first|exact Or.inl rfl|exact Or.inr rfl)(hsw:swapsWith (.ListComp elt [⟨tg,iter,ifs,0⟩] scope pos) (some (.Name n py)) spos.line X.env=pure true:=by rfl)(hf:X.fn n=true\/X.env.scope.names.lookup n=some .local:=by first|exact .inl rfl|exact .inr rfl)(hs:∀x,foldedSetIterable iter X.env x=pure x:=by intro _;rfl):Lk X C (.Assign [.Name n py] (.ListComp elt [⟨tg,iter,ifs,0⟩] scope pos) spos) (cI i (dH lo N'.length it g cc ee)):=⟨Ev.ag9 N' lo i ok G hi.u (λX1 h1=>(bg X1 h1).u) (λX1 h1=>(bc X1 h1).u) (λX1 h1=>(be X1 h1).u) hnd hfx hy hx hsw hf hs⟩
theorem QW{e2:Expr}(G:Good X C)(hm:X.mg "divmod" = none)(ha:xK X C [e,e2] ea)(hg:Gl X "divmod":=by rfl)(he:starEach [e,e2] X.env=(false,eval e X.env)::starEach [e2] X.env:=by rfl)(hpl:(backTo pos (starEach [e2] X.env)).any (·.1)=false:=by rfl):SX X C (.Call (.Name "divmod" p) [e,e2] [] pos) (ao uz ea):=⟨oZ K7 S9 hg hm (by decide +kernel) ha.u (by decide) (by decide) he hpl⟩
theorem Jy{e:Expr}{a:Ev}(h:Tz X C e a):Lk X C (.Return (some e) pos) (Bc a):=⟨(Vp h.u).imp λD σ H hq=>by
 obtain⟨Pr,F,env,r,f⟩:=hq;obtain⟨d,aN,e1,f1⟩:=eQ f;exact⟨Pr,F,env,aN,d,r,e1,λv H1 F1 r1 s1 p1=>f1 v σ H1 F1 r1 s1 p1⟩⟩
theorem aa1{lo:Nat}{ix:Expr}{ev:Ev}(i:Nat)(h:SX X C ix ev)(hN:X.N[i]? = some n:=by rfl)(hv:uK X.env.scope n:=by first|exact Or.inl rfl|exact Or.inr (Or.inl rfl)|exact Or.inr (Or.inr rfl)) (ha:∀v,assign (.Subscript (.Name n px) ix pos) X.env v=(do
   let ov <-holding [v] (eval (.Name n px) X.env)
   let iv <-holding [v,ov] (eval ix X.env)
   standAt pos
   holding [v,ov,iv] (setItem ov iv v)
   release [v,ov,iv] []):=by intro _;rfl) (hd:nH n:=by decide) (hcd:vB n:=by decide):SXG X C lo (.Subscript (.Name n px) ix pos) (Wt i ev):=⟨abV hN hv h.u ha hd hcd⟩
theorem Xw{p:Pos}{e:Expr}{ea:d7}(G:Good X C)(hm:X.mg "dict" = none)(ha:xK X C [e] ea)(hg:Gl X "dict":=by rfl)(he:Ig e X.env:=by rfl):SX X C (.Call (.Name "dict" p) [e] [] pos) (ao yX ea):=⟨ur (T:="dict") (r:=UW C.K) (by rw[<-G.K];exact Ti G.calm) Z4 hg hm (by decide +kernel) ha.u (by decide) (by decide) he rfl⟩
theorem O9{k:Expr}{ek:Ev}{pos':Pos}(i:Nat)(G:Good X C)(hk:SX X C k ek)(he:SX X C e a)(hN:X.N[i]? = some n:=by rfl)(hv:uK X.env.scope n:=by first|exact Or.inl rfl|exact Or.inr (Or.inl rfl)|exact Or.inr (Or.inr rfl))(hs:swapsWith e (some (.Subscript (.Name n px) k pos')) pos.line X.env=pure false:=by rfl)(hd:nH n:=by decide)(hcd:vB n:=by decide):Lk X C (.Assign [.Subscript (.Name n px) k pos'] e pos) (oU i ek a):=⟨U6 G.u1 hN hv hk.u he.u hs hd hcd⟩
theorem Xv(G:Good X C)(ha:SX X C x a)(hb:SX X C y b)(hc:SX X C z c)(m:M2 X x "get" apos y z pos:=by exact⟨by rfl,by rfl,by rfl,by rfl⟩):SX X C (.Call (.Attribute x "get" apos) [y,z] [] pos) (CJ a b c):=⟨Ev.abo G ha.u hb.u hc.u m⟩
theorem Ao{lo hi:Option Expr}{el eh:Xm}{p2:Pos}(G:Good X C)(ha:SX X C x a)(hl:SXP X C lo el)(hh:SXP X C hi eh):SX X C (.Subscript x (.Slice lo hi none p2) pos) (pU a el eh):=⟨Ev.aeu G ha.u hl.u hh.u⟩
theorem Wq{elts:List Expr}{k:Nat}{tp p:Pos}{ea:d7}(G:Good X C)(hm:X.mg "zip" = none)(ha:Om X C [e,e2] ea)(hg:Gl X "zip":=by rfl)(hs:starEach [e,e2] X.env=(false,eval e X.env)::starEach [e2] X.env:=by rfl)(hs2:starEach [e2] X.env=[(false,eval e2 X.env)]:=by rfl):SXI X C (.Tuple elts k tp) (.Call (.Name "zip" p) [e,e2] [] pos) (za ea):=⟨Ev.afQ G hm ha.u hg hs hs2⟩
theorem Uc{op op':CmpOp}{g g':D->D->Option D}(o:Cm X C op g)(o':Cm X C op' g')(ha:SX X C x a)(hb:SX X C y b)(hc:SX X C z c)(hm:lastMarks [op,op'] [y,z]=false:=by with_unfolding_all rfl):QM X C (.Compare x [op,op'] [y,z] pos) (dD (xx g g' a b c)):=⟨Ev.XC o o' ha.u hb.u hc.u hm⟩
theorem Xr(G:Good X C)(hm:X.mg "int" = none)(ha:xK X C [e] ea)(hg:Gl X "int":=by rfl)(he:Ig e X.env:=by rfl):SX X C (.Call (.Name "int" p) [e] [] pos) (ao Km ea):=⟨ur (T:="int") (r:=UL) Th Z3 hg hm (by decide +kernel) ha.u (by decide) (by decide) he rfl⟩
theorem qC{cd:Expr}{body:List Stmt}{bs:bO}(m:Nat)(G:Good X C)(hc:QM X C cd t)(hb:gj X C body bs)(hp:PassesOwn (model X.prog X.w) X.A X.env X.xe:=by exact PassesOwn.never):Lk X C (.While cd body [] pos) (dI t bs m):=⟨Rp m hp hc.u hb.u⟩
theorem Bq  : Lk X C (.Break pos) (λenv=>.bk env):=⟨Ev.Rr ⟩
def FQ(xs:List D):List D:=xs.zipIdx.map λp=>.tup [.int (p.2:Nat),p.1]
end
end Ev
namespace L2
open PySem PySem.Spec PyProof.Rows PySem.Builtin
def aah(l:Addr)(n:Nat):HO:=.ext λh=>∃t u v,IsRange h l 0 (n:Int) 1 t u v
section
variable{X:Cx}
def Ph:List V->Hp->VK->Prop:=λxs H Q=>∃n:Nat,xs=[.int n]/\∀l,H l=none->Q (.ref l) (upd H l (aah l n))
def Uz:List V->Hp->VK->Prop:=λxs H Q=>∃(p:Addr) (n:Nat),xs=[.ref p]/\H p=some (aah p n)/\n<=sizeLine/\∀l,H l=none->Q (.ref l) (upd H l (.lst ((List.range n).map λi=>V.int (i:Nat))))
theorem K6:iz X (.type "range") Ph:=by intro pins s σ H xs us Q I r h;obtain⟨n,rfl,q⟩:=h;obtain⟨u,rfl,⟨t,rfl⟩⟩:=vals1 r;refine call_range_1 ?_;refine⟨.ref s.heap.objs.size,_,I.laid (t':=s.toks+1+1) (λb o e=>Qqz _ e) (Qqw _) (o:=aah s.heap.objs.size n) ⟨⟨_,_,_,IsRange.new ..⟩,⟨_,IsRange.new ..⟩,λh1 h2 y kk=>?_⟩,rfl,q _ (I.hok.fresh (Qqw _))⟩;obtain⟨t,u,v,e⟩:=y;exact⟨t,u,v,kk _ e⟩
theorem Ft:∀(n k:Nat) (vs:List Value),vs.length=n->(∀(j:Nat) (v:Value),vs[j]? = some v->∃t,v=Value.int (((k+j:Nat)):Int) t)->Vals ((List.range' k n).map λi=>V.int (i:Nat)) vs
 | 0,k,vs,hl,_=>by rw[Qz9 hl];exact .nil
 | n+1,k,vs,hl,hv=>by
  cases vs with
  | nil=>simp at hl
  | cons v vs=>
   rw[List.range'_succ,Qq2];refine .cons ?_ (Ft n (k+1) vs (by simpa using hl) λj w hw=>?_)
   ·obtain⟨t,rfl⟩:=hv 0 v rfl;exact⟨t,by simp⟩
   ·obtain⟨t,rfl⟩:=hv (j+1) w (by simpa using hw);exact⟨t,by congr 2;omega⟩
theorem Od(hc:X.calm=true):iz X (.type "list") Uz:=by
 intro pins s σ H xs us Q I r h;obtain⟨p,n,rfl,hp,hz,q⟩:=h;obtain⟨u,rfl,rx⟩:=vals1 r;cases rx;obtain⟨t,u,v,e⟩:∃t u v,IsRange s.heap p 0 (n:Int) 1 t u v:=(I.hok p _ hp).1;have hzz:n<=2^24:=hz;have hb:(n:Int)<2^62:=by omega
 have hrs:Builtin.Range.rangeSize 0 (n:Int) 1=(n:Int):=by rw[rangeSize_one];split<;>omega
 refine call_list_range (I.ok.hd hc) e (small_one (by decide) (by decide) (by omega) hb) hrs hzz λh' tk acc' c' kp e2 hacc=>?_;refine⟨.ref s.heap.objs.size,_,I.laid kp (Qqw _) (show gP X.prog X.w _ h' _ (.lst ((List.range n).map λi=>V.int (i:Nat))) from⟨?_,acc'.toList,c',?_,by simpa using e2⟩),rfl,q _ (I.hok.fresh (Qqw _))⟩
 ·rw[Qqq,List.length_range];exact hz
 ·obtain⟨hsz,hit⟩:=hacc;rw[List.range_eq_range'];refine Ft n 0 _ (by simpa using hsz) λj v hv=>?_;obtain⟨t,rfl⟩:=hit j v (by simpa using hv);exact⟨t,by congr 1;omega⟩
end
end L2
namespace Ev
open PySem PySem.Spec PyProof.Rows L2 PySem.Builtin
section
variable{X:Cx}{C:Cfg}{pos p p2 pos2:Pos}{e:Expr}{a:Ev}
def Qp:D->Option D
 | .int i=>if 0<=i/\i.toNat<=sizeLine then some (.lst ((List.range i.toNat).map λ(k:Nat)=>.int (k:Int))) else none
 | _=>none
theorem Ex{K:Fg}{F:Hp}:∀l:List Nat,bL K F (l.map λ(k:Nat)=>D.int (k:Int)) (l.map λi=>V.int (i:Nat))
 | []=>rfl
 | k::l=>⟨_,_,rfl,rfl,Ex l⟩
theorem ac1(G:Good X C)(h1:X.mg "list" = none)(h2:X.mg "range" = none)(ha:PX X C e a)(g1:Gl X "list":=by rfl)(g2:Gl X "range":=by rfl)
  (he:Ig e X.env:=by rfl)
  (he2:starEach [.Call (.Name "range" p2) [e] [] pos2] X.env=(false,eval (.Call (.Name "range" p2) [e] [] pos2) X.env)::starEach [] X.env:=by rfl) :
  QS X C (.Call (.Name "list" p) [.Call (.Name "range" p2) [e] [] pos2] [] pos) (nW Qp a):=by
 have i1:PE X (.Call (.Name "range" p2) [e] [] pos2) _:=uv (T:="range") L2.K6 g2 h2 (by decide +kernel) (jL ha rA he) (by decide) (by decide) he rfl;have i2:PE X (.Call (.Name "list" p) [.Call (.Name "range" p2) [e] [] pos2] [] pos) _:=uv (T:="list") (L2.Od G.calm) g1 h1 (by decide +kernel) (jL i1 rA he2) (by decide) (by decide) he2 rfl;refine i2.imp λσ H Q hq=>?_;obtain⟨Pr,F,env,env',d,r,e0,q⟩:=hq;obtain⟨x,aN,e1,e2⟩:=aZ e0;obtain⟨e3,rfl⟩:=fH e2;refine⟨Pr,F,env,env',x,r,e1,λv H1 F1 r1 s1 p1=>?_⟩;cases x with
 | int i=>
  unfold Qp at e3;simp only at e3;split at e3
  ·rename_i hi;cases e3;obtain⟨n,rfl⟩:∃n:Nat,i=(n:Int):=⟨i.toNat,by omega⟩;rw[Qzx] at hi q;cases p1;show Ph [.int n] H1 λx H2=>Uz [x] H2 Q;refine⟨n,rfl,λl hl=>?_⟩;have r2:=r1.fresh (o:=aah l n) hl;refine⟨l,n,rfl,bf,hi.2,λl2 hl2=>?_⟩;exact q l2 _ F1 (r2.fresh hl2) s1 (TJ.of r2 hl2 ⟨by rw[Qqq,List.length_range];exact hi.2,_,bf,Ex _⟩)
  ·cases e3
 | _=>cases e3
end
end Ev
namespace L2
open PySem PySem.Spec PyProof.Rows PySem.Builtin ZT
def abj(K:PySem.W.Frag)(a1 a2:Addr):It:=
 ⟨λi H=>∃xs ys x y,jR K H a1 xs/\jR K H a2 ys/\xs[i]? = some x/\ys[i]? = some y,
 λi H v H'=>∃p x y,(∀xs,jR K H a1 xs->xs[i]? = some x)/\(∀ys,jR K H a2 ys->ys[i]? = some y)/\H p=none/\H'=upd H p (.tup [x,y])/\v = .ref p,
 λi H=>∃xs ys,jR K H a1 xs/\jR K H a2 ys/\(i=xs.length\/(i<xs.length/\i=ys.length))⟩
theorem Mg{P:Program}{w:World}{K:PySem.W.Frag}{elts:List Expr}{kk:Nat}{pos:Pos}(z TI TO j1 j2 a1 a2:Addr)(D:Apz z TI TO j1 j2 a1 a2) :
  Turn P w K (.Tuple elts kk pos) (abj K a1 a2) [z,TI,TO,j1,j2] z (λi h=>IsZip h z TI TO .none/\IsPair h TI (.ref j1) (.ref j2)/\(∃a b,IsPair h TO a b)/\h.IsListIter j1 a1 i/\h.IsListIter j2 a2 i) where
 mem:=by simp
 obj:=λi h st b hb=>by
  obtain⟨hz,hTI,⟨a,c,hTO⟩,⟨o1,e1,_,d1⟩,o2,e2,_,d2⟩:=st;simp only[Qq5,Qw1,Qzy] at hb;rcases hb with rfl|rfl|rfl|rfl|rfl
  ·exact⟨_,hz,λv q=>by cases q⟩
  ·exact⟨_,hTI,λv q=>by cases q⟩
  ·exact⟨_,hTO,λv q=>by cases q⟩
  ·exact⟨o1,e1,λv q=>by rw[d1] at q;cases q⟩
  ·exact⟨o2,e2,λv q=>by rw[d2] at q;cases q⟩
 keep:=λi h h' st k=>by
  obtain⟨hz,hTI,⟨a,c,hTO⟩,⟨o1,e1,r1⟩,o2,e2,r2⟩:=st;exact⟨k z (by simp) _ hz,k TI (by simp) _ hTI,⟨a,c,k TO (by simp) _ hTO⟩,⟨o1,k j1 (by simp) _ e1,r1⟩,o2,k j2 (by simp) _ e2,r2⟩
 item:=by
  intro X hP hw hK hc i pins s σ H E I hf st hg;subst hP hw hK;obtain⟨hz,hTI,⟨a,b,hTO⟩,i1,i2⟩:=st;obtain⟨xs,ys,x,y,hx,hy,gx,gy⟩:=hg;obtain⟨us,ru,pu,zu⟩:=I.list hx;obtain⟨vs,rv,pv,zv⟩:=I.list hy;obtain⟨u,hu,rxu⟩:=ru.get gx;obtain⟨v,hv,ryv⟩:=rv.get gy;have lu:i<us.toArray.size:=by rw[Qq3];exact(Qq4.mp hu).1
  have lv:i<vs.toArray.size:=by rw[Qq3];exact(Qq4.mp hv).1
  have D1:Draws X.prog X.w X.A.in1 j1 [j1,a1] _ _ _:=Draws.list (A:=X.A.in1) (show X.A.in1.handled=none from I.ok.hd hc) j1 a1 D.c1 us.toArray;have D2:Draws X.prog X.w X.A.in1 j2 [j2,a2] _ _ _:=Draws.list (A:=X.A.in1) (show X.A.in1.handled=none from I.ok.hd hc) j2 a2 D.c2 vs.toArray;refine rU (A:=X.A) D.ap D1 D2 lu lv hz hTI hTO ⟨i1,pu.isList⟩ ⟨i2,pv.isList⟩ λx' y' g tk px py hz' adu s1 s2 hT hsz hk=>?_;have ex:x'=u:=by have:us.toArray[i]? = some x':=px;rw[Qj4,hu] at this;exact(Qwv this).symm
  have ey:y'=v:=by have:vs.toArray[i]? = some y':=py;rw[Qj4,hv] at this;exact(Qwv this).symm
  subst ex ey;refine⟨_,rfl,?_⟩;refine wpAny_letOwnedTupleGo_zip (s:={ s with heap:=g,toks:=tk }) hz' λg' hz'' e'=>?_;have ni:∀b o,b≠z->g.get? b=some o->g'.get? b=some o:=λb o hb q=>(e'.2 b hb).trans q;have lts:∀b ∈ [z,TI,TO,j1,j2],b<s.heap.objs.size:=λb hb=>by
   simp only[Qq5,Qw1,Qzy] at hb;rcases hb with rfl|rfl|rfl|rfl|rfl
   ·exact Qwj hz
   ·exact Qwj hTI
   ·exact Qwj hTO
   ·obtain⟨_,q,_⟩:=i1;exact Qwj q
   ·obtain⟨_,q,_⟩:=i2;exact Qwj q
  have nT:H s.heap.objs.size=none:=I.hok.fresh (Qqw _);refine⟨.ref s.heap.objs.size,upd H s.heap.objs.size (.tup [x,y]),I.drawn (t':=tk) (ch:=[z,TI,TO,j1,j2]) hf (λb o hb q=>?_) (Qqw _) ?_,rfl,⟨_,x,y,λzs hq=>by rw[I.wO hq hx];exact gx,λzs hq=>by rw[I.wO hq hy];exact gy,nT,rfl,rfl⟩,⟨hz'',?_,⟨_,_,ni TO _ D.t2 adu⟩,?_,?_⟩,λb hb=>?_⟩
  ·have n1:b≠z:=λq=>hb (by simp[q]);exact ni b o n1 (hk b o n1 (λq=>hb (by simp[q])) (λq=>hb (by simp[q])) (λq=>hb (by simp[q])) q)
  ·exact⟨by show 2<=sizeLine;decide,[x',y'],.cons rxu (.cons ryv .nil),_,ni _ _ (Qjv (lts z (by simp))) hT,rfl,⟨_,rfl⟩,rfl⟩
  ·exact ni TI _ D.t1 (hk TI _ D.t1 D.t3 (λq=>D.b5 (by simp[q])) (λq=>D.b6 (by simp[q])) hTI)
  ·obtain⟨o,q,r⟩:=s1.1;exact⟨o,ni j1 o (λq=>D.b1 (by simp[q])) q,r⟩
  ·obtain⟨o,q,r⟩:=s2.1;exact⟨o,ni j2 o (λq=>D.b2 (by simp[q])) q,r⟩
  ·rw[bI (Qw7 (lts b hb))];exact(hf b hb).1
 done:=by intro X hP hw hK hc i pins s σ H E I hf st hg;subst hP hw hK;obtain⟨hz,hTI,⟨a,b,hTO⟩,i1,i2⟩:=st;obtain⟨xs,ys,hx,hy,hi⟩:=hg;obtain⟨us,ru,pu,zu⟩:=I.list hx;obtain⟨vs,rv,pv,zv⟩:=I.list hy;have l1:=ru.length;have l2:=rv.length;have D1:Draws X.prog X.w X.A.in1 j1 [j1,a1] _ _ _:=Draws.list (A:=X.A.in1) (show X.A.in1.handled=none from I.ok.hd hc) j1 a1 D.c1 us.toArray;have D2:Draws X.prog X.w X.A.in1 j2 [j2,a2] _ _ _:=Draws.list (A:=X.A.in1) (show X.A.in1.handled=none from I.ok.hd hc) j2 a2 D.c2 vs.toArray;refine tu (A:=X.A) (k:=i) D.ap D1 D2 (by rw[Qq3,Qq3];omega) hz hTI hTO ⟨i1,pu.isList⟩ ⟨i2,pv.isList⟩ λg tk hk=>⟨rfl,I.Gk (t':=tk) (ch:=[z,TI,TO,j1,j2]) hf λb o hb e=>?_⟩;exact hk b o (λq=>hb (by simp[q])) (λq=>hb (by simp[q])) (λq=>hb (by simp[q])) (λq=>hb (by simp[q])) e
 self:=λA i s Q E st h=>wpAny_pyIter_zip st.1 h
end L2
namespace ZT
open PySem PySem.Spec PyProof.Rows L2 PySem.Builtin
abbrev Zx(h:Heap)(l1:Addr):Heap:=h.push { cls:=.type "list_iterator",data:=.fields #[.ref l1,.int 0 0] }
abbrev Zu(h:Heap)(l1 l2:Addr):Heap:=(Zx h l1).push { cls:=.type "list_iterator",data:=.fields #[.ref l2,.int 0 0] }
abbrev Zr(h:Heap)(l1 l2:Addr):Heap:=(Zu h l1 l2).push { cls:=.type "tuple",data:=.seq #[.ref h.objs.size,.ref (Zx h l1).objs.size] }
abbrev Zq(h:Heap)(l1 l2:Addr):Heap:=(Zr h l1 l2).push { cls:=.type "tuple",data:=.seq #[.none,.none] }
abbrev NB(h:Heap)(l1 l2:Addr):Heap:=(Zq h l1 l2).push { cls:=.type "zip",data:=.fields #[.none,.bool false,.bool false,.ref (Zu h l1 l2).objs.size,.ref (Zr h l1 l2).objs.size] }
theorem acU(l1 l2:Addr)(xs ys:Array Value):Meets (Builtin.«zip.__new__» ⟨[.type "zip",.ref l1,.ref l2],[]⟩) (λ_ R s=>s.heap.IsList l1 xs/\s.heap.IsList l2 ys/\
   R (.ok (.ret (.ref (Zq s.heap l1 l2).objs.size))) { s with heap:=NB s.heap l1 l2 }):=
 .of_wp λprog w A R s h=>by
  obtain⟨hp,g,d,tk,os⟩:=s;obtain⟨hl1,hl2,h⟩:=h;have hsub:=sub_zip;have hL1:Heap.IsList (Shared.heap ⟨hp,g,d,tk,os⟩) l1 xs:=hl1;have hL2:Heap.IsList (Shared.heap ⟨hp.push { cls:=.type "list_iterator",data:=.fields #[.ref l1,.int 0 0] },g,d,tk,os⟩) l2 ys:=Heap.IsList.push hl2 _
  wp_walk using wpAny_pyIter_list hL1,wpAny_pyIter_list hL2
  exact⟨_,rfl,h⟩
section
variable{prog:Program}{w:World}{A:Around}{E:Value->Shared->Prop}{s:Shared}
theorem W3{l1 l2:Addr}{xs ys:Array Value}{Q:Value->Shared->Prop}(hl1:s.heap.IsList l1 xs)(hl2:s.heap.IsList l2 ys)
  (h:∀g,IsZip g (s.heap.objs.size+4) (s.heap.objs.size+2) (s.heap.objs.size+3) .none->IsPair g (s.heap.objs.size+2) (.ref s.heap.objs.size) (.ref (s.heap.objs.size+1))->
   IsPair g (s.heap.objs.size+3) .none .none->g.IsListIter s.heap.objs.size l1 0->g.IsListIter (s.heap.objs.size+1) l2 0->g.objs.size=s.heap.objs.size+5->
   (∀c o,s.heap.get? c=some o->g.get? c=some o)->Q (.ref (s.heap.objs.size+4)) { s with heap:=g }) :
  wpAny (model prog w) A (call (.type "zip") [.ref l1,.ref l2]) Q E s:=by
 refine callType_new F.called_zip (by decide) (F.typeCall_zip_2 _ _) (F.newCall_zip_2 _ _) (λobj=>F.args_object_init_3 obj _ _) F.entry_zip_new (acU l1 l2 xs ys) ⟨hl1,hl2,?_⟩;have z1:(Zx s.heap l1).objs.size=s.heap.objs.size+1:=Qx5 ..;have z2:(Zu s.heap l1 l2).objs.size=s.heap.objs.size+2:=by rw[Qx5,z1]
 have z3:(Zr s.heap l1 l2).objs.size=s.heap.objs.size+3:=by rw[Qx5,z2]
 have z4:(Zq s.heap l1 l2).objs.size=s.heap.objs.size+4:=by rw[Qx5,z3]
 have z5:(NB s.heap l1 l2).objs.size=s.heap.objs.size+5:=by rw[Qx5,z4]
 have g5:(NB s.heap l1 l2).get? (Zq s.heap l1 l2).objs.size=some _:=Qwy _ rfl;have g4:(NB s.heap l1 l2).get? (Zr s.heap l1 l2).objs.size=some _:=Qqz _ (Qwy _ rfl);have g3:(NB s.heap l1 l2).get? (Zu s.heap l1 l2).objs.size=some _:=Qqz _ (Qqz _ (Qwy _ rfl));have g2:(NB s.heap l1 l2).get? (Zx s.heap l1).objs.size=some _:=Qqz _ (Qqz _ (Qqz _ (Qwy _ rfl)));have g1:(NB s.heap l1 l2).get? s.heap.objs.size=some _:=Qqz _ (Qqz _ (Qqz _ (Qqz _ (Qwy _ rfl))));show _/\_;rw[z2,z3,z4] at g5;rw[z1,z2] at g3;rw[z3] at g4;rw[z1] at g2;rw[z4];exact⟨⟨_,g5,rfl⟩,h _ g5 g3 g4 ⟨_,g1,rfl,rfl⟩ ⟨_,g2,rfl,rfl⟩ z5 λc o x=>Qqz _ (Qqz _ (Qqz _ (Qqz _ (Qqz _ x))))⟩
end
end ZT
namespace L2
open PySem PySem.Spec PyProof.Rows PySem.Builtin ZT
section
variable{X:Cx}
def ado(K:PySem.W.Frag)(ta:TA):TI:=λσ H R=>ta σ H λvs H1=>∃a1 a2,vs=[.ref a1,.ref a2]/\(∃xs,jR K H1 a1 xs)/\(∃ys,jR K H1 a2 ys)/\R (abj K a1 a2) H1
theorem RB{elts:List Expr}{k:Nat}{tp:Pos}{a b:Expr}{ta:TA}{p pos:Pos}(hg:Gl X "zip")(hm:X.mg "zip" = none)(ha:PA X [a,b] ta)(hs:starEach [a,b] X.env=(false,eval a X.env)::starEach [b] X.env:=by rfl)(hs2:starEach [b] X.env=[(false,eval b X.env)]:=by rfl):PI X (.Tuple elts k tp) (.Call (.Name "zip" p) [a,b] [] pos) (ado X.K ta):=by
 intro pins s σ H R I h;refine Call_ (tO I hg hm PyProof.Rows.boot_zip (Qz0 (gm (ha pos pins s σ H _ I h) λus s1 ⟨vs,H1,I1,r1,q1⟩=>?_) hs (by rw[hs2];rfl)));obtain⟨a1,a2,e,⟨xs,hx⟩,⟨ys,hy⟩,q⟩:=q1;subst e;cases r1 with
 | cons r rr=>
  cases rr with
  | cons r' rr'=>
   cases rr';cases r;cases r';obtain⟨u1,ru1,p1,z1⟩:=I1.list hx;obtain⟨u2,ru2,p2,z2⟩:=I1.list hy;have V9:a1<s1.heap.objs.size:=by obtain⟨_,e,_⟩:=p1.isList;exact Qwj e
   have PL:a2<s1.heap.objs.size:=by obtain⟨_,e,_⟩:=p2.isList;exact Qwj e
   refine W3 p1.isList p2.isList λg hz hTI hTO i1 i2 hsz hk=>?_;refine wpAny_pyIter_zip hz ?_;have I2:Inv X pins σ H1 { s1 with heap:=g }:=I1.kept (t':=s1.toks) hk;have own:∀b,s1.heap.objs.size<=b->uL X pins H1 b:=λb hb=>I1.N5 hb (I1.hok.fresh hb);generalize hn:s1.heap.objs.size=n at *;have ne:∀{c d:Nat},c<d->(c:Addr)≠d:=λh e=>Qzj _ (by subst e;exact h);have ne':∀{c d:Nat},d<c->(c:Addr)≠d:=λh e=>Qzj _ (by subst e;exact h);have D:Apz (n+4) (n+2) (n+3) n (n+1) a1 a2:={
    t1:=ne (by omega),t2:=ne (by omega),t3:=ne (by omega),t4:=ne (by omega)
    b1:=by simp only[Qq5,Qw1,Qzy,not_or];exact⟨ne' (by omega),ne' (Qwq V9 (by omega))⟩
    b2:=by simp only[Qq5,Qw1,Qzy,not_or];exact⟨ne' (by omega),ne' (Qwq PL (by omega))⟩
    b3:=by simp only[Qq5,Qw1,Qzy,not_or];exact⟨ne' (by omega),ne' (Qwq V9 (by omega))⟩
    b4:=by simp only[Qq5,Qw1,Qzy,not_or];exact⟨ne' (by omega),ne' (Qwq PL (by omega))⟩
    b5:=by simp only[Qq5,Qw1,Qzy,not_or];exact⟨ne' (by omega),ne' (Qwq V9 (by omega))⟩
    b6:=by simp only[Qq5,Qw1,Qzy,not_or];exact⟨ne' (by omega),ne' (Qwq PL (by omega))⟩
    b7:=by simp only[Qq5,Qw1,Qzy,not_or];exact⟨ne' (by omega),ne' (Qwq V9 (by omega))⟩
    b8:=by simp only[Qq5,Qw1,Qzy,not_or];exact⟨ne (by omega),ne' PL⟩
    c1:=ne V9,c2:=ne (Qwq PL (by omega)) }
   refine⟨n+4,[n+4,n+2,n+3,n,n+1],_,_,H1,rfl,I2,Mg _ _ _ _ _ a1 a2 D,⟨hz,hTI,⟨_,_,hTO⟩,i1,i2⟩,λb hb=>own b ?_,q⟩;simp only[Qq5,Qw1,Qzy] at hb;rcases hb with rfl|rfl|rfl|rfl|rfl
   ·exact Qj6 _ _
   ·exact Qj6 _ _
   ·exact Qj6 _ _
   ·exact Qqw _
   ·exact Qj6 _ _
end
end L2
namespace Ev
open PySem PySem.Spec PyProof.Rows L2 PySem.Builtin
section
variable{X:Cx}{C:Cfg}{pos:Pos}{e e2:Expr}{p p2 pos2:Pos}{a:Ev}
def rH(a:d7):d7:=λenv=>bindR (a env) λds aN=>match ds with
 | [.lst x,.lst y]=>.ok (qb x y) aN
 | _=>.stuck
theorem Zk{elts:List Expr}{k:Nat}{tp p:Pos}{ea:d7}(G:Good X C)(hm:X.mg "zip" = none)(ha:Ln X C [e,e2] ea)(hg:Gl X "zip":=by rfl)(hs:starEach [e,e2] X.env=(false,eval e X.env)::starEach [e2] X.env:=by rfl)(hs2:starEach [e2] X.env=[(false,eval e2 X.env)]:=by rfl):TF X C (.Tuple elts k tp) (.Call (.Name "zip" p) [e,e2] [] pos) (rH ea):=by
 have h:=RB (elts:=elts) (k:=k) (tp:=tp) (p:=p) (pos:=pos) hg hm ha hs hs2;rw[G.K] at h;refine h.imp λσ H R hq=>?_;obtain⟨Pr,F,env,env',ds,r,e,q⟩:=hq;obtain⟨as,aN,e1,e2⟩:=aZ e;refine⟨Pr,F,env,aN,as,r,e1,λvs H1 F1 r1 s1 p1=>?_⟩;split at e2
 ·rename_i xs ys;cases e2;obtain⟨v,w,rfl,p2,v2,w2,rfl,p3,p4⟩:=p1;cases p4;obtain⟨z1,a1,us,rfl,h1,h2⟩:=p2;obtain⟨z2,a2,ws,rfl,h3,h4⟩:=p3;have l1:=h2.length;have l2:=h4.length;refine⟨a1,a2,rfl,⟨us,jR.of (r1.fr _ _ h1)⟩,⟨ws,jR.of (r1.fr _ _ h3)⟩,q _ H1 F1 r1 s1 λi H2 s2=>⟨λ_ ei=>⟨us,ws,jR.of (s2 _ _ h1),jR.of (s2 _ _ h3),?_⟩,λd hd=>?_⟩⟩
  ·have:(qb xs ys).length=min xs.length ys.length:=by unfold qb;rw[Qqq,List.length_zip]
   omega
  ·unfold qb at hd;rw[Qwx] at hd;obtain⟨⟨c,j⟩,hc,rfl⟩:=Qww.mp hd;obtain⟨g1,g2⟩:=List.getElem?_zip_eq_some.mp hc;obtain⟨v1,k1,k2⟩:=wC h2 g1;obtain⟨v2,k3,k4⟩:=wC h4 g2;refine⟨⟨us,ws,v1,v2,jR.of (s2 _ _ h1),jR.of (s2 _ _ h3),k1,k3⟩,λy H3 hy=>.inr ?_⟩;obtain⟨p,x',y',m1,m2,m3,rfl,rfl⟩:=hy;have n1:=m1 us (jR.of (s2 _ _ h1));have n2:=m2 ws (jR.of (s2 _ _ h3));rw[k1] at n1;rw[k3] at n2;cases n1;cases n2;exact⟨p,_,_,m3,rfl,rfl,rfl,by show 2<=sizeLine;decide,_,_,rfl,k2,_,_,rfl,k4,rfl⟩
 ·cases e2
theorem Y5(G:Good X C)(h1:X.mg "list" = none)(h2:X.mg "range" = none)(ha:SX X C e a)(g1:Gl X "list":=by rfl)(g2:Gl X "range":=by rfl)(he:Ig e X.env:=by rfl)(he2:starEach [.Call (.Name "range" p2) [e] [] pos2] X.env=(false,eval (.Call (.Name "range" p2) [e] [] pos2) X.env)::starEach [] X.env:=by rfl):Tz X C (.Call (.Name "list" p) [.Call (.Name "range" p2) [e] [] pos2] [] pos) (nW Qp a):=⟨Ev.ac1 G h1 h2 ha.u g1 g2 he he2⟩
theorem Kd{elts:List Expr}{k:Nat}{tp p:Pos}{ea:d7}(G:Good X C)(hm:X.mg "zip" = none)(ha:Om X C [e,e2] ea)(hg:Gl X "zip":=by rfl)(hs:starEach [e,e2] X.env=(false,eval e X.env)::starEach [e2] X.env:=by rfl)(hs2:starEach [e2] X.env=[(false,eval e2 X.env)]:=by rfl):SXI X C (.Tuple elts k tp) (.Call (.Name "zip" p) [e,e2] [] pos) (rH ea):=⟨Ev.Zk G hm ha.u hg hs hs2⟩
end
open PySem L2
theorem Kc(i:Nat):∀r:List Nat,Qj (.int (i:Int)) (r.map λ(k:Nat)=>D.int (k:Int))=some (decide (i∈r))
 | []=>rfl
 | k::r=>by
  rw[Qq2];unfold Qj;rw[Kc i r];show some (((k:Int) == (i:Int))||decide (i∈r))=_
  congr 1
  rw[Qkx];simp only[Bool.or_eq_true,beq_iff_eq,decide_eq_true_eq,Qq5];constructor
  ·rintro(h|h)
   ·exact .inl (by omega)
   ·exact .inr h
  ·rintro(h|h)
   ·exact .inl (by omega)
   ·exact .inr h
theorem Ky(n:Nat):∀a b:List (List Nat),uQ (bC (n+1)) (a.map .str) (b.map .str)=some (a == b)
 | [],[]=>rfl
 | [],_::_=>rfl
 | _::_,[]=>rfl
 | x::a,y::b=>by
  rw[Qq2,Qq2];unfold uQ;rw[Ky n a b]
  rfl
theorem Ko(a b:List (List Nat)):pP (.lst (a.map .str)) (.lst (b.map .str))=some (.bl (a == b)):=by
 unfold pP;have:bC 60 (.lst (a.map .str)) (.lst (b.map .str))=uQ (bC 59) (a.map .str) (b.map .str):=rfl;rw[this,Ky]
 rfl
theorem Kz(n:Nat):∀a b:List Nat,uQ (bC (n+1)) (a.map λ(k:Nat)=>D.int (k:Int)) (b.map λ(k:Nat)=>D.int (k:Int))=some (a == b)
 | [],[]=>rfl
 | [],_::_=>rfl
 | _::_,[]=>rfl
 | x::a,y::b=>by
  rw[Qq2,Qq2];unfold uQ;rw[Kz n a b];show some (((x:Int) == (y:Int))&&(a == b))=some ((x == y)&&(a == b))
  congr 2
  rw[Qkx];simp only[beq_iff_eq];omega
end Ev
namespace L2
open PySem PySem.Spec PyProof.Rows
theorem PQ{α:Type}(xs:List α):∀k:Nat,(List.replicate k xs).flatten.length=xs.length*k
 | 0=>rfl
 | k+1=>by rw[List.replicate_succ,List.flatten_cons,Qqy,PQ xs k,Nat.mul_succ];omega
end L2
namespace Ev
open PySem PySem.Spec PyProof.Rows L2
section
variable{X:Cx}{C:Cfg}
theorem bL.flat{K:Fg}{F:Hp}{ds:List D}{vs:List V}(h:bL K F ds vs):∀k:Nat,bL K F (List.replicate k ds).flatten (List.replicate k vs).flatten
 | 0=>rfl
 | k+1=>by rw[List.replicate_succ,List.replicate_succ];exact h.append (bL.flat h k)
end
open PySem PySem.Spec PySem.W PySem.Calls PyProof.Rows L2
def FA(K:Fg)(x:Str)(st:Stmt):Prop:=∃(f:Addr) (oc kV doc pm cdv ct:Value) (od an:Option Addr) (osl:Array (Option Value)),PySem.W.nsIn K mainGlobals x=some (some (.ref f))/\
 K.lookup f=some ⟨oc,od,.func (PySem.W.fnOf x x (lO st) (gk st) (aU st) .none kV doc pm an cdv ct),osl⟩/\PySem.W.codeIn K cdv x=true/\PySem.W.keepIn K (.ref f)=true
theorem FA.mk{K:Fg}{x:Str}{st:Stmt}{f:Addr}{oc kV doc pm cdv ct:Value}{od an:Option Addr}{osl:Array (Option Value)}(a:PySem.W.nsIn K mainGlobals x=some (some (.ref f)))
  (l:K.lookup f=some ⟨oc,od,.func (PySem.W.fnOf x x (lO st) (gk st) (aU st) .none kV doc pm an cdv ct),osl⟩) (c:PySem.W.codeIn K cdv x=true) (k:PySem.W.keepIn K (.ref f)=true):FA K x st:=
 ⟨f,oc,kV,doc,pm,cdv,ct,od,an,osl,a,l,c,k⟩
theorem FA.at{K:Fg}{h:Heap}{mg:Str->Option Value}{x:Str}{st:Stmt}{ps:List Str}(X:K.In h)(G:h.Ns mainGlobals mg)(F:FA K x st)
  (b:∀{kV doc pm:Value} {an:Option Addr} {cdv ct:Value} (us:List Value),us.length=ps.length->bindArgs (PySem.W.fnOf x x (lO st) (gk st) (aU st) .none kV doc pm an cdv ct) ⟨us,[]⟩=pure (ps.zip us)):di K mg x st ps:=by
 obtain⟨f,oc,kV,doc,pm,cdv,ct,od,an,osl,a,l,c,k⟩:=F;exact funAt X G a l c k (λ_ _ _ _ _ _ us hl=>b us hl)
theorem FA.law{P:Program}{w:World}{K:Fg}{h:Heap}{mg:Str->Option Value}{fa:Addr}{x y:Str}{st:Stmt}{k:Nat}{g:List D->Option D}(X:K.In h)(G:h.Ns mainGlobals mg)(hfa:mg x=some (.ref fa))(F:FA K x st)
  (b:∀{kV doc pm:Value} {an:Option Addr} {cdv ct:Value} (s:Shared) (v:Value),BindsTo s (PySem.W.fnOf x x (lO st) (gk st) (aU st) .none kV doc pm an cdv ct) ⟨[v],[]⟩ [(y,v)])
  (q:∀{fd:FuncData} (base:Heap),Xk K x x st fa fd->qT P w K mg base Ie k fa fd [y] (qu K 1 g)) :
  ∃fd:FuncData,(∀(s:Shared) (v:Value),BindsTo s fd ⟨[v],[]⟩ [(y,v)])/\∀base:Heap,K.In base->base.Ns mainGlobals mg->qT P w K mg base Ie k fa fd [y] (qu K 1 g):=by
 obtain⟨f,oc,kV,doc,pm,cdv,ct,od,an,osl,a,l,c,k⟩:=F;have e:=hfa.symm.trans (PySem.W.mg_of X G a);cases e;exact⟨_,b,λbase _ _=>q base (NZ (st:=st) l c k)⟩
mutual
theorem Sh.isN{h:Heap}:∀(d:D) (u:Value) (k:NK),Sh h d u->oM d=some k->Dv h k u
 | .int i,u,k,e,g=>by rw[oM] at g;cases g;obtain⟨t,rfl⟩:=e;rw[Dv];exact .inl ⟨t,rfl⟩
 | .bl b,u,k,e,g=>by rw[oM] at g;cases g;cases e;rw[Dv];exact .inr ⟨b,rfl,rfl⟩
 | .str x,u,k,e,g=>by rw[oM] at g;cases g;rw[Dv];exact e
 | .tup xs,u,k,e,g=>by
  rw[oM] at g;obtain⟨ks,g1,rfl⟩:=Qww.mp g;obtain⟨a,its,rfl,⟨o,e1,e2,n,e3⟩,e4⟩:=e;rw[Dv];exact⟨a,o,its.toArray,n,rfl,e1,e2,e3,by simpa using Gi.isN xs its ks e4 g1⟩
 | .non,u,k,e,g=>by simp[oM] at g
 | .lst _,u,k,e,g=>by simp[oM] at g
 | .arr _,u,k,e,g=>by simp[oM] at g
 | .dct _,u,k,e,g=>by simp[oM] at g
 | .fG _,u,k,e,g=>by simp[oM] at g
theorem Gi.isN{h:Heap}:∀(ds:List D) (us:List Value) (ks:List NK),Gi h ds us->o7 ds=some ks->qt h ks us
 | [],us,ks,e,g=>by rw[o7] at g;cases g;cases e;rw[qt]
 | d::ds,us,ks,e,g=>by
  obtain⟨u,r,rfl,e1,e2⟩:=e;rw[o7] at g;split at g
  ·rename_i k ks' g1 g2;cases g;rw[qt];exact⟨u,r,rfl,Sh.isN d u k e1 g1,Gi.isN ds r ks' e2 g2⟩
  ·cases g
end
structure pB(K:Fg)(H:Hp)(y:V)(kd:D)(q:NK):Prop where
 rep:Rep K H kd y
 nk:oM kd=some q
 dep:q.dep<=8
 tup:∃xs,kd = .tup xs
abbrev KN:List (NK×V×V)->List (NK×Addr×Value)->Prop:=Paired λp q=>p.1=q.1/\p.2.1 = .ref q.2.1/\RelV p.2.2 q.2.2
noncomputable def valN(ks:List (NK×V×V))(q:NK):Option V:=(ks.find? λp=>decide (p.1=q)).map (·.2.2)
noncomputable def putN(ks:List (NK×V×V))(q:NK)(u v:V):List (NK×V×V):=if (valN ks q).isSome then ks.map (λp=>if p.1=q then (p.1,p.2.1,v) else p) else ks++[(q,u,v)]
theorem KN.val{ks:List (NK×V×V)}{xs:List (NK×Addr×Value)}(r:KN ks xs)(q:NK):xM (valN ks q) ((atKey xs q).map (·.2)):=by
 unfold valN atKey
 induction r with
 | nil=>exact True.intro
 | @cons p x ps xs h t ih=>
  rw[Qz6,Qz6];by_cases c:p.1=q
  ·have c2:x.1=q:=h.1 ▸ c;rw[Qw2 c,Qw2 c2];exact h.2.2
  ·have c2:¬x.1=q:=h.1 ▸ c;rw[Qwk c,Qwk c2];exact ih
theorem KN.len{ks:List (NK×V×V)}{xs:List (NK×Addr×Value)}(r:KN ks xs):ks.length=xs.length:=by
 induction r with
 | nil=>rfl
 | cons _ _ ih=>simp[ih]
theorem KN.put{ks:List (NK×V×V)}{xs:List (NK×Addr×Value)}(r:KN ks xs)(q:NK){b:Addr}{v:V}{u:Value}(rv:RelV v u):KN (putN ks q (.ref b) v) (storedH xs q b u):=by
 have hs:=(r.val q).qI;rw[Option.isSome_map] at hs;unfold putN storedH;rw[<-hs];split
 ·clear hs
  induction r with
  | nil=>exact .nil
  | @cons p x ps xs h t ih=>
   rw[Qq2,Qq2];refine .cons ?_ ?_
   ·unfold putAt;by_cases c:p.1=q
    ·have c2:x.1=q:=h.1 ▸ c;rw[if_pos c,if_pos c2];exact⟨h.1,h.2.1,rv⟩
    ·have c2:¬x.1=q:=h.1 ▸ c;rw[if_neg c,if_neg c2];exact h
   ·rename_i hsome;clear hsome;clear ih
    induction t with
    | nil=>exact .nil
    | @cons p x ps xs h t ih=>
     rw[Qq2,Qq2];refine .cons ?_ ih;unfold putAt;by_cases c:p.1=q
     ·have c2:x.1=q:=h.1 ▸ c;rw[if_pos c,if_pos c2];exact⟨h.1,h.2.1,rv⟩
     ·have c2:¬x.1=q:=h.1 ▸ c;rw[if_neg c,if_neg c2];exact h
 ·exact Paired.snoc r ⟨rfl,rfl,rv⟩
section
variable{X:Cx}{pins:List (Addr×Obj)}{σ:L2.St}{H:Hp}{s:Shared}{a:Addr}{ks:List (NK×V×V)}{kvs:List (D×D)}{y v:V}{kd:D}{q:NK}{u:Value}{A:Around}{E:Value->Shared->Prop}
theorem Qf(I:Inv X pins σ H s):∀{kvs:List (D×D)} {ks:List (NK×V×V)} {xs:List (NK×Addr×Value)},cZ X.K H kvs ks->KN ks xs->∀x∈xs,(qH X.prog X.w).is s.heap x.1 x.2.1
 | [],_,_,hr,r,x,hx=>by
  cases hr;cases r;cases hx
 | (k,d)::kvs,_,_,hr,r,x,hx=>by
  obtain⟨q,u,v,rest,rfl,h1,h2,h3,h4,h5⟩:=hr;cases r with
  | @cons _ x0 _ xs' h t=>
   rcases Qq5.mp hx with rfl|hx
   ·obtain⟨g1,g2,g3⟩:=h;simp only at g1 g2 g3;subst g1;subst g2;exact⟨Sh.isN k _ _ (Rep.sh I k _ (.ref x.2.1) h3 rfl) h1,h2⟩
   ·exact Qf I h5 t x hx
theorem CW(I:Inv X pins σ H s)(e:Rd H a (.dN ks))(hr:cZ X.K H kvs ks):ks.length<=sizeLine/\(a == sysModules)=false/\∃xs,KN ks xs/\s.heap.DictOfH (qH X.prog X.w) a xs:=by obtain⟨z,y,xs,r,o,es,ep,h1,h2,h3,h4,h5⟩:=(show gP X.prog X.w H s.heap a (.dN ks) from e.ok I.hok);exact⟨z,y,xs,r,o,es,ep,h1,h2,h3,h4,Qf I hr r,h5⟩
theorem pB.is(k:pB X.K H y kd q)(I:Inv X pins σ H s)(ry:RelV y u):∃b,y = .ref b/\u = .ref b/\(qH X.prog X.w).is s.heap q b:=by obtain⟨h1,h2,h3,xs,rfl⟩:=k;have h4:=Sh.isN _ _ _ (Rep.sh I _ y u h1 ry) h2;obtain⟨_,b,vs,rfl,_⟩:=h1;cases ry;exact⟨b,rfl,rfl,h4,h3⟩
theorem wA(hu:A.units+12<cLine):(qH X.prog X.w).room A.in1:=by show A.units+1+10<cLine;omega
theorem adP{Q:Value->Shared->Prop}(hu:A.units+12<cLine)(I:Inv X pins σ H s)(e:Rd H a (.dN ks))(hr:cZ X.K H kvs ks)(k:pB X.K H y kd q)(hv:valN ks q=some v)(ry:RelV y u)
  (h:∀w' s',Inv X pins σ H s'->RelV v w'->Q w' s'):wpAny (model X.prog X.w) A (getItem (.ref a) u) Q E s:=by
 obtain⟨b,rfl,rfl,hk⟩:=k.is I ry;obtain⟨z,hd,xs,rel,dd⟩:=CW I e hr;obtain⟨w',hw,MJ⟩:=xM.some_of (v:=v) (o:=(atKey xs q).map (·.2)) (by rw[<-hv];exact rel.val q);obtain⟨p,hp,hp2⟩:=Qww.mp hw;refine wpAny_getItem_heap (wA hu) hk dd hp ?_;rw[hp2];exact h w' _ (I.tok _) MJ
theorem WR{Q:Value->Shared->Prop}(hu:A.units+12<cLine)(I:Inv X pins σ H s)(e:Rd H a (.dN ks))(hr:cZ X.K H kvs ks)(k:pB X.K H y kd q)(ry:RelV y u)
  (h:∀s',Inv X pins σ H s'->Q (.bool (!(valN ks q).isSome)) s'):wpAny (model X.prog X.w) A (compareOp .NotIn u (.ref a)) Q E s:=by
 obtain⟨b,rfl,rfl,hk⟩:=k.is I ry;obtain⟨z,hd,xs,rel,dd⟩:=CW I e hr;refine wpAny_notIn_heap (wA hu) hk hd dd ?_;have q':=(rel.val q).qI;rw[Option.isSome_map] at q';rw[<-q'];exact h _ (I.tok _)
theorem Vh(ks:List (NK×V×V))(q:NK)(u v:V):(putN ks q u v).length<=ks.length+1:=by
 unfold putN;split
 ·rw[Qqq];omega
 ·simp
theorem adO{r:Value}{Q:Unit->Shared->Prop}(hu:A.units+12<cLine)(I:Inv X pins σ H s)(e:H a=some (.dN ks))(hr:cZ X.K H kvs ks)(k:pB X.K H y kd q)(hl:ks.length<sizeLine)(ry:RelV y u)(rv:RelV v r)
  (h:∀s',Inv X pins σ (upd H a (.dN (putN ks q y v))) s'->Q () s'):wpAny (model X.prog X.w) A (setItem (.ref a) u r) Q E s:=by
 obtain⟨b,rfl,rfl,hk⟩:=k.is I ry;obtain⟨z,hd,xs,rel,dd⟩:=CW I (.inl e) hr;have hz:xs.length<=sizeLine:=by rw[<-rel.len];exact z
 have hl2:(putN ks q (.ref b) v).length<=sizeLine:=by have:=Vh ks q (.ref b) v;omega
 refine wpAny_setItem_heap (hsz:=hz) (wA hu) hk dd λh' WQ hs=>h _ ?_;obtain⟨o,es,ep,hq,h2,h3,h4,_,h5⟩:=WQ;exact xA I (by rw[e];exact True.intro) hs ⟨o,hq⟩ ⟨hl2,hd,_,rel.put q rv,o,es,ep,hq,h2,h3,h4,h5⟩
end
noncomputable def lX(kvs:List (D×D))(q:NK):Option D:=(kvs.find? λp=>decide (oM p.1=some q)).map (·.2)
noncomputable def uN(kvs:List (D×D))(kd:D)(q:NK)(d:D):List (D×D):=if (lX kvs q).isSome then kvs.map (λp=>if oM p.1=some q then (p.1,d) else p) else kvs++[(kd,d)]
theorem cZ.len{K:Fg}{F:Hp}:∀{kvs:List (D×D)} {ks:List (NK×V×V)},cZ K F kvs ks->ks.length=kvs.length
 | [],_,h=>by cases h;rfl
 | (k,d)::kvs,_,h=>by obtain⟨q,u,v,r,rfl,_,_,_,_,h5⟩:=h;rw[Qqv,Qqv,h5.len]
theorem cZ.val{K:Fg}{F:Hp}(q:NK):∀{kvs:List (D×D)} {ks:List (NK×V×V)},cZ K F kvs ks->(lX kvs q=none/\valN ks q=none)\/∃d v,lX kvs q=some d/\valN ks q=some v/\Rep K F d v
 | [],_,h=>by cases h;exact .inl ⟨rfl,rfl⟩
 | (k,d)::kvs,_,h=>by
  obtain⟨q0,u,v,r,rfl,h1,h2,h3,h4,h5⟩:=h;unfold lX valN;rw[Qz6,Qz6];by_cases c:q0=q
  ·subst c;have c2:decide (oM k=some q0)=true:=Qw2 h1;rw[c2,Qw2 rfl];exact .inr ⟨d,v,rfl,rfl,h4⟩
  ·have c2:decide (oM k=some q)=false:=Qwk λz=>c (by rw[h1] at z;exact Qwv z);rw[c2,Qwk c];exact cZ.val q h5
theorem cZ.snoc{K:Fg}{F:Hp}{kd d:D}{q:NK}{u v:V}(h1:oM kd=some q)(h2:q.dep<=8)(h3:Rep K F kd u)(h4:Rep K F d v):∀{kvs:List (D×D)} {ks:List (NK×V×V)},cZ K F kvs ks->cZ K F (kvs++[(kd,d)]) (ks++[(q,u,v)])
 | [],_,h=>by cases h;exact⟨q,u,v,[],rfl,h1,h2,h3,h4,rfl⟩
 | (k,e)::kvs,_,h=>by
  obtain⟨q0,u0,v0,r,rfl,g1,g2,g3,g4,g5⟩:=h;exact⟨q0,u0,v0,r++[(q,u,v)],rfl,g1,g2,g3,g4,cZ.snoc h1 h2 h3 h4 g5⟩
theorem cZ.over{K:Fg}{F:Hp}{d:D}{q:NK}{v:V}(h4:Rep K F d v):∀{kvs:List (D×D)} {ks:List (NK×V×V)},cZ K F kvs ks->cZ K F (kvs.map λp=>if oM p.1=some q then (p.1,d) else p) (ks.map λp=>if p.1=q then (p.1,p.2.1,v) else p)
 | [],_,h=>by cases h;rfl
 | (k,e)::kvs,_,h=>by
  obtain⟨q0,u0,v0,r,rfl,g1,g2,g3,g4,g5⟩:=h;rw[Qq2,Qq2];have ih:=cZ.over (q:=q) h4 g5;by_cases c:q0=q
  ·subst c;rw[if_pos g1,if_pos rfl];exact⟨q0,u0,v,_,rfl,g1,g2,g3,h4,ih⟩
  ·rw[if_neg (λz=>c (by rw[g1] at z;exact Qwv z)),if_neg c];exact⟨q0,u0,v0,_,rfl,g1,g2,g3,g4,ih⟩
theorem cZ.put{K:Fg}{F:Hp}{kvs:List (D×D)}{ks:List (NK×V×V)}{kd d:D}{q:NK}{u v:V}(h:cZ K F kvs ks)(h1:oM kd=some q)(h2:q.dep<=8)(h3:Rep K F kd u)(h4:Rep K F d v):cZ K F (uN kvs kd q d) (putN ks q u v):=by
 have e:(lX kvs q).isSome=(valN ks q).isSome:=by rcases h.val q with ⟨g1,g2⟩|⟨_,_,g1,g2,_⟩<;>rw[g1,g2]<;>rfl
 unfold uN putN;rw[e];split
 ·exact h.over h4
 ·exact h.snoc h1 h2 h3 h4
theorem Rx(kvs:List (D×D))(kd:D)(q:NK)(d:D):(uN kvs kd q d).length<=kvs.length+1:=by
 unfold uN;split
 ·rw[Qqq];omega
 ·simp
theorem iR.fG{K:Fg}{F H:Hp}{kvs:List (D×D)}{v:V}(s:aW F H)(h:iR K F H (.fG kvs) v):kvs.length<=sizeLine/\∃a ks,v = .ref a/\Rd H a (.dN ks)/\cZ K F kvs ks:=by
 rcases h with ⟨z,a,vs,rfl,h1,h2⟩|⟨a,rfl,z,vs,h1,h2⟩
 ·exact⟨z,a,vs,rfl,aW.rd s h1,h2⟩
 ·exact⟨z,a,vs,rfl,.inl h1,h2⟩
def Ff(d:D):Option NK:=match d with
 | .tup xs=>(oM (.tup xs)).bind λq=>if q.dep<=8 then some q else none
 | _=>none
theorem yC{d:D}{q:NK}(h:Ff d=some q):oM d=some q/\q.dep<=8/\∃xs,d = .tup xs:=by
 unfold Ff at h;split at h
 ·obtain⟨p,h1,h2⟩:=Qx6.mp h;split at h2
  ·rename_i hd;cases h2;exact⟨h1,hd,_,rfl⟩
  ·cases h2
 ·cases h
theorem pB.of{C:Cfg}{F H:Hp}{d:D}{q:NK}{v:V}(s:aW F H)(p:iR C.K F H d v)(h:Ff d=some q):pB C.K H v d q:=by obtain⟨h1,h2,h3⟩:=yC h;exact⟨p.rep s,h1,h2,h3⟩
section
variable{X:Cx}{C:Cfg}{pos apos cpos:Pos}
def UT(K:Fg):R2:=λx y H Q=>∃a ks kvs kd q v,x = .ref a/\Rd H a (.dN ks)/\cZ K H kvs ks/\pB K H y kd q/\valN ks q=some v/\Q v H
noncomputable def rY:D->D->Option D
 | .fG kvs,k=>(Ff k).bind λq=>lX kvs q
 | _,_=>none
theorem YT:qw C (UT C.K) rY:=by
 intro Pr F env σ H x y d vx vy Q r px py e q;unfold rY at e;split at e
 ·obtain⟨z,a,ks,rfl,h1,h2⟩:=px.fG r.fr;obtain⟨k,hk,hv⟩:=Qx6.mp e;rcases h2.val k with ⟨e1,_⟩|⟨d',v',e1,e2,p2⟩
  ·rw[e1] at hv;cases hv
  ·rw[e1] at hv;cases hv;exact⟨a,ks,_,_,k,v',rfl,h1,cZ.mono r.fr _ _ h2,pB.of r.fr py hk,e2,q _ _ F r (aW.refl F) p2⟩
 ·cases e
theorem Yy{o i:Expr}{td ty:TE}(hu:X.A.units+12<cLine)(ho:PE X o td)(hi:PE X i ty)(hs:Oo i):PE X (.Subscript o i pos) (XD (UT X.K) td ty):=by intro pins s σ H Q I h;refine O4 PySem.F.slot_dict_getitem.lookup hs (gm (ho pins s σ H _ I h) λu s1 ⟨x,H1,I1,rx,q1⟩=>gm (hi pins s1 σ H1 _ I1 q1) λiv s2 ⟨y,H2,I2,ry,a,ks,kvs,kd,q,v,ex,g1,g2,g3,g4,q2⟩=>?_);subst ex;obtain rfl:u=Value.ref a:=rx;obtain⟨_,_,xs,_,dd⟩:=CW I2 g1 g2;exact⟨dd.typeIs,adP hu I2 g1 g2 g3 g4 ry λw' s3 I3 MJ=>⟨v,H2,I3,MJ,q2⟩⟩
theorem Xu{y:Expr}{b:Ev}{n:Str}{px:Pos}(i:Nat)(G:Good X C)(hb:QT X C y b)(hN:X.N[i]? = some n:=by rfl)(hv:uK X.env.scope n:=by first|exact Or.inl rfl|exact Or.inr (Or.inl rfl)|exact Or.inr (Or.inr rfl))(hs:Oo y:=by intro _ _;rfl)
  (hd:nH n:=by decide) (hcd:vB n:=by decide):PX X C (.Subscript (.Name n px) y pos) (au rY i b):=by
 have h:PE X (.Subscript (.Name n px) y pos) (XD (UT X.K) _ _):=Yy (pos:=pos) (by have:=G.un;omega) (lF (pos:=px) hN hv hd hcd) hb hs;rw[G.K] at h;exact h.imp (uD YT)
def ae0(K:Fg)(neg:Bool):R2:=λx y H Q=>∃a ks kvs kd q,y = .ref a/\Rd H a (.dN ks)/\cZ K H kvs ks/\pB K H x kd q/\Q (.bl (if neg then !(valN ks q).isSome else (valN ks q).isSome)) H
theorem RJ(hu:X.A.units+12<cLine):oG X (compareOp .NotIn) (ae0 X.K true):=by intro pins s σ H x y v u Q I rx ry h;obtain⟨a,ks,kvs,kd,q,rfl,g1,g2,g3,q2⟩:=h;cases ry;exact WR hu I g1 g2 g3 rx λs3 I3=>⟨.bl _,H,I3,rfl,q2⟩
noncomputable def oA(k y:D):Option D:=match y with
 | .fG kvs=>(Ff k).map λq=>.bl (!(lX kvs q).isSome)
 | _=>none
theorem RV:qw C (ae0 C.K true) oA:=by
 intro Pr F env σ H x y d vx vy Q r px py e q;cases y with
 | fG kvs=>
  obtain⟨k,hk,rfl⟩:=Qww.mp (show(Ff x).map (λq=>D.bl (!(lX kvs q).isSome))=some d from e);obtain⟨z,a,ks,rfl,h1,h2⟩:=py.fG r.fr;refine⟨a,ks,kvs,_,k,rfl,h1,cZ.mono r.fr _ _ h2,pB.of r.fr px hk,?_⟩;have e2:(valN ks k).isSome=(lX kvs k).isSome:=by rcases h2.val k with ⟨g1,g2⟩|⟨d',v',g1,g2,_⟩<;>rw[g1,g2]<;>rfl
  rw[e2];exact q _ H F r (aW.refl F) rfl
 | _=>cases e
theorem K8(G:Good X C):Cm X C .NotIn oA:=⟨_,RJ (by have:=G.un;omega),by rw[G.K];exact RV⟩
theorem KJ{P:Program}{w:World}{H:Hp}(h:Heap)(hb:sysModules<h.objs.size):gP P w H (h.push { cls:=.type "dict",data:=.dict #[] }) h.objs.size (.dN []):=
 ⟨Qx3 _,Qx7.mpr (Ne.symm (Qw7 hb)),[],.nil,_, #[],0,Qwy _ rfl,⟨rfl,rfl,rfl⟩,rfl,rfl,List.nodup_nil⟩
def abE:TE:=λ_ H Q=>∀p,H p=none->Q (.ref p) (upd H p (.dN []))
theorem VB:PE X (.Dict [] [] pos) abE:=λpins s σ H Q I h=>
 wpAny_Dict_empty ⟨.ref s.heap.objs.size,_,I.laid (a:=s.heap.objs.size) (o:=.dN []) (t':=s.toks) (λ_ _ q=>Qqz _ q) (Qqw _) (KJ s.heap I.big),rfl,h _ (I.hok.fresh (Qqw _))⟩
def Aj:Ev:=λenv=>.ok (.fG []) env
noncomputable def n8(i:Nat)(k a:Ev):bO:=λenv=>jG (a env) λd aN=>match aN[i]? with
 | some (some (_,_))=>jG (k aN) λkd dR=>(match dR[i]?,Ff kd with
  | some (some (true,.fG kvs)),some q=>if kvs.length<sizeLine then .nx (dR.set i (some (true,.fG (uN kvs kd q d)))) else .stuck
  | _,_=>.stuck)
 | _=>.stuck
def Up(K:Fg)(td ty tv:TE):TS:=λD σ H=>tv σ H λv H1=>td σ H1 λx H2=>ty σ H2 λy H3=>∃a ks kvs kd q,x = .ref a/\H3 a=some (.dN ks)/\cZ K H3 kvs ks/\pB K H3 y kd q/\ks.length<sizeLine/\D.nx σ (upd H3 a (.dN (putN ks q y v)))
theorem Vq{o i value:Expr}{pos':Pos}{td ty tv:TE}(hu:X.A.units+12<cLine)(ho:PE X o td)(hi:PE X i ty)(hv:PE X value tv)(hs:swapsWith value (some (.Subscript o i pos')) pos.line X.env=pure false) :
  PS X (.Assign [.Subscript o i pos'] value pos) (Up X.K td ty tv):=by
 intro pins s σ H D I h;refine wpAny_Assign_Subscript (gm (hv pins s σ H _ I h) λr s1 ⟨v,H1,I1,rv,q1⟩=>gm (ho pins s1 σ H1 _ I1 q1) λu s2 ⟨x,H2,I2,rx,q2⟩=>gm (hi pins s2 σ H2 _ I2 q2) λiv s3 ⟨y,H3,I3,ry,a,ks,kvs,kd,q,ex,g1,g2,g3,g4,q3⟩=>?_) hs;subst ex;obtain rfl:u=Value.ref a:=rx;exact adO hu I3 g1 g2 g3 g4 ry rv λs4 I4=>⟨σ,_,I4,q3⟩
theorem XQ{n:Str}{k e:Expr}{ek a:Ev}{px pos':Pos}(i:Nat)(G:Good X C)(hk:PX X C k ek)(he:PX X C e a)(hN:X.N[i]? = some n:=by rfl)(hv:uK X.env.scope n:=by first|exact Or.inl rfl|exact Or.inr (Or.inl rfl)|exact Or.inr (Or.inr rfl))
  (hs:swapsWith e (some (.Subscript (.Name n px) k pos')) pos.line X.env=pure false:=by rfl)
  (hd:nH n:=by decide) (hcd:vB n:=by decide):Xi X C (.Assign [.Subscript (.Name n px) k pos'] e pos) (n8 i ek a):=by
 have h0:PS X (.Assign [.Subscript (.Name n px) k pos'] e pos) (Up X.K _ _ _):=Vq (by have:=G.un;omega) (lF hN hv hd hcd) hk he hs;rw[G.K] at h0;refine h0.imp λD σ H h=>?_;obtain⟨Pr,F,env,r,f⟩:=h;obtain⟨d,aN,e1,f1⟩:=eQ f;refine⟨Pr,F,env,aN,d,r,e1,λv H1 F1 r1 s1 p1=>?_⟩;split at f1
 ·rename_i o0 d0 h0;obtain⟨v0,hv0,_⟩:=r1.rd h0;obtain⟨kd,dR,e2,f2⟩:=eQ f1;refine⟨v0,hv0,Pr,F1,aN,dR,kd,r1,e2,λvk H2 F2 r2 s2 p2=>?_⟩;split at f2
  ·rename_i kvs q h2 hq;split at f2
   ·rename_i hz;obtain⟨b,g1,⟨z,ks,g2,g3⟩,g4,g5⟩:=r2.own i _ h2;rw[hv0] at g1;cases g1;have hz':ks.length<sizeLine:=by rw[g3.len];exact hz
    obtain⟨n1,n2,n3⟩:=yC hq;refine⟨b,ks,kvs,kd,q,rfl,g2,cZ.mono r2.fr _ _ g3,⟨Rep.mono r2.fr _ _ p2,n1,n2,n3⟩,hz',?_⟩;refine f2 σ _ F2 (r2.write h2 hv0 ⟨Qq0 (Rx _ _ _ _) hz,_,bf,g3.put n1 n2 p2 (Rep.mono s2 _ _ p1)⟩) (s1.trans s2)
   ·exact f2.elim
  ·exact f2.elim
 ·exact f1.elim
def O2(K:Fg)(td ty tx:TE):TE:=λσ H Q=>td σ H λx H1=>∃a,x = .ref a/\(∃ks,Rd H1 a (.dN ks))/\ty σ H1 λy H2=>tx σ H2 λz H3=>∃ks kvs kd q,Rd H3 a (.dN ks)/\cZ K H3 kvs ks/\pB K H3 y kd q/\Q ((valN ks q).getD z) H3
theorem Vy{o e f:Expr}{td ty tx:TE}(hu:X.A.units+12<cLine)(ho:PE X o td)(he:PE X e ty)(hf:PE X f tx)(m:M2 X o "get" apos e f cpos):PE X (.Call (.Attribute o "get" apos) [e,f] [] cpos) (O2 X.K td ty tx):=by
 intro pins s σ H Q I h;refine wpAny_Call_method m.base m.few m.line PySem.F.plainAttrs_dict PySem.F.slot_dict_get PySem.F.type_dict_get (gm (ho pins s σ H _ I h) λu s1 ⟨x,H1,I1,rx,a,ex,⟨ks0,d⟩,q1⟩=>?_);subst ex;obtain rfl:u=Value.ref a:=rx;obtain⟨_,_,_,_,ob,_,_,h1,h2,_⟩:=(show gP X.prog X.w H1 s1.heap a (.dN ks0) from d.ok I1.hok);refine⟨⟨ob,h1,h2.1⟩,λb q=>?_,?_⟩
 ·cases q;exact⟨ob,h1,h2.2.1⟩
 rw[m.trees];refine Calls.callWith_builtin rfl (Calls.evalArgs_plain (Calls.spliced_cons (gm (he pins s1 σ H1 _ I1 q1) λiv s2 ⟨y,H2,I2,ry,q2⟩=>
  Calls.spliced_cons (gm (hf pins s2 σ H2 _ I2 q2) λfv s3 ⟨z,H3,I3,rz,ks,kvs,kd,q,g1,g2,g3,q3⟩=>Calls.spliced_nil ?_))))
 obtain⟨b,rfl,rfl,hk⟩:=g3.is I3 ry;obtain⟨_,hd,xs,rel,dd⟩:=CW I3 g1 g2;refine call_meetsIn PySem.F.slot_dict_get dd.typeIs PySem.F.entry_dict_get (PySem.F.args_dict_get_3 _ _ _) (meetsH_dict_get_default (qH X.prog X.w) a b hd fv) ⟨wA hu,q,xs,hk,dd,?_⟩;exact⟨_,H3,I3.tok _,(rel.val q).getD rz,q3⟩
noncomputable def nA(i:Nat)(b c:Ev):Ev:=λenv=>match env[i]? with
 | some (some (_,.fG _))=>bindR (b env) λk e2=>bindR (c e2) λt e3=>(match e3[i]? with
  | some (some (_,.fG kvs))=>gC ((Ff k).map λq=>(lX kvs q).getD t) e3
  | _=>.stuck)
 | _=>.stuck
theorem T5{y z:Expr}{b c:Ev}{n:Str}{px:Pos}(i:Nat)(G:Good X C)(hb:PX X C y b)(hc:PX X C z c)(m:M2 X (.Name n px) "get" apos y z pos:=by exact⟨by rfl,by rfl,by rfl,by rfl⟩)(hN:X.N[i]? = some n:=by rfl)
  (hv:uK X.env.scope n:=by first|exact Or.inl rfl|exact Or.inr (Or.inl rfl)|exact Or.inr (Or.inr rfl)) (hd:nH n:=by decide) (hcd:vB n:=by decide) :
  PX X C (.Call (.Attribute (.Name n px) "get" apos) [y,z] [] pos) (nA i b c):=by
 have h0:PE X (.Call (.Attribute (.Name n px) "get" apos) [y,z] [] pos) (O2 X.K (abC i) _ _):=Vy (by have:=G.un;omega) (lF hN hv hd hcd) hb hc m;rw[G.K] at h0;refine h0.imp λσ H Q hq=>?_;obtain⟨Pr,F,env,env',d,rl,e,q⟩:=hq;unfold nA at e;split at e
 ·rename_i o0 aiV h0;obtain⟨k,dR,e3,e4⟩:=aZ e;obtain⟨t,KD,e5,e6⟩:=aZ e4;split at e6
  ·rename_i o1 kvs h1;obtain⟨e7,rfl⟩:=fH e6;obtain⟨kk,hk,rfl⟩:=Qww.mp e7;obtain⟨v0,hv0,b0⟩:=rl.rd h0;obtain⟨_,a,ks0,rfl,g1,_⟩:=b0.fG rl.fr;refine⟨.ref a,hv0,a,rfl,⟨ks0,g1⟩,Pr,F,env,dR,k,rl,e3,λvk H2 F2 r2 s2 p2=>⟨Pr,F2,dR,env',t,r2,e5,λvt H3 F3 r3 s3 p3=>?_⟩⟩;obtain⟨v1,hv1,b1⟩:=r3.rd h1;rw[hv0] at hv1;cases hv1;obtain⟨_,a',ks,ea,g2,g3⟩:=b1.fG r3.fr;cases ea;refine⟨ks,kvs,k,kk,g2,cZ.mono r3.fr _ _ g3,pB.of r3.fr (.inl (Rep.mono s3 _ _ p2)) hk,?_⟩;rcases g3.val kk with ⟨u1,u2⟩|⟨d',v',u1,u2,u3⟩
   ·rw[u2];rw[u1] at q;exact q _ H3 F3 r3 (s2.trans s3) p3
   ·rw[u2];rw[u1] at q;exact q _ H3 F3 r3 (s2.trans s3) u3
  ·cases e6
 ·cases e
def Ud(K:Fg)(tk tv:TE):TE:=λσ H Q=>∀p,H p=none->tk σ (upd H p (.dN [])) λx H1=>tv σ H1 λy H2=>H2 p=some (.dN [])/\∃kd q,pB K H2 x kd q/\Q (.ref p) (upd H2 p (.dN [(q,x,y)]))
theorem VF{k v:Expr}{tk tv:TE}(hu:X.A.units+12<cLine)(hk:PE X k tk)(hv:PE X v tv):PE X (.Dict [some k] [v] pos) (Ud X.K tk tv):=by intro pins s σ H Q I q;have hn:=I.hok.fresh (Qqw s.heap.objs.size);have I1:=I.laid (a:=s.heap.objs.size) (o:=.dN []) (h':=s.heap.push { cls:=.type "dict",data:=.dict #[] }) (t':=s.toks) (λ_ _ q=>Qqz _ q) (Qqw _) (KJ s.heap I.big);rw[arm_eval_Dict,zip_pairTrees [some k] [v] X.env pos rfl rfl,dictDisplay_pairs (pairTrees [some k] [v] X.env pos) (by intro z;cases z) (by rw[pairTrees_length [some k] [v] X.env pos rfl rfl];simp)];refine Qqx (wpAny_standAt (Qqx ?_));unfold subDict;refine Qqx (wpAny_alloc ?_);refine Qqx (Qz3 ?_);rw[if_pos (by rw[pairTrees_length [some k] [v] X.env pos rfl rfl];simp)];refine Qqx (pairTrees_cons_walk (gm (hk pins _ σ _ _ I1 (q _ hn)) λu s1 ⟨x,H1,J1,rx,q1⟩=>gm (hv pins s1 σ H1 _ J1 q1) λw2 s2 ⟨y,H2,J2,ry,e,kd,qq,ka,q2⟩=>pairTrees_nil_walk ?_));refine Qz3 ?_;refine Qqx ?_;rw[Qk7];obtain⟨b,rfl,rfl,hkk⟩:=ka.is J2 rx;obtain⟨_,hd,xs,rel,dd⟩:=CW (kvs:=[]) J2 (.inl e) rfl;cases rel;refine Qqx (Qqx (wpAny_dictSet_heap (hsz:=Qx3 _) (show X.A.units+10<cLine by omega) hkk dd λh' WQ hs=>Qq1 ?_));show wpAny _ _ (forIn ([]:List (Value×Value)) PUnit.unit _) _ _ _;rw[Qky];refine Qq1 (Qq1 (Qq1 (Qq1 ?_)));obtain⟨o,es,ep,hq,h2,h3,h4,_,h5⟩:=WQ;exact⟨.ref s.heap.objs.size,_,xA (ob:=.dN [(qq,.ref b,y)]) J2 (by rw[e];exact True.intro) hs ⟨o,hq⟩ ⟨by show 1<=sizeLine;decide,hd,[(qq,b,w2)],.cons ⟨rfl,rfl,ry⟩ .nil,o,es,ep,hq,h2,h3,h4,h5⟩,rfl,q2⟩
def CK(k a:Ev):Ev:=λenv=>bindR (k env) λkd e1=>bindR (a e1) λd e2=>match Ff kd with
 | some _=>.ok (.fG [(kd,d)]) e2
 | none=>.stuck
theorem U8{k v:Expr}{ek ev:Ev}(G:Good X C)(hk:PX X C k ek)(hv:PX X C v ev):QS X C (.Dict [some k] [v] pos) (CK ek ev):=by
 have h0:PE X (.Dict [some k] [v] pos) (Ud X.K _ _):=VF (by have:=G.un;omega) hk hv;rw[G.K] at h0;refine h0.imp λσ H Q hq=>?_;obtain⟨Pr,F,env,env',d,r,e,q⟩:=hq;obtain⟨kd,aN,e1,e2⟩:=aZ e;obtain⟨dv,dR,e3,e4⟩:=aZ e2;split at e4
 ·rename_i qq hqq;cases e4;obtain⟨n1,n2,n3⟩:=yC hqq;intro p hp;have ra:=r.aside (o:=.dN []) hp;have nP:Pr p=none:=r.pr.free hp;refine⟨upd Pr p (.dN []),F,env,aN,kd,ra,e1,λx H1 F1 r1 s1 p1=>⟨upd Pr p (.dN []),F1,aN,env',dv,r1,e3,λy H2 F2 r2 s2 p2=>⟨r2.pr p _ bf,kd,qq,⟨Rep.mono r2.fr _ _ (Rep.mono s2 _ _ p1),n1,n2,n3⟩,?_⟩⟩⟩;have r3:=r2.turn (u:=.dN [(qq,x,y)]) bf;have nF:F2 p=none:=by
   cases hF:F2 p with
   | none=>rfl
   | some o=>have:=r2.dj p o hF;rw[bf] at this;cases this
  have r4:Rel C Pr F2 env' σ (upd H2 p (.dN [(qq,x,y)])):=r3.less λb o hb=>by
   have hne:b≠p:=λz=>by rw[z,nP] at hb;cases hb
   rw[bI hne,bI hne];exact hb
  refine q p _ F2 r4 (s1.trans s2) ⟨⟨by show 1<=sizeLine;decide,_,bf,⟨qq,x,y,[],rfl,n1,n2,Rep.mono s2 _ _ p1,p2,rfl⟩⟩,nF,nP,λj e he hs=>?_⟩;obtain⟨b,h1,_,_,h4⟩:=r2.own j e he;rw[hs] at h1;cases h1;rw[bf] at h4;cases h4
 ·cases e4
def Gu:bO:=λ_=>.stuck
theorem Aq{y:Expr}{b:Ev}{n:Str}{px:Pos}(i:Nat)(G:Good X C)(hb:QR X C y b)(hN:X.N[i]? = some n:=by rfl)(hv:uK X.env.scope n:=by first|exact Or.inl rfl|exact Or.inr (Or.inl rfl)|exact Or.inr (Or.inr rfl))(hs:Oo y:=by intro _ _;rfl)
  (hd:nH n:=by decide) (hcd:vB n:=by decide):SX X C (.Subscript (.Name n px) y pos) (au rY i b):=⟨Ev.Xu i G hb.u hN hv hs hd hcd⟩
theorem Br:Tz X C (.Dict [] [] pos) Aj:=⟨VB.imp λσ H Q hq=>by
 obtain⟨Pr,F,env,env',d,r,e,q⟩:=hq;cases e;exact λp hp=>q _ _ F (r.fresh hp) (aW.refl F) (TJ.of r hp ⟨Qx3 _,[],bf,rfl⟩)⟩
theorem Bm{n:Str}{k e:Expr}{ek a:Ev}{px pos':Pos}(i:Nat)(G:Good X C)(hk:SX X C k ek)(he:SX X C e a)(hN:X.N[i]? = some n:=by rfl)(hv:uK X.env.scope n:=by first|exact Or.inl rfl|exact Or.inr (Or.inl rfl)|exact Or.inr (Or.inr rfl))
  (hs:swapsWith e (some (.Subscript (.Name n px) k pos')) pos.line X.env=pure false:=by rfl)
  (hd:nH n:=by decide) (hcd:vB n:=by decide):Lk X C (.Assign [.Subscript (.Name n px) k pos'] e pos) (n8 i ek a):=⟨Ev.XQ i G hk.u he.u hN hv hs hd hcd⟩
theorem QV{y z:Expr}{b c:Ev}{n:Str}{px:Pos}(i:Nat)(G:Good X C)(hb:SX X C y b)(hc:SX X C z c)(m:M2 X (.Name n px) "get" apos y z pos:=by exact⟨by rfl,by rfl,by rfl,by rfl⟩)(hN:X.N[i]? = some n:=by rfl)
  (hv:uK X.env.scope n:=by first|exact Or.inl rfl|exact Or.inr (Or.inl rfl)|exact Or.inr (Or.inr rfl)) (hd:nH n:=by decide) (hcd:vB n:=by decide) :
  SX X C (.Call (.Attribute (.Name n px) "get" apos) [y,z] [] pos) (nA i b c):=⟨Ev.T5 i G hb.u hc.u m hN hv hd hcd⟩
theorem Rt{k v:Expr}{ek ev:Ev}(G:Good X C)(hk:SX X C k ek)(hv:SX X C v ev):Tz X C (.Dict [some k] [v] pos) (CK ek ev):=⟨Ev.U8 G hk.u hv.u⟩
theorem M4{st:Stmt}:Lk X C st Gu:=⟨λpins s σ H D I h=>by
 obtain⟨_,_,_,_,f⟩:=h;exact f.elim⟩
end
end Ev
namespace SI
open PySem PySem.Spec PyProof.Rows L2 PySem.Builtin
def Ris(xs:Array Nat):Prop:=∀i j,i<j->j<xs.size->xs.getD i 0<xs.getD j 0
theorem Kf{xs:Array Nat}{i:Nat}(a b:Nat)(h:i<xs.size):xs.getD i a=xs.getD i b:=by simp[Array.getD,h]
theorem Di{xs:Array Nat}{j:Nat}(R:Ris xs):∀(fuel lo hi:Nat),lo<=hi->hi<=xs.size->hi - lo<=fuel->(∀i,i<lo->xs.getD i 0<j)->(∀i,hi<=i->i<xs.size->j<=xs.getD i 0)->
  SetTable.below.go xs j fuel lo hi<=xs.size/\(∀i,i<SetTable.below.go xs j fuel lo hi->xs.getD i 0<j)/\∀i,SetTable.below.go xs j fuel lo hi<=i->i<xs.size->j<=xs.getD i 0
 | 0,lo,hi,h1,h2,h3,h4,h5=>by
  unfold SetTable.below.go;exact⟨by omega,h4,λi a b=>h5 i (by omega) b⟩
 | fuel+1,lo,hi,h1,h2,h3,h4,h5=>by
  unfold SetTable.below.go;split
  ·rename_i hl;dsimp only;split
   ·rename_i hm;rw[Kf j 0 (by omega)] at hm;refine Di R fuel _ _ (by omega) h2 (by omega) (λi hq=>?_) h5;by_cases c:i=(lo+hi) / 2
    ·rw[c];exact hm
    ·exact Nat.lt_trans (R i _ (by omega) (by omega)) hm
   ·rename_i hm;rw[Kf j 0 (by omega)] at hm;refine Di R fuel _ _ (by omega) (by omega) (by omega) h4 (λi hq hs=>?_);by_cases c:i=(lo+hi) / 2
    ·rw[c];omega
    ·have:=R ((lo+hi) / 2) i (by omega) hs;omega
  ·exact⟨by omega,h4,λi a b=>h5 i (by omega) b⟩
theorem Lb{xs:Array Nat}(R:Ris xs)(j:Nat):SetTable.below xs j<=xs.size/\(∀i,i<SetTable.below xs j->xs.getD i 0<j)/\∀i,SetTable.below xs j<=i->i<xs.size->j<=xs.getD i 0:=
 Di R xs.size 0 xs.size (Qx3 _) (Qqw _) (Qqw _) (λi h=>absurd h (Qk6 _)) λi h hs=>absurd hs (Nat.not_lt.mpr h)
theorem Eb{α:Type}(xs:Array α)(p:Nat)(x:α)(h:p<=xs.size):(SetTable.insertAt xs p x).size=xs.size+1:=by unfold SetTable.insertAt;simp;omega
theorem wZ(xs:Array Nat)(p x:Nat)(h:p<=xs.size)(i:Nat)(hi:i<xs.size+1):(SetTable.insertAt xs p x).getD i 0=if i<p then xs.getD i 0 else if i=p then x else xs.getD (i - 1) 0:=by
 have e:(SetTable.insertAt xs p x).getD i 0=((xs.toList.take p++[x])++xs.toList.drop p).getD i 0:=by
  have:(SetTable.insertAt xs p x).toList=(xs.toList.take p++[x])++xs.toList.drop p:=by unfold SetTable.insertAt;simp[Array.toList_extract,List.extract];exact Qkz (by rw[Qz2,Qz1];exact Qqw _)
  rw[<-this,Qkq,Qq9,Qkw]
 rw[e,Qq9];have hl:(xs.toList.take p).length=p:=by simp;omega
 by_cases c:i<p
 ·rw[if_pos c,Qxk,Qxq (by omega),Qjz c,Qkw,Qkq]
 ·rw[if_neg c];by_cases c2:i=p
  ·rw[if_pos c2,Qxk,Qx0 (by omega),hl,c2,Nat.sub_self]
   rfl
  ·rw[if_neg c2,Qx0 (by rw[Qqy,hl,Qw9];omega),Qqy,hl,Qw9,List.getElem?_drop,Qkw,Qkq,show p+(i - (p+1))=i - 1 by omega]
theorem Ris.insert{xs:Array Nat}(R:Ris xs){j:Nat}(hj:∀i,i<xs.size->xs.getD i 0≠j):Ris (SetTable.insertAt xs (SetTable.below xs j) j):=by
 obtain⟨b1,b2,b3⟩:=Lb R j;generalize SetTable.below xs j=p at *;intro a b hab hb;rw[Eb _ _ _ b1] at hb;rw[wZ _ _ _ b1 a (by omega),wZ _ _ _ b1 b (by omega)];by_cases ca:a<p
 ·rw[if_pos ca];by_cases cb:b<p
  ·rw[if_pos cb];exact R a b hab (by omega)
  ·rw[if_neg cb];by_cases cb2:b=p
   ·rw[if_pos cb2];exact b2 a ca
   ·rw[if_neg cb2];exact R a (b - 1) (by omega) (by omega)
 ·rw[if_neg ca,if_neg (show ¬b<p by omega),if_neg (show b≠p by omega)];by_cases ca2:a=p
  ·rw[if_pos ca2];have h1:=b3 (b - 1) (by omega) (by omega);have h2:=hj (b - 1) (by omega);omega
  ·rw[if_neg ca2];exact R (a - 1) (b - 1) (by omega) (by omega)
theorem Bt{t:SetTable}{hashAt:Nat->Int}{h:Int}(hd:t.dummies = #[]):∀(n:Nat) (p:SetTable.Probe) (j:Nat) (d:Option Nat),p.dummy=none->SetTable.probe.go t hashAt h n p=some (.empty j d)->d=none/\t.slot j = .empty
 | 0,p,j,d,_,e=>by unfold SetTable.probe.go at e;cases e
 | n+1,p,j,d,hp,e=>by
  unfold SetTable.probe.go at e;cases hs:t.slot p.j with
  | empty=>
   rw[hs] at e;cases e;exact⟨hp,hs⟩
  | dummy=>
   exfalso;unfold SetTable.slot at hs;dsimp only at hs;split at hs
   ·cases hs
   ·split at hs
    ·rename_i h2;rw[hd] at h2;unfold SetTable.has at h2;simp at h2
    ·cases hs
  | live i=>
   rw[hs] at e;dsimp only at e;split at e
   ·cases e
   ·refine Bt hd n _ j d ?_ e;unfold SetTable.advance;split
    ·exact hp
    ·exact hp
theorem ZJ{t:SetTable}{h:Int}(hd:t.dummies = #[]){j:Nat}{b:Bool}(e:t.freeSlot h=some (j,b)):b=false/\t.place[SetTable.below t.place j]? ≠ some j:=by
 unfold SetTable.freeSlot at e;split at e
 ·rename_i j' d hp;obtain⟨rfl,hs⟩:=Bt hd _ _ _ _ rfl hp;cases e;refine⟨rfl,λz=>?_⟩
  change t.place[SetTable.below t.place j']? = some j' at z
  unfold SetTable.slot at hs;dsimp only at hs;rw[z] at hs;simp at hs
 ·cases e
structure Pl(t:SetTable):Prop where
 dm:t.dummies = #[]
 ri:Ris t.place
theorem Pl.put{t:SetTable}(p:Pl t){j:Nat}(h:t.place[SetTable.below t.place j]? ≠ some j):Pl (t.put j).1:=by
 refine⟨?_,?_⟩
 ·show(if SetTable.has t.dummies j then _ else t.dummies) = #[];rw[p.dm];unfold SetTable.has;simp
 ·show Ris (SetTable.insertAt t.place (SetTable.below t.place j) j);refine p.ri.insert λi hi z=>h ?_;obtain⟨b1,b2,b3⟩:=Lb p.ri j;have:SetTable.below t.place j=i:=by
   rcases Nat.lt_trichotomy (SetTable.below t.place j) i with c|c|c
   ·have h1:=b3 _ (Qqw _) (by omega);have h2:=p.ri _ i c hi;omega
   ·exact c
   ·have:=b2 i c;omega
  rw[this];rw[Qkq] at z;rw[Array.getElem?_eq_getElem hi] at z ⊢
  simpa using z
theorem Rn(n:Nat):Ris (Array.range n):=by
 intro i j h1 h2;simp at h2;have h3:i<n:=by omega
 simp[Array.getD,h2,h3,h1]
theorem Pl.stand{t:SetTable}(n:Nat):Pl (t.standIn n):=⟨rfl,Rn n⟩
theorem Pl.YJ{t:SetTable}(p:Pl t)(n:Nat):Pl (t.orStandIn n):=by
 unfold SetTable.orStandIn;split
 ·exact p
 ·exact Pl.stand n
theorem Pl.lay{t:SetTable}(p:Pl t)(es:Array (Int×Value))(h:Int)(x:Value):Pl (layNew t es h x).2.1:=by
 unfold layNew;split
 ·rename_i sl wd e;exact(p.put (ZJ p.dm e).2).YJ _
 ·exact Pl.stand _
theorem Uq{l:List Nat}(h:l.Pairwise (·< ·)):Ris l.toArray:=by
 intro i j h1 h2;simp at h2;have h3:i<l.length:=by omega
 have:=List.pairwise_iff_getElem.mp h i j h3 h2 h1
 simpa[Array.getD,h2,h3] using this
theorem Pl.aeM{t:SetTable}(es:Array (Int×Value))(n:Nat):Pl (relayAll t es n).2.1:=by
 unfold relayAll;split
 ·rename_i t' order e;dsimp only;split
  ·unfold SetTable.relaid SetTable.laid at e;cases h1:SetTable.layClean (SetTable.sizeAbove n - 1) (es.map (·.1)) with
   | none=>rw[h1] at e;cases e
   | some ow=>
    rw[h1] at e;injection e with e
    injection e with e _
    subst e;refine⟨rfl,Uq ?_⟩;generalize SetTable.sizeAbove n - 1+1=m;have:∀l:List Nat,l.Pairwise (·< ·)->((l.filterMap λj=>(ow.getD j none).map (j,·)).map (·.1)).Pairwise (·< ·):=by
     intro l hl;have e2:(l.filterMap λj=>(ow.getD j none).map (j,·)).map (·.1)=l.filter λj=>(ow.getD j none).isSome:=by
      clear hl
      induction l with
      | nil=>rfl
      | cons a l ih=>
       rw[Qk4,List.filter_cons];cases ow.getD a none with
       | none=>simpa using ih
       | some v=>exact Qxy (a :: ·) ih
     rw[e2];exact hl.filter _
    exact this _ List.pairwise_lt_range
  ·exact Pl.stand _
 ·exact Pl.stand _
open SX (led G8 Ae wR uq Ar Ac fresh)
def Dk(ys:List Int)(x:Int):List Int:=if x∈ys then ys else ys++[x]
def sJ(zs:List Int):List Int:=zs.foldl Dk []
theorem Xa(ys:List Int)(x:Int):(Dk ys x).length<=ys.length+1:=by
 unfold Dk;split
 ·omega
 ·simp
theorem qy(zs:List Int):∀ys:List Int,(zs.foldl Dk ys).length<=ys.length+zs.length:=by
 induction zs with
 | nil=>intro ys;exact Qqw _
 | cons z zs ih=>intro ys;rw[Qz7,Qqv];have:=ih (Dk ys z);have:=Xa ys z;omega
structure TOk(P:Program)(w:World)(es:Array (Int×Value))(t:SetTable)(ys:List Int):Prop where
 el:ElemsOf (intKind P w) es.toList
 tx:∃ss:List Int,IntsAre (es.toList.map (·.2)) ss/\ss.Perm ys
 fit:t.fits es.size=true
 ld:t.led=led w
 pl:Pl t
def vL(P:Program)(w:World)(h:Heap)(a:Addr)(ys:List Int):Prop:=
 ∃o es ep t,h.get? a=some o/\o.ExactSet/\o.data = .set es ep t/\TOk P w es t ys
theorem vL.keep{P:Program}{w:World}{h h':Heap}{a:Addr}{ys:List Int}(x:vL P w h a ys)(k:∀o,h.get? a=some o->h'.get? a=some o):vL P w h' a ys:=
 let ⟨o,es,ep,t,e,r⟩:=x;⟨o,es,ep,t,k o e,r⟩
theorem J9{vs:List Value}{ss:List Int}(h:IntsAre vs ss):vs.length=ss.length:=by
 induction h with
 | nil=>rfl
 | cons _ _ _ ih=>simp[ih]
theorem Wn{vs:List Value}{ss:List Int}(h:IntsAre vs ss):∀v∈vs,∃x t,v = .int x t/\x∈ss:=by
 induction h with
 | nil=>intro v hv;cases hv
 | cons y t _ ih=>
  intro v hv;rcases Qq5.mp hv with rfl|hv
  ·exact⟨y,t,rfl,Qqk⟩
  ·obtain⟨x,t,e,m⟩:=ih v hv;exact⟨x,t,e,Qqj _ m⟩
theorem Sd{vs:List Value}{ss:List Int}(h:IntsAre vs ss):∀x∈ss,∃t,Value.int x t∈vs:=by
 induction h with
 | nil=>intro x hx;cases hx
 | cons y t _ ih=>
  intro x hx;rcases Qq5.mp hx with rfl|hx
  ·exact⟨t,Qqk⟩
  ·obtain⟨t,m⟩:=ih x hx;exact⟨t,Qqj _ m⟩
theorem ints_app{vs us:List Value}{ss rs:List Int}(h:IntsAre vs ss)(g:IntsAre us rs):IntsAre (vs++us) (ss++rs):=by
 induction h with
 | nil=>exact g
 | cons y t _ ih=>exact .cons y t ih
theorem Fv{vs us:List Value}(p:us.Perm vs):∀{ss:List Int},IntsAre vs ss->∃rs,IntsAre us rs/\rs.Perm ss:=by
 induction p with
 | nil=>intro ss h;exact⟨ss,h,.rfl⟩
 | cons x _ ih=>
  intro ss h;cases h with
  | cons y t h=>
   obtain⟨rs,h1,h2⟩:=ih h;exact⟨y::rs,.cons y t h1,h2.cons y⟩
 | swap x y l=>
  intro ss h;cases h with
  | cons a t h=>cases h with
   | cons b u h=>exact⟨b::a::_,.cons b u (.cons a t h),.swap _ _ _⟩
 | trans _ _ ih1 ih2=>
  intro ss h;obtain⟨rs,h1,h2⟩:=ih2 h;obtain⟨qs,h3,h4⟩:=ih1 h1;exact⟨qs,h3,h4.trans h2⟩
theorem TOk.size{P:Program}{w:World}{es:Array (Int×Value)}{t:SetTable}{ys:List Int}(x:TOk P w es t ys):es.size=ys.length:=by obtain⟨ss,h1,h2⟩:=x.tx;rw[<-h2.length_eq,<-J9 h1,Qqq,Qz1]
section
variable{P:Program}{w:World}{A:Around}{E:Value->Shared->Prop}{s:Shared}{a:Addr}
theorem store{o:Obj}{es es':Array (Int×Value)}{ep:Nat}{t t':SetTable}{ys:List Int}{Q:Unit->Shared->Prop}(ho:s.heap.get? a=some o)(hx:o.ExactSet)(hd:o.data = .set es ep t)(k:TOk P w es' t' ys)(hz:ys.length<scanBound)
  (h:∀g o',Heap.SameBut a s.heap g->g.get? a=some o'->o'.ExactSet->o'.data = .set es' (ep+1) t'->Q () { s with heap:=g }):wpAny (model P w) A (storeSet a es' t') Q E s:=by
 have hb:es'.size<scanBound:=by rw[k.size];exact hz
 refine wpAny_storeSet_of ho hd ?_ (fits_of_scanBound hb);have e:=Heap.get?_update_self (Obj.putSet es' t') ho (by rw[putSet_of es' t' hd];rfl);rw[putSet_of es' t' hd] at e;exact h _ _ (Heap.SameBut.update s.heap a _) e hx rfl
theorem Tp{k:Int}{tk:Tok}{o:Obj}{es:Array (Int×Value)}{ep:Nat}{t:SetTable}{ys:List Int}{Q:Bool->Shared->Prop}(ho:s.heap.get? a=some o)(hx:o.ExactSet)(hd:o.data = .set es ep t)(x:TOk P w es t ys)(hz:ys.length+1<scanBound)
  (h:∀g b,Heap.SameBut a s.heap g->vL P w g a (Dk ys k)->Q b { s with heap:=g }):wpAny (model P w) A (setAddHashed a (.int k tk) ((intKind P w).hash k)) Q E s:=by
 have hk:(intKind P w).is k (.int k tk)=true:=intKind_is P w k tk;have hsc:(Value.int k tk).scannable=true:=rfl;have hb:es.size<scanBound:=by rw[x.size];omega
 unfold setAddHashed setAddHashedIn;refine Qz3 (Qqx (wpAny_setState_of ho hd x.fit ?_));dsimp only;rw[if_pos (byScan_of hsc hb x.el)];unfold setAddByScan;refine Qqx (Qqx (wpAny_rule (Qqx (wpAny_setScan_of hk ho hd x.fit x.el ?_))));obtain⟨ss,s1,s2⟩:=x.tx;cases hr:es.toList.findIdx? (λe=>(intKind P w).is k e.2) with
 | some j=>
  dsimp only;obtain⟨hj,hpj,_⟩:=List.findIdx?_eq_some_iff_getElem.mp hr;refine Qq1 (Qq1 ?_);have hm:k∈ys:=by obtain⟨y,u,e1,e2⟩:=Wn s1 (es.toList[j].2) (Qwz.mpr ⟨_,Qx2 hj,rfl⟩);rw[e1] at hpj;have:k=y:=(intKind P w).inj _ _ _ hpj (intKind_is P w y u);subst this;exact s2.mem_iff.mp e2
  have:=h s.heap false (Heap.SameBut.refl a s.heap) (by rw[Dk,if_pos hm];exact⟨o,es,ep,t,ho,hx,hd,x⟩);cases s;exact this
 | none=>
  dsimp only;have hm:k ∉ ys:=λz=>by
   obtain⟨u,hu⟩:=Sd s1 k (s2.mem_iff.mpr z);obtain⟨e,he,e2⟩:=Qwz.mp hu;have:=List.findIdx?_eq_none_iff.mp hr e he;rw[e2,intKind_is] at this;cases this
  have hp:=layNew_perm t es ((intKind P w).hash k) (.int k tk);have hf:=layNew_fits t es ((intKind P w).hash k) (.int k tk);have hl:=Ae t es ((intKind P w).hash k) (.int k tk);have hpp:=x.pl.lay es ((intKind P w).hash k) (.int k tk);generalize layNew t es ((intKind P w).hash k) (.int k tk)=L at hp hf hl hpp ⊢;obtain⟨e1,t1,wd,gv⟩:=L;dsimp only at hp hf hl hpp ⊢;rw[Array.toList_push] at hp;have hel:ElemsOf (intKind P w) e1.toList:=(x.el.push hk hsc).perm hp;have htx:∃ss:List Int,IntsAre (e1.toList.map (·.2)) ss/\ss.Perm (ys++[k]):=by have h1:=ints_app s1 (.cons k tk .nil);obtain⟨rs,h2,h3⟩:=Fv (hp.map (·.2)) (by rw[Qxz];exact h1);exact⟨rs,h2,h3.trans (s2.append_right [k])⟩
  have hxy:Dk ys k=ys++[k]:=by rw[Dk,if_neg hm]
  have hyz:(ys++[k]).length<scanBound:=by rw[Qqy];exact hz
  refine Qqx (Ar _ ?_)
  /- the table that is laid down -/
  have hend:∀t2:SetTable,t2.fits e1.size=true->t2.led=led w->Pl t2->wpAny (model P w) A (do
    storeSet a e1 t2
    if (!wd&&t2.tooFull)=true then do
      (match (relayAll t2 e1 (SetTable.grown e1.size)).2.2 with|true=>rule "set.scan.the-table-gave-way" | false=>pure ())
      storeSet a (relayAll t2 e1 (SetTable.grown e1.size)).1 (relayAll t2 e1 (SetTable.grown e1.size)).2.1
      pure (some true)
     else pure (some true)) (λr s'=>wpAny (model P w) A (match r with|some added=>pure added|none=>setAddHashedIn a (.int k tk) ((intKind P w).hash k) 99999) Q E s') E s:=by
   intro t2 f2 l2 p2;have k2:TOk P w e1 t2 (ys++[k]):=⟨hel,htx,f2,l2,p2⟩;refine Qqx (store ho hx hd k2 hyz λg o1 sb go gx gd=>?_);split
   ·have rp:=relayAll_perm t2 e1 (SetTable.grown e1.size);have rf:=relayAll_fits t2 e1 (SetTable.grown e1.size);have rl:=uq t2 e1 (SetTable.grown e1.size);have rq:=Pl.aeM (t:=t2) e1 (SetTable.grown e1.size);generalize relayAll t2 e1 (SetTable.grown e1.size)=L at rp rf rl rq ⊢;obtain⟨e3,t3,gv3⟩:=L;dsimp only at rp rf rl rq ⊢;obtain⟨r1,q1,q2⟩:=htx;obtain⟨rs,h2,h3⟩:=Fv (rp.map (·.2)) q1;have k3:TOk P w e3 t3 (ys++[k]):=⟨hel.perm rp,⟨rs,h2,h3.trans q2⟩,rf,rl.1.trans l2,rq⟩;refine Qqx (Ar _ ?_);refine Qqx (store (s:={ s with heap:=g }) go gx gd k3 hyz λg2 o2 sb2 go2 gx2 gd2=>?_);refine Qq1 (Qq1 ?_);exact h g2 true (sb.trans sb2) (by rw[hxy];exact⟨o2,_,_,_,go2,gx2,gd2,k3⟩)
   ·refine Qq1 (Qq1 ?_);exact h g true sb (by rw[hxy];exact⟨o1,_,_,_,go,gx,gd,k2⟩)
  split
  ·rename_i hpl;refine Qqx ?_;rw[hashByValue_scannable 8 hsc];refine Qq1 ?_;exact hend _ (by split;exact hf;exact SetTable.fits_plain_off hf) (by split<;>exact hl.1.trans x.ld) (by split;exact hpp;exact⟨hpp.dm,hpp.ri⟩)
  ·rename_i hpl;refine Qqx (Qq1 ?_);simp only[↓reduceIte];exact hend _ hf (hl.1.trans x.ld) hpp
def seen(val:Nat->Int)(i:Nat):List Int:=((List.range i).map val).foldl Dk []
theorem Rf(val:Nat->Int)(i:Nat):seen val (i+1)=Dk (seen val i) (val i):=by
 unfold seen;rw[List.range_succ,Qxz,List.foldl_append]
 rfl
theorem Um(val:Nat->Int)(i:Nat):(seen val i).length<=i:=by
 have:=qy ((List.range i).map val) []
 simpa[seen] using this
theorem fill{R:Result->Shared->Prop}{I:Addr}{fp wr:List Addr}{G:Array GenState->Array GenState->Prop}{n:Nat}{Pi:Nat->Value->Prop}{St:Nat->Shared->Prop}(W:WalksS P w A.in1 I fp wr G n Pi St){a:Addr}(ha:a ∉ fp){val:Nat->Int}
  (hv:∀i v,Pi i v->∃t,v = .int (val i) t) (hb:n+1<scanBound) (d:Nat):∀(i:Nat) (s:Shared),i+d=n->St i s->vL P w s.heap a (seen val i)->(∀s',Moved (a::wr) G s s'->vL P w s'.heap a (seen val n)->R (.ok (.ret .none)) s')->
  codeAny (model P w) A (.builtin "set.update.loop" ⟨[.ref a,.ref I],[]⟩) R s:=by
 have hw:a ∉ wr:=λz=>ha (W.sub _ z);have up:∀b∈wr,b∈a::wr:=λb z=>Qqj _ z
 induction d with
 | zero=>
  intro i s e st x hR;obtain rfl:i=n:=e;refine codeAny_builtin PyProof.Rows.F.entry_set_update_loop ?_;rw[Around.under_plainId PyProof.Rows.F.plain_set_update_loop _];show wpAny _ _ (pyNext (.ref I) >>= _) _ _ _;refine Qqx (W.done s _ _ st λs' m=>?_);show wpAny _ _ (ret .none) _ _ _;exact Qq1 (hR s' (m.mono up) (x.keep λo z=>m.heap a o hw z))
 | succ d ih=>
  intro i s e st x hR;refine codeAny_builtin PyProof.Rows.F.entry_set_update_loop ?_;rw[Around.under_plainId PyProof.Rows.F.plain_set_update_loop _];show wpAny _ _ (pyNext (.ref I) >>= _) _ _ _;refine Qqx (W.item i s _ _ (by omega) st λv s' pv st' m=>?_);obtain⟨t,rfl⟩:=hv i v pv;show wpAny _ _ (holding _ (setAdd a _) >>= _) _ _ _;unfold setAdd;refine Qqx (Qz3 (Qz3 (Qqx ((intKind P w).pyHash (intKind_is P w (val i) t) ?_))));obtain⟨o,es,ep,tb,ho,hx,hd,k⟩:=x.keep λo z=>m.heap a o hw z;refine Tp (s:={ s' with toks:=s'.toks+1 }) ho hx hd k (by have:=Um val i;omega) λg b sb y=>?_;rw[<-Rf] at y;refine Qq1 ⟨plainId_quiet PyProof.Rows.F.plain_set_update_loop _,ih (i+1) _ (by omega) (W.frame _ s' _ _ st' (Nat.le_succ _) λc hc u z=>?_) y λs2 m2 x2=>?_⟩
  ·exact(sb.2 c (λq=>ha (q ▸ hc))).trans z
  ·refine hR s2 (Moved.trans W.gtrans ((m.mono up).then_heap (Nat.le_succ _) λc u hc z=>?_) m2) x2;exact(sb.2 c (λq=>hc (q ▸ Qqk))).trans z
theorem Wy(h:Heap){a:Addr}(e:h.get? a=some (fresh w)):vL P w h a []:=
 ⟨_, #[],0,_,e,⟨rfl,rfl,rfl⟩,rfl,⟨λ_ z=>by simp at z,⟨[],.nil,.rfl⟩,rfl,rfl,⟨rfl,λi j _ h=>absurd h (Qk6 _)⟩⟩⟩
theorem abN{l:Addr}{its:Array Value}{zs:List Int}{Q:Value->Shared->Prop}(hh:A.handled=none)(hl:s.heap.IsList l its)(hi:IntsAre its.toList zs)(hb:zs.length+1<scanBound)
  (h:∀(g:Heap) (tk:Nat),vL P w g s.heap.objs.size (sJ zs)->(∀b o,s.heap.get? b=some o->g.get? b=some o)->Q (.ref s.heap.objs.size) { s with heap:=g,toks:=tk }) :
  wpAny (model P w) A (call (.type "set") [.ref l]) Q E s:=by
 obtain⟨c,tl,mro⟩:=PySem.F.called_set.mro;have made:=PySem.F.called_set.made;have sub:=PySem.F.called_set.sub;refine wpAny_call (codeAny_of_tree ?_);show wpAny _ _ (callAny (.type "set") _) _ _ _;refine Qq1 ⟨Code.quiet_builtin _ (by decide +kernel),codeAny_builtin PySem.F.entry_type_call ?_⟩;rw[Around.under_plain (weight_type_call_type "set" [.ref l] []) rfl];have c1:=PySem.F.called_set.notType;have c2:=PySem.F.called_set.canCreate;have c3:=PySem.F.typeCall_set_1 (.ref l)
 repeat (any_goals (first|assumption|wp_step))
 refine codeAny_mono (Ac (.ref l) (E:=E) (Q:=λv s1=>v = .ref s.heap.objs.size/\s1 = { s with heap:=s.heap.push (fresh w) }) ⟨rfl,rfl⟩) λr s1 hr=>?_;have hlen:its.size=zs.length:=by rw[<-Qz1];exact J9 hi
 cases r with
 | error e=>exact hr
 | ok fl=>
  cases fl with
  | ret v=>
   obtain⟨rfl,rfl⟩:=hr;have e0:(s.heap.push (fresh w)).get? s.heap.objs.size=some (fresh w):=Qwy _ rfl;have hT:Shared.TypeIs { s with heap:=s.heap.push (fresh w) } (.ref s.heap.objs.size) "set":=⟨_,e0,rfl⟩;have c4:=PySem.F.called_set.init.lookup;have c5:=PySem.F.called_set.init.bind (.ref s.heap.objs.size)
   repeat (any_goals (first|assumption|wp_step))
   refine codeAny_mono (codeAny_call_builtin (R:=wants (λr s2=>r = .none/\∃g tk,s2 = { s with heap:=g,toks:=tk }/\vL P w g s.heap.objs.size (sJ zs)/\(∀b o,s.heap.get? b=some o->g.get? b=some o)) E)
    PySem.F.called_set.init.plain PySem.F.entry_set_init (check_set_init_1 hT ?_)) λr2 s2 hr2=>?_
   ·obtain⟨ol,hol,hcl,nl,hdl⟩:=hl;obtain⟨ocls,odict,odata,oslots⟩:=ol;simp only at hcl hdl;subst hcl;subst hdl;have hol':(s.heap.push (fresh w)).get? l=some { cls:=.type "list",dict:=odict,data:=.seq its nl,slots:=oslots }:=Qqz _ hol;have l1:(s.heap.push (fresh w)).IsList l its:=⟨_,hol',rfl,nl,rfl⟩;have n1:=PySem.F.sub_list_set;have n2:=PySem.F.sub_list_frozenset;have n3:(Value.type "list" == Value.type "dict")=false:=by decide
    have e1:(s.heap.push (fresh w)).get? s.heap.objs.size=some { cls:=.type "set",dict:=none,data:=.set #[] 0 (.fresh 0 0 (led w)) }:=e0;unfold Builtin.«set.__init__» noKeywords Builtin.Frozenset.updateFrom;generalize hPI:pyIter=PI
    wp_walk
    subst hPI;refine wpAny_pyIter_list l1 (Qqx (wpAny_runValue ?_));have lt:l<s.heap.objs.size:=Qwj hol;have sz:(s.heap.push (fresh w)).objs.size=s.heap.objs.size+1:=Qx5 _ _;have hh3:A.in1.in1.in1.handled=none:=by simp[hh]
    have a1:l≠(s.heap.push (fresh w)).objs.size:=by rw[sz];exact Qw7 (Qk9 lt)
    have a2:s.heap.objs.size ∉ [(s.heap.push (fresh w)).objs.size,l]:=by rw[sz];simp only[Qq5,Qw1,Qzy,not_or];exact⟨Qw7 (Nat.lt_succ_self _),Qjv lt⟩
    have hv:∀(i:Nat) (v:Value),its[i]? = some v->∃t,v = .int (zs.getD i 0) t:=by
     have:∀{vs:List Value} {ss:List Int},IntsAre vs ss->∀(i:Nat) (v:Value),vs[i]? = some v->∃t,v = .int (ss.getD i 0) t:=by
      intro vs ss q
      induction q with
      | nil=>intro i v z;simp at z
      | cons y t _ ih=>
       intro i v z;cases i with
       | zero=>simp at z;exact⟨t,z.symm⟩
       | succ i=>simpa using ih i v (by simpa using z)
     exact λi v z=>this hi i v (by rw[Qkw];exact z)
    refine fill ((Walks.list hh3 _ l a1 its).toS) a2 (val:=λi=>zs.getD i 0) hv (by omega) its.size 0 _ (by omega) ⟨⟨_,Qwy _ rfl,rfl,rfl⟩,l1.push _⟩ (Wy _ (Qqz _ e0)) λs' m x=>?_;have es:seen (λi=>zs.getD i 0) its.size=sJ zs:=by
     unfold seen sJ
     congr 1
     rw[hlen];apply List.ext_getElem
     ·simp
     ·intro i h1 h2;simp[Qq9,h2]
    rw[es] at x;obtain⟨g,gn,dr,tk,os⟩:=s';have q1:gn=s.gens:=m.gens;have q2:dr=s.drawn:=m.drawn;have q3:os=s.os:=m.os;subst q1 q2 q3;refine Qq1 ?_;show wpAny _ _ (ret .none) _ _ _;refine Qq1 ⟨rfl,g,tk,rfl,x,λb o e=>?_⟩;have hb1:b<s.heap.objs.size:=Qwj e;refine m.heap b o ?_ (Qqz _ (Qqz _ e));rw[sz];simp only[Qq5,Qw1,Qzy,not_or];exact⟨Qw7 hb1,Qw7 (Qk9 hb1)⟩
   ·cases r2 with
    | error e=>exact hr2
    | ok fl2=>
     cases fl2 with
     | ret r=>
      obtain⟨rfl,g,tk,rfl,x,k⟩:=hr2
      repeat (any_goals (first|assumption|wp_step))
      exact h _ _ x k
     | _=>exact hr2.elim
  | _=>exact hr.elim
end
open PySem PySem.Spec PyProof.Rows L2 PySem.Builtin Ev
def Xg(P:Program)(w:World)(a:Addr)(ys:List Int):HO:=.ext λh=>vL P w h a ys
end SI
namespace Ev
open PySem PySem.Spec PyProof.Rows L2 PySem.Builtin
def Cp:List D->Option (List Int)
 | []=>some []
 | .int i::ds=>(Cp ds).map (i :: ·)
 | _=>none
theorem Ka:∀zs:List Int,Cp (zs.map .int)=some zs
 | []=>rfl
 | z::zs=>by show(Cp (zs.map .int)).map _=_;rw[Ka zs];rfl
theorem Bp{K:Fg}{F:Hp}:∀{ds:List D} {zs:List Int} {vs:List V},Cp ds=some zs->bL K F ds vs->vs=zs.map V.int
 | [],zs,vs,e,h=>by cases e;cases h;rfl
 | d::ds,zs,vs,e,h=>by
  cases d with
  | int i=>
   obtain⟨ys,e1,rfl⟩:=Qww.mp (show(Cp ds).map (i :: ·)=some zs from e);obtain⟨v,r,rfl,h1,h2⟩:=h;cases h1;rw[Bp e1 h2]
   rfl
  | _=>cases e
instance (zs:List Int):Decidable (zs.Pairwise (·< ·)):=inferInstance
open PySem PySem.Spec PyProof.Rows L2
def O6(i:Nat)(a:Ev):bO:=λenv=>match env[i]? with
 | some (some (false,.int k))=>jG (a env) λd aN=>(match d with
  | .int j=>.nx (aN.set i (some (false,.int (k+j))))
  | _=>.stuck)
 | _=>.stuck
section
variable{X:Cx}{C:Cfg}{pos pos':Pos}{x:Str}{e:Expr}{a:Ev}{T:Hp}{p:Pos}{n:Str}{es:List Expr}{ea:d7}
theorem abP(i:Nat)(he:SX X C e a)(hnd:o6 X.N=true:=by rfl)(hfx:C.fx i=none:=by rfl)(hi:X.N[i]? = some n:=by rfl)(hx:Loc X.env.scope n:=by first|exact Or.inl rfl|exact Or.inr rfl)
  (hf:X.fn n=true\/X.env.scope.names.lookup n=some .local:=by first|exact .inl rfl|exact .inr rfl):Lk X C (.AugAssign (.Name n pos') .Add e pos) (O6 i a):=⟨(ab8 (kJ hnd) hi hx he.u adm hf).imp λD σ H h=>by
  obtain⟨Pr,F,env,r,f⟩:=h;unfold O6 at f;split at f
  ·rename_i k h0;obtain⟨d,aN,e1,f1⟩:=eQ f;split at f1
   ·rename_i j;obtain⟨v,h1,h2⟩:=r.val i _ h0;cases h2;exact⟨_,h1,Pr,F,env,aN,.int j,r,e1,λv2 H1 F1 r1 s1 p1=>⟨k,j,rfl,p1,f1 _ H1 F1 (r1.put hfx rfl) s1⟩⟩
   ·exact f1.elim
  ·exact f.elim⟩
end
section
variable{P:Program}{w:World}{A:Around}{E:Value->Shared->Prop}{s:Shared}{it d:Addr}{es:Array DictEntry}{ep i:Nat}
def aaj(h:Heap)(d:Addr)(es:Array DictEntry)(ep:Nat):Prop:=∃o,h.get? d=some o/\o.ExactDict/\o.data = .dict es ep
theorem aaj.ty(r:aaj s.heap d es ep):s.TypeIs (.ref d) "dict":=let ⟨o,ho,hc,_⟩:=r;⟨o,ho,hc.1⟩
end
end Ev
namespace SI
open PySem PySem.Spec PyProof.Rows L2 PySem.Builtin
def Pg(X:Cx):List V->Hp->VK->Prop:=λxs H Q=>∃(p:Addr) (zs:List Int),xs=[.ref p]/\jR X.K H p (zs.map V.int)/\zs.length<4000/\∀l,H l=none->Q (.ref l) (upd H l (Xg X.prog X.w l (sJ zs)))
def aaM(X:Cx):List V->Hp->VK->Prop:=λxs H Q=>∃(p:Addr) (zs:List Int),xs=[.ref p]/\H p=some (Xg X.prog X.w p zs)/\zs.length<4000/\Q (.int zs.length) H
section
variable{X:Cx}{C:Cfg}{pos:Pos}
theorem Tc(hc:X.calm=true):iz X (.type "set") (Pg X):=by intro pins s σ H xs us Q I r h;obtain⟨p,zs,rfl,hq,hz,q⟩:=h;obtain⟨u,rfl,rx⟩:=vals1 r;cases rx;obtain⟨its,r',pl,_⟩:=I.list hq;have hS:IntsAre its zs:=intsAre_of r';refine abN (I.ok.hd hc) pl.isList (zs:=zs) (by simpa using hS) (Qw4 (Nat.succ_le_of_lt hz) (by decide)) λg tk x k=>?_;refine⟨.ref s.heap.objs.size,_,I.laid (t':=tk) k (Qqw _) (o:=Xg X.prog X.w s.heap.objs.size (sJ zs)) ⟨x,?_,λh1 h2 y kk=>y.keep kk⟩,rfl,q _ (I.hok.fresh (Qqw _))⟩;obtain⟨o,_,_,_,e,_⟩:=x;exact⟨o,e⟩
theorem Tf:iz X (.builtin "len") (aaM X):=by intro pins s σ H xs us Q I r h;obtain⟨p,zs,rfl,hq,hz,q⟩:=h;obtain⟨u,rfl,rx⟩:=vals1 r;cases rx;have x:vL X.prog X.w s.heap p zs:=(I.hok p _ hq).1;obtain⟨o,es,ep,t,e1,e2,e3,k⟩:=x;have hsz:es.size=zs.length:=k.size;refine call_len_set e1 e2 e3 k.fit (by rw[hsz];omega) ⟨.int zs.length,H,I.tok _,⟨s.toks+1,by rw[hsz]⟩,q⟩
end
end SI
namespace Ev
open PySem PySem.Spec PyProof.Rows L2 PySem.Builtin
noncomputable def iG:D->Option D
 | .lst ds=>(Cp ds).bind λzs=>if zs.length<4000 then some (.int (SI.sJ zs).length) else none
 | _=>none
section
variable{X:Cx}{C:Cfg}{pos p p2 pos2:Pos}{e:Expr}{a:Ev}
theorem T4(G:Good X C)(h1:X.mg "len" = none)(h2:X.mg "set" = none)(ha:PX X C e a)(g1:Gl X "len":=by rfl)(g2:Gl X "set":=by rfl)
  (he:Ig e X.env:=by rfl)
  (he2:starEach [.Call (.Name "set" p2) [e] [] pos2] X.env=(false,eval (.Call (.Name "set" p2) [e] [] pos2) X.env)::starEach [] X.env:=by rfl) :
  PX X C (.Call (.Name "len" p) [.Call (.Name "set" p2) [e] [] pos2] [] pos) (nW iG a):=by
 have i1:PE X (.Call (.Name "set" p2) [e] [] pos2) _:=uv (T:="set") (SI.Tc G.calm) g2 h2 (by decide +kernel) (jL ha rA he) (by decide) (by decide) he rfl;have i2:PE X (.Call (.Name "len" p) [.Call (.Name "set" p2) [e] [] pos2] [] pos) _:=Bv SI.Tf g1 h1 (by decide +kernel) (jL i1 rA he2) (by decide) (by decide) he2 rfl;refine i2.imp λσ H Q hq=>?_;obtain⟨Pr,F,env,env',d,r,e0,q⟩:=hq;obtain⟨x,aN,e1,e2⟩:=aZ e0;obtain⟨e3,rfl⟩:=fH e2;refine⟨Pr,F,env,env',x,r,e1,λv H1 F1 r1 s1 p1=>?_⟩;unfold iG at e3;split at e3
 ·rename_i ds;obtain⟨zs,e4,e5⟩:=Qx6.mp e3;split at e5
  ·rename_i hz;cases e5;obtain⟨z,b,ws,rfl,k1,k2⟩:=iR.lst (K:=C.K) r1.fr (.inl p1);have e6:=Bp e4 k2;subst e6;show SI.Pg X [.ref b] H1 λx H2=>SI.aaM X [x] H2 Q;refine⟨b,zs,rfl,jR.of k1,hz,λl hl=>?_⟩;have r2:=r1.fresh (o:=SI.Xg X.prog X.w l (SI.sJ zs)) hl;have hu:(SI.sJ zs).length<4000:=by have:=SI.qy zs [];rw[Qx8] at this;unfold SI.sJ;omega
   exact⟨l,SI.sJ zs,rfl,bf,hu,q _ _ _ r2 s1 rfl⟩
  ·cases e5
 ·cases e3
end
variable{X:Cx}{C:Cfg}{pos p p2 pos2:Pos}{e:Expr}{a:Ev}
theorem xR(G:Good X C)(h1:X.mg "len" = none)(h2:X.mg "set" = none)(ha:SX X C e a)(g1:Gl X "len":=by rfl)(g2:Gl X "set":=by rfl)
  (he:Ig e X.env:=by rfl)
  (he2:starEach [.Call (.Name "set" p2) [e] [] pos2] X.env=(false,eval (.Call (.Name "set" p2) [e] [] pos2) X.env)::starEach [] X.env:=by rfl) :
  SX X C (.Call (.Name "len" p) [.Call (.Name "set" p2) [e] [] pos2] [] pos) (nW iG a):=⟨Ev.T4 G h1 h2 ha.u g1 g2 he he2⟩
open PySem PySem.Spec PyProof.Rows L2
section
variable{P:Program}{w:World}{A:Around}{E:Value->Shared->Prop}{s:Shared}{d:Addr}{es:Array DictEntry}{ep:Nat}{X:Cx}{C:Cfg}{e:Expr}{ea:d7}{p pos:Pos}
theorem Uv(lo:(d == sysModules)=false):MeetsIn P w (Builtin.«dict.__len__» ⟨[.ref d],[]⟩) (λ_ R s=>∃es ep,aaj s.heap d es ep/\R (.ok (.ret (.int es.size s.toks))) { s with toks:=s.toks+1 }):=
 .of_wp λA R s ⟨es,ep,⟨o,ho,_,hdat⟩,h⟩=>by
  show wpAny _ _ (dictSize d >>= _) _ _ _;unfold dictSize;refine Qqx (Qqx (wpAny_dictEntries ho hdat (Qq1 ?_)));show wpAny _ _ (Builtin.Dict.pendingCount d >>= _) _ _ _;exact Qqx (wpAny_pendingCount_other lo (wpAny_ret_mkInt (by rw[Nat.add_zero];exact h)))
theorem X5{Q:Value->Shared->Prop}(lo:(d == sysModules)=false)(r:aaj s.heap d es ep)(hz:es.size<=sizeLine)(h:Q (.int es.size (s.toks+1)) { s with toks:=s.toks+1+1 }):wpAny (model P w) A (call (.builtin "len") [.ref d]) Q E s:=by
 have hf:(es.size:Int)<2^63:=by rw[sizeLine_eq] at hz;omega
 refine Calls.call_function_entry kind_len plain_len entry_len (args_len1 _) ?_;unfold Builtin.«len»;refine Qqx (m:=oneArg "len" _) (Qq1 (Qqx (m:=callSpecial? (.ref d) (Str.ofString "__len__")) (Qz4 (name:=Str.ofString "__len__") r.ty F.slot_dict_len (call_meetsIn F.slot_dict_len r.ty F.entry_dict_len (F.args_dict_len_1 _) (Uv lo) ⟨es,ep,r,?_⟩))));show wpAny _ _ _ _ _ { s with toks:=s.toks+1 };refine Qqx (Qz3 (Qq1 (Qqx (wpAny_letGo ?_))));show wpAny _ _ (if ((es.size:Nat):Int)<0 then _ else _) _ _ _;rw[if_neg (by omega)];show wpAny _ _ (if ((es.size:Nat):Int) ≥ 2^63 then _ else _) _ _ _;rw[if_neg (by omega)];exact Qqx (wpAny_mkInt (Qq1 ⟨_,rfl,h⟩))
abbrev UJ(K:Fg):List V->Hp->VK->Prop:=λxs H Q=>∃p ks kvs,xs=[.ref p]/\Rd H p (.dN ks)/\cZ K H kvs ks/\Q (.int ks.length) H
theorem Tg:iz X (.builtin "len") (UJ X.K):=by
 intro pins s σ H xs us Q I r h;obtain⟨p,ks,kvs,rfl,hq,hr,q⟩:=h;obtain⟨u,rfl,rx⟩:=vals1 r;cases rx;obtain⟨z,lo,xs,kn,o,es,ep,h1,h2,h3,h4,_,_⟩:=CW I hq hr;have hsz:es.size=ks.length:=by rw[<-Qz1,h4,Qqq,kn.len]
 exact X5 lo ⟨o,h1,h2,h3⟩ (by rw[hsz];exact z) ⟨.int ks.length,H,I.tok _,⟨s.toks+1,by rw[hsz]⟩,q⟩
def xg:List D->Option D
 | [.fG kvs]=>some (.int kvs.length)
 | _=>none
theorem Z2:CallD C (UJ C.K) xg:=by
 intro Pr F env σ H ds d vs Q r hs h q;unfold xg at h;split at h
 ·rename_i kvs;cases h;obtain⟨v,rfl,hv⟩:=mJ hs;obtain⟨_,a,ks,rfl,h1,h2⟩:=hv.fG r.fr;refine⟨a,ks,kvs,rfl,h1,cZ.mono r.fr _ _ h2,?_⟩;rw[h2.len];exact q _ H F r (aW.refl F) rfl
 ·cases h
theorem Ow(G:Good X C)(hm:X.mg "len" = none)(ha:xK X C [e] ea)(hg:Gl X "len":=by rfl)(he:Ig e X.env:=by rfl):SX X C (.Call (.Name "len" p) [e] [] pos) (ao xg ea):=⟨oZ (r:=UJ C.K) (by rw[<-G.K];exact Tg) Z2 hg hm (by decide +kernel) ha.u (by decide) (by decide) he rfl⟩
end
def xu(k a:Ev):Ev:=λenv=>bindR (k env) λkd e1=>bindR (a e1) λd e2=>match ou kd with
 | some _=>.ok (.dct [(kd,d)]) e2
 | none=>.stuck
section
variable{X:Cx}{C:Cfg}{pos:Pos}
theorem Ru{k v:Expr}{ek ev:Ev}(G:Good X C)(hk:PX X C k ek)(hv:PX X C v ev):QS X C (.Dict [some k] [v] pos) (xu ek ev):=by
 have h0:PE X (.Dict [some k] [v] pos) (aaG [(_,_)]):=Yz (Vs hk hv Yq) rfl rfl (by simp) (by show 1<=15;decide);refine h0.imp λσ H Q hq=>?_;obtain⟨Pr,F,env,env',d,r,e,q⟩:=hq;obtain⟨kd,aN,e1,e2⟩:=aZ e;obtain⟨dv,dR,e3,e4⟩:=aZ e2;split at e4
 ·rename_i qq hqq;cases e4;intro p hp;have ra:=r.aside (o:=.dK []) hp;have nP:Pr p=none:=r.pr.free hp;refine⟨upd Pr p (.dK []),F,env,aN,kd,ra,e1,λx H1 F1 r1 s1 p1=>⟨upd Pr p (.dK []),F1,aN,env',dv,r1,e3,λy H2 F2 r2 s2 p2=>⟨r2.pr p _ bf,[(qq,y)],by rw[Nx hqq p1];rfl,by show 1<=15;decide,?_⟩⟩⟩;have em:yD [] [(qq,y)]=[(qq,y)]:=rfl;rw[em];have r3:=r2.turn (u:=.dK [(qq,y)]) bf;have nF:F2 p=none:=by
   cases hF:F2 p with
   | none=>rfl
   | some o=>have:=r2.dj p o hF;rw[bf] at this;cases this
  have r4:Rel C Pr F2 env' σ (upd H2 p (.dK [(qq,y)])):=r3.less λb o hb=>by
   have hne:b≠p:=λz=>by rw[z,nP] at hb;cases hb
   rw[bI hne,bI hne];exact hb
  refine q p _ F2 r4 (s1.trans s2) ⟨⟨by show 1<=sizeLine;decide,_,bf,⟨qq,y,[],rfl,hqq,p2,rfl⟩⟩,nF,nP,λj e he hs=>?_⟩;obtain⟨b,h1,_,_,h4⟩:=r2.own j e he;rw[hs] at h1;cases h1;rw[bf] at h4;cases h4
 ·cases e4
end
theorem M5{X:Cx}{C:Cfg}{pos:Pos}{k v:Expr}{ek ev:Ev}(G:Good X C)(hk:SX X C k ek)(hv:SX X C v ev):Tz X C (.Dict [some k] [v] pos) (xu ek ev):=⟨Ev.Ru G hk.u hv.u⟩
end Ev
namespace L2
open PySem PySem.Spec PyProof.Rows PySem.Builtin ZT
def abk(K:PySem.W.Frag)(a:Addr):It:=
 ⟨λi H=>∃xs x,jR K H a xs/\xs[i]? = some x,λi H v H'=>∃p x,(∀xs,jR K H a xs->xs[i]? = some x)/\H p=none/\H'=upd H p (.tup [.int i,x])/\v = .ref p,λi H=>∃xs,jR K H a xs/\i=xs.length⟩
theorem Mj{P:Program}{w:World}{K:PySem.W.Frag}{elts:List Expr}{k:Nat}{pos:Pos}(e it a:Addr)(hei:e≠it)(hai:a≠it)(hae:a≠e) :
  Turn P w K (.Tuple elts k pos) (abk K a) [e,it] e (λi h=>(∃old,IsEnum h e it i old)/\h.IsListIter it a i) where
 mem:=by simp
 obj:=λi h st b hb=>by
  obtain⟨⟨old,he⟩,o,ho,hc,hd⟩:=st;rcases Qq5.mp hb with rfl|hb
  ·exact⟨_,he,λv z=>by cases z⟩
  ·rw[Qq6.mp hb];exact⟨o,ho,λv z=>by rw[hd] at z;cases z⟩
 keep:=λi h h' st kk=>by
  obtain⟨⟨old,he⟩,o,ho,r⟩:=st;exact⟨⟨old,kk e (by simp) _ he⟩,o,kk it (by simp) o ho,r⟩
 item:=by
  intro X hP hw hK hc i pins s σ H E I hf st hg;subst hP hw hK;obtain⟨⟨old,he⟩,hit⟩:=st;obtain⟨xs,x,hq,hx⟩:=hg;obtain⟨its,rv,pt,hz⟩:=I.list hq;obtain⟨u,hu,ru⟩:=rv.get hx;have lu:i<its.toArray.size:=by rw[Qq3];exact(Qq4.mp hu).1
  have D1:Draws X.prog X.w X.A.in1 it [it,a] _ _ _:=Draws.list (A:=X.A.in1) (show X.A.in1.handled=none from I.ok.hd hc) it a hai its.toArray;refine wpAny_pyNext_enum_itemD (A:=X.A) D1 he ⟨hit,pt.isList⟩ lu hei (by simp[hei,hae.symm]) λy h' tk hv ho hSt ahG hsz hk=>?_;have ey:y=u:=by have:its.toArray[i]? = some y:=hv;rw[Qj4,hu] at this;exact(Qwv this).symm
  subst ey;have hT:s.heap.objs.size<=s.heap.objs.size:=Qqw _;have helt:e<s.heap.objs.size:=Qwj he;have hilt:it<s.heap.objs.size:=by obtain⟨_,x,_⟩:=hit;exact Qwj x
  have nT:H s.heap.objs.size=none:=I.hok.fresh hT;refine⟨_,rfl,?_⟩;refine wpAny_letOwnedTupleGo_enum (s:={ s with heap:=h',toks:=tk+1 }) ho λh'' ahB hs''=>?_;have ni:∀b o,b≠e->h'.get? b=some o->h''.get? b=some o:=λb o hb q=>(hs''.2 b hb).trans q;have hnT:s.heap.objs.size ∉ [e,it]:=λhb=>by
   rcases Qq5.mp hb with z|hb
   ·exact Qjv helt z
   ·exact Qjv hilt (Qq6.mp hb)
  refine⟨.ref s.heap.objs.size,upd H s.heap.objs.size (.tup [.int i,x]),I.drawn (t':=tk+1) (ch:=[e,it]) hf (λb o hb q=>ni b o (λz=>hb (by simp[z])) (hk b o (λz=>hb (by simp[z])) (λz=>hb (by simp[z])) q)) hT ?_,rfl,⟨_,x,λzs hq2=>by rw[I.wO hq2 hq];exact hx,nT,rfl,rfl⟩,⟨⟨_,by simpa using ahB⟩,?_⟩,λb hb=>?_⟩
  ·exact⟨by show 2<=sizeLine;decide,[.int i tk,y],.cons ⟨_,rfl⟩ (.cons ru .nil),_,ni _ _ (Qjv helt) ahG,rfl,⟨_,rfl⟩,rfl⟩
  ·obtain⟨⟨o,q,r⟩,_⟩:=hSt;exact⟨o,ni it o hei.symm q,r⟩
  ·have hne:b≠s.heap.objs.size:=λz=>by
    subst z;exact hnT hb
   rw[bI hne];exact(hf b hb).1
 done:=by
  intro X hP hw hK hc i pins s σ H E I hf st hg;subst hP hw hK;obtain⟨xs,hq,hi⟩:=hg;obtain⟨its,rv,pt,hz⟩:=I.list hq;have D1:Draws X.prog X.w X.A.in1 it [it,a] _ _ _:=Draws.list (A:=X.A.in1) (show X.A.in1.handled=none from I.ok.hd hc) it a hai its.toArray;obtain⟨⟨old,he⟩,hit⟩:=st;have hl:=rv.length;have ei:i=its.toArray.size:=by rw[Qq3,hi,hl]
  rw[ei] at he hit;exact wpAny_pyNext_enum_endD (A:=X.A) D1 he ⟨hit,pt.isList⟩ λh' eb=>⟨rfl,I.Gk (t':=s.toks) (ch:=[e,it]) hf λb o hb q=>eb b o (λz=>hb (by simp[z])) q⟩
 self:=λA i s Q E st h=>by
  obtain⟨⟨old,he⟩,_⟩:=st;exact wpAny_pyIter_enum he h
section
variable{X:Cx}{tg:Expr}
def adp(K:PySem.W.Frag)(ta:TA):TI:=λσ H R=>ta σ H λvs H1=>∃a,vs=[.ref a]/\(∃xs,jR K H1 a xs)/\R (abk K a) H1
theorem Vw{elts:List Expr}{k:Nat}{tp:Pos}{a:Expr}{ta:TA}{p pos:Pos}(hg:Gl X "enumerate")(hm:X.mg "enumerate" = none)(ha:PA X [a] ta)(hs:starEach [a] X.env=[(false,eval a X.env)]:=by rfl):PI X (.Tuple elts k tp) (.Call (.Name "enumerate" p) [a] [] pos) (adp X.K ta):=by
 intro pins s σ H R I h;refine Call_ (tO I hg hm PyProof.Rows.boot_enumerate (Qz0 (gm (ha pos pins s σ H _ I h) λus s1 ⟨vs,H1,I1,r1,q1⟩=>?_) hs rfl));have own:∀b ∈ [s1.heap.objs.size+1,s1.heap.objs.size],uL X pins H1 b:=λb hb=>by
  rcases Qq5.mp hb with rfl|hb
  ·exact I1.N5 (Nat.le_succ _) (I1.hok.fresh (Nat.le_succ _))
  ·rw[Qq6.mp hb];exact I1.N5 (Qqw _) (I1.hok.fresh (Qqw _))
 obtain⟨l,e,⟨xs,hl⟩,q⟩:=q1;subst e;cases r1 with
 | cons r rr=>
  cases rr;cases r;obtain⟨its,rv,pt,hz⟩:=I1.list hl;have ll:l<s1.heap.objs.size:=pt.lt;refine call_enumerate_list (show s1.heap.IsList l its.toArray from pt.isList) λh' he hit hsz hk=>?_;refine wpAny_pyIter_enum he ?_;have I2:Inv X pins σ H1 { s1 with heap:=h' }:=I1.kept (t':=s1.toks) hk;exact⟨s1.heap.objs.size+1,[s1.heap.objs.size+1,s1.heap.objs.size],_,_,H1,rfl,I2,Mj _ _ l (Nat.succ_ne_self _) (Qw7 ll) (Qw7 (Qk9 ll)),⟨⟨_,he⟩,hit⟩,own,q⟩
end
end L2
namespace Ev
open PySem PySem.Spec PyProof.Rows L2 PySem.Builtin
section
variable{X:Cx}{C:Cfg}{pos:Pos}{e:Expr}
def xr(a:d7):d7:=λenv=>bindR (a env) λds aN=>match ds with
 | [.lst xs]=>.ok (FQ xs) aN
 | _=>.stuck
theorem Zo{elts:List Expr}{k:Nat}{tp p:Pos}{ea:d7}(G:Good X C)(hm:X.mg "enumerate" = none)(ha:Ln X C [e] ea)(hg:Gl X "enumerate":=by rfl)(hs:starEach [e] X.env=[(false,eval e X.env)]:=by rfl):TF X C (.Tuple elts k tp) (.Call (.Name "enumerate" p) [e] [] pos) (xr ea):=by
 have h:=Vw (k:=k) (tp:=tp) (elts:=elts) (p:=p) (pos:=pos) hg hm ha hs;rw[G.K] at h;refine h.imp λσ H R hq=>?_;obtain⟨Pr,F,env,env',ds,r,e,q⟩:=hq;obtain⟨as,aN,e1,e2⟩:=aZ e;refine⟨Pr,F,env,aN,as,r,e1,λvs H1 F1 r1 s1 p1=>?_⟩;split at e2
 ·rename_i xs;cases e2;obtain⟨v,w,rfl,pv,p2⟩:=p1;cases p2;obtain⟨hz,a,us,rfl,h1,h2⟩:=pv;refine⟨a,rfl,⟨us,.inl (.inl (r1.fr _ _ h1))⟩,q _ H1 F1 r1 s1 λi H2 s2=>⟨λ_ ei=>?_,λd hd=>?_⟩⟩
  ·refine⟨us,(.inl (.inl (s2 _ _ h1))),?_⟩;rw[ei,h2.length];simp[FQ]
  ·unfold FQ at hd;rw[Qwx] at hd;obtain⟨⟨c,j⟩,hc,rfl⟩:=Qww.mp hd;rw[List.getElem?_zipIdx] at hc;obtain⟨c',hc',h3⟩:=Qww.mp hc;cases h3;obtain⟨u,hu,ru⟩:=h2.get hc';refine⟨⟨us,u,(.inl (.inl (s2 _ _ h1))),hu⟩,λy H3 hy=>.inr ?_⟩;obtain⟨p,x2,h3,h4,rfl,rfl⟩:=hy;have h5:=h3 us ((.inl (.inl (s2 _ _ h1))));rw[hu] at h5;cases h5;exact⟨p,_,_,h4,rfl,rfl,rfl,by show 2<=sizeLine;decide,_,_,rfl,by simp[Rep],_,_,rfl,ru,rfl⟩
 ·cases e2
def Ez:R2:=λx y H Q=>∃a o,y = .ref a/\Lw H a x o/\Q (.bl (!o.isSome)) H
theorem JG(hu:X.A.units+1<cLine):oG X (compareOp .NotIn) Ez:=by intro pins s σ H x y v u Q I rx ry h;obtain⟨a,o,rfl,g,q⟩:=h;cases ry;exact ZS hu I g rx λs' I'=>⟨.bl (!o.isSome),H,I',rfl,q⟩
def oN(k y:D):Option D:=match y with
 | .dct kvs=>(ou k).map λq=>.bl (!(m5 kvs q).isSome)
 | _=>none
theorem JH:qw C Ez oN:=by
 intro Pr F env σ H x y d vx vy Q r px py e q;cases y with
 | dct kvs=>
  obtain⟨k,hk,rfl⟩:=Qww.mp (show(ou x).map (λq=>D.bl (!(m5 kvs q).isSome))=some d from e);obtain⟨z,p,ks,rfl,h1,h2⟩:=py.dct r.fr;cases Ny hk px;refine⟨p,uW ks k,rfl,.inl ⟨ks,k,h1,rfl,rfl⟩,?_⟩;have e2:(uW ks k).isSome=(m5 kvs k).isSome:=by rcases h2.val k with ⟨g1,g2⟩|⟨d',v',g1,g2,_⟩<;>rw[g1,g2]<;>rfl
  rw[e2];exact q _ H F r (aW.refl F) rfl
 | _=>cases e
theorem Og(G:Good X C):Cm X C .NotIn oN:=⟨_,JG G.u1,JH⟩
end
theorem Wr{X:Cx}{C:Cfg}{pos:Pos}{e:Expr}{elts:List Expr}{k:Nat}{tp p:Pos}{ea:d7}(G:Good X C)(hm:X.mg "enumerate" = none)(ha:Om X C [e] ea)(hg:Gl X "enumerate":=by rfl)(hs:starEach [e] X.env=[(false,eval e X.env)]:=by rfl):SXI X C (.Tuple elts k tp) (.Call (.Name "enumerate" p) [e] [] pos) (xr ea):=⟨Ev.Zo G hm ha.u hg hs⟩
open PySem PySem.Spec PyProof.Rows L2
section
variable{X:Cx}{C:Cfg}
def Qo:D->D->Option D
 | .lst z,.int i=>if 0<=i/\i<=100000/\z.length*i.toNat<=sizeLine then some (.lst (List.replicate i.toNat z).flatten) else none
 | _,_=>none
theorem YS:qw C aeS Qo:=by
 intro Pr F env σ H x y d vx vy Q r px py e q;unfold Qo at e;split at e
 ·rename_i z i;split at e
  ·rename_i hc;cases e;cases py.int;obtain⟨z1,a,vs,rfl,h1,h2⟩:=px.lst r.fr;refine⟨a,i,vs,rfl,rfl,h1,by omega,by omega,by rw[h2.length];exact hc.2.2,λp hp=>?_⟩;obtain⟨r2,s2⟩:=r.new (o:=.lst (List.replicate i.toNat vs).flatten) hp;exact q _ _ _ r2 s2 ⟨by rw[PQ];exact hc.2.2,p,_,rfl,bf,bL.mono s2 _ _ (h2.flat _)⟩
  ·cases e
 ·cases e
theorem adZ:Bi X C .Mult Qo:=⟨_,acq,YS⟩
end
theorem jY{g:D->D->Option D}{i:Nat}{b:Ev}{env e2:Env}{x y d:D}(h1:env[i]? = some (some (false,x)))(h2:b env = .ok y e2)(h4:e2[i]? = some (some (false,x)))(h3:g x y=some d):au g i b env = .ok d e2:=FN h1 h2 h4 h3
theorem vI{g:D->D->Option D}{i:Nat}{b:Ev}{env e2:Env}{x y d:D}(h1:env[i]? = some (some (true,x)))(h2:b env = .ok y e2)(h4:e2[i]? = some (some (true,x)))(h3:g x y=some d):au g i b env = .ok d e2:=FN h1 h2 h4 h3
theorem pH{i:Nat}{a:Ev}{env e:Env}{d:D}{xs:List D}(h0:env[i]? = some (some (true,.lst xs)))(h1:a env = .ok d e)(h2:e[i]? = some (some (true,.lst xs)))(hz:xs.length<sizeLine):dJ i a env = .nx (e.set i (some (true,.lst (xs++[d])))):=by unfold dJ;rw[h0];simp only[h1,jG,h2,if_pos hz]
theorem zb{f:List D->Option (D×D)}{i:Nat}{a:d7}{env e1:Env}{ds:List D}{x d x':D}(h0:env[i]? = some (some (true,x)))(h1:a env = .ok ds e1)(h2:e1[i]? = some (some (true,x)))(h3:f (x::ds)=some (d,x')):eU f i a env = .ok d (e1.set i (some (true,x'))):=xq h0 h1 h2 h3
theorem zz1:1<=sizeLine:=by decide
theorem zZ:2<=sizeLine:=by decide
theorem zz3:3<=sizeLine:=by decide
theorem zz4:4<=sizeLine:=by decide
theorem zz5:5<=sizeLine:=by decide
theorem zz6:6<=sizeLine:=by decide
theorem zz7:7<=sizeLine:=by decide
end Ev
abbrev OD:=Option (Bool×Ev.D)
abbrev Zf(d:Ev.D):OD:=some (false,d)
abbrev Zt(d:Ev.D):OD:=some (true,d)
abbrev Zs(w:List Nat):OD:=some (false,.str w)
abbrev Zb(b:Bool):OD:=some (false,.bl b)
abbrev Zl(l:List Ev.D):OD:=some (true,.lst l)
abbrev Zv(i:Nat)(a:Ev.d7):Ev.d7:=Ev.aa (Ev.aL i) a
abbrev Zi(i:Int):Ev.Ev:=Ev.zc (.int i)
abbrev Zw(w:List Nat):Ev.Ev:=Ev.zc (.str w)
abbrev LD:=List Ev.D->Option Ev.D
abbrev Zn:OD:=none
abbrev Tr:List PySem.Str:=["_law_pack_here","_law_sounds_here"]
abbrev Tw:List PySem.Str:=["states"]
abbrev Zq2:List PySem.Str:=["stock","order"]
abbrev Zq3:List PySem.Str:=["_law_states"]
abbrev Zq4:List PySem.Str:=["order","standing"]
abbrev Zq5:List PySem.Str:=["rule","standing","sign"]
abbrev Zq6:List PySem.Str:=["order","standing","sound"]
abbrev Zq7:List PySem.Str:=["_law_stock_here"]
abbrev Zq8:List PySem.Str:=["_law_thing","_law_sounds_here"]
abbrev Zq9:List PySem.Str:=["rule","standing","signs"]
abbrev ad5:List PySem.Str:=["_law_pack_here","_law_size"]
abbrev ad4:List PySem.Str:=["_law_pack_here","_law_sounds_here","_law_most"]
abbrev ad3:List PySem.Str:=["_law_machine","_law_sounds_here"]
abbrev ad2:List PySem.Str:=["_law_stock_here","_law_order_here"]
abbrev age:List PySem.Str:=["rule","standing","sign","way","changes","left","right","near","held","put"]
abbrev agd:List PySem.Str:=["_law_script","_law_k","_law_pack_here","_law_stock_here"]
namespace nG
open Ev
section
def lJ:Ev:=dH 1 3 (dB (aL 0)) (bB 2 (aA (ak 1) (aA (ak 2) bF))) bK (aL 1)
def lg:bO:=bD (ao bZ (aa (lJ) aj))
def dX:LD:=cH 1 lg
def ql:bO:=bD (Hw (au gIs 0 (zc .non)) (au gIn 1 (aO 0)))
def gf:LD:=cH 2 ql
def jH:bO:=aF (aX (aL 0) (bB 4 (aA (ak 1) (aA (ak 2) (aA (ak 3) (aA (ak 4) bF)))))) (bD (bJ (Zv 1 (Zv 2 (Zv 4 (Zv 3 aj))))))
def lN:LD:=cH 5 jH
def iY:bO:=bD (aR pP (aR cU (aR cU (au cU 0 (Zi 1)) (Zi 0)) (Zi 0)) (Zw []))
def jq:LD:=cH 1 iY
def jU:Ev:=dH 3 4 (dB (aL 2)) (ak 3) bK (ao lN (Zv 3 aj))
def fC:bO:=aF (aX (aL 0) (bB 2 (aA (ak 1) (aA (ak 2) bF)))) (aF (gr (dD (au pP 1 (Zw [114,105,103,104,116]))) (bD (ao bZ (aa (jU) aj))) cM) (bD (aL 2)))
def cV:LD:=cH 3 fC
def jx:Ev:=dH 1 5 (dB (ao cV (Zv 0 aj))) (bB 4 (aA (ak 1) (aA (ak 2) (aA (ak 3) (aA (ak 4) bF))))) bK (bJ (aa (ao gf (Zv 3 (aa (Zw [35]) aj))) (aa (Zw []) aj)))
def fY:bO:=bD (ao bZ (aa (jx) aj))
def cX:LD:=cH 1 fY
def cY:bO:=aF (aX (aL 0) (bB 4 (aA (ak 3) (aA (ak 4) (aA (ak 5) (aA (ak 6) bF)))))) (aF (aX (aL 1) (bB 2 (aA (ak 7) (aA (ak 8) bF)))) (aF (aX (aL 8) (ak 9)) (aF (gr (ik (dD (aL 7)) (dD (ao gf (Zv 6 (Zv 2 aj))))) (aX (au dC 8 (aR cU (au cU 4 (Zi 0)) (Zi 1))) (ak 9)) cM) (bD (bJ (aa (bJ (aa (ao gf (Zv 5 (Zv 2 aj))) (Zv 2 aj))) (Zv 9 aj)))))))
def dO:LD:=cH 10 cY
def dZ:bO:=aF (aX (aL 0) (bB 4 (aA (ak 3) (aA (ak 4) (aA (ak 5) (aA (ak 6) bF)))))) (aF (aX (aL 1) (bB 2 (aA (ak 7) (aA (ak 8) bF)))) (aF (gr (dD (au pP 8 (Zw []))) (bD (bJ (aa (bJ (Zv 7 (Zv 2 aj))) (aa (Zw []) aj)))) cM) (aF (aX (aL 8) (ak 9)) (aF (gr (ik (dD (aL 7)) (dD (ao gf (Zv 6 (Zv 2 aj))))) (aX (CJ (ao yX (aa (aO 4) aj)) (aL 8) (aL 8)) (ak 9)) cM) (aF (gr (dD (au pP 3 (Zw [111,110,99,101]))) (bD (bJ (aa (bJ (aa (ao gf (Zv 5 (Zv 8 aj))) (Zv 2 aj))) (Zv 9 aj)))) cM) (aF (gr (dD (au pP 9 (Zw []))) (bD (bJ (aa (bJ (Zv 7 (Zv 2 aj))) (Zv 9 aj)))) cM) (bD (bJ (aa (bJ (aa (ao gf (Zv 5 (Zv 9 aj))) (Zv 2 aj))) (Zv 9 aj))))))))))
def dY:LD:=cH 10 dZ
def jN:bO:=aF (aX (au cU 1 (Zi 1)) (ak 6)) (aF (gr (dD (ao jq (Zv 0 aj))) (aX (ao dO (Zv 0 (Zv 1 (Zv 5 aj)))) (bB 2 (aA (ak 1) (aA (ak 7) bF)))) (aX (ao dY (Zv 0 (Zv 1 (Zv 5 aj)))) (bB 2 (aA (ak 1) (aA (ak 7) bF))))) (aF (aX (Hw (aL 4) (au Ai 7 (aO 6))) (ak 4)) (dJ 3 (aL 7))))
def iH:bO:=aF (cI 3 (bT aj)) (aF (aX (zc (.bl false)) (ak 4)) (aF (eE (dB (aL 2)) (ak 5) (jN)) (bD (bJ (Zv 1 (aa (aR rW (Zw []) (aO 3)) (Zv 4 aj)))))))
def gH:LD:=cH 8 iH
def mV:bO:=aF (aX (ao gH (Zv 6 (Zv 7 (Zv 3 aj)))) (bB 3 (aA (ak 8) (aA (ak 3) (aA (ak 9) bF))))) (aF (dJ 4 (aL 8)) (dJ 5 (aL 9)))
def j0:bO:=aF (aX (aL 2) (ak 3)) (aF (cI 4 (bT aj)) (aF (cI 5 (bT aj)) (aF (eE (za (aa (ao cV (Zv 0 aj)) (Zv 1 aj))) (bB 2 (aA (ak 6) (aA (ak 7) bF))) (mV)) (bD (bJ (aa (ao bZ (aa (aO 4) aj)) (Zv 3 (aa (ao bZ (aa (aO 5) aj)) aj))))))))
def o9:LD:=cH 10 j0
def lK:bO:=aF (aX (ao gH (Zv 4 (Zv 5 (aa (au dC 2 (Zw [35])) aj)))) (bB 3 (aA (ak 6) (aA (ak 2) (aA (ak 7) bF))))) (dJ 3 (aL 7))
def jk:bO:=aF (aX (Zw []) (ak 2)) (aF (cI 3 (bT aj)) (aF (eE (za (aa (ao cV (Zv 0 aj)) (Zv 1 aj))) (bB 2 (aA (ak 4) (aA (ak 5) bF))) (lK)) (bD (bJ (Zv 2 (aa (ao bZ (aa (aO 3) aj)) aj))))))
def nu:LD:=cH 8 jk
def lq:bO:=aF (aX (ao o9 (Zv 0 (Zv 1 (Zv 2 aj)))) (bB 3 (aA (ak 3) (aA (ak 4) (aA (ak 5) bF))))) (bD (bJ (Zv 3 (Zv 4 aj))))
def mG:LD:=cH 6 lq
def pq:bO:=bD (aR cU (ao nu (Zv 0 (Zv 1 aj))) (Zi 0))
def jF:LD:=cH 2 pq
def iU:bO:=aF (aX (ao mG (Zv 1 (aa (au cU 2 (ao cz (aa (aO 4) aj))) (Zv 6 aj)))) (bB 2 (aA (ak 7) (aA (ak 8) bF)))) (aF (gr (dD (au oA 7 (aO 3))) (aF (n8 3 (aL 7) (ao cz (aa (aO 2) aj))) (dJ 2 (aL 7))) cM) (dJ 5 (bJ (Zv 8 (aa (au rY 3 (aO 7)) aj)))))
def iT:bO:=aF (cI 5 (bT aj)) (aF (eE (dB (ao dX (Zv 0 aj))) (ak 6) (iU)) (aF (gr (dD (aR gGt (ao cz (aa (aO 2) aj)) (Zi 600))) (Gu) cM) (dJ 4 (ao bZ (aa (aO 5) aj)))))
def rM:bO:=aF (cI 2 (bT (aa (ao cX (Zv 1 aj)) aj))) (aF (cI 3 (CK (au cU 2 (Zi 0)) (Zi 0))) (aF (cI 4 (bT aj)) (aF (dI (dD (aR uP (ao cz (aa (aO 4) aj)) (ao cz (aa (aO 2) aj)))) (iT) 7000) (bD (bJ (Zv 2 (Zv 4 aj)))))))
def pg:LD:=cH 9 rM
def gD:Ev:=dH 4 6 (rH (Zv 2 (Zv 3 aj))) (bB 2 (aA (ak 4) (aA (ak 5) bF))) bK (bJ (aa (ao jF (Zv 1 (Zv 4 aj))) (Zv 5 aj)))
def je:bO:=aF (aX (ao pg (Zv 0 (Zv 1 aj))) (bB 2 (aA (ak 2) (aA (ak 3) bF)))) (bD (gD))
def gG:LD:=cH 4 je
def gA:bO:=O6 3 (Zi 1)
def fc:bO:=aF (aX (Zi 0) (ak 3)) (aF (dI (ik (dD (au uP 3 (ao cz (aa (aO 1) aj)))) (ik (dD (au uP 3 (ao cz (aa (aO 2) aj)))) (dD (aR pP (au cU 1 (aO 3)) (au cU 2 (aO 3)))))) (gA) 7000) (aX (pU (aL 1) n6 (yM (aL 3))) (ak 1)))
def lQ:bO:=aF (aX (au cU 0 (Zi 0)) (ak 1)) (aF (eE (dB (aL 0)) (ak 2) (fc)) (bD (aL 1)))
def ie:LD:=cH 4 lQ
def gQ:Ev:=dH 3 5 (dB (aL 0)) (bB 2 (aA (ak 3) (aA (ak 4) bF))) bK (aL 3)
def dW:Ev:=dH 5 7 (dB (aL 4)) (bB 2 (aA (ak 5) (aA (ak 6) bF))) bK (au dC 5 (au cU 1 (aO 6)))
def fJ:Ev:=dH 3 5 (dB (aL 0)) (bB 2 (aA (ak 3) (aA (ak 4) bF))) bK (ao ie (aa (aR dC (bT (Zv 3 aj)) (dW)) aj))
def dU:bO:=aF (aX (aL 2) (ak 1)) (cI 2 (fJ))
def jt:bO:=aF (aX (bT aj) (ak 1)) (aF (cI 2 (gQ)) (aF (dI (dD (au Ai 2 (aO 1))) (dU) 20000) (bD (aL 2))))
def ig:LD:=cH 3 jt
def gb:Ev:=dH 7 9 (dB (aL 5)) (bB 2 (aA (ak 7) (aA (ak 8) bF))) bK (bJ (aa (pU (au dC 7 (au cU 1 (aO 8))) (yM (aL 6)) n6) (Zv 8 aj)))
def eO:bO:=aF (aX (ao cz (aa (aO 3) aj)) (ak 6)) (dJ 2 (bJ (aa (pU (aL 4) (yM (aL 6)) n6) (aa (ao bZ (aa (gb) aj)) aj))))
def jP:bO:=aF (aX (ao ig (Zv 0 aj)) (ak 1)) (aF (cI 2 (bT aj)) (aF (eE (rH (Zv 1 (Zv 0 aj))) (bB 2 (aA (ak 3) (aA (bB 2 (aA (ak 4) (aA (ak 5) bF))) bF))) (eO)) (bD (bJ (aa (au cU 1 (Zi 0)) (Zv 2 aj))))))
def iQ:LD:=cH 7 jP
def iV:bO:=gr (dD (au oA 2 (aO 1))) (n8 1 (aL 2) (ao xg (aa (aO 1) aj))) cM
def mU:Ev:=dH 3 4 (dB (aL 0)) (ak 3) bK (au rY 1 (aO 3))
def rN:bO:=aF (cI 1 (Aj)) (aF (eE (dB (aL 0)) (ak 2) (iV)) (bD (mU)))
def jV:LD:=cH 3 rN
def fX:Ev:=dH 5 7 (dB (aL 4)) (bB 2 (aA (ak 5) (aA (ak 6) bF))) bK (aL 5)
def gZ:Ev:=dH 3 5 (dB (aL 0)) (bB 2 (aA (ak 3) (aA (ak 4) bF))) bK (bJ (Zv 3 (aa (ao bZ (aa (fX) aj)) aj)))
def fW:Ev:=dH 6 8 (dB (aL 5)) (bB 2 (aA (ak 6) (aA (ak 7) bF))) bK (au cU 1 (aO 7))
def gY:Ev:=dH 3 6 (xr (Zv 0 aj)) (bB 2 (aA (ak 3) (aA (bB 2 (aA (ak 4) (aA (ak 5) bF))) bF))) bK (bJ (aa (au cU 1 (aO 3)) (aa (ao bZ (aa (fW) aj)) aj)))
def fV:bO:=aF (aX (nW iG (aL 1)) (ak 2)) (aX (ao jV (aa (gY) aj)) (ak 1))
def mY:bO:=aF (aX (ao jV (aa (gZ) aj)) (ak 1)) (aF (aX (Zi 0) (ak 2)) (aF (dI (dD (au uP 2 (nW iG (aL 1)))) (fV) 7000) (bD (aL 1))))
def jE:LD:=cH 3 mY
def kW:bO:=aF (gr (dD (aR oN (au cU 1 (aO 9)) (aO 2))) (aF (oU 2 (au cU 1 (aO 9)) (ao cz (aa (aO 3) aj))) (dJ 3 (aL 9))) cM) (dJ 7 (bJ (Zv 8 (aa (au jD 2 (au cU 1 (aO 9))) aj))))
def kj:bO:=aF (aX (au cU 0 (au cU 3 (ao cz (aa (aO 4) aj)))) (bB 2 (aA (ak 5) (aA (ak 6) bF)))) (aF (cI 7 (bT aj)) (aF (eE (dB (aL 6)) (bB 2 (aA (ak 8) (aA (ak 9) bF))) (kW)) (dJ 4 (bJ (Zv 5 (aa (ao bZ (aa (aO 7) aj)) aj))))))
def xE:bO:=aF (aX (ao jE (Zv 0 aj)) (ak 1)) (aF (cI 2 (xu (au cU 1 (Zi 0)) (Zi 0))) (aF (cI 3 (bT (aa (Zi 0) aj))) (aF (cI 4 (bT aj)) (aF (dI (dD (aR uP (ao cz (aa (aO 4) aj)) (ao cz (aa (aO 3) aj)))) (kj) 7000) (bD (ao bZ (aa (aO 4) aj)))))))
def qJ:LD:=cH 10 xE
def jQ:bO:=aF (aX (ao iQ (aa (ao gG (Zv 0 (Zv 1 aj))) aj)) (bB 2 (aA (ak 2) (aA (ak 3) bF)))) (bD (bJ (Zv 2 (aa (ao qJ (Zv 3 aj)) aj))))
def fB:LD:=cH 4 jQ
def pZ:bO:=bD (aR adx (au vG 0 (Zi 262406895267124108351839057402211873468251940277165213587343)) (aR NT (Zi 10) (Zi 60)))
def jj:LD:=cH 1 pZ
def DY:bO:=aX (aR dC (au vG 2 (aR NT (Zi 10) (Zi 60))) (ao jj (aa (aR cU (aR dC (zW (aL 0) (yM (aL 3)) (yM (au dC 3 (Zi 1)))) (bT (aa (aR dC (aR vG (Zi 7919) (aO 3)) (Zi 61)) aj))) (Zi 0)) aj))) (ak 2)
def mK:bO:=aF (aX (Zi 0) (ak 2)) (aF (eE (dB (bT (aa (au dC 1 (Zi 1)) (Zv 1 aj)))) (ak 3) (DY)) (Bc (bT (Zv 2 aj))))
def mH:LD:=runN 4 mK
def fD:bO:=aF (aX (ao uz (aa (au cU 0 (Zi 0)) (aa (aO 1) aj))) (bB 2 (aA (Wt 0 (Zi 0)) (aA (ak 2) bF)))) (bD (aL 2))
def bh:List D->Option (D×D):=ji 3 fD
def BV:Ev:=dH 7 8 (ju (aa (Zi 5) aj)) (ak 7) (dD (aR pP (aR Kp (au Kh 5 (aO 7)) (Zi 1)) (Zi 1))) (au cU 2 (aO 7))
def BZ:bO:=aF (aX (eU bh 0 (aa (Zi 32) aj)) (ak 5)) (aF (aX (ao jn (aa (BV) aj)) (ak 6)) (dJ 3 (bJ (Zv 4 (aa (ao bZ (aa (zW (aL 6) n6 (yM (Zi 4))) aj)) aj)))))
def pW:bO:=aF (aX (aR cU (bT (aa (Zw [97]) (aa (Zw [97,98]) (aa (Zw [97,98]) (aa (Zw [97,98,99]) (aa (Zw [97,101,112,116]) (aa (Zw [109,110,122]) aj))))))) (eU bh 0 (aa (Zi 6) aj))) (ak 1)) (aF (aX (bT (aa (Zw [115,116,111,112]) (aa (Zw [115,116,111,112,115]) (aa (Zw [115]) (aa (Zw [111,112,101,110]) (aa (Zw [97,98,99,100,101,102,103,104]) aj)))))) (ak 2)) (aF (cI 3 (bT aj)) (aF (eE (dB (aL 1)) (ak 4) (BZ)) (bD (ao bZ (aa (aO 3) aj))))))
def kY:List D->Option (D×D):=ji 7 pW
def zT:Ev:=nG.lJ
def rP:bO:=bD (aR rW (Zw []) (zT))
def dw:LD:=cH 1 rP
def BW:Ev:=dH 4 5 (ju (aa (ao cz (aa (aO 3) aj)) aj)) (ak 4) (dD (aR pP (aR Kp (au Kh 2 (aO 4)) (Zi 1)) (Zi 1))) (au cU 3 (aO 4))
def iy:bO:=aF (gr (dD (aR pP (eU bh 0 (aa (Zi 2) aj)) (Zi 0))) (bD (zc .non)) cM) (aF (aX (aR dC (Zi 1) (eU bh 0 (aa (aR Sv (aR ZD (Zi 2) (ao cz (aa (aO 1) aj))) (Zi 1)) aj))) (ak 2)) (aF (aX (aR dC (Zw [35]) (aO 1)) (ak 3)) (bD (ao bZ (aa (BW) aj)))))
def iw:List D->Option (D×D):=ji 4 iy
def yF:Ev:=dH 6 7 (dB (aR dC (ao Cr (aa (aO 1) aj)) (bT (aa (Zw []) aj)))) (ak 6) (dD (au Ai 6 (aO 4))) (aL 6)
def yG:bO:=aF (aX (au cU 1 (eU bh 0 (aa (ao cz (aa (aO 1) aj)) aj))) (ak 4)) (aF (cI 5 (yF)) (oU 2 (aL 4) (au cU 5 (eU bh 0 (aa (ao cz (aa (aO 5) aj)) aj)))))
def yE:Ev:=dH 6 7 (dB (ao jn (aa (aO 2) aj))) (ak 6) bK (bJ (Zv 6 (aa (au jD 2 (aO 6)) aj)))
def fU:bO:=aF (gr (dD (aR pP (eU bh 0 (aa (Zi 5) aj)) (Zi 0))) (bD (bJ (aa (bJ (aa (Zw []) (aa (au cU 1 (eU bh 0 (aa (ao cz (aa (aO 1) aj)) aj))) aj))) aj))) cM) (aF (cI 2 (Hx)) (aF (eE (ju (aa (aR dC (Zi 1) (eU bh 0 (aa (Zi 3) aj))) aj)) (ak 3) (yG)) (bD (ao bZ (aa (yE) aj)))))
def iW:List D->Option (D×D):=ji 6 fU
def j8:bO:=aF (aX (aR cU (bT (aa (Zw [111,110,99,101]) (aa (Zw [97,108,111,110,103]) aj))) (eU bh 0 (aa (Zi 2) aj))) (ak 2)) (aF (aX (eU iW 0 (Zv 1 aj)) (ak 3)) (bD (bJ (Zv 2 (Zv 3 (aa (eU iw 0 (Zv 1 aj)) (aa (eU iw 0 (Zv 1 aj)) aj)))))))
def jW:List D->Option (D×D):=ji 4 j8
def BX:Ev:=dH 4 5 (ju (aa (eU bh 0 (aa (au dC 2 (Zi 1)) aj)) aj)) (ak 4) bK (eU jW 0 (Zv 1 aj))
def pY:bO:=aF (aX (aR cU (bT (aa (Zw [108,101,102,116]) (aa (Zw [114,105,103,104,116]) aj))) (eU bh 0 (aa (Zi 2) aj))) (ak 3)) (bD (bJ (Zv 3 (aa (ao bZ (aa (BX) aj)) aj))))
def kZ:List D->Option (D×D):=ji 4 pY
def pX:bO:=bD (eU kZ 0 (Zv 1 (aa (aR dC (aR cU (bT (aa (Zi 1) (aa (Zi 2) (aa (Zi 2) (aa (Zi 3) aj))))) (eU bh 0 (aa (Zi 4) aj))) (ao Km (aa (aR uP (ao cz (aa (aO 1) aj)) (Zi 3)) aj))) aj)))
def gJ:List D->Option (D×D):=ji 2 pX
def mD:Ev:=dH 2 3 (dB (aL 0)) (ak 2) bK (au gIn 2 (aO 1))
def uR:bO:=bD (FP (nW (zV "str") (aL 0)) (ao Sy (aa (mD) aj)))
def fQ:LD:=cH 2 uR
def gU:bO:=aF (gr (qK (jX (dD (nW (zV "tuple") (aL 3)))) (qK (dD (aR Ai (ao cz (aa (aO 3) aj)) (Zi 2))) (jX (dD (ao fQ (aa (au cU 3 (Zi 0)) (Zv 1 aj))))))) (bD (zc (.bl false))) cM) (gr (qK (dD (nW (zV "bool") (au cU 3 (Zi 1)))) (qK (jX (dD (nW (zV "int") (au cU 3 (Zi 1))))) (jX (dD (xx gLe uP (Zi 0) (au cU 3 (Zi 1)) (ao cz (aa (au cU 0 (Zi 1)) aj))))))) (bD (zc (.bl false))) cM)
def gR:bO:=aF (gr (qK (jX (dD (nW (zV "tuple") (aL 2)))) (qK (dD (aR Ai (ao cz (aa (aO 2) aj)) (Zi 2))) (jX (dD (ao fQ (aa (au cU 2 (Zi 0)) (Zv 1 aj))))))) (bD (zc (.bl false))) cM) (aF (gr (qK (jX (dD (nW (zV "tuple") (au cU 2 (Zi 1))))) (dD (aR Ai (ao cz (aa (au cU 2 (Zi 1)) aj)) (ao cz (aa (aO 1) aj))))) (bD (zc (.bl false))) cM) (eE (dB (au cU 2 (Zi 1))) (ak 3) (gU)))
def qN:bO:=aF (gr (qK (jX (dD (nW (zV "tuple") (aL 0)))) (qK (dD (aR Ai (ao cz (aa (aO 0) aj)) (Zi 2))) (jX (dD (ao fQ (aa (au cU 0 (Zi 0)) (Zv 1 aj))))))) (bD (zc (.bl false))) cM) (aF (gr (qK (jX (dD (nW (zV "tuple") (au cU 0 (Zi 1))))) (dD (aR pP (au cU 0 (Zi 1)) (bJ aj)))) (bD (zc (.bl false))) cM) (aF (eE (dB (au cU 0 (Zi 1))) (ak 2) (gR)) (bD (zc (.bl true)))))
def jr:LD:=cH 4 qN
def pN:bO:=gr (dD (au yJ 4 (aO 1))) (dJ 1 (aL 4)) cM
def jc:bO:=aF (eE (dB (aR cU (au cU 0 (au cU 1 (aO 2))) (Zi 1))) (bB 2 (aA (ak 3) (aA (ak 4) bF))) (pN)) (aX (au dC 2 (Zi 1)) (ak 2))
def uf:bO:=aF (cI 1 (bT (aa (Zi 0) aj))) (aF (aX (Zi 0) (ak 2)) (aF (dI (dD (au uP 2 (ao cz (aa (aO 1) aj)))) (jc) 7000) (bD (au pP 1 (nW Qp (ao cz (aa (aO 0) aj)))))))
def ph:LD:=cH 5 uf
def tU:Ev:=dH 7 9 (dB (aL 0)) (bB 2 (aA (ak 7) (aA (ak 8) bF))) bK (pU (aL 7) n6 (yM (Zi 1)))
def lM:bO:=gr (dD (aR Ai (pU (au dC 5 (au cU 1 (aO 6))) n6 (yM (Zi 1))) (au cU 1 (aO 4)))) (aX (Zw []) (Wt 1 (aL 4))) cM
def o8:bO:=eE (dB (aR cU (au cU 0 (aO 4)) (Zi 1))) (bB 2 (aA (ak 5) (aA (ak 6) bF))) (lM)
def lL:bO:=aF (aX (ao Cr (aa (aO 1) aj)) (ak 3)) (aF (eE (ju (aa (ao cz (aa (aO 0) aj)) aj)) (ak 4) (o8)) (gr (dD (au pP 1 (aO 3))) ((λenv=>.bk env)) cM))
def tR:Ev:=dH 7 8 (dB (aL 1)) (ak 7) bK (au pP 7 (Zw []))
def zm:bO:=aF (cI 1 (tU)) (aF (eE (ju (aa (ao cz (aa (aO 0) aj)) aj)) (ak 2) (lL)) (bD (ao Sy (aa (tR) aj))))
def tX:LD:=cH 7 zm
def jM:Ev:=dH 8 10 (dB (aL 6)) (bB 2 (aA (ak 8) (aA (ak 9) bF))) bK (bJ (Zv 8 (aa (au cU 1 (aO 9)) aj)))
def iM:bO:=aF (aX (bJ (Zv 5 (aa (ao bZ (aa (jM) aj)) aj))) (ak 7)) (aF (n8 3 (aL 7) (nA 3 (aL 7) (ao xg (aa (aO 3) aj)))) (dJ 4 (au rY 3 (aO 7))))
def iK:bO:=aF (cI 3 (Aj)) (aF (cI 4 (bT aj)) (aF (eE (dB (aL 0)) (bB 2 (aA (ak 5) (aA (ak 6) bF))) (iM)) (aF (gr (dD (au pP 4 (aO 1))) ((λenv=>.bk env)) cM) (aX (aL 4) (ak 1)))))
def xD:bO:=aF (aX (aR Qo (bT (aa (Zi 0) aj)) (ao cz (aa (aO 0) aj))) (ak 1)) (aF (eE (ju (aa (ao cz (aa (aO 0) aj)) aj)) (ak 2) (iK)) (bD (aR pP (nW iG (aL 1)) (ao cz (aa (aO 0) aj)))))
def rG:LD:=cH 8 xD
def zj:bO:=aF (aX (ao fB (Zv 0 (Zv 1 aj))) (ak 2)) (aF (gr (jX (dD (ao jr (Zv 2 (aa (ao dw (Zv 0 aj)) aj))))) (bD (zc (.bl false))) cM) (aF (aX (au cU 2 (Zi 1)) (ak 3)) (bD (FP (ao ph (Zv 3 aj)) (FP (ao tX (Zv 3 aj)) (ao rG (Zv 3 aj)))))))
def pR:LD:=cH 4 zj
def wQ:bO:=aF (cI 2 (ao mH (Zv 0 (Zv 1 aj)))) (aF (aX (eU kY 2 aj) (ak 3)) (gr (jX (dD (ao pR (Zv 3 (aa (eU gJ 2 (aa (ao dw (Zv 3 aj)) aj)) aj))))) (bD (zc (.bl false))) cM))
def abe:bO:=aF (eE (ju (aa (Zi 0) (aa (ao Sx (aa (Zi 1) (aa (ao Sw (aa (ao cz (aa (aO 0) aj)) (aa (Zi 12) aj))) aj))) (aa (Zi 2) aj)))) (ak 1) (wQ)) (bD (zc (.bl true)))
def Qx:LD:=cH 4 abe
end
open PySem PySem.Spec PyProof.Rows L2 Ev
def top(i:Nat):Stmt:=PySem.Challenge.pw_soundrules_k22_least_machines.main.body.getD i (.Pass ⟨0,0,0,0⟩)
abbrev sS:Stmt:=top 5
abbrev MF:Stmt:=top 7
abbrev Bj:Stmt:=top 8
abbrev yo:Stmt:=top 9
abbrev nJ:Stmt:=top 12
abbrev mq:Stmt:=top 13
abbrev lB:Stmt:=top 14
abbrev nM:Stmt:=top 15
abbrev qY:Stmt:=top 16
abbrev vf:Stmt:=top 17
abbrev sO:Stmt:=top 18
abbrev ym:Stmt:=top 19
abbrev Bl:Stmt:=top 20
abbrev vg:Stmt:=top 21
abbrev lA:Stmt:=top 23
abbrev oW:Stmt:=top 24
abbrev my:Stmt:=top 25
abbrev nO:Stmt:=top 26
abbrev vh:Stmt:=top 27
abbrev qd:Stmt:=top 28
abbrev Bk:Stmt:=top 29
abbrev nQ:Stmt:=top 30
abbrev sY:Stmt:=top 32
abbrev vp:Stmt:=top 33
abbrev vm:Stmt:=top 34
abbrev sU:Stmt:=top 35
abbrev rm:Stmt:=top 36
abbrev sV:Stmt:=top 37
abbrev qg:Stmt:=top 38
abbrev vo:Stmt:=top 39
abbrev sX:Stmt:=top 40
abbrev lC:Stmt:=top 41
abbrev qe:Stmt:=top 42
abbrev mj:Stmt:=top 43
abbrev oX:Stmt:=top 44
abbrev sZ:Stmt:=top 45
abbrev qZ:Stmt:=top 46
abbrev sW:Stmt:=top 47
abbrev Uo:Stmt:=top 48
structure Top(K:Fg)(mg:Str->Option Value):Prop where
 V7:mg "all" = none
 Y0:mg "bool" = none
 YZ:mg "dict" = none
 RZ:mg "divmod" = none
 Hj:mg "enumerate" = none
 V5:mg "int" = none
 fO:mg "isinstance" = none
 cP:mg "len" = none
 Hi:mg "list" = none
 acZ:mg "max" = none
 acY:mg "min" = none
 lG:mg "range" = none
 Nq:mg "set" = none
 Fi:mg "sorted" = none
 acW:mg "str" = none
 cT:mg "tuple" = none
 Hh:mg "zip" = none
 tW:∀d:D,PySem.W.kitOne K (.type (OJ d)) (.type "bool")=some (pO d "bool")
 wY:∀d:D,PySem.W.kitOne K (.type (OJ d)) (.type "int")=some (pO d "int")
 wX:∀d:D,PySem.W.kitOne K (.type (OJ d)) (.type "str")=some (pO d "str")
 jm:∀d:D,PySem.W.kitOne K (.type (OJ d)) (.type "tuple")=some (pO d "tuple")
 mW:Glb K mg "EDGE" (.str [35])
 gF:Glb K mg "MOST_STANDINGS" (.int 600)
 IV:di K mg "sounds_of" sS ["stock"]
 aby:di K mg "fits" MF ["signs","sign"]
 T9:di K mg "turned" Bj ["rule"]
 Q6:di K mg "puts_in" yo ["rule"]
 zH:di K mg "reading_rules" nJ ["order"]
 xY:di K mg "first_standing" mq ["order"]
 vU:di K mg "read_putting_in" lB Zq5
 zJ:di K mg "read_changing" nM Zq5
 Gm:di K mg "read_signs" qY Zq9
 Ml:di K mg "watch_on" vf Zq6
 IK:di K mg "watch_end" sO Zq4
 Q5:di K mg "read_on" ym Zq6
 Ub:di K mg "end_of" Bl Zq4
 Mm:di K mg "readings" vg Zq2
 vR:di K mg "standing_states" lA Zq2
 Ax:di K mg "shared_start" oW ["texts"]
 xZ:di K mg "certain_starts" my Tw
 zK:di K mg "put_out_early" nO Tw
 Mp:di K mg "numbered" vh ["things"]
 Dy:di K mg "like_states" qd Tw
 Ua:di K mg "joined" Bk Tw
 zL:di K mg "least_machine" nQ Zq2
 Jd:di K mg "_law_mixed" sY ["_law_cell"]
 Ms:di K mg "_law_pack" vp ["_law_script","_law_k"]
 Mq:di K mg "_law_take" vm ad5
 IW:di K mg "_law_stock" sU ["_law_pack_here"]
 Gp:di K mg "_law_sounds" rm Zq7
 Ja:di K mg "_law_signs" sV Tr
 DG:di K mg "_law_changes" qg Tr
 Mr:di K mg "_law_rule" vo Tr
 Jc:di K mg "_law_order" sX ad4
 vV:di K mg "_law_small_order" lC Tr
 Dz:di K mg "_law_is_text" qe Zq8
 xX:di K mg "_law_is_machine" mj ad3
 Ay:di K mg "_law_all_come" oX Zq3
 Je:di K mg "_law_early" sZ Zq3
 Gn:di K mg "_law_unlike" qZ Zq3
 Jb:di K mg "_law_right" sW ad2
section
variable{P:Program}{w:World}{K:Fg}{mg:Str->Option Value}{base:Heap}(Z:Top K mg)
theorem Gz:bG ["stock"] ["stock"] (aU sS):=iD
include Z in
theorem JM:Own P w K mg base "sounds_of" 1 ["stock"] (qu K 1 dX):=by exact bU (k:=0) Z.IV Gz (λf cdv A outer s H E hr G=>(gj.u (aG (bj (d9 G Z.cT (aP (aY (cL (lH ["stock","sound","marks"] 1 gh G (dG G (bu 0)) (λX1 h1=>by have G:=G.at h1;obtain⟨_,_,_,_,_,rfl⟩:=h1;exact(cJ G (aC (aK 1) (aC (aK 2) bz)))) (λX1 h1=>by have G:=G.at h1;obtain⟨_,_,_,_,_,rfl⟩:=h1;exact cQ) (λX1 h1=>by have G:=G.at h1;obtain⟨_,_,_,_,_,rfl⟩:=h1;exact(bu 1)))))))))))
theorem XN:bG ["signs","sign"] ["signs","sign"] (aU MF):=iD
include Z in
theorem yw:Own P w K mg base "fits" 1 ["signs","sign"] (qu K 2 gf):=by exact bU (k:=0) Z.aby XN (λf cdv A outer s H E hr G=>(gj.u (aG (bj (Ve (uo 0 ahV (aY Pu)) (Ab (uo 1 (af7 G) (bH 0))))))))
theorem Rh:bG ["rule","way","changes","left","right"] ["rule"] (aU Bj):=iD
include Z in
theorem VR:Own P w K mg base "turned" 1 ["rule"] (qu K 1 lN):=by
 exact bU (k:=0) Z.T9 Rh (λf cdv A outer s H E hr G=>(gj.u (aq (eY (bu 0) (cJ G (aC (aK 1) (aC (aK 2) (aC (aK 3) (aC (aK 4) bz))))))
   (aG (bj (bV (eG 1 (eG 2 (eG 4 (eG 3 az))))))))))
theorem Mz:bG ["rule"] ["rule"] (aU yo):=iD
include Z in
theorem RX:Own P w K mg base "puts_in" 1 ["rule"] (qu K 1 jq):=by exact bU (k:=0) Z.Q6 Mz (λf cdv A outer s H E hr G=>(gj.u (aG (bj (LQ (uJ G) (sH G (sH G (bW 0 G (aY aQ)) (aY aQ)) (aY aQ)) (aY (cO [])))))))
theorem yg:bG ["order","side","rules"] ["order"] (aU nJ):=iD
include Z in
theorem nU:Own P w K mg base "reading_rules" 2 ["order"] (qu K 1 cV):=by
 exact bU (k:=1) Z.zH yg (λf cdv A outer s H E hr G=>(gj.u (aq (eY (bu 0) (cJ G (aC (aK 1) (aC (aK 2) bz))))
   (aq (du (iB 1 (uJ G) (aY (cO [114,105,103,104,116]))) (aG (bj (d9 G Z.cT (aP (aY (cL (lH ["order","side","rules","rule"] 3 gh G (dG G (bu 2)) (λX1 h1=>by have G:=G.at h1;obtain⟨_,_,_,_,_,rfl⟩:=h1;exact(aK 3)) (λX1 h1=>by have G:=G.at h1;obtain⟨_,_,_,_,_,rfl⟩:=h1;exact cQ) (λX1 h1=>by have G:=G.at h1;obtain⟨_,_,_,_,_,rfl⟩:=h1;exact(cC (VR Z) G hr (eG 3 az) (bM len0)))))))))) cA)
   (aG (bj (bu 2)))))))
theorem wk:bG ["order"] ["order"] (aU mq):=iD
include Z in
theorem yx:Own P w K mg base "first_standing" 3 ["order"] (qu K 1 cX):=by obtain⟨abr,abu,mW⟩:=Z.mW;exact bU (k:=2) Z.xY wk (λf cdv A outer s H E hr G=>(gj.u (aG (bj (d9 G Z.cT (aP (aY (cL (lH ["order","way","changes","left","right"] 1 gh G (dG G (cC (nU Z) G hr (eG 0 az) (bM len0))) (λX1 h1=>by have G:=G.at h1;obtain⟨_,_,_,_,_,rfl⟩:=h1;exact(cJ G (aC (aK 1) (aC (aK 2) (aC (aK 3) (aC (aK 4) bz)))))) (λX1 h1=>by have G:=G.at h1;obtain⟨_,_,_,_,_,rfl⟩:=h1;exact cQ) (λX1 h1=>by have G:=G.at h1;obtain⟨_,_,_,_,_,rfl⟩:=h1;exact(bV (aD (cC (yw Z) G hr (eG 3 (aD (Bs (.str [35]) rfl mW.1 mW.2.1 (λF=>mW.2.2 F)) az)) (bM (bM len0))) (aD (cO []) az)))))))))))))
theorem uZ:bG age Zq5 (aU lB):=iD
include Z in
theorem wK:Own P w K mg base "read_putting_in" 2 Zq5 (qu K 3 dO):=by
 exact bU (k:=1) Z.vU uZ (λf cdv A outer s H E hr G=>(gj.u (aq (eY (bu 0) (cJ G (aC (aK 3) (aC (aK 4) (aC (aK 5) (aC (aK 6) bz))))))
   (aq (eY (bu 1) (cJ G (aC (aK 7) (aC (aK 8) bz))))
   (aq (cD 9 (bu 8))
   (aq (du (oF (wF (eV (bu 7)) (yr (eV (cC (yw Z) G hr (eG 6 (eG 2 az)) (bM (bM len0))))))) (aG (cD 9 (jl 8 (lZ G) (aY (sH G (bW 4 G (aY aQ)) (aY aQ)))))) cA)
   (aG (bj (bV (aD (bV (aD (cC (yw Z) G hr (eG 5 (eG 2 az)) (bM (bM len0))) (eG 2 az))) (eG 9 az)))))))))))
theorem yh:bG age Zq5 (aU nM):=iD
include Z in
theorem zP:Own P w K mg base "read_changing" 2 Zq5 (qu K 3 dY):=by
 exact bU (k:=1) Z.zJ yh (λf cdv A outer s H E hr G=>(gj.u (aq (eY (bu 0) (cJ G (aC (aK 3) (aC (aK 4) (aC (aK 5) (aC (aK 6) bz))))))
   (aq (eY (bu 1) (cJ G (aC (aK 7) (aC (aK 8) bz))))
   (aq (du (iB 8 (uJ G) (aY (cO []))) (aG (bj (bV (aD (bV (eG 7 (eG 2 az))) (aD (cO []) az))))) cA)
   (aq (cD 9 (bu 8))
   (aq (du (oF (wF (eV (bu 7)) (yr (eV (cC (yw Z) G hr (eG 6 (eG 2 az)) (bM (bM len0))))))) (aG (cD 9 (Xv G (Xw G Z.YZ (aP (bH 4))) (bu 8) (bu 8)))) cA)
   (aq (du (iB 3 (uJ G) (aY (cO [111,110,99,101]))) (aG (bj (bV (aD (bV (aD (cC (yw Z) G hr (eG 5 (eG 8 az)) (bM (bM len0))) (eG 2 az))) (eG 9 az))))) cA)
   (aq (du (iB 9 (uJ G) (aY (cO []))) (aG (bj (bV (aD (bV (eG 7 (eG 2 az))) (eG 9 az))))) cA)
   (aG (bj (bV (aD (bV (aD (cC (yw Z) G hr (eG 5 (eG 9 az)) (bM (bM len0))) (eG 2 az))) (eG 9 az))))))))))))))
theorem DN:bG ["rule","standing","signs","puts","acting","sign","held","put"] Zq9 (aU qY):=iD
include Z in
theorem wJ:Own P w K mg base "read_signs" 3 Zq9 (qu K 3 gH):=by
 exact bU (k:=2) Z.Gm DN (λf cdv A outer s H E hr G=>(gj.u (aq (gV 3 (cN az))
   (aq (cD 4 o4)
   (aq (gW G (dG G (bu 2)) (aK 5) (aq (cD 6 (bW 1 G (aY aQ)))
   (aq (du (eV (cC (RX Z) G hr (eG 0 az) (bM len0))) (aG (eY (cC (wK Z) G hr (eG 0 (eG 1 (eG 5 az))) (bM (bM (bM len0)))) (cJ G (aC (aK 1) (aC (aK 7) bz))))) (aG (eY (cC (zP Z) G hr (eG 0 (eG 1 (eG 5 az))) (bM (bM (bM len0)))) (cJ G (aC (aK 1) (aC (aK 7) bz))))))
   (aq (cD 4 (Ve (bu 4) (Ab (uo 7 (K9 G) (bH 6)))))
   (aG (lD 3 G (bu 7)))))))
   (aG (bj (bV (eG 1 (aD (Ox G (cO []) (bH 3)) (eG 4 az)))))))))))
theorem Jp:bG ["order","standing","sound","put","behind","acting","rule","own","new","acts_here"] Zq6 (aU vf):=iD
include Z in
theorem Nh:Own P w K mg base "watch_on" 4 Zq6 (qu K 3 o9):=by
 exact bU (k:=3) Z.Ml Jp (λf cdv A outer s H E hr G=>(gj.u (aq (cD 3 (bu 2))
   (aq (gV 4 (cN az))
   (aq (gV 5 (cN az))
   (aq (gW G (Wq G Z.Hh (aD (cC (nU Z) G hr (eG 0 az) (bM len0)) (eG 1 az))) (cJ G (aC (aK 6) (aC (aK 7) bz))) (aq (eY (cC (wJ Z) G hr (eG 6 (eG 7 (eG 3 az))) (bM (bM (bM len0)))) (cJ G (aC (aK 8) (aC (aK 3) (aC (aK 9) bz)))))
   (aq (lD 4 G (bu 8))
   (aG (lD 5 G (bu 9))))))
   (aG (bj (bV (aD (d9 G Z.cT (aP (bH 4))) (eG 3 (aD (d9 G Z.cT (aP (bH 5))) az))))))))))))
theorem Gy:bG ["order","standing","put","acting","rule","own","new","acts_here"] Zq4 (aU sO):=iD
include Z in
theorem JL:Own P w K mg base "watch_end" 4 Zq4 (qu K 2 nu):=by
 obtain⟨abr,abu,mW⟩:=Z.mW;exact bU (k:=3) Z.IK Gy (λf cdv A outer s H E hr G=>(gj.u (aq (cD 2 (cO []))
   (aq (gV 3 (cN az))
   (aq (gW G (Wq G Z.Hh (aD (cC (nU Z) G hr (eG 0 az) (bM len0)) (eG 1 az))) (cJ G (aC (aK 4) (aC (aK 5) bz))) (aq (eY (cC (wJ Z) G hr (eG 4 (eG 5 (aD (jl 2 (lZ G) (aY (Bs (.str [35]) rfl mW.1 mW.2.1 (λF=>mW.2.2 F)))) az))) (bM (bM (bM len0)))) (cJ G (aC (aK 6) (aC (aK 2) (aC (aK 7) bz)))))
   (aG (lD 3 G (bu 7)))))
   (aG (bj (bV (eG 2 (aD (d9 G Z.cT (aP (bH 3))) az))))))))))
theorem My:bG ["order","standing","sound","behind","put","acting"] Zq6 (aU ym):=iD
include Z in
theorem RW:Own P w K mg base "read_on" 5 Zq6 (qu K 3 mG):=by
 exact bU (k:=4) Z.Q5 My (λf cdv A outer s H E hr G=>(gj.u (aq (eY (cC (Nh Z) G hr (eG 0 (eG 1 (eG 2 az))) (bM (bM (bM len0)))) (cJ G (aC (aK 3) (aC (aK 4) (aC (aK 5) bz)))))
   (aG (bj (bV (eG 3 (eG 4 az))))))))
theorem Rj:bG Zq4 Zq4 (aU Bl):=iD
include Z in
theorem V1:Own P w K mg base "end_of" 5 Zq4 (qu K 2 jF):=by exact bU (k:=4) Z.Ub Rj (λf cdv A outer s H E hr G=>(gj.u (aG (bj (sH G (cC (JL Z) G hr (eG 0 (eG 1 az)) (bM (bM len0))) (aY aQ))))))
theorem Jq:bG ["stock","order","found","places","rows","steps","sound","behind","put"] Zq2 (aU vg):=iD
include Z in
theorem Ni:Own P w K mg base "readings" 6 Zq2 (qu K 2 pg):=by
 obtain⟨QX,QZ,gF⟩:=Z.gF;exact bU (k:=5) Z.Mm Jq (λf cdv A outer s H E hr G=>(gj.u (aq (gV 2 (cN (aD (cC (yx Z) G hr (eG 1 az) (bM len0)) az)))
   (aq (gV 3 (Rt G (bW 2 G (aY aQ)) aQ))
   (aq (gV 4 (cN az))
   (aq (qC 7000 G (jT La (dg G Z.cP (aP (bH 4))) (aY (dg G Z.cP (aP (bH 2))))) (aq (gV 5 (cN az))
   (aq (gW G (dG G (cC (JM Z) G hr (eG 0 az) (bM len0))) (aK 6) (aq (eY (cC (RW Z) G hr (eG 1 (aD (bW 2 G (aY (dg G Z.cP (aP (bH 4))))) (eG 6 az))) (bM (bM (bM len0)))) (cJ G (aC (aK 7) (aC (aK 8) bz))))
   (aq (du (iB 7 (K8 G) (bH 3)) (aq (Bm 3 G (bu 7) (dg G Z.cP (aP (bH 2))))
   (aG (lD 2 G (bu 7)))) cA)
   (aG (lD 5 G (bV (eG 8 (aD (Aq 3 G (bH 7)) az))))))))
   (aq (du (jT ahW (dg G Z.cP (aP (bH 2))) (aY (Bs (.int 600) rfl gF.1 gF.2.1 (λF=>gF.2.2 F)))) (aG M4) cA)
   (aG (lD 4 G (d9 G Z.cT (aP (bH 5)))))))))
   (aG (bj (bV (eG 2 (eG 4 az)))))))))))
theorem uY:bG ["stock","order","found","rows"] Zq2 (aU lA):=iD
include Z in
theorem wI:Own P w K mg base "standing_states" 7 Zq2 (qu K 2 gG):=by
 exact bU (k:=6) Z.vR uY (λf cdv A outer s H E hr G=>(gj.u (aq (eY (cC (Ni Z) G hr (eG 0 (eG 1 az)) (bM (bM len0))) (cJ G (aC (aK 2) (aC (aK 3) bz))))
   (aG (bj (cL (lH ["stock","order","found","rows","standing","steps"] 4 gh G (Kd G Z.Hh (eG 2 (eG 3 az))) (λX1 h1=>by have G:=G.at h1;obtain⟨_,_,_,_,_,rfl⟩:=h1;exact(cJ G (aC (aK 4) (aC (aK 5) bz)))) (λX1 h1=>by have G:=G.at h1;obtain⟨_,_,_,_,_,rfl⟩:=h1;exact cQ) (λX1 h1=>by have G:=G.at h1;obtain⟨_,_,_,_,_,rfl⟩:=h1;exact(bV (aD (cC (V1 Z) G hr (eG 1 (eG 4 az)) (bM (bM len0))) (eG 5 az)))))))))))
theorem zN:bG ["texts","start","text","many"] ["texts"] (aU oW):=iD
include Z in
theorem By:Own P w K mg base "shared_start" 1 ["texts"] (qu K 1 ie):=by
 exact bU (k:=0) Z.Ax zN (λf cdv A outer s H E hr G=>(gj.u (aq (cD 1 (bW 0 G (aY aQ)))
   (aq (gW G (dG G (bu 0)) (aK 2) (aq (cD 3 aQ)
   (aq (qC 7000 G (oF (wF (iB 3 La (aY (dg G Z.cP (aP (bH 1))))) (wF (iB 3 La (aY (dg G Z.cP (aP (bH 2))))) (yr (jT (uJ G) (bW 1 G (bH 3)) (aY (bW 2 G (bH 3)))))))) (aG (abP 3 aQ)))
   (aG (cD 1 (Ao G (bu 1) oJ (kI (bu 3))))))))
   (aG (bj (bu 1)))))))
theorem wu:bG ["states","known","starts"] Tw (aU my):=iD
include Z in
theorem yz:Own P w K mg base "certain_starts" 2 Tw (qu K 1 ig):=by
 exact bU (k:=1) Z.xZ wu (λf cdv A outer s H E hr G=>(gj.u (aq (cD 1 (cL (cN az)))
   (aq (O8 ["states","known","starts","end","steps"] 3 2 gh G (dG G (bu 0)) (λX1 h1=>by have G:=G.at h1;obtain⟨_,_,_,_,_,rfl⟩:=h1;exact(cJ G (aC (aK 3) (aC (aK 4) bz)))) (λX1 h1=>by have G:=G.at h1;obtain⟨_,_,_,_,_,rfl⟩:=h1;exact cQ) (λX1 h1=>by have G:=G.at h1;obtain⟨_,_,_,_,_,rfl⟩:=h1;exact(bu 3)))
   (aq (qC 20000 G (iB 2 (K9 G) (bH 1)) (aq (cD 1 (bu 2))
   (aG (O8 ["states","known","starts","end","steps"] 3 2 gh G (dG G (bu 0)) (λX1 h1=>by have G:=G.at h1;obtain⟨_,_,_,_,_,rfl⟩:=h1;exact(cJ G (aC (aK 3) (aC (aK 4) bz)))) (λX1 h1=>by have G:=G.at h1;obtain⟨_,_,_,_,_,rfl⟩:=h1;exact cQ) (λX1 h1=>by have G:=G.at h1;obtain⟨_,_,_,_,_,rfl⟩:=h1;exact(cC (By Z) G hr (aD (iZ (lZ G) (cL (cN (eG 3 az))) (aY (cL (lH ["states","known","starts","end","steps","put","to"] 5 gh G (dG G (bu 4)) (λX1 h1=>by have G:=G.at h1;obtain⟨_,_,_,_,_,rfl⟩:=h1;exact(cJ G (aC (aK 5) (aC (aK 6) bz)))) (λX1 h1=>by have G:=G.at h1;obtain⟨_,_,_,_,_,rfl⟩:=h1;exact cQ) (λX1 h1=>by have G:=G.at h1;obtain⟨_,_,_,_,_,rfl⟩:=h1;exact(jl 5 (lZ G) (aY (bW 1 G (bH 6))))))))) az) (bM len0)))))))
   (aG (bj (bu 2))))))))
theorem yj:bG ["states","starts","early","start","end","steps","many"] Tw (aU nO):=iD
include Z in
theorem zQ:Own P w K mg base "put_out_early" 3 Tw (qu K 1 iQ):=by
 exact bU (k:=2) Z.zK yj (λf cdv A outer s H E hr G=>(gj.u (aq (cD 1 (cC (yz Z) G hr (eG 0 az) (bM len0)))
   (aq (gV 2 (cN az))
   (aq (gW G (Kd G Z.Hh (eG 1 (eG 0 az))) (cJ G (aC (aK 3) (aC (cJ G (aC (aK 4) (aC (aK 5) bz))) bz))) (aq (cD 6 (dg G Z.cP (aP (bH 3))))
   (aG (lD 2 G (bV (aD (Ao G (bu 4) (kI (bu 6)) oJ) (aD (d9 G Z.cT (aP (aY (cL (lH ["states","starts","early","start","end","steps","many","put","to"] 7 gh G (dG G (bu 5)) (λX1 h1=>by have G:=G.at h1;obtain⟨_,_,_,_,_,rfl⟩:=h1;exact(cJ G (aC (aK 7) (aC (aK 8) bz)))) (λX1 h1=>by have G:=G.at h1;obtain⟨_,_,_,_,_,rfl⟩:=h1;exact cQ) (λX1 h1=>by have G:=G.at h1;obtain⟨_,_,_,_,_,rfl⟩:=h1;exact(bV (aD (Ao G (jl 7 (lZ G) (aY (bW 1 G (bH 8)))) (kI (bu 6)) oJ) (eG 8 az))))))))) az)))))))
   (aG (bj (bV (aD (bW 1 G (aY aQ)) (eG 2 az))))))))))
theorem Jr:bG ["things","numbers","thing"] ["things"] (aU vh):=iD
include Z in
theorem BJ:Own P w K mg base "numbered" 1 ["things"] (qu K 1 jV):=by
 exact bU (k:=0) Z.Mp Jr (λf cdv A outer s H E hr G=>(gj.u (aq (gV 1 Br)
   (aq (gW G (dG G (bu 0)) (aK 2) (aG (du (iB 2 (K8 G) (bH 1)) (aG (Bm 1 G (bu 2) (Ow G Z.cP (aP (bH 1))))) cA)))
   (aG (bj (cL (lH ["things","numbers","%2","thing"] 3 gh G (dG G (bu 0)) (λX1 h1=>by have G:=G.at h1;obtain⟨_,_,_,_,_,rfl⟩:=h1;exact(aK 3)) (λX1 h1=>by have G:=G.at h1;obtain⟨_,_,_,_,_,rfl⟩:=h1;exact cQ) (λX1 h1=>by have G:=G.at h1;obtain⟨_,_,_,_,_,rfl⟩:=h1;exact(Aq 1 G (bH 3)))))))))))
theorem Bf:bG ["states","groups","many"] Tw (aU qd):=iD
include Z in
theorem DW:Own P w K mg base "like_states" 2 Tw (qu K 1 jE):=by
 exact bU (k:=1) Z.Dy Bf (λf cdv A outer s H E hr G=>(gj.u (aq (cD 1 (cC (BJ Z) G hr (aD (cL (lH ["states","groups","many","end","steps"] 3 gh G (dG G (bu 0)) (λX1 h1=>by have G:=G.at h1;obtain⟨_,_,_,_,_,rfl⟩:=h1;exact(cJ G (aC (aK 3) (aC (aK 4) bz)))) (λX1 h1=>by have G:=G.at h1;obtain⟨_,_,_,_,_,rfl⟩:=h1;exact cQ) (λX1 h1=>by have G:=G.at h1;obtain⟨_,_,_,_,_,rfl⟩:=h1;exact(bV (eG 3 (aD (d9 G Z.cT (aP (aY (cL (lH ["states","groups","many","end","steps","put","to"] 5 gh G (dG G (bu 4)) (λX1 h1=>by have G:=G.at h1;obtain⟨_,_,_,_,_,rfl⟩:=h1;exact(cJ G (aC (aK 5) (aC (aK 6) bz)))) (λX1 h1=>by have G:=G.at h1;obtain⟨_,_,_,_,_,rfl⟩:=h1;exact cQ) (λX1 h1=>by have G:=G.at h1;obtain⟨_,_,_,_,_,rfl⟩:=h1;exact(bu 5))))))) az)))))) az) (bM len0)))
   (aq (cD 2 aQ)
   (aq (qC 7000 G (iB 2 La (aY (xR G Z.cP Z.Nq (bu 1)))) (aq (cD 2 (xR G Z.cP Z.Nq (bu 1)))
   (aG (cD 1 (cC (BJ Z) G hr (aD (cL (lH ["states","groups","many","at","end","steps"] 3 gh G (Wr G Z.Hj (eG 0 az)) (λX1 h1=>by have G:=G.at h1;obtain⟨_,_,_,_,_,rfl⟩:=h1;exact(cJ G (aC (aK 3) (aC (cJ G (aC (aK 4) (aC (aK 5) bz))) bz)))) (λX1 h1=>by have G:=G.at h1;obtain⟨_,_,_,_,_,rfl⟩:=h1;exact cQ) (λX1 h1=>by have G:=G.at h1;obtain⟨_,_,_,_,_,rfl⟩:=h1;exact(bV (aD (bW 1 G (bH 3)) (aD (d9 G Z.cT (aP (aY (cL (lH ["states","groups","many","at","end","steps","put","to"] 6 gh G (dG G (bu 5)) (λX1 h1=>by have G:=G.at h1;obtain⟨_,_,_,_,_,rfl⟩:=h1;exact(cJ G (aC (aK 6) (aC (aK 7) bz)))) (λX1 h1=>by have G:=G.at h1;obtain⟨_,_,_,_,_,rfl⟩:=h1;exact cQ) (λX1 h1=>by have G:=G.at h1;obtain⟨_,_,_,_,_,rfl⟩:=h1;exact(bW 1 G (bH 7)))))))) az)))))) az) (bM len0))))))
   (aG (bj (bu 1))))))))
theorem Ri:bG ["states","groups","places","kept","told","end","steps","new_steps","put","to"] Tw (aU Bk):=iD
include Z in
theorem V0:Own P w K mg base "joined" 3 Tw (qu K 1 qJ):=by
 exact bU (k:=2) Z.Ua Ri (λf cdv A outer s H E hr G=>(gj.u (aq (cD 1 (cC (DW Z) G hr (eG 0 az) (bM len0)))
   (aq (gV 2 (M5 G (bW 1 G (aY aQ)) aQ))
   (aq (gV 3 (cN (aD aQ az)))
   (aq (gV 4 (cN az))
   (aq (qC 7000 G (jT La (dg G Z.cP (aP (bH 4))) (aY (dg G Z.cP (aP (bH 3))))) (aq (eY (bW 0 G (aY (bW 3 G (aY (dg G Z.cP (aP (bH 4))))))) (cJ G (aC (aK 5) (aC (aK 6) bz))))
   (aq (gV 7 (cN az))
   (aq (gW G (dG G (bu 6)) (cJ G (aC (aK 8) (aC (aK 9) bz))) (aq (du (jT (Og G) (bW 1 G (bH 9)) (bH 2)) (aq (O9 2 G (bW 1 G (bH 9)) (dg G Z.cP (aP (bH 3))))
   (aG (lD 3 G (bu 9)))) cA)
   (aG (lD 7 G (bV (eG 8 (aD (Io 2 G (aY (bW 1 G (bH 9)))) az)))))))
   (aG (lD 4 G (bV (eG 5 (aD (d9 G Z.cT (aP (bH 7))) az)))))))))
   (aG (bj (d9 G Z.cT (aP (bH 4))))))))))))
theorem yl:bG ["stock","order","first","states"] Zq2 (aU nQ):=iD
include Z in
theorem zR:Own P w K mg base "least_machine" 8 Zq2 (qu K 2 fB):=by
 exact bU (k:=7) Z.zL yl (λf cdv A outer s H E hr G=>(gj.u (aq (eY (cC (zQ Z) G hr (aD (cC (wI Z) G hr (eG 0 (eG 1 az)) (bM (bM len0))) az) (bM len0)) (cJ G (aC (aK 2) (aC (aK 3) bz))))
   (aG (bj (bV (eG 2 (aD (cC (V0 Z) G hr (eG 3 az) (bM len0)) az))))))))
theorem GK:bG ["_law_cell"] ["_law_cell"] (aU sY):=iD
include Z in
theorem JR:Own P w K mg base "_law_mixed" 1 ["_law_cell"] (qu K 1 jj):=by exact bU (k:=0) Z.Jd GK (λf cdv A outer s H E hr G=>(gj.u (aG (bj (iZ agc (jl 0 W6 (aY aQ)) (aY (iZ abd aQ (aY aQ))))))))
theorem Ju:bG ["_law_script","_law_k","_law_found","_law_at"] ["_law_script","_law_k"] (aU vp):=iD
include Z in
theorem Nk:Own P w K mg base "_law_pack" 2 ["_law_script","_law_k"] (spN K 2 mH):=by
 exact YG (k:=1) Z.Ms Ju (λf cdv A outer s H E hr G=>(gj.u (aq (cD 2 aQ)
   (aq (gW G (dG G (cL (cN (aD (jl 1 (lZ G) (aY aQ)) (eG 1 az))))) (aK 3) (aG (cD 2 (iZ (lZ G) (jl 2 W6 (aY (iZ abd aQ (aY aQ)))) (aY (cC (JR Z) G hr (aD (sH G (iZ (lZ G) (aaA G (bu 0) (kI (bu 3)) (kI (jl 3 (lZ G) (aY aQ)))) (aY (cL (cN (aD (iZ (lZ G) (iZ W6 aQ (bH 3)) (aY aQ)) az))))) (aY aQ)) az) (bM len0)))))))
   (aG (Jy (cN (eG 2 az))))))))
theorem Js:bG ["_law_pack_here","_law_size","_law_digit"] ad5 (aU vm):=iD
include Z in
theorem eN:Own P w K mg base "_law_take" 1 ad5 (vX K 2 bh):=by
 exact vA (k:=0) Z.Mq Js (λf cdv A outer s H E a hr G=>(gj.u (aq (eY (QW G Z.RZ (vq (bW 0 G (aY aQ)) (aP (bH 1)))) (cJ G (aC (aa1 0 aQ) (aC (aK 2) bz))))
   (aG (bj (bu 2))))))
theorem GC:bG ["_law_pack_here","_law_sounds_here","_law_known","_law_found","_law_sound","_law_number","_law_marks"] ["_law_pack_here"] (aU sU):=iD
include Z in
theorem JN:Own P w K mg base "_law_stock" 2 ["_law_pack_here"] (vX K 1 kY):=by
 exact vA (k:=1) Z.IW GC (λf cdv A outer s H E a hr G=>(gj.u (aq (cD 1 (sH G (cL (Y4 (oK (cO [97]) (oK (cO [97,98]) (oK (cO [97,98]) (oK (cO [97,98,99]) (oK (cO [97,101,112,116]) (oK (cO [109,110,122]) Va)))))))) (aY (kh 0 (eN Z) G hr (aD aQ az) (kO (bM len0))))))
   (aq (cD 2 (cL (cN (aD (cO [115,116,111,112]) (aD (cO [115,116,111,112,115]) (aD (cO [115]) (aD (cO [111,112,101,110]) (aD (cO [97,98,99,100,101,102,103,104]) az))))))))
   (aq (gV 3 (cN az))
   (aq (gW G (dG G (bu 1)) (aK 4) (aq (cD 5 (kh 0 (eN Z) G hr (aD aQ az) (kO (bM len0))))
   (aq (cD 6 (En G Z.Fi (aP (aY (cL (lH ["_law_pack_here","_law_sounds_here","_law_known","_law_found","_law_sound","_law_number","_law_marks","_law_k"] 7 gh G (rF Z.lG (aD aQ az) (bM len0)) (λX1 h1=>by have G:=G.at h1;obtain⟨_,_,_,_,_,rfl⟩:=h1;exact(aK 7)) (λX1 h1=>by have G:=G.at h1;obtain⟨_,_,_,_,_,rfl⟩:=h1;exact(yt (jT (uJ G) (iZ abf (jl 5 abb (bH 7)) (aY aQ)) (aY aQ)))) (λX1 h1=>by have G:=G.at h1;obtain⟨_,_,_,_,_,rfl⟩:=h1;exact(bW 2 G (bH 7)))))))))
   (aG (lD 3 G (bV (eG 4 (aD (d9 G Z.cT (aP (aY (aaA G (bu 6) oJ (kI aQ))))) az))))))))
   (aG (bj (d9 G Z.cT (aP (bH 3)))))))))))
theorem DQ:bG Zq7 Zq7 (aU rm):=iD
include Z in
theorem wL:Own P w K mg base "_law_sounds" 1 Zq7 (qu K 1 dw):=by exact bU (k:=0) Z.Gp DQ (λf cdv A outer s H E hr G=>(gj.u (aG (bj (Ox G (cO []) (aY (cL (lH ["_law_stock_here","_law_sound","_law_marks"] 1 gh G (dG G (bu 0)) (λX1 h1=>by have G:=G.at h1;obtain⟨_,_,_,_,_,rfl⟩:=h1;exact(cJ G (aC (aK 1) (aC (aK 2) bz)))) (λX1 h1=>by have G:=G.at h1;obtain⟨_,_,_,_,_,rfl⟩:=h1;exact cQ) (λX1 h1=>by have G:=G.at h1;obtain⟨_,_,_,_,_,rfl⟩:=h1;exact(bu 1))))))))))
theorem GD:bG ["_law_pack_here","_law_sounds_here","_law_number","_law_signs_here"] Tr (aU sV):=iD
include Z in
theorem yV:Own P w K mg base "_law_signs" 2 Tr (vX K 2 iw):=by
 exact vA (k:=1) Z.Ja GD (λf cdv A outer s H E a hr G=>(gj.u (aq (du (jT (uJ G) (kh 0 (eN Z) G hr (aD aQ az) (kO (bM len0))) (aY aQ)) (aG (bj Pu)) cA)
   (aq (cD 2 (iZ (lZ G) aQ (aY (kh 0 (eN Z) G hr (aD (iZ aga (iZ agb aQ (aY (dg G Z.cP (aP (bH 1))))) (aY aQ)) az) (kO (bM len0))))))
   (aq (cD 3 (iZ (lZ G) (cO [35]) (bH 1)))
   (aG (bj (d9 G Z.cT (aP (aY (cL (lH ["_law_pack_here","_law_sounds_here","_law_number","_law_signs_here","_law_k"] 4 gh G (rF Z.lG (aD (dg G Z.cP (aP (bH 3))) az) (bM len0)) (λX1 h1=>by have G:=G.at h1;obtain⟨_,_,_,_,_,rfl⟩:=h1;exact(aK 4)) (λX1 h1=>by have G:=G.at h1;obtain⟨_,_,_,_,_,rfl⟩:=h1;exact(yt (jT (uJ G) (iZ abf (jl 2 abb (bH 4)) (aY aQ)) (aY aQ)))) (λX1 h1=>by have G:=G.at h1;obtain⟨_,_,_,_,_,rfl⟩:=h1;exact(bW 3 G (bH 4)))))))))))))))
theorem Bh:bG ["_law_pack_here","_law_sounds_here","_law_found","_law_turn","_law_one","_law_others"] Tr (aU qg):=iD
include Z in
theorem DX:Own P w K mg base "_law_changes" 2 Tr (vX K 2 iW):=by
 exact vA (k:=1) Z.DG Bh (λf cdv A outer s H E a hr G=>(gj.u (aq (du (jT (uJ G) (kh 0 (eN Z) G hr (aD aQ az) (kO (bM len0))) (aY aQ)) (aG (bj (bV (aD (bV (aD (cO []) (aD (bW 1 G (aY (kh 0 (eN Z) G hr (aD (dg G Z.cP (aP (bH 1))) az) (kO (bM len0))))) az))) az)))) cA)
   (aq (gV 2 Rv)
   (aq (gW G (rF Z.lG (aD (iZ (lZ G) aQ (aY (kh 0 (eN Z) G hr (aD aQ az) (kO (bM len0))))) az) (bM len0)) (aK 3) (aq (cD 4 (bW 1 G (aY (kh 0 (eN Z) G hr (aD (dg G Z.cP (aP (bH 1))) az) (kO (bM len0))))))
   (aq (O8 ["_law_pack_here","_law_sounds_here","_law_found","_law_turn","_law_one","_law_others","_law_sound"] 6 5 gh G (dG G (iZ (lZ G) (Ov G Z.Hi (aP (bH 1))) (aY (cL (cN (aD (cO []) az)))))) (λX1 h1=>by have G:=G.at h1;obtain⟨_,_,_,_,_,rfl⟩:=h1;exact(aK 6)) (λX1 h1=>by have G:=G.at h1;obtain⟨_,_,_,_,_,rfl⟩:=h1;exact(yt (iB 6 (K9 G) (bH 4)))) (λX1 h1=>by have G:=G.at h1;obtain⟨_,_,_,_,_,rfl⟩:=h1;exact(bu 6)))
   (aG (O9 2 G (bu 4) (bW 5 G (aY (kh 0 (eN Z) G hr (aD (dg G Z.cP (aP (bH 5))) az) (kO (bM len0))))))))))
   (aG (bj (d9 G Z.cT (aP (aY (cL (lH ["_law_pack_here","_law_sounds_here","_law_found","_law_turn","%4","_law_others","_law_one"] 6 gh G (dG G (En G Z.Fi (aP (bH 2)))) (λX1 h1=>by have G:=G.at h1;obtain⟨_,_,_,_,_,rfl⟩:=h1;exact(aK 6)) (λX1 h1=>by have G:=G.at h1;obtain⟨_,_,_,_,_,rfl⟩:=h1;exact cQ) (λX1 h1=>by have G:=G.at h1;obtain⟨_,_,_,_,_,rfl⟩:=h1;exact(bV (eG 6 (aD (Io 2 G (bH 6)) az))))))))))))))))
theorem Jt:bG ["_law_pack_here","_law_sounds_here","_law_how","_law_changes_here"] Tr (aU vo):=iD
include Z in
theorem Nj:Own P w K mg base "_law_rule" 3 Tr (vX K 2 jW):=by
 exact vA (k:=2) Z.Mr Jt (λf cdv A outer s H E a hr G=>(gj.u (aq (cD 2 (sH G (cL (cN (aD (cO [111,110,99,101]) (aD (cO [97,108,111,110,103]) az)))) (aY (kh 0 (eN Z) G hr (aD aQ az) (kO (bM len0))))))
   (aq (cD 3 (kh 0 (DX Z) G hr (eG 1 az) (kO (bM len0))))
   (aG (bj (bV (eG 2 (eG 3 (aD (kh 0 (yV Z) G hr (eG 1 az) (kO (bM len0))) (aD (kh 0 (yV Z) G hr (eG 1 az) (kO (bM len0))) az)))))))))))
theorem GJ:bG ["_law_pack_here","_law_sounds_here","_law_most","_law_side"] ad4 (aU sX):=iD
include Z in
theorem JQ:Own P w K mg base "_law_order" 4 ad4 (vX K 3 kZ):=by
 exact vA (k:=3) Z.Jc GJ (λf cdv A outer s H E a hr G=>(gj.u (aq (cD 3 (sH G (cL (cN (aD (cO [108,101,102,116]) (aD (cO [114,105,103,104,116]) az)))) (aY (kh 0 (eN Z) G hr (aD aQ az) (kO (bM len0))))))
   (aG (bj (bV (eG 3 (aD (d9 G Z.cT (aP (aY (cL (lH ["_law_pack_here","_law_sounds_here","_law_most","_law_side","_law_turn"] 4 gh G (rF Z.lG (aD (kh 0 (eN Z) G hr (aD (jl 2 (lZ G) (aY aQ)) az) (kO (bM len0))) az) (bM len0)) (λX1 h1=>by have G:=G.at h1;obtain⟨_,_,_,_,_,rfl⟩:=h1;exact(aK 4)) (λX1 h1=>by have G:=G.at h1;obtain⟨_,_,_,_,_,rfl⟩:=h1;exact cQ) (λX1 h1=>by have G:=G.at h1;obtain⟨_,_,_,_,_,rfl⟩:=h1;exact(kh 0 (Nj Z) G hr (eG 1 az) (kO (bM len0))))))))) az))))))))
theorem vd:bG Tr Tr (aU lC):=iD
include Z in
theorem wM:Own P w K mg base "_law_small_order" 5 Tr (vX K 2 gJ):=by exact vA (k:=4) Z.vV vd (λf cdv A outer s H E a hr G=>(gj.u (aG (bj (kh 0 (JQ Z) G hr (eG 1 (aD (iZ (lZ G) (sH G (cL (cN (aD aQ (aD aQ (aD aQ (aD aQ az)))))) (aY (kh 0 (eN Z) G hr (aD aQ az) (kO (bM len0))))) (aY (Xr G Z.V5 (aP (aY (LQ La (dg G Z.cP (aP (bH 1))) (aY aQ))))))) az)) (kO (bM (bM len0))))))))
theorem Bg:bG Zq8 Zq8 (aU qe):=iD
include Z in
theorem qi:Own P w K mg base "_law_is_text" 1 Zq8 (qu K 2 fQ):=by exact bU (k:=0) Z.Dz Bg (λf cdv A outer s H E hr G=>(gj.u (aG (bj (G5 (pK (T:="str") rfl Z.fO rfl Z.acW (by decide +kernel) Z.wX G.K (bu 0)) (Ab (T6 G Z.V7 (aP (aY (cL (lH ["_law_thing","_law_sounds_here","_law_sound"] 2 gh G (dG G (bu 0)) (λX1 h1=>by have G:=G.at h1;obtain⟨_,_,_,_,_,rfl⟩:=h1;exact(aK 2)) (λX1 h1=>by have G:=G.at h1;obtain⟨_,_,_,_,_,rfl⟩:=h1;exact cQ) (λX1 h1=>by have G:=G.at h1;obtain⟨_,_,_,_,_,rfl⟩:=h1;exact(uo 2 (af7 G) (bH 1))))))))))))))
theorem wj:bG ["_law_machine","_law_sounds_here","_law_state","_law_step"] ad3 (aU mj):=iD
include Z in
theorem yu:Own P w K mg base "_law_is_machine" 2 ad3 (qu K 2 jr):=by
 exact bU (k:=1) Z.xX wj (λf cdv A outer s H E hr G=>(gj.u (aq (du (oF (mO (iJ (eV (pK (T:="tuple") rfl Z.fO rfl Z.cT (by decide +kernel) Z.jm G.K (bu 0)))) (mO (jT (K9 G) (dg G Z.cP (aP (bH 0))) (aY aQ)) (qD (iJ (eV (cC (qi Z) G hr (aD (bW 0 G (aY aQ)) (eG 1 az)) (bM (bM len0))))))))) (aG (bj o4)) cA)
   (aq (du (oF (mO (iJ (eV (pK (T:="tuple") rfl Z.fO rfl Z.cT (by decide +kernel) Z.jm G.K (bW 0 G (aY aQ))))) (qD (jT (uJ G) (bW 0 G (aY aQ)) (aY (bV az)))))) (aG (bj o4)) cA)
   (aq (gW G (dG G (bW 0 G (aY aQ))) (aK 2) (aq (du (oF (mO (iJ (eV (pK (T:="tuple") rfl Z.fO rfl Z.cT (by decide +kernel) Z.jm G.K (bu 2)))) (mO (jT (K9 G) (dg G Z.cP (aP (bH 2))) (aY aQ)) (qD (iJ (eV (cC (qi Z) G hr (aD (bW 2 G (aY aQ)) (eG 1 az)) (bM (bM len0))))))))) (aG (bj o4)) cA)
   (aq (du (oF (mO (iJ (eV (pK (T:="tuple") rfl Z.fO rfl Z.cT (by decide +kernel) Z.jm G.K (bW 2 G (aY aQ))))) (qD (jT (K9 G) (dg G Z.cP (aP (aY (bW 2 G (aY aQ))))) (aY (dg G Z.cP (aP (bH 1)))))))) (aG (bj o4)) cA)
   (aG (gW G (dG G (bW 2 G (aY aQ))) (aK 3) (aq (du (oF (mO (iJ (eV (pK (T:="tuple") rfl Z.fO rfl Z.cT (by decide +kernel) Z.jm G.K (bu 3)))) (mO (jT (K9 G) (dg G Z.cP (aP (bH 3))) (aY aQ)) (qD (iJ (eV (cC (qi Z) G hr (aD (bW 3 G (aY aQ)) (eG 1 az)) (bM (bM len0))))))))) (aG (bj o4)) cA)
   (aG (du (oF (mO (eV (pK (T:="bool") rfl Z.fO rfl Z.Y0 (by decide +kernel) Z.tW G.K (bW 3 G (aY aQ)))) (mO (iJ (eV (pK (T:="int") rfl Z.fO rfl Z.V5 (by decide +kernel) Z.wY G.K (bW 3 G (aY aQ))))) (qD (iJ (Uc ahU La aQ (bW 3 G (aY aQ)) (dg G Z.cP (aP (aY (bW 0 G (aY aQ))))))))))) (aG (bj o4)) cA))))))))
   (aG (bj o4)))))))
theorem zO:bG ["_law_states","_law_order_here","_law_at","_law_put","_law_there"] Zq3 (aU oX):=iD
include Z in
theorem BK:Own P w K mg base "_law_all_come" 1 Zq3 (qu K 1 ph):=by
 exact bU (k:=0) Z.Ay zO (λf cdv A outer s H E hr G=>(gj.u (aq (gV 1 (cN (aD aQ az)))
   (aq (cD 2 aQ)
   (aq (qC 7000 G (iB 2 La (aY (dg G Z.cP (aP (bH 1))))) (aq (gW G (dG G (sH G (bW 0 G (aY (bW 1 G (bH 2)))) (aY aQ))) (cJ G (aC (aK 3) (aC (aK 4) bz))) (aG (du (iB 4 (Z7 G) (bH 1)) (aG (lD 1 G (bu 4))) cA)))
   (aG (cD 2 (jl 2 (lZ G) (aY aQ))))))
   (aG (bj (uo 1 (uJ G) (aY (cL (Y5 G Z.Hi Z.lG (dg G Z.cP (aP (bH 0))))))))))))))
theorem GP:bG ["_law_states","_law_firsts","_law_turn","_law_ahead","_law_number","_law_put","_law_there"] Zq3 (aU sZ):=iD
include Z in
theorem JS:Own P w K mg base "_law_early" 1 Zq3 (qu K 1 tX):=by
 exact bU (k:=0) Z.Je GP (λf cdv A outer s H E hr G=>(gj.u (aq (O8 ["_law_states","_law_firsts","_law_turn","_law_ahead","_law_number","_law_put","_law_there","_law_end","_law_steps"] 7 1 gh G (dG G (bu 0)) (λX1 h1=>by have G:=G.at h1;obtain⟨_,_,_,_,_,rfl⟩:=h1;exact(cJ G (aC (aK 7) (aC (aK 8) bz)))) (λX1 h1=>by have G:=G.at h1;obtain⟨_,_,_,_,_,rfl⟩:=h1;exact cQ) (λX1 h1=>by have G:=G.at h1;obtain⟨_,_,_,_,_,rfl⟩:=h1;exact(Ao G (bu 7) oJ (kI aQ))))
   (aq (gW G (rF Z.lG (aD (dg G Z.cP (aP (bH 0))) az) (bM len0)) (aK 2) (aq (cD 3 (Ov G Z.Hi (aP (bH 1))))
   (aq (gW G (rF Z.lG (aD (dg G Z.cP (aP (bH 0))) az) (bM len0)) (aK 4) (aG (gW G (dG G (sH G (bW 0 G (bH 4)) (aY aQ))) (cJ G (aC (aK 5) (aC (aK 6) bz))) (aG (du (jT (K9 G) (Ao G (jl 5 (lZ G) (aY (bW 1 G (bH 6)))) oJ (kI aQ)) (aY (bW 1 G (bH 4)))) (aG (eY (cO []) (aa1 1 (bu 4)))) cA)))))
   (aG (du (iB 1 (uJ G) (bH 3)) (aG Bq) cA)))))
   (aG (bj (T6 G Z.V7 (aP (aY (cL (lH ["_law_states","_law_firsts","_law_turn","_law_ahead","_law_number","_law_put","_law_there","_law_first"] 7 gh G (dG G (bu 1)) (λX1 h1=>by have G:=G.at h1;obtain⟨_,_,_,_,_,rfl⟩:=h1;exact(aK 7)) (λX1 h1=>by have G:=G.at h1;obtain⟨_,_,_,_,_,rfl⟩:=h1;exact cQ) (λX1 h1=>by have G:=G.at h1;obtain⟨_,_,_,_,_,rfl⟩:=h1;exact(uo 7 (uJ G) (aY (cO [])))))))))))))))
theorem DP:bG ["_law_states","_law_kinds","_law_turn","_law_known","_law_more","_law_end","_law_steps","_law_sign"] Zq3 (aU qZ):=iD
include Z in
theorem Hd:Own P w K mg base "_law_unlike" 1 Zq3 (qu K 1 rG):=by
 exact bU (k:=0) Z.Gn DP (λf cdv A outer s H E hr G=>(gj.u (aq (cD 1 (iZ adZ (cL (cN (aD aQ az))) (aY (dg G Z.cP (aP (bH 0))))))
   (aq (gW G (rF Z.lG (aD (dg G Z.cP (aP (bH 0))) az) (bM len0)) (aK 2) (aq (gV 3 Br)
   (aq (gV 4 (cN az))
   (aq (gW G (dG G (bu 0)) (cJ G (aC (aK 5) (aC (aK 6) bz))) (aq (cD 7 (bV (eG 5 (aD (d9 G Z.cT (aP (aY (cL (lH ["_law_states","_law_kinds","_law_turn","_law_known","_law_more","_law_end","_law_steps","_law_sign","_law_put","_law_there"] 8 gh G (dG G (bu 6)) (λX1 h1=>by have G:=G.at h1;obtain⟨_,_,_,_,_,rfl⟩:=h1;exact(cJ G (aC (aK 8) (aC (aK 9) bz)))) (λX1 h1=>by have G:=G.at h1;obtain⟨_,_,_,_,_,rfl⟩:=h1;exact cQ) (λX1 h1=>by have G:=G.at h1;obtain⟨_,_,_,_,_,rfl⟩:=h1;exact(bV (eG 8 (aD (bW 1 G (bH 9)) az))))))))) az))))
   (aq (Bm 3 G (bu 7) (QV 3 G (bu 7) (Ow G Z.cP (aP (bH 3)))))
   (aG (lD 4 G (Aq 3 G (bH 7)))))))
   (aq (du (iB 4 (uJ G) (bH 1)) (aG Bq) cA)
   (aG (cD 1 (bu 4))))))))
   (aG (bj (LQ (uJ G) (xR G Z.cP Z.Nq (bu 1)) (aY (dg G Z.cP (aP (bH 0)))))))))))
theorem GF:bG ["_law_stock_here","_law_order_here","_law_machine","_law_states"] ad2 (aU sW):=iD
include Z in
theorem JP:Own P w K mg base "_law_right" 9 ad2 (qu K 2 pR):=by
 exact bU (k:=8) Z.Jb GF (λf cdv A outer s H E hr G=>(gj.u (aq (cD 2 (cC (zR Z) G hr (eG 0 (eG 1 az)) (bM (bM len0))))
   (aq (du (iJ (eV (cC (yu Z) G hr (eG 2 (aD (cC (wL Z) G hr (eG 0 az) (bM len0)) az)) (bM (bM len0))))) (aG (bj o4)) cA)
   (aq (cD 3 (bW 2 G (aY aQ)))
   (aG (bj (G5 (cC (BK Z) G hr (eG 3 az) (bM len0)) (G5 (cC (JS Z) G hr (eG 3 az) (bM len0)) (Ab (cC (Hd Z) G hr (eG 3 az) (bM len0))))))))))))
theorem abO:bG agd ["_law_script"] (aU Uo):=iD
include Z in
theorem adE{f:Addr}{fd:FuncData}(F:Xk K "law" "law" Uo f fd):qT P w K mg base Ie 10 f fd ["_law_script"] (qu K 1 Qx):=by
 exact KZ (k:=9) F abO (λcdv A outer s H E hr=>by
  have G:=Ag (P:=P) (w:=w) (K:=K) (mg:=mg) (base:=base) (N:=agd) (outer:=outer) (H:=H) (E:=E) (C:=C0 K) rfl hr;exact(gj.u (aq (gW G (Zm Z.lG (aD aQ (aD (abn G Z.acZ (vq aQ (aP (aY (abm G Z.acY (vq (dg G Z.cP (aP (bH 0))) (aP (aY aQ)))))))) (aD aQ az))) (bM (bM (bM len0)))) (aK 1) (aq (gV 2 (ac0 (Nk Z) G hr (eG 0 (eG 1 az)) (bM (bM len0))))
   (aq (cD 3 (kh 2 (JN Z) G hr az (kO len0)))
   (aG (du (iJ (eV (cC (JP Z) G hr (eG 3 (aD (kh 2 (wM Z) G hr (aD (cC (wL Z) G hr (eG 3 az) (bM len0)) az) (kO (bM len0))) az)) (bM (bM len0))))) (aG (bj o4)) cA)))))
   (aG (bj o4)))))
end
end nG
namespace jJ
open Ev
def lg:bO:=bD (ao bZ (aa (dH 1 3 (dB (aL 0)) (bB 2 (aA (ak 1) (aA (ak 2) bF))) bK (aL 1)) aj))
def dX:LD:=cH 1 lg
def pZ:bO:=nG.pZ
def jj:LD:=cH 1 pZ
def mK:bO:=aF (aX (Zi 0) (ak 2)) (aF (eE (dB (bT (aa (au dC 1 (Zi 1)) (Zv 1 aj)))) (ak 3) (aX (aR dC (au vG 2 (aR NT (Zi 10) (Zi 60))) (ao jj (aa (aR cU (aR dC (zW (aL 0) (yM (aL 3)) (yM (au dC 3 (Zi 1)))) (bT (aa (aR dC (aR vG (Zi 7919) (aO 3)) (Zi 61)) aj))) (Zi 0)) aj))) (ak 2))) (Bc (bT (Zv 2 aj))))
def mH:LD:=runN 4 mK
def fD:bO:=nG.fD
def bh:List D->Option (D×D):=ji 3 fD
def pW:bO:=aF (aX (aR cU (bT (aa (Zw [97]) (aa (Zw [97,98]) (aa (Zw [97,98]) (aa (Zw [97,98,99]) (aa (Zw [97,101,112,116]) (aa (Zw [109,110,122]) aj))))))) (eU bh 0 (aa (Zi 6) aj))) (ak 1)) (aF (aX (bT (aa (Zw [115,116,111,112]) (aa (Zw [115,116,111,112,115]) (aa (Zw [115]) (aa (Zw [111,112,101,110]) (aa (Zw [97,98,99,100,101,102,103,104]) aj)))))) (ak 2)) (aF (cI 3 (bT aj)) (aF (eE (dB (aL 1)) (ak 4) (aF (aX (eU bh 0 (aa (Zi 32) aj)) (ak 5)) (aF (aX (ao jn (aa (dH 7 8 (ju (aa (Zi 5) aj)) (ak 7) (dD (aR pP (aR Kp (au Kh 5 (aO 7)) (Zi 1)) (Zi 1))) (au cU 2 (aO 7))) aj)) (ak 6)) (dJ 3 (bJ (Zv 4 (aa (ao bZ (aa (zW (aL 6) n6 (yM (Zi 4))) aj)) aj))))))) (bD (ao bZ (aa (aO 3) aj))))))
def kY:List D->Option (D×D):=ji 7 pW
def rP:bO:=bD (aR rW (Zw []) (dH 1 3 (dB (aL 0)) (bB 2 (aA (ak 1) (aA (ak 2) bF))) bK (aL 1)))
def dw:LD:=cH 1 rP
def iy:bO:=aF (gr (dD (aR pP (eU bh 0 (aa (Zi 2) aj)) (Zi 0))) (bD (zc .non)) cM) (aF (aX (aR dC (Zi 1) (eU bh 0 (aa (aR Sv (aR ZD (Zi 2) (ao cz (aa (aO 1) aj))) (Zi 1)) aj))) (ak 2)) (aF (aX (aR dC (Zw [35]) (aO 1)) (ak 3)) (bD (ao bZ (aa (dH 4 5 (ju (aa (ao cz (aa (aO 3) aj)) aj)) (ak 4) (dD (aR pP (aR Kp (au Kh 2 (aO 4)) (Zi 1)) (Zi 1))) (au cU 3 (aO 4))) aj)))))
def iw:List D->Option (D×D):=ji 4 iy
def fU:bO:=aF (gr (dD (aR pP (eU bh 0 (aa (Zi 5) aj)) (Zi 0))) (bD (bJ (aa (bJ (aa (Zw []) (aa (au cU 1 (eU bh 0 (aa (ao cz (aa (aO 1) aj)) aj))) aj))) aj))) cM) (aF (cI 2 (Hx)) (aF (eE (ju (aa (aR dC (Zi 1) (eU bh 0 (aa (Zi 3) aj))) aj)) (ak 3) (aF (aX (au cU 1 (eU bh 0 (aa (ao cz (aa (aO 1) aj)) aj))) (ak 4)) (aF (cI 5 (dH 6 7 (dB (aR dC (ao Cr (aa (aO 1) aj)) (bT (aa (Zw []) aj)))) (ak 6) (dD (au Ai 6 (aO 4))) (aL 6))) (oU 2 (aL 4) (au cU 5 (eU bh 0 (aa (ao cz (aa (aO 5) aj)) aj))))))) (bD (ao bZ (aa (dH 6 7 (dB (ao jn (aa (aO 2) aj))) (ak 6) bK (bJ (Zv 6 (aa (au jD 2 (aO 6)) aj)))) aj)))))
def iW:List D->Option (D×D):=ji 6 fU
def j8:bO:=aF (aX (aR cU (bT (aa (Zw [111,110,99,101]) (aa (Zw [97,108,111,110,103]) aj))) (eU bh 0 (aa (Zi 2) aj))) (ak 2)) (aF (aX (eU iW 0 (Zv 1 aj)) (ak 3)) (bD (bJ (Zv 2 (Zv 3 (aa (eU iw 0 (Zv 1 aj)) (aa (eU iw 0 (Zv 1 aj)) aj)))))))
def jW:List D->Option (D×D):=ji 4 j8
open Ev PySem L2
theorem uC{i:Int}{b:Nat}(h:i.natAbs<2^b):Builtin.Int.intBits i<=b:=by
 unfold Builtin.Int.intBits;split
 ·exact Qx3 _
 ·rename_i h0;have hz:i.natAbs≠0:=λz=>h0 (by rw[Int.natAbs_eq_zero.mp z];rfl);exact(Nat.log2_lt hz).mpr h
theorem vC{i j:Int}{a b:Nat}(h1:Builtin.Int.intBits i<=a)(h2:Builtin.Int.intBits j<=b)(h:a+b<=134217728):mR i j=true:=
 Qw2 (by omega)
def Nt(i:Int):Int:=i*262406895267124108351839057402211873468251940277165213587343 % 10^60
theorem Y7(i:Int):(Nt i).natAbs<2^200:=by
 unfold Nt;have h1:0<=i*262406895267124108351839057402211873468251940277165213587343 % 10^60:=Int.emod_nonneg _ (by decide);have h2:i*262406895267124108351839057402211873468251940277165213587343 % 10^60<10^60:=Int.emod_lt_of_pos _ (by decide);have h3:(10:Int)^60<=2^200:=by decide
 omega
theorem mixed{i:Int}(h:Builtin.Int.intBits i<=2^20):jj [.int i]=some (.int (Nt i)):=by
 have hm:mR i 262406895267124108351839057402211873468251940277165213587343=true:=vC h (uC (b:=198) (by decide)) (by decide);have e1:au vG 0 (Zi 262406895267124108351839057402211873468251940277165213587343) [Zf (.int i)] = .ok (.int (i*262406895267124108351839057402211873468251940277165213587343)) [Zf (.int i)]:=by
  show gC (gI mR (λi j=>D.int (i*j)) (.int i) (.int _)) _=_;unfold gI;simp only;rw[if_pos hm]
  rfl
 show(match bD _ [Zf (.int i)] with|.rt false d _=>some d|.nx _=>some .non|_=>none)=_;rw[bY (d:=.int (Nt i)) (e:=[Zf (.int i)])];unfold aR;rw[e1]
 rfl
theorem ZV{α:Type}{xs:List α}{lo hi:Option Int}{x:α}(h:x∈cutD xs lo hi):x∈xs:=List.mem_of_mem_drop (List.mem_of_mem_take h)
theorem W7{α:Type}(x:α)(r:List α):xQ (x::r) 0=some x:=rQ (j:=0) rfl
def o5:bO:=aX (aR dC (au vG 2 (aR NT (Zi 10) (Zi 60))) (ao jj (aa (aR cU (aR dC (zW (aL 0) (yM (aL 3)) (yM (au dC 3 (Zi 1)))) (bT (aa (aR dC (aR vG (Zi 7919) (aO 3)) (Zi 61)) aj))) (Zi 0)) aj))) (ak 2)
theorem Fe(ns:List Int)(hl:ns.length<=63)(hb:Oq ns)(k a f:Int)(ha:a.natAbs<2^10)(hf:Builtin.Int.intBits f<=2^20) :
  ∃f':Int,o5 [Zf (.arr (ns.map .int)),Zf (.int k),Zf (.int f),Zf (.int a)] = .nx [Zf (.arr (ns.map .int)),Zf (.int k),Zf (.int f'),Zf (.int a)]/\(f=0->f'.natAbs<2^200):=by
 generalize hE:([Zf (.arr (ns.map .int)),Zf (.int k),Zf (.int f),Zf (.int a)]:Ev.Env)=env;have m1:mR 7919 a=true:=vC (a:=20) (b:=10) (uC (by decide)) (uC ha) (by decide);have m2:mR f (10^(60:Int).toNat)=true:=vC (b:=200) hf (uC (by decide)) (by decide);have e1:zW (aL 0) (yM (aL 3)) (yM (au dC 3 (Zi 1))) env = .ok (.lst (cutD (ns.map .int) (some a) (some (a+1)))) env:=by rw[<-hE];rfl
 have e2:bT (aa (aR dC (aR vG (Zi 7919) (aO 3)) (Zi 61)) aj) env = .ok (.lst [.int (7919*a+61)]) env:=by refine Kw (aH (cj (cj (x:=.int 7919) (y:=.int a) (e1:=env) (e2:=env) rfl (by rw[<-hE];rfl) (Qn m1)) (y:=.int 61) rfl rfl) bw) Ev.zz1
 generalize hL:cutD (ns.map D.int) (some a) (some (a+1))=L at e1;have hLl:L.length<=63:=by rw[<-hL];exact Qq0 (t7 _ _ _) (by rw[Qqq];exact hl)
 have e3:aR dC (zW (aL 0) (yM (aL 3)) (yM (au dC 3 (Zi 1)))) (bT (aa (aR dC (aR vG (Zi 7919) (aO 3)) (Zi 61)) aj)) env = .ok (.lst (L++[.int (7919*a+61)])) env:=by exact cj e1 e2 (Wx (by show L.length+1<=sizeLine;exact Qq0 (Nat.succ_le_succ hLl) (by decide)))
 obtain⟨c,hc,hcb⟩:∃c:Int,xQ (L++[.int (7919*a+61)]) 0=some (.int c)/\Builtin.Int.intBits c<=2^20:=by
  cases hLc:L with
  | nil=>
   refine⟨7919*a+61,rfl,Qq0 (uC (b:=30) ?_) (by decide)⟩;omega
  | cons y r=>
   have hy:y∈ns.map D.int:=ZV (lo:=some a) (hi:=some (a+1)) (by rw[hL,hLc];exact Qqk ..);obtain⟨i,hi,rfl⟩:=Qwz.mp hy;exact⟨i,W7 _ _,hb i hi⟩
 have e4:ao jj (aa (aR cU (aR dC (zW (aL 0) (yM (aL 3)) (yM (au dC 3 (Zi 1)))) (bT (aa (aR dC (aR vG (Zi 7919) (aO 3)) (Zi 61)) aj))) (Zi 0)) aj) env = .ok (.int (Nt c)) env:=by exact aM (aH (cj (y:=.int 0) e3 rfl hc) bw) (mixed hcb)
 refine⟨f*10^(60:Int).toNat+Nt c,?_,λh0=>?_⟩
 ·unfold o5;refine bQ (d:=.int (f*10^(60:Int).toNat+Nt c)) (e:=env) ?_ (by rw[<-hE];rfl);have e5:au vG 2 (aR NT (Zi 10) (Zi 60)) env = .ok (.int (f*10^(60:Int).toNat)) env:=by
   rw[<-hE];exact jY (x:=.int f) rfl rfl rfl (Qn m2)
  exact cj e5 e4 rfl
 ·rw[h0,Int.zero_mul,Int.zero_add];exact Y7 c
theorem pack(ns:List Int)(hl:ns.length<=63)(hb:Oq ns)(k:Int)(h0:0<=k)(h1:k<=500):∃p:Int,mH [.arr (ns.map .int),.int k]=some (.lst [.int p]):=by
 obtain⟨f1,e1,b1⟩:=Fe ns hl hb k (k+1) 0 (by omega) (by decide);obtain⟨f2,e2,_⟩:=Fe ns hl hb k k f1 (by omega) (Qq0 (uC (b1 rfl)) (by decide));refine⟨f2,?_⟩;have h:mK [Zf (.arr (ns.map .int)),Zf (.int k),Zn,Zn] = .rt true (.lst [.int f2]) [Zf (.arr (ns.map .int)),Zf (.int k),Zf (.int f2),Zf (.int k)]:=by
  unfold mK
  let E0:Ev.Env:=[Zf (.arr (ns.map .int)),Zf (.int k),Zf (.int 0),Zn]
  refine(aB (e:=E0) rfl).trans ?_;refine(aB (e:=[Zf (.arr (ns.map .int)),Zf (.int k),Zf (.int f2),Zf (.int k)]) ?_).trans rfl;refine(dh (ds:=[.int (k+1),.int k]) (e:=E0) rfl).trans ?_;show ir (ak 3) o5 [.int (k+1),.int k] _=_;unfold ir;show(match o5 [Zf (.arr (ns.map .int)),Zf (.int k),Zf (.int 0),Zf (.int (k+1))] with|.nx e2=>ir (ak 3) o5 [.int k] e2|.ct e2=>_|.bk e2=>_|.rt o d e2=>_|.stuck=>_)=_;rw[e1];simp only;unfold ir;show(match o5 [Zf (.arr (ns.map .int)),Zf (.int k),Zf (.int f1),Zf (.int k)] with|.nx e2=>ir (ak 3) o5 [] e2|.ct e2=>_|.bk e2=>_|.rt o d e2=>_|.stuck=>_)=_;rw[e2]
  rfl
 show(match mK _ with|.rt true d _=>some d|_=>none)=_;have e:envOf 4 [D.arr (ns.map .int),.int k]=[Zf (.arr (ns.map .int)),Zf (.int k),Zn,Zn]:=rfl;rw[e,h]
def known:D:=.lst [.str [115,116,111,112],.str [115,116,111,112,115],.str [115],.str [111,112,101,110],.str [97,98,99,100,101,102,103,104]]
def z7:bO:=aX (ao jn (aa (dH 7 8 (ju (aa (Zi 5) aj)) (ak 7) (dD (aR pP (aR Kp (au Kh 5 (aO 7)) (Zi 1)) (Zi 1))) (au cU 2 (aO 7))) aj)) (ak 6)
def mk(d:Nat):D:=match z7 [Zn,Zn,Zf known,Zn,Zn,Zf (.int d),Zn] with
 | .nx e=>(match e[6]? with|some (some (_,z))=>z|_=>.non)
 | _=>.non
def AllB(P:Nat->Prop):Nat->Prop
 | 0=>True
 | n+1=>AllB P n/\P n
theorem vK{P:Nat->Prop}:∀{n:Nat},AllB P n->∀d,d<n->P d
 | 0,_,d,h=>absurd h (Qk6 d)
 | n+1,⟨a,b⟩,d,h=>by
  by_cases e:d=n
  ·subst e;exact b
  ·exact vK a d (by omega)
theorem marks(d:Nat)(hd:d<32)(a b c e f:OD):z7 [a,b,Zf known,c,e,Zf (.int d),f] = .nx [a,b,Zf known,c,e,Zf (.int d),Zf (mk d)]:=by refine vK (P:=λd=>z7 [a,b,Zf known,c,e,Zf (.int (d:Nat)),f] = .nx [a,b,Zf known,c,e,Zf (.int (d:Nat)),Zf (mk d)]) (n:=32) ?_ d hd;refine⟨⟨⟨⟨⟨⟨⟨⟨⟨⟨⟨⟨⟨⟨⟨⟨⟨⟨⟨⟨⟨⟨⟨⟨⟨⟨⟨⟨⟨⟨⟨⟨trivial,?_⟩,?_⟩,?_⟩,?_⟩,?_⟩,?_⟩,?_⟩,?_⟩,?_⟩,?_⟩,?_⟩,?_⟩,?_⟩,?_⟩,?_⟩,?_⟩,?_⟩,?_⟩,?_⟩,?_⟩,?_⟩,?_⟩,?_⟩,?_⟩,?_⟩,?_⟩,?_⟩,?_⟩,?_⟩,?_⟩,?_⟩,?_⟩<;>kernel_rfl
def afO:D->Bool
 | .lst _=>true
 | _=>false
theorem ac2(d:Nat)(hd:d<32):∃zs,mk d = .lst zs:=by
 have h:((List.range 32).all λd=>afO (mk d))=true:=by decide +kernel
 have h1:=Qxv.mp h d (Qj3.mpr hd);cases e:mk d with
 | lst zs=>exact⟨zs,rfl⟩
 | _=>rw[e] at h1;cases h1
inductive Rows:List D->List D->Prop where
 | nil:Rows [] []
 | cons {s m:D} {ss rs:List D}:Rows ss rs->Rows (s::ss) (.tup [s,m]::rs)
theorem Rows.snoc{ss rs:List D}(h:Rows ss rs)(s m:D):Rows (ss++[s]) (rs++[.tup [s,m]]):=by
 induction h with
 | nil=>exact .cons .nil
 | cons _ ih=>exact .cons ih
theorem Rows.len{ss rs:List D}(h:Rows ss rs):rs.length=ss.length:=by
 induction h with
 | nil=>rfl
 | cons _ ih=>rw[Qqv,Qqv,ih]
theorem f9{i:Nat}{a:Ev}{env e:Ev.Env}{d:D}{xs x0:List D}(h0:env[i]? = some (Zl x0))(h1:a env = .ok d e)(h2:e[i]? = some (Zl xs))(hz:xs.length<sizeLine):dJ i a env = .nx (e.set i (Zl (xs++[d]))):=by unfold dJ;rw[h0];show jG (a env) _=_;rw[h1];show(match e[i]? with|some (some (true,.lst xs))=>if xs.length<sizeLine then Out.nx (e.set i (Zl (xs++[d]))) else .stuck|_=>.stuck)=_;rw[h2];show(if xs.length<sizeLine then _ else _)=_;rw[if_pos hz]
def ye:bO:=aF (aX (eU bh 0 (aa (Zi 32) aj)) (ak 5)) (aF z7 (dJ 3 (bJ (Zv 4 (aa (ao bZ (aa (zW (aL 6) n6 (yM (Zi 4))) aj)) aj)))))
theorem Mu(n:Int)(b v5 v6:OD)(acc:List D)(s:D)(ha:acc.length<=10):∃m v5' v6',ye [Zl [.int n],b,Zf known,Zl acc,Zf s,v5,v6] = .nx [Zl [.int (n / 32)],b,Zf known,Zl (acc++[.tup [s,m]]),Zf s,v5',v6']:=by obtain⟨d,hd,e⟩:=dig n 32 (by decide);obtain⟨zs,hz⟩:=ac2 d hd;refine⟨.tup (cutD zs none (some 4)),Zf (.int d),Zf (.lst zs),?_⟩;unfold ye;refine(aB (e:=[Zl [.int (n / 32)],b,Zf known,Zl acc,Zf s,Zf (.int (n % (32:Nat))),v6]) rfl).trans ?_;rw[e];refine(aB (marks d hd _ _ _ _ _)).trans ?_;rw[hz];exact Ev.pH (xs:=acc) (e:=[Zl [.int (n / 32)],b,Zf known,Zl acc,Zf s,Zf (.int d),Zf (.lst zs)]) rfl rfl rfl (Qw4 ha (by decide))
def XS:List (List Nat):=[[97],[97,98],[97,98,99],[97,101,112,116],[109,110,122]]
theorem qm:∀x∈XS,x.length<=4:=by decide
theorem stock(n:Int):∃x rows n',x∈XS/\kY [.lst [.int n]]=some (.tup rows,.lst [.int n'])/\Rows (sG x) rows:=by
 obtain⟨d,hd,e⟩:=dig n 6 (by decide);obtain⟨x,hx,h1⟩:∃x,x∈XS/\∀m:Int,(λ(k:Int) (m:Int)=>jG (gC (cU (.lst [.str [97],.str [97,98],.str [97,98],.str [97,98,99],.str [97,101,112,116],.str [109,110,122]]) (.int k)) ([Zl [.int m],Zn,Zn,Zn,Zn,Zn,Zn]:Ev.Env)) λd aN=>Wc (ak 1 d aN)) (d:Int) m = .nx [Zl [.int m],Zs x,Zn,Zn,Zn,Zn,Zn]:=by
  have hc:d=0\/d=1\/d=2\/d=3\/d=4\/d=5:=by omega
  rcases hc with rfl|rfl|rfl|rfl|rfl|rfl
  ·exact⟨[97],by decide,λm=>rfl⟩
  ·exact⟨[97,98],by decide,λm=>rfl⟩
  ·exact⟨[97,98],by decide,λm=>rfl⟩
  ·exact⟨[97,98,99],by decide,λm=>rfl⟩
  ·exact⟨[97,101,112,116],by decide,λm=>rfl⟩
  ·exact⟨[109,110,122],by decide,λm=>rfl⟩
 have hxl:x.length<=4:=qm x hx;obtain⟨e',f1,n',acc,v4,v5,v6,rfl,hr⟩:=yL (g:=ak 4) (b:=ye) (sG x) (λdone env=>∃n acc v4 v5 v6,env=[Zl [.int n],Zs x,Zf known,Zl acc,v4,v5,v6]/\Rows done acc)
  (λdone s rest hall env ⟨n,acc,v4,v5,v6,he,hr⟩=>by
   subst he;have hd:done.length<=4:=by have:=Qxy List.length hall;unfold sG at this;rw[Qqq,Qqy,Qqv] at this;omega
   obtain⟨m,w5,w6,hb⟩:=Mu n (Zs x) v5 v6 acc s (by rw[hr.len];omega);exact⟨_,_,rfl,hb,n / 32,_,_,_,_,rfl,hr.snoc s m⟩)
  [Zl [.int (n / 6)],Zs x,Zf known,Zl [],Zn,Zn,Zn] ⟨_,[],_,_,_,rfl,.nil⟩
 let E0:Ev.Env:=[Zl [.int n'],Zs x,Zf known,Zl acc,v4,v5,v6]
 refine⟨x,acc,n',hx,jA (env:=E0) ?_ rfl,hr⟩;unfold pW;refine(aB (e:=[Zl [.int (n / 6)],Zs x,Zn,Zn,Zn,Zn,Zn]) ?_).trans ?_
 ·have h2:=h1 (n / 6);rw[<-e] at h2;exact h2
 refine(aB (e:=[Zl [.int (n / 6)],Zs x,Zf known,Zn,Zn,Zn,Zn]) rfl).trans ?_;refine(aB (e:=[Zl [.int (n / 6)],Zs x,Zf known,Zl [],Zn,Zn,Zn]) rfl).trans ?_;refine(aB (e:=E0) ?_).trans ?_
 ·exact(dh (ds:=sG x) rfl).trans f1
 ·rfl
theorem XX{ss rs:List D}(h:Rows ss rs):∀(a v1 v2:OD),∃w1 w2,Ih (bB 2 (aA (ak 1) (aA (ak 2) bF))) bK (aL 1) rs [a,v1,v2] = .ok ss [a,w1,w2]:=by
 induction h with
 | nil=>exact λa v1 v2=>⟨v1,v2,rfl⟩
 | cons _ ih=>
  rename_i s m ss rs _;intro a v1 v2;obtain⟨w1,w2,e⟩:=ih a (Zf s) (Zf m);refine⟨w1,w2,?_⟩;unfold Ih;show bindR (Ih _ bK (aL 1) rs [a,Zf s,Zf m]) _=_;rw[e]
  rfl
theorem Eu{x:List Nat}{rs:List D}(hx:x∈XS)(h:Rows (sG x) rs):dH 1 3 (dB (aL 0)) (bB 2 (aA (ak 1) (aA (ak 2) bF))) bK (aL 1) [Zf (.tup rs)] = .ok (.lst (sG x)) [Zf (.tup rs)]:=by obtain⟨w1,w2,e⟩:=XX h (Zf (.tup rs)) none none;exact uA (lo:=1) (n:=3) (ds:=rs) (ys:=sG x) (aN:=[Zf (.tup rs)]) (dR:=[Zf (.tup rs),w1,w2]) rfl rfl (by exact e) (by unfold sG;rw[Qqq];exact Qq0 (qm x hx) (by decide))
theorem sounds_of{x:List Nat}{rs:List D}(hx:x∈XS)(h:Rows (sG x) rs):dX [.tup rs]=some (.tup (sG x)):=
 cR (bY (aM (aH (Eu hx h) bw) rfl))
theorem join_eq:∀x∈XS,rW (.str []) (.lst (sG x))=some (.str x):=by intro x hx;unfold XS at hx;simp only[Qq5,Qw1,Qzy] at hx;rcases hx with rfl|rfl|rfl|rfl|rfl<;>kernel_rfl
theorem Ca{x:List Nat}{rs:List D}(hx:x∈XS)(h:Rows (sG x) rs):dw [.tup rs]=some (.str x):=
 cR (bY (cj (x:=.str []) rfl (Eu hx h) (join_eq x hx)))
def isT:Option D->Bool
 | some (.bl true)=>true
 | _=>false
theorem adh{o:Option D}(h:isT o=true):o=some (.bl true):=by
 cases o with
 | none=>cases h
 | some d=>cases d with
  | bl b=>cases b with
   | true=>rfl
   | false=>cases h
  | _=>cases h
def M(x:List Nat):Nat:=2*2^x.length - 1
def uX:bO:=aF (aX (aR dC (Zw [35]) (aO 1)) (ak 3)) (bD (ao bZ (aa (dH 4 5 (ju (aa (ao cz (aa (aO 3) aj)) aj)) (ak 4) (dD (aR pP (aR Kp (au Kh 2 (aO 4)) (Zi 1)) (Zi 1))) (au cU 3 (aO 4))) aj)))
def sgR(x:List Nat)(d:Nat):D:=match uX [Zn,Zs x,Zf (.int (1+(d:Int))),Zn] with
 | .rt _ r _=>r
 | _=>.non
def SG(x:List Nat):List D:=.non::(List.range (M x)).map (sgR x)
theorem XM(a:OD):∀x∈XS,∀d,d<M x->∃e3,uX [a,Zs x,Zf (.int (1+(d:Int))),Zn] = .rt false (sgR x d) [a,Zs x,Zf (.int (1+(d:Int))),e3]:=by
 intro x hx d hd;refine⟨Zs (35::x),?_⟩;unfold XS at hx;simp only[Qq5,Qw1,Qzy] at hx;rcases hx with rfl|rfl|rfl|rfl|rfl
 ·refine vK (P:=λd=>uX [a,Zs [97],Zf (.int (1+((d:Nat):Int))),Zn] = .rt false (sgR [97] d) [a,Zs [97],Zf (.int (1+((d:Nat):Int))),Zs (35::[97])]) (n:=3) ?_ d hd;refine⟨⟨⟨trivial,?_⟩,?_⟩,?_⟩<;>kernel_rfl
 ·refine vK (P:=λd=>uX [a,Zs [97,98],Zf (.int (1+((d:Nat):Int))),Zn] = .rt false (sgR [97,98] d) [a,Zs [97,98],Zf (.int (1+((d:Nat):Int))),Zs (35::[97,98])]) (n:=7) ?_ d hd;refine⟨⟨⟨⟨⟨⟨⟨trivial,?_⟩,?_⟩,?_⟩,?_⟩,?_⟩,?_⟩,?_⟩<;>kernel_rfl
 ·refine vK (P:=λd=>uX [a,Zs [97,98,99],Zf (.int (1+((d:Nat):Int))),Zn] = .rt false (sgR [97,98,99] d) [a,Zs [97,98,99],Zf (.int (1+((d:Nat):Int))),Zs (35::[97,98,99])]) (n:=15) ?_ d hd;refine⟨⟨⟨⟨⟨⟨⟨⟨⟨⟨⟨⟨⟨⟨⟨trivial,?_⟩,?_⟩,?_⟩,?_⟩,?_⟩,?_⟩,?_⟩,?_⟩,?_⟩,?_⟩,?_⟩,?_⟩,?_⟩,?_⟩,?_⟩<;>kernel_rfl
 ·refine vK (P:=λd=>uX [a,Zs [97,101,112,116],Zf (.int (1+((d:Nat):Int))),Zn] = .rt false (sgR [97,101,112,116] d) [a,Zs [97,101,112,116],Zf (.int (1+((d:Nat):Int))),Zs (35::[97,101,112,116])]) (n:=31) ?_ d hd;refine⟨⟨⟨⟨⟨⟨⟨⟨⟨⟨⟨⟨⟨⟨⟨⟨⟨⟨⟨⟨⟨⟨⟨⟨⟨⟨⟨⟨⟨⟨⟨trivial,?_⟩,?_⟩,?_⟩,?_⟩,?_⟩,?_⟩,?_⟩,?_⟩,?_⟩,?_⟩,?_⟩,?_⟩,?_⟩,?_⟩,?_⟩,?_⟩,?_⟩,?_⟩,?_⟩,?_⟩,?_⟩,?_⟩,?_⟩,?_⟩,?_⟩,?_⟩,?_⟩,?_⟩,?_⟩,?_⟩,?_⟩<;>kernel_rfl
 ·refine vK (P:=λd=>uX [a,Zs [109,110,122],Zf (.int (1+((d:Nat):Int))),Zn] = .rt false (sgR [109,110,122] d) [a,Zs [109,110,122],Zf (.int (1+((d:Nat):Int))),Zs (35::[109,110,122])]) (n:=15) ?_ d hd;refine⟨⟨⟨⟨⟨⟨⟨⟨⟨⟨⟨⟨⟨⟨⟨trivial,?_⟩,?_⟩,?_⟩,?_⟩,?_⟩,?_⟩,?_⟩,?_⟩,?_⟩,?_⟩,?_⟩,?_⟩,?_⟩,?_⟩,?_⟩<;>kernel_rfl
theorem signs(n:Int)(x:List Nat)(hx:x∈XS):∃r n',iw [.lst [.int n],.str x]=some (r,.lst [.int n'])/\r∈SG x:=by
 obtain⟨d,hd,e⟩:=dig n 2 (by decide);have t:dD (aR pP (eU bh 0 (aa (Zi 2) aj)) (Zi 0)) [Zl [.int n],Zs x,Zn,Zn] = .ok ((d:Int) == 0) [Zl [.int (n / 2)],Zs x,Zn,Zn]:=by
  rw[<-e]
  rfl
 have hc:d=0\/d=1:=by omega
 rcases hc with rfl|rfl
 ·let E0:Ev.Env:=[Zl [.int (n / 2)],Zs x,Zn,Zn]
  refine⟨.non,n / 2,jA (env:=E0) ?_ rfl,Qqk ..⟩;unfold iy;refine(vW (e:=E0) ?_).trans rfl;exact(lz (e:=E0) t).trans rfl
 ·obtain⟨k,hk,ek⟩:=dig (n / 2) (M x) (by unfold M;have:0<2^x.length:=Nat.two_pow_pos _;omega);obtain⟨e3,h3⟩:=XM (Zl [.int (n / 2 / (M x:Int))]) x hx k hk;refine⟨sgR x k,n / 2 / (M x:Int),jA (env:=[Zl [.int (n / 2 / (M x:Int))],Zs x,Zf (.int (1+(k:Int))),e3]) ?_ rfl,Qqj _ (Qwz.mpr ⟨k,Qj3.mpr hk,rfl⟩)⟩;unfold iy
  let E1:Ev.Env:=[Zl [.int (n / 2)],Zs x,Zn,Zn]
  refine(aB (e:=E1) ?_).trans ?_
  ·exact(fK (e:=E1) t).trans rfl
  ·refine(aB (e:=[Zl [.int (n / 2 / (M x:Int))],Zs x,Zf (.int (1+n / 2 % (M x:Int))),Zn]) ?_).trans ?_
   ·unfold XS at hx;simp only[Qq5,Qw1,Qzy] at hx;rcases hx with rfl|rfl|rfl|rfl|rfl<;>rfl
   ·rw[ek];exact h3
def oth(x:List Nat)(c:Nat):List D:=((x.map (λa=>[a])++[[]]).filter λz=>z != [c]).map .str
def PV(x:List Nat):List (Nat×D):=x.flatMap λc=>(oth x c).map λv=>(c,v)
def one:bO:=aX (au cU 1 (eU bh 0 (aa (ao cz (aa (aO 1) aj)) aj))) (ak 4)
def others:bO:=cI 5 (dH 6 7 (dB (aR dC (ao Cr (aa (aO 1) aj)) (bT (aa (Zw []) aj)))) (ak 6) (dD (au Ai 6 (aO 4))) (aL 6))
def JB:bO:=oU 2 (aL 4) (au cU 5 (eU bh 0 (aa (ao cz (aa (aO 5) aj)) aj)))
theorem RG(a b v3 v5:OD):∀x∈XS,∀c∈x,others [a,Zs x,b,v3,Zs [c],v5] = .nx [a,Zs x,b,v3,Zs [c],Zl (oth x c)]:=by
 intro x hx c hc;unfold XS at hx;simp only[Qq5,Qw1,Qzy] at hx;rcases hx with rfl|rfl|rfl|rfl|rfl<;>simp only[Qq5,Qw1,Qzy] at hc
 ·subst hc;kernel_rfl
 ·rcases hc with rfl|rfl<;>kernel_rfl
 ·rcases hc with rfl|rfl|rfl<;>kernel_rfl
 ·rcases hc with rfl|rfl|rfl|rfl<;>kernel_rfl
 ·rcases hc with rfl|rfl|rfl<;>kernel_rfl
theorem YH:∀x∈XS,∀c∈x,(oth x c).length=x.length:=by decide +kernel
theorem HW:∀x∈XS,0<x.length:=by decide
theorem pG(n:Int)(m:Nat)(h0:0<m)(h1:m<1073741824):bh [.lst [.int n],.int (m:Int)]=some (.int (n % m),.lst [.int (n / m)]):=by
 let E0:Ev.Env:=[Zl [.int (n / m)],Zf (.int m),Zf (.int (n % m))]
 refine jA (env:=E0) ?_ rfl;unfold fD;have g:uz [.int n,.int (m:Int)]=some (.tup [.int (n / m),.int (n % m)]):=by show(if 0<(m:Int)/\(m:Int)<1073741824 then _ else _)=_;rw[if_pos (by omega)]
 refine(aB (e:=E0) ?_).trans rfl;exact bQ (aM (ds:=[.int n,.int (m:Int)]) (e:=[Zl [.int n],Zf (.int m),Zn]) (by rfl) g) (by rfl)
theorem Ra{i:Nat}{k a:Ev}{env e1 e2:Ev.Env}{d kd x0:D}{o:Bool}{q:Key}{kvs:List (D×D)}(h1:a env = .ok d e1)(h2:e1[i]? = some (some (o,x0)))(h3:k e1 = .ok kd e2)(h4:e2[i]? = some (Zt (.dct kvs)))(h5:ou kd=some q)(hz:kvs.length<sizeLine) :
  oU i k a env = .nx (e2.set i (Zt (.dct (putD kvs kd q d)))):=by
 unfold oU;rw[h1];simp only[jG];rw[h2];simp only;rw[h3];simp only;rw[h4,h5];simp only;rw[if_pos hz]
def Vi(kvs:List (D×D))(p:Nat×D):List (D×D):=putD kvs (.str [p.1]) (.inr (strOf [p.1])) p.2
theorem round(n:Int)(x:List Nat)(hx:x∈XS)(kvs:List (D×D))(hk:kvs.length<=10)(v3 v4 v5:OD):∃p n' v4' v5',p∈PV x/\aF one (aF others JB) [Zl [.int n],Zs x,Zt (.dct kvs),v3,v4,v5] = .nx [Zl [.int n'],Zs x,Zt (.dct (Vi kvs p)),v3,v4',v5']:=by
 have hp:=HW x hx;have hl4:=qm x hx;obtain⟨d,hd,e⟩:=dig n x.length hp;have hc:x[d]∈x:=Qx2 hd;have hol:=YH x hx x[d] hc;obtain⟨d',hd',e'⟩:=dig (n / (x.length:Int)) x.length hp;have hv:d'<(oth x x[d]).length:=by rw[hol];exact hd'
 refine⟨(x[d],(oth x x[d])[d']),n / (x.length:Int) / (x.length:Int),Zs [x[d]],Zl (oth x x[d]),?_,?_⟩
 ·unfold PV;exact Qkj.mpr ⟨x[d],hc,Qwz.mpr ⟨_,Qx2 hv,rfl⟩⟩
 ·refine(aB (e:=[Zl [.int (n / (x.length:Int))],Zs x,Zt (.dct kvs),v3,Zs [x[d]],v5]) ?_).trans ?_
  ·unfold one;refine bQ (d:=.str [x[d]]) (e:=[Zl [.int (n / (x.length:Int))],Zs x,Zt (.dct kvs),v3,v4,v5]) ?_ (by rfl);refine jY (x:=.str x) (y:=.int (n % (x.length:Int))) (by rfl) ?_ (by rfl) ?_
   ·exact xq (x:=.lst [.int n]) (x0:=.lst [.int n]) (ds:=[.int (x.length:Int)]) (e1:=[Zl [.int n],Zs x,Zt (.dct kvs),v3,v4,v5]) (by rfl) (by rfl) (by rfl) (pG n x.length hp (by omega))
   ·show(xQ x (n % (x.length:Int))).map _=_;rw[e,Oi hd]
    rfl
  ·refine(aB (RG _ _ _ _ x hx x[d] hc)).trans ?_;unfold JB
   let E0:Ev.Env:=[Zl [.int (n / (x.length:Int) / (x.length:Int))],Zs x,Zt (.dct kvs),v3,Zs [x[d]],Zl (oth x x[d])]
   refine(Ra (d:=(oth x x[d])[d']) (kd:=.str [x[d]]) (o:=true) (x0:=.dct kvs) (kvs:=kvs) (q:=.inr (strOf [x[d]])) (e1:=E0)
    (e2:=E0) ?_ (by rfl) (by rfl) (by rfl) (by rfl) (Qw4 hk (by decide))).trans rfl
   refine vI (x:=.lst (oth x x[d])) (y:=.int (n / (x.length:Int) % (x.length:Int))) (by rfl) ?_ (by rfl) ?_
   ·refine xq (x:=.lst [.int (n / (x.length:Int))]) (x0:=.lst [.int (n / (x.length:Int))]) (ds:=[.int (x.length:Int)]) (e1:=[Zl [.int (n / (x.length:Int))],Zs x,Zt (.dct kvs),v3,Zs [x[d]],Zl (oth x x[d])]) (by rfl) ?_ (by rfl) (pG _ x.length hp (by omega));refine aH (d:=.int (x.length:Int)) ?_ bw;refine aM (ds:=[.lst (oth x x[d])]) (by rfl) ?_;show some (D.int ((oth x x[d]).length:Int))=_;rw[hol]
   ·show xQ (oth x x[d]) (n / (x.length:Int) % (x.length:Int))=_;rw[e',Oi hv]
def S7(kvs:List (D×D)):Option D:=match jn [.dct kvs] with
 | some (.lst ks)=>if (ks.all λk=>(jD (.dct kvs) k).isSome) then some (.tup (ks.map λk=>.tup [k,(jD (.dct kvs) k).getD .non])) else none
 | _=>none
def adT:bO:=bD (ao bZ (aa (dH 6 7 (dB (ao jn (aa (aO 2) aj))) (ak 6) bK (bJ (Zv 6 (aa (au jD 2 (aO 6)) aj)))) aj))
theorem Kg{kvs:List (D×D)}{ks:List D}(h:jn [.dct kvs]=some (.lst ks)):ks.length<=64:=by
 obtain⟨zs,h1,h2⟩:=Qx6.mp h;split at h2
 ·rename_i hz;cases h2;rw[Qqq,(jh zs).length_eq];omega
 ·cases h2
theorem HH{kvs:List (D×D)}{ch:D}(h:S7 kvs=some ch)(a b v3 v4 v5:OD):adT [a,b,Zt (.dct kvs),v3,v4,v5] = .rt false ch [a,b,Zt (.dct kvs),v3,v4,v5]:=by
 unfold S7 at h;split at h
 ·rename_i ks hs;split at h
  ·rename_i hall;cases h;obtain⟨env',h1,v6,rfl⟩:=Ad (g:=ak 6) (e:=bJ (Zv 6 (aa (au jD 2 (aO 6)) aj))) (λenv=>∃v6,env=[a,b,Zt (.dct kvs),v3,v4,v5,v6]) (λk=>.tup [k,(jD (.dct kvs) k).getD .non]) ks [a,b,Zt (.dct kvs),v3,v4,v5,Zn] ⟨none,rfl⟩
    (λk hk env ⟨v6,he⟩=>by
     subst he;obtain⟨v,hv⟩:=Qjx.mp (Qxv.mp hall k hk);refine⟨_,[a,b,Zt (.dct kvs),v3,v4,v5,Zf k],rfl,?_,Zf k,rfl⟩;rw[hv];exact cB (ds:=[k,v]) (aH (d:=k) (e1:=[a,b,Zt (.dct kvs),v3,v4,v5,Zf k]) (by rfl) (aH (d:=v) (vI (x:=.dct kvs) (y:=k) (by rfl) (by rfl) (by rfl) hv) bw)) Ev.zZ)
   refine bY (aM (ds:=[.lst (ks.map λk=>.tup [k,(jD (.dct kvs) k).getD .non])]) (aH (e1:=[a,b,Zt (.dct kvs),v3,v4,v5]) ?_ bw) rfl);refine uA (lo:=6) (n:=7) (ds:=ks) (aN:=[a,b,Zt (.dct kvs),v3,v4,v5]) (dR:=[a,b,Zt (.dct kvs),v3,v4,v5,v6]) ?_ (by rfl) h1 ?_
   ·exact xn (d:=.lst ks) (aM (ds:=[.dct kvs]) (by rfl) hs) rfl
   ·rw[Qqq];exact Qq0 (Kg hs) (by decide)
  ·cases h
 ·cases h
structure HY(x:List Nat)(kvs:List (D×D))(zs:List Nat):Prop where
 keys:kvs.map (·.1)=zs.map λc=>D.str [c]
 nd:zs.Nodup
 mem:∀c∈zs,c∈x
 vals:∀k v,(k,v)∈kvs->∃c,k = .str [c]/\(c,v)∈PV x
theorem kE{a b:List Nat}(h:strOf a=strOf b):a=b:=by
 have:=Qxy (λs:Str=>s.cps.toList) h
 simpa[strOf] using this
theorem yf(q:Key)(d:D):∀kvs:List (D×D),(zM kvs q d).map (·.1)=kvs.map (·.1)
 | []=>rfl
 | (k,e)::r=>by
  unfold zM;rw[Qq2,Qq2,yf q d r];split<;>rfl
theorem Be{q:Key}{d:D}:∀{kvs:List (D×D)} {k v:D},(k,v)∈zM kvs q d->(k,v)∈kvs\/(ou k=some q/\v=d)
 | [],_,_,h=>by simp[zM] at h
 | (k',e)::r,k,v,h=>by
  unfold zM at h;rcases Qq5.mp h with h|h
  ·split at h
   ·rename_i hk;cases h;exact .inr ⟨hk,rfl⟩
   ·cases h;exact .inl (Qqk ..)
  ·rcases Be h with h|h
   ·exact .inl (Qqj _ h)
   ·exact .inr h
theorem xV{q:Key}:∀{kvs:List (D×D)},m5 kvs q=none->∀k v,(k,v)∈kvs->ou k≠some q
 | [],_,k,v,hm=>by simp at hm
 | (k',e)::r,h,k,v,hm=>by
  unfold m5 at h;split at h
  ·cases h
  ·rename_i hk;rcases Qq5.mp hm with hm|hm
   ·cases hm;exact hk
   ·exact xV h k v hm
theorem qx{q:Key}{d:D}:∀{kvs:List (D×D)},m5 kvs q=some d->∃k,(k,d)∈kvs/\ou k=some q
 | [],h=>by simp[m5] at h
 | (k',e)::r,h=>by
  unfold m5 at h;split at h
  ·rename_i hk;cases h;exact⟨k',Qqk ..,hk⟩
  ·obtain⟨k,h1,h2⟩:=qx h;exact⟨k,Qqj _ h1,h2⟩
theorem HY.put{x:List Nat}{kvs:List (D×D)}{zs:List Nat}(h:HY x kvs zs){p:Nat×D}(hp:p∈PV x)(hx:p.1∈x):∃zs',HY x (Vi kvs p) zs'/\0<zs'.length/\zs'.length<=zs.length+1:=by
 unfold Vi putD;cases e:m5 kvs (.inr (strOf [p.1])) with
 | none=>
  simp only[Option.isSome_none,Bool.false_eq_true,if_false];refine⟨zs++[p.1],⟨?_,?_,λc hc=>?_,λk v hm=>?_⟩,by simp,by simp⟩
  ·rw[Qxz,Qxz,h.keys];rfl
  ·refine List.nodup_append.mpr ⟨h.nd,Qx9.mpr ⟨Qw1,.nil⟩,λa ha b hb=>?_⟩;rcases Qq6.mp hb with rfl;rintro rfl;have hm:D.str [p.1]∈kvs.map (·.1):=by rw[h.keys];exact Qwz.mpr ⟨p.1,ha,rfl⟩
   obtain⟨⟨k,v⟩,h1,h2⟩:=Qwz.mp hm;have h2':k = .str [p.1]:=h2;subst h2';exact xV e _ _ h1 rfl
  ·rcases Qw6.mp hc with hc|hc
   ·exact h.mem c hc
   ·rw[Qq6.mp hc];exact hx
  ·rcases Qw6.mp hm with hm|hm
   ·exact h.vals k v hm
   ·have:=Qq6.mp hm;cases this;exact⟨p.1,rfl,hp⟩
 | some w=>
  simp only[Option.isSome_some,if_true];obtain⟨k0,hk0,_⟩:=qx e;have hne:0<zs.length:=by have:=Qxy List.length h.keys;rw[Qqq,Qqq] at this;rw[<-this];exact Qj1 hk0
  refine⟨zs,⟨by rw[yf];exact h.keys,h.nd,h.mem,λk v hm=>?_⟩,hne,Nat.le_succ _⟩;rcases Be hm with hm|⟨hk,rfl⟩
  ·exact h.vals k v hm
  ·have hin:k∈(zM kvs (.inr (strOf [p.1])) p.2).map (·.1):=Qwz.mpr ⟨_,hm,rfl⟩;rw[yf,h.keys] at hin;obtain⟨c,hc,rfl⟩:=Qwz.mp hin;have:strOf [c]=strOf [p.1]:=by
    have:=Qwv hk;exact Sum.inr.inj this
   have e2:=kE this;cases e2;exact⟨p.1,rfl,hp⟩
theorem HX{x:List Nat}{p:Nat×D}(h:p∈PV x):p.1∈x:=by unfold PV at h;obtain⟨c,hc,h⟩:=Qkj.mp h;obtain⟨v,_,rfl⟩:=Qwz.mp h;exact hc
theorem oH(zs:List (List Nat)):km (zs.map D.str)=some zs:=by
 induction zs with
 | nil=>rfl
 | cons z r ih=>
  rw[Qq2];unfold km;rw[ih]
  rfl
def prs(kvs:List (D×D))(ks:List D):List D:=ks.map λk=>.tup [k,(jD (.dct kvs) k).getD .non]
theorem Ho{x:List Nat}{kvs:List (D×D)}{zs:List Nat}(h:HY x kvs zs)(k:D)(hk:k∈(jz (zs.map λc=>[c])).map D.str):∃c v,k = .str [c]/\jD (.dct kvs) k=some v/\(c,v)∈PV x:=by
 obtain⟨z,hz,rfl⟩:=Qwz.mp hk;obtain⟨c,hc,rfl⟩:=Qwz.mp ((jh _).mem_iff.mp hz);have hm:D.str [c]∈kvs.map (·.1):=by rw[h.keys];exact Qwz.mpr ⟨c,hc,rfl⟩
 obtain⟨⟨k,v⟩,h1,h2⟩:=Qwz.mp hm;have h2':k = .str [c]:=h2;subst h2';cases e:m5 kvs (.inr (strOf [c])) with
 | none=>exact absurd rfl (xV e _ _ h1)
 | some w=>
  obtain⟨k',h3,h4⟩:=qx e;obtain⟨c',rfl,h5⟩:=h.vals k' w h3;have e2:strOf [c']=strOf [c]:=Sum.inr.inj (Qwv h4);cases kE e2;exact⟨c,w,rfl,e,h5⟩
end jJ
namespace qU
open Ev
def fD:bO:=nG.fD
def bh:List D->Option (D×D):=ji 3 fD
open Ev PySem L2
abbrev XS:=jJ.XS
theorem pG(n:Int)(m:Nat)(h0:0<m)(h1:m<1073741824):bh [.lst [.int n],.int (m:Int)]=some (.int (n % m),.lst [.int (n / m)]):=by
 let E0:Ev.Env:=[Zl [.int (n / m)],Zf (.int m),Zf (.int (n % m))]
 refine jA (env:=E0) ?_ rfl;unfold fD;have g:uz [.int n,.int (m:Int)]=some (.tup [.int (n / m),.int (n % m)]):=by show(if 0<(m:Int)/\(m:Int)<1073741824 then _ else _)=_;rw[if_pos (by omega)]
 refine(aB (e:=E0) ?_).trans rfl;exact bQ (aM (ds:=[.int n,.int (m:Int)]) (e:=[Zl [.int n],Zf (.int m),Zn]) (by rfl) g) (by rfl)
theorem Wf{g:GV}{e:Ev}(P:Ev.Env->Prop)(R:D->Prop):∀(ds:List D) (env:Ev.Env),P env->(∀d∈ds,∀env,P env->∃y e1 e2,g d env=some e1/\e e1 = .ok y e2/\P e2/\R y)->∃ys env',Ih g bK e ds env = .ok ys env'/\P env'/\(∀y∈ys,R y)/\ys.length=ds.length
 | [],env,hp,_=>⟨[],env,rfl,hp,λy hy=>by simp at hy,rfl⟩
 | d::ds,env,hp,h=>by
  obtain⟨y,e1,e2,h1,h2,h3,h4⟩:=h d (Qqk ..) env hp;obtain⟨ys,e3,h5,h6,h7,h8⟩:=Wf P R ds e2 h3 λd' hd=>h d' (Qqj _ hd);refine⟨y::ys,e3,?_,h6,λz hz=>?_,by rw[Qqv,Qqv,h8]⟩
  ·unfold Ih;rw[h1];show bindR (e e1) _=_;rw[h2];show bindR (Ih g bK e ds e2) _=_;rw[h5]
   rfl
  ·rcases Qq5.mp hz with rfl|hz
   ·exact h4
   ·exact h7 z hz
theorem Fp:∀(zs:List (List Nat)),Cj [] zs=zs.flatten
 | []=>rfl
 | x::r=>by
  show r.foldl (λacc y=>acc++[]++y) x=(x::r).flatten;have go:∀(r:List (List Nat)) (x:List Nat),r.foldl (λacc y=>acc++[]++y) x=x++r.flatten:=by
   intro r
   induction r with
   | nil=>intro x;simp
   | cons y r ih=>intro x;rw[Qz7,ih];simp
  rw[go];rfl
theorem oH(zs:List (List Nat)):km (zs.map D.str)=some zs:=by
 induction zs with
 | nil=>rfl
 | cons z r ih=>
  rw[Qq2];unfold km;rw[ih]
  rfl
theorem Gr{zs:List (List Nat)}{k:Nat}(h:∀z∈zs,z.length<=k):(zs.map List.length).sum<=zs.length*k:=by
 induction zs with
 | nil=>simp
 | cons z r ih=>
  rw[Qq2,List.sum_cons,Qqv,Nat.add_mul];have h1:=h z (Qqk ..);have h2:=ih λy hy=>h y (Qqj _ hy);omega
theorem abR{j:Nat}(h:j<1000):yp [.int (j:Int)]=some (jb 0 1 j):=by
 have hf:mL (j:Int)=true:=by unfold mL;rw[Qjy];exact⟨Qw2 (by omega),Qw2 (by omega)⟩
 unfold yp;simp only;rw[if_pos hf,Qzx]
theorem tY{a:d7}{env e:Ev.Env}{ds ys:List D}(h:a env = .ok ds e)(h':yp ds=some ys):ju a env = .ok ys e:=by
 unfold ju;rw[h];show gC (yp ds) e=_;rw[h']
 rfl
abbrev Step:=List Nat×Nat
abbrev State:=List Nat×List Step
def encP(p:Step):D:=.tup [.str p.1,.int (p.2:Int)]
def bN(s:State):D:=.tup [.str s.1,.tup (s.2.map encP)]
def encM(first:List Nat)(ss:List State):D:=.tup [.str first,.tup (ss.map bN)]
def texts(x:List Nat):List (List Nat):=[[],[x.headD 0],[x.getLastD 0],[x.headD 0,x.headD 0],[x.headD 0,x.getLastD 0]]
def idx(x:List Nat)(c:Nat):Option Nat:=Vt [c] (x.map λa=>[a])
section
variable{x:List Nat}{ss:List State}{m:Nat}{first:List Nat}
def Ui(x:List Nat)(ss:List State)(q c:Nat):Step:=(ss.getD q ([],[])).2.getD ((idx x c).getD 0) ([],0)
def goF(x:List Nat)(ss:List State)(w:List Nat):List (List Nat)×Nat:=w.foldl (λs c=>(s.1++[(Ui x ss s.2 c).1],(Ui x ss s.2 c).2)) ([],0)
def af3(ss:List State)(q:Nat):List Nat:=(ss.getD q ([],[])).1
theorem Hu{α:Type}(f:α->D)(l:List α)(q:Nat)(a:α)(h:l[q]? = some a):cU (.tup (l.map f)) (.int (q:Int))=some (f a):=by show xQ (l.map f) (q:Int)=_;exact rQ (by rw[Qwx,h];rfl)
def res(x first:List Nat)(ss:List State)(w:List Nat):List Nat:=first++((goF x ss w).1.flatten++af3 ss (goF x ss w).2)
def R:List Nat:=[114,105,103,104,116]
end
theorem aeL{i j c:Int}(h:c≠0/\c.natAbs<1073741824/\Builtin.Range.small i j c=true):yp [.int i,.int j,.int c]=some (jb i c (Builtin.Range.rangeSize i j c).toNat):=by unfold yp;simp only;rw[if_pos h]
end qU
namespace uF
open Ev
def ql:bO:=nG.ql
def gf:LD:=cH 2 ql
def jH:bO:=nG.jH
def lN:LD:=cH 5 jH
def iY:bO:=nG.iY
def jq:LD:=cH 1 iY
def Eg:bO:=aF (aX (aL 0) (bB 4 (aA (ak 2) (aA (ak 3) (aA (ak 4) (aA (ak 5) bF)))))) (aF (aX (aR cU (au cU 3 (Zi 0)) (Zi 1)) (ak 6)) (aF (cI 7 (bT aj)) (aF (aX (Zw [35]) (ak 8)) (aF (eE (dB (au dC 1 (Zw [35]))) (ak 9) (aF (gr (ik (dD (ao gf (Zv 4 (Zv 8 aj)))) (dD (ao gf (Zv 5 (Zv 9 aj))))) (dJ 7 (aL 6)) cM) (aF (dJ 7 (aL 9)) (aX (aL 9) (ak 8))))) (bD (aR rW (Zw []) (zW (aL 7) n6 (yM (nW ahQ (Zi 1))))))))))
def Ec:LD:=cH 10 Eg
def Dj:bO:=aF (aX (aL 0) (bB 4 (aA (ak 2) (aA (ak 3) (aA (ak 4) (aA (ak 5) bF)))))) (aF (aX (ao yX (aa (aO 3) aj)) (ak 6)) (aF (aX (au dC 1 (Zw [35])) (ak 7)) (aF (cI 8 (bT aj)) (aF (aX (Zw [35]) (ak 9)) (aF (eE (adH (Zv 1 aj)) (bB 2 (aA (ak 10) (aA (ak 11) bF))) (aF (aX (aL 11) (ak 12)) (aF (gr (ik (dD (au adB 11 (aO 6))) (ik (dD (ao gf (Zv 4 (Zv 9 aj)))) (dD (ao gf (Zv 5 (aa (au cU 7 (au dC 10 (Zi 1))) aj)))))) (aX (au jD 6 (aO 11)) (ak 12)) cM) (aF (dJ 8 (aL 12)) (gr (dD (au pP 2 (Zw [111,110,99,101]))) (aX (aL 11) (ak 9)) (gr (dD (au Ai 12 (Zw []))) (aX (aL 12) (ak 9)) cM)))))) (bD (aR rW (Zw []) (aO 8))))))))
def Cz:LD:=cH 13 Dj
def Ld:bO:=aF (gr (dD (ao jq (Zv 0 aj))) (bD (ao Ec (Zv 0 (Zv 1 aj)))) cM) (bD (ao Cz (Zv 0 (Zv 1 aj))))
def yZ:LD:=cH 2 Ld
def Tn:bO:=aF (gr (dD (au pP 0 (Zw [114,105,103,104,116]))) (bD (aa3 (ao yZ (aa (ao lN (Zv 1 aj)) (aa (aa3 (aL 2)) aj))))) cM) (bD (ao yZ (Zv 1 (Zv 2 aj))))
def SJ:LD:=cH 3 Tn
def rO:bO:=bD (bJ (aa (au cU 0 (Zi 0)) (aa (au cU 0 (Zi 1)) (aa (au cU 0 (Zi 3)) (aa (au cU 0 (Zi 2)) aj)))))
open Ev PySem L2
abbrev XS:=jJ.XS
open jJ (HW qm HY PV SG S7 prs one others JB HH Ho Vi pG HX oH)
theorem aeb:∀x∈XS,∀p∈PV x,∃t,p.2 = .str t/\t.length<=1/\∀c∈t,c∈x:=by
 have h:(XS.all λx=>(PV x).all λp=>match p.2 with|.str t=>decide (t.length<=1/\∀c∈t,c∈x)|_=>false)=true:=by decide +kernel
 intro x hx p hp;have:=Qxv.mp (Qxv.mp h x hx) p hp;split at this
 ·rename_i t e;exact⟨t,e,Qxw this⟩
 ·cases this
theorem Rc{x:List Nat}{kvs:List (D×D)}{zs:List Nat}(h:HY x kvs zs)(h4:zs.length<=4):jn [.dct kvs]=some (.lst ((jz (zs.map λc=>[c])).map .str)):=by
 have e:kvs.map (·.1)=(zs.map λc=>[c]).map D.str:=by rw[h.keys,Qw5];rfl
 show(km (kvs.map (·.1))).bind _=_;rw[e,oH];show(if _ then _ else _)=_;rw[if_pos];refine⟨by rw[Qqq];omega,λz hz=>?_⟩;obtain⟨c,_,rfl⟩:=Qwz.mp hz;show 1<=sizeLine
 decide
theorem QF{x:List Nat}{kvs:List (D×D)}{zs:List Nat}(h:HY x kvs zs)(h4:zs.length<=4):S7 kvs=some (.tup (prs kvs ((jz (zs.map λc=>[c])).map D.str))):=by
 unfold S7;rw[Rc h h4];simp only;rw[if_pos]
 ·rfl
 ·refine Qxv.mpr λk hk=>?_;obtain⟨c,v,_,e,_⟩:=Ho h k hk;rw[e];rfl
abbrev Pr:=Nat×List Nat
def encC(p:Pr):D:=.tup [.str [p.1],.str p.2]
inductive Em (x:List Nat):D->Prop
 | put {c:Nat}:c∈x->Em x (.tup [.tup [.str [],.str [c]]])
 | chg {ps:List Pr}:0<ps.length->ps.length<=4->(∀p∈ps,p.1∈x/\p.2.length<=1/\∀c∈p.2,c∈x)->Em x (.tup (ps.map encC))
theorem G6{x:List Nat}{kvs:List (D×D)}(hx:x∈XS):∀(ks:List D),(∀k∈ks,∃c v,k = .str [c]/\jD (.dct kvs) k=some v/\(c,v)∈PV x)->∃ps:List Pr,prs kvs ks=ps.map encC/\ps.length=ks.length/\∀p∈ps,p.1∈x/\p.2.length<=1/\∀c∈p.2,c∈x
 | [],_=>⟨[],rfl,rfl,λp hp=>by simp at hp⟩
 | k::ks,h=>by
  obtain⟨c,v,rfl,e,hv⟩:=h k (Qqk ..);obtain⟨t,et,ht⟩:=aeb x hx _ hv;obtain⟨ps,e1,e2,e3⟩:=G6 hx ks λk hk=>h k (Qqj _ hk);refine⟨(c,t)::ps,?_,by rw[Qqv,Qqv,e2],λp hp=>?_⟩
  ·unfold prs at e1 ⊢;rw[Qq2,e1,e];have et':v = .str t:=et;rw[et']
   rfl
  ·rcases Qq5.mp hp with rfl|hp
   ·exact⟨HX hv,ht⟩
   ·exact e3 p hp
structure nZ(x:List Nat)(w ch l r:D):Prop where
 way:w = .str [111,110,99,101]\/w = .str [97,108,111,110,103]
 chg:Em x ch
 left:l∈SG x
 right:r∈SG x
def fit(l:D)(a:Nat):Bool:=jJ.isT (gf [l,.str [a]])
theorem jo:∀x∈XS,∀l∈SG x,∀a∈35::x,gf [l,.str [a]]=some (.bl (fit l a)):=by
 have h:(XS.all λx=>(SG x).all λl=>(35::x).all λa=>(jJ.isT (gf [l,.str [a]])||(match gf [l,.str [a]] with|some (.bl false)=>true|_=>false)))=true:=by decide +kernel
 intro x hx l hl a ha;have h1:=Qxv.mp (Qxv.mp (Qxv.mp h x hx) l hl) a ha;unfold fit;generalize gf [l,.str [a]]=o at h1;rcases Bool.or_eq_true_iff.mp h1 with h2|h2
 ·rw[h2];exact jJ.adh h2
 ·split at h2
  ·rfl
  ·cases h2
open jJ (SG f9)
theorem pQ{a b:List Nat}(h:a.length+b.length<=100000):dC (.str a) (.str b)=some (.str (a++b)):=by show(if a.length+b.length<=sizeLine then _ else _)=_;rw[if_pos (Qq0 h (by decide))]
theorem qL{a b:gK}{env:Ev.Env}{p q:Bool}(h1:a env = .ok p env)(h2:b env = .ok q env):ik a b env = .ok (p&&q) env:=by
 unfold ik;rw[h1];cases p with
 | true=>exact h2
 | false=>rfl
theorem afJ{zs:List (List Nat)}(h1:zs.length<=80000)(h2:∀z∈zs,z.length<=2):rW (.str []) (.lst (zs.map .str))=some (.str zs.flatten):=by
 have hf:joinFits [] zs=true:=by refine Qw2 ?_;have:=qU.Gr h2;show _+zs.length*0<=_;omega
 show(match km (zs.map D.str) with|some xs=>if joinFits [] xs=true then some (D.str (Cj [] xs)) else none|none=>none)=_;rw[qU.oH];show(if joinFits [] zs=true then _ else _)=_;rw[if_pos hf,qU.Fp]
abbrev ed(w:List Nat):List Nat:=35::(w++[35])
abbrev sg(w:List Nat)(n:Nat):Nat:=(ed w).getD n 0
section
variable{x w:List Nat}{l r:D}
def pc(l r:D)(c:Nat)(w:List Nat)(n:Nat):List (List Nat):=if (fit l (sg w n)&&fit r (sg w (n+1)))=true then [[c]] else []
def pin(l r:D)(c:Nat)(w:List Nat):Nat->List (List Nat)
 | 0=>[]
 | n+1=>pin l r c w n++(pc l r c w n++[[sg w (n+1)]])
def inn(l r:D)(c:Nat)(w:List Nat):List Nat:=(pin l r c w w.length++pc l r c w w.length).flatten
variable(hx:x∈XS)(hl:l∈SG x)(hr:r∈SG x)(hw:∀c∈w,c∈x)(hn:w.length<=30000)
include hx hl hr
include hw hn
end
def Dw(x:List Nat)(kvs:List (D×D)):Prop:=∀k v,(k,v)∈kvs->∃t:List Nat,v = .str t/\t.length<=1/\∀c∈t,c∈x
theorem Dw.put{x:List Nat}{kvs:List (D×D)}(h:Dw x kvs)(k:D)(q:Key)(t:List Nat)(h1:t.length<=1)(h2:∀c∈t,c∈x):Dw x (putD kvs k q (.str t)):=by
 intro k' v hm;unfold putD at hm;split at hm
 ·rcases jJ.Be hm with hm|⟨_,rfl⟩
  ·exact h k' v hm
  ·exact⟨t,rfl,h1,h2⟩
 ·rcases Qw6.mp hm with hm|hm
  ·exact h k' v hm
  ·cases Qq6.mp hm;exact⟨t,rfl,h1,h2⟩
theorem Dw.all{x:List Nat}:∀(ps:List Pr) (kvs:List (D×D)),Dw x kvs->(∀p∈ps,p.1∈x/\p.2.length<=1/\∀c∈p.2,c∈x)->Dw x (mQ kvs (ps.map λp=>(.str [p.1],.str p.2)))
 | [],kvs,h,_=>h
 | p::ps,kvs,h,hp=>by
  have h1:=hp p (Qqk ..);exact Dw.all ps _ (h.put (.str [p.1]) (.inr (strOf [p.1])) p.2 h1.2.1 h1.2.2) λp hm=>hp p (Qqj _ hm)
theorem Fd:∀(ps:List Pr),rn (ps.map encC)=some (ps.map λp=>(.str [p.1],.str p.2))
 | []=>rfl
 | p::ps=>by
  rw[Qq2];unfold rn;rw[Fd ps]
  rfl
theorem Al{x:List Nat}{ps:List Pr}(hp:∀p∈ps,p.1∈x/\p.2.length<=1/\∀c∈p.2,c∈x):∃kvs,yX [.tup (ps.map encC)]=some (.dct kvs)/\Dw x kvs:=by
 refine⟨mQ [] (ps.map λp=>(.str [p.1],.str p.2)),?_,Dw.all ps [] (λk v h=>by simp at h) hp⟩;show(rn (ps.map encC)).map _=_;rw[Fd]
 rfl
def look(kvs:List (D×D))(s:Nat):Option (List Nat):=match m5 kvs (.inr (strOf [s])) with
 | some (.str t)=>some t
 | _=>none
theorem m9{x:List Nat}{kvs:List (D×D)}(h:Dw x kvs){s:Nat}{t:List Nat}(hs:look kvs s=some t):jD (.dct kvs) (.str [s])=some (.str t)/\t.length<=1/\∀c∈t,c∈x:=by
 unfold look at hs;split at hs
 ·rename_i u e;cases hs;obtain⟨k,hk,_⟩:=jJ.qx e;obtain⟨t',h1,h2⟩:=h k _ hk;cases h1;exact⟨e,h2⟩
 ·cases hs
section
variable{x w:List Nat}{l r:D}{kvs:List (D×D)}
def nw(kvs:List (D×D))(l r:D)(w:List Nat)(near n:Nat):List Nat:=if ((look kvs (sg w (n+1))).isSome&&(fit l near&&fit r (sg w (n+2))))=true then (look kvs (sg w (n+1))).getD [] else [sg w (n+1)]
def Np(al:Bool)(w:List Nat)(made:List (List Nat))(n:Nat):Nat:=if al=true then (35::made.flatten).getLastD 0 else sg w n
def cg(al:Bool)(kvs:List (D×D))(l r:D)(w:List Nat):Nat->List (List Nat)
 | 0=>[]
 | n+1=>cg al kvs l r w n++[nw kvs l r w (Np al w (cg al kvs l r w n) n) n]
def mZ(al:Bool):D:=if al=true then .str [97,108,111,110,103] else .str [111,110,99,101]
variable(hx:x∈XS)(hl:l∈SG x)(hr:r∈SG x)(hw:∀c∈w,c∈x)(hn:w.length<=30000)(hk:Dw x kvs)
include hx hl hr hw hn hk
def out(al:Bool)(kvs:List (D×D))(l r:D)(w:List Nat):List Nat:=(cg al kvs l r w w.length).flatten
end
def sides:List D:=[.str [108,101,102,116],.str [114,105,103,104,116]]
end uF
namespace Ii
open Ev PySem L2
open jJ (f9)
open uF (XS sides nZ pQ)
def dF(x:List Nat)(R:D):Prop:=∃wy ch l r,R = .tup [wy,ch,l,r]/\nZ x wy ch l r
def cF(s R:D)(w:List Nat):List Nat:=match uF.SJ [s,R,.str w] with
 | some (.str o)=>o
 | _=>[]
section
variable{x:List Nat}{s:D}
def fin(s:D)(Rs:List D)(w:List Nat):List Nat:=Rs.foldl (λv R=>cF s R v) w
variable(hx:x∈XS)(hs:s∈sides){Rs:List D}(hR:∀R∈Rs,dF x R)(h4:Rs.length<=10){w:List Nat}(hw:∀c∈w,c∈x)(hn:(w.length+1)*2^Rs.length<=301)
include hx hs hR h4 hw hn
end
theorem nq{d:D}(h:okN 60 d=true):pP d d=some (.bl true):=by
 show(bC 60 d d).map _=_;rw[CP 60 d h]
 rfl
end Ii
namespace K10
open Ev PySem L2
open uF (XS sides nZ Em pQ fit jo sg ed pc pin inn nw Np cg out look Dw encC mZ Pr)
def J(g:Nat->Nat->List Nat):Nat->List Nat->Nat->List Nat
 | p,[],q=>g p q
 | p,a::t,q=>g p a++a::J g a t q
section
variable{x w:List Nat}{l r:D}{c:Nat}{kvs:List (D×D)}
def T(h:Nat->Nat->Nat->List Nat):Nat->List Nat->Nat->List Nat
 | _,[],_=>[]
 | p,a::t,q=>h p a (t.headD q)++T h a t q
def hC(kvs:List (D×D))(l r:D)(a b d:Nat):List Nat:=if ((look kvs b).isSome&&(fit l a&&fit r d))=true then (look kvs b).getD [] else [b]
end
end K10
namespace j9
open Ev
def ql:bO:=nG.ql
def gf:LD:=cH 2 ql
def jH:bO:=nG.jH
def lN:LD:=cH 5 jH
def iY:bO:=nG.iY
def jq:LD:=cH 1 iY
def fC:bO:=aF (aX (aL 0) (bB 2 (aA (ak 1) (aA (ak 2) bF)))) (aF (gr (dD (au pP 1 (Zw [114,105,103,104,116]))) (bD (ao bZ (aa (dH 3 4 (dB (aL 2)) (ak 3) bK (ao lN (Zv 3 aj))) aj))) cM) (bD (aL 2)))
def cV:LD:=cH 3 fC
def fY:bO:=bD (ao bZ (aa (dH 1 5 (dB (ao cV (Zv 0 aj))) (bB 4 (aA (ak 1) (aA (ak 2) (aA (ak 3) (aA (ak 4) bF))))) bK (bJ (aa (ao gf (Zv 3 (aa (Zw [35]) aj))) (aa (Zw []) aj)))) aj))
def cX:LD:=cH 1 fY
def cY:bO:=nG.cY
def dO:LD:=cH 10 cY
def dZ:bO:=nG.dZ
def dY:LD:=cH 10 dZ
def iH:bO:=aF (cI 3 (bT aj)) (aF (aX (zc (.bl false)) (ak 4)) (aF (eE (dB (aL 2)) (ak 5) (aF (aX (au cU 1 (Zi 1)) (ak 6)) (aF (gr (dD (ao jq (Zv 0 aj))) (aX (ao dO (Zv 0 (Zv 1 (Zv 5 aj)))) (bB 2 (aA (ak 1) (aA (ak 7) bF)))) (aX (ao dY (Zv 0 (Zv 1 (Zv 5 aj)))) (bB 2 (aA (ak 1) (aA (ak 7) bF))))) (aF (aX (Hw (aL 4) (au Ai 7 (aO 6))) (ak 4)) (dJ 3 (aL 7)))))) (bD (bJ (Zv 1 (aa (aR rW (Zw []) (aO 3)) (Zv 4 aj)))))))
def gH:LD:=cH 8 iH
def j0:bO:=aF (aX (aL 2) (ak 3)) (aF (cI 4 (bT aj)) (aF (cI 5 (bT aj)) (aF (eE (za (aa (ao cV (Zv 0 aj)) (Zv 1 aj))) (bB 2 (aA (ak 6) (aA (ak 7) bF))) (aF (aX (ao gH (Zv 6 (Zv 7 (Zv 3 aj)))) (bB 3 (aA (ak 8) (aA (ak 3) (aA (ak 9) bF))))) (aF (dJ 4 (aL 8)) (dJ 5 (aL 9))))) (bD (bJ (aa (ao bZ (aa (aO 4) aj)) (Zv 3 (aa (ao bZ (aa (aO 5) aj)) aj))))))))
def o9:LD:=cH 10 j0
def jk:bO:=aF (aX (Zw []) (ak 2)) (aF (cI 3 (bT aj)) (aF (eE (za (aa (ao cV (Zv 0 aj)) (Zv 1 aj))) (bB 2 (aA (ak 4) (aA (ak 5) bF))) (aF (aX (ao gH (Zv 4 (Zv 5 (aa (au dC 2 (Zw [35])) aj)))) (bB 3 (aA (ak 6) (aA (ak 2) (aA (ak 7) bF))))) (dJ 3 (aL 7)))) (bD (bJ (Zv 2 (aa (ao bZ (aa (aO 3) aj)) aj))))))
def nu:LD:=cH 8 jk
def lq:bO:=nG.lq
def mG:LD:=cH 6 lq
def pq:bO:=nG.pq
def jF:LD:=cH 2 pq
def fD:bO:=nG.fD
def bh:List D->Option (D×D):=ji 3 fD
def iy:bO:=jJ.iy
def iw:List D->Option (D×D):=ji 4 iy
def fU:bO:=jJ.fU
def iW:List D->Option (D×D):=ji 6 fU
def j8:bO:=jJ.j8
def jW:List D->Option (D×D):=ji 4 j8
def pY:bO:=aF (aX (aR cU (bT (aa (Zw [108,101,102,116]) (aa (Zw [114,105,103,104,116]) aj))) (eU bh 0 (aa (Zi 2) aj))) (ak 3)) (bD (bJ (Zv 3 (aa (ao bZ (aa (dH 4 5 (ju (aa (eU bh 0 (aa (au dC 2 (Zi 1)) aj)) aj)) (ak 4) bK (eU jW 0 (Zv 1 aj))) aj)) aj))))
def kZ:List D->Option (D×D):=ji 4 pY
def rO:bO:=uF.rO
def Hv:LD:=cH 1 rO
open Ev PySem L2
open jJ (SG f9)
open uF (XS sides nZ pQ fit jo Dw look m9 mZ encC Al Em qL)
open Ii (dF nq)
abbrev St:=Bool×List Nat
def bN(s:St):D:=.tup [.bl s.1,.str s.2]
inductive Rl
 | put (c:Nat) (l r:D)
 | chg (al:Bool) (kvs:List (D×D)) (l r:D)
def Ry(kvs:List (D×D))(s:Nat)(b:Bool):List Nat:=if b=true then (look kvs s).getD [s] else [s]
def nrC(al:Bool)(l:D)(s:Nat)(b:Bool)(p:List Nat):Bool:=if al=true then (if p=[] then b else fit l (p.headD 0)) else fit l s
def stp:Rl->St->Nat->St×List Nat
 | .put c l r,s,a=>((fit l a,[a]),s.2++(if (s.1&&fit r a)=true then [c] else []))
 | .chg al kvs l r,s,a=>match s.2 with
  | []=>((s.1,[a]),[])
  | h::_=>((nrC al l h s.1 (Ry kvs h (s.1&&fit r a)),[a]),Ry kvs h (s.1&&fit r a))
def rd(ρ:Rl):St->List Nat->St×List Nat
 | s,[]=>(s,[])
 | s,a::z=>((rd ρ (stp ρ s a).1 z).1,(stp ρ s a).2++(rd ρ (stp ρ s a).1 z).2)
theorem G3(ρ:Rl):∀(z:List Nat) (s:St) (y:List Nat),rd ρ s (z++y)=((rd ρ (rd ρ s z).1 y).1,(rd ρ s z).2++(rd ρ (rd ρ s z).1 y).2)
 | [],s,y=>rfl
 | a::z,s,y=>by
  show((rd ρ (stp ρ s a).1 (z++y)).1,(stp ρ s a).2++(rd ρ (stp ρ s a).1 (z++y)).2)=_;rw[G3 ρ z];show _=((rd ρ (rd ρ (stp ρ s a).1 z).1 y).1,((stp ρ s a).2++(rd ρ (stp ρ s a).1 z).2)++_);rw[Qxk]
  rfl
theorem Uu(ρ:Rl)(s:St)(a:Nat):rd ρ s [a]=stp ρ s a:=by show((stp ρ s a).1,(stp ρ s a).2++[])=_;rw[Qw8]
theorem Aa(ρ:Rl)(s:St)(z:List Nat)(a:Nat):rd ρ s (z++[a])=((stp ρ (rd ρ s z).1 a).1,(rd ρ s z).2++(stp ρ (rd ρ s z).1 a).2):=by rw[G3,Uu]
inductive Is (x:List Nat):D->Rl->Prop
 | put {wy l r:D} {c:Nat}:c∈x->l∈SG x->r∈SG x->Is x (.tup [wy,.tup [.tup [.str [],.str [c]]],l,r]) (.put c l r)
 | chg {al:Bool} {ps:List uF.Pr} {kvs:List (D×D)} {l r:D}:0<ps.length->yX [.tup (ps.map encC)]=some (.dct kvs)->Dw x kvs->l∈SG x->r∈SG x->Is x (.tup [mZ al,.tup (ps.map encC),l,r]) (.chg al kvs l r)
theorem abq{w:D}(h:w = .str [111,110,99,101]\/w = .str [97,108,111,110,103]):∃al,w=mZ al:=by
 rcases h with rfl|rfl
 ·exact⟨false,rfl⟩
 ·exact⟨true,rfl⟩
theorem Wl{x:List Nat}{R:D}(h:dF x R):∃ρ,Is x R ρ:=by
 obtain⟨wy,ch,l,r,rfl,h⟩:=h;obtain⟨h1,h2,h3,h4⟩:=h;cases h2 with
 | put hc=>exact⟨_,.put hc h3 h4⟩
 | chg hp hp4 hps=>
  obtain⟨al,rfl⟩:=abq h1;obtain⟨kvs,hd,hk⟩:=Al hps;exact⟨_,.chg hp hd hk h3 h4⟩
def qp(x:List Nat)(s:St):Prop:=s.2.length<=1/\∀c∈s.2,c∈35::x
theorem Vj{x:List Nat}{kvs:List (D×D)}(hk:Dw x kvs)(s:Nat)(hs:s∈35::x)(b:Bool):(Ry kvs s b).length<=1/\∀c∈Ry kvs s b,c∈35::x:=by
 unfold Ry;split
 ·cases e:look kvs s with
  | none=>exact⟨Qqw _,λc hc=>by rw[Qq6.mp hc];exact hs⟩
  | some t=>exact⟨(m9 hk e).2.1,λc hc=>Qqj _ ((m9 hk e).2.2 c hc)⟩
 ·exact⟨Qqw _,λc hc=>by rw[Qq6.mp hc];exact hs⟩
theorem Ug{x:List Nat}{R:D}{ρ:Rl}(hR:Is x R ρ){s:St}(hs:qp x s){a:Nat}(ha:a∈35::x):qp x (stp ρ s a).1/\(stp ρ s a).2.length<=2/\∀c∈(stp ρ s a).2,c∈35::x:=by
 have h1:∀b:Bool,qp x (b,[a]):=λb=>⟨Qqw _,λc hc=>by rw[Qq6.mp hc];exact ha⟩;cases hR with
 | put hc hl hr=>
  refine⟨h1 _,?_,?_⟩
  ·show(s.2++_).length<=2;have:=hs.1;rw[Qqy];split
   ·rw[Qw9];omega
   ·rw[Qx8];omega
  ·intro c hm;rcases Qw6.mp hm with hm|hm
   ·exact hs.2 c hm
   ·split at hm
    ·rw[Qq6.mp hm];exact Qqj _ hc
    ·simp at hm
 | chg hp hd hk hl hr=>
  obtain⟨b,h⟩:=s
  match h,hs with
  | [],hs=>exact⟨h1 _,Qx3 _,λc hc=>by simp[stp] at hc⟩
  | s::h,hs=>
   exact⟨h1 _,Qq0 (Vj hk s (hs.2 s (Qqk ..)) _).1 (by decide),(Vj hk s (hs.2 s (Qqk ..)) _).2⟩
theorem yS{x:List Nat}{R:D}{ρ:Rl}(hR:Is x R ρ):∀(z:List Nat) {s:St},qp x s->(∀a∈z,a∈35::x)->qp x (rd ρ s z).1/\(rd ρ s z).2.length<=2*z.length/\∀c∈(rd ρ s z).2,c∈35::x
 | [],s,hs,_=>⟨hs,Qqw _,λc hc=>by simp[rd] at hc⟩
 | a::z,s,hs,hz=>by
  obtain⟨h1,h2,h3⟩:=Ug hR hs (hz a (Qqk ..));obtain⟨h4,h5,h6⟩:=yS hR z h1 λb hb=>hz b (Qqj _ hb);refine⟨h4,?_,?_⟩
  ·show((stp ρ s a).2++(rd ρ (stp ρ s a).1 z).2).length<=_;rw[Qqy,Qqv];omega
  ·intro c hc;rcases Qw6.mp (show c∈(stp ρ s a).2++(rd ρ (stp ρ s a).1 z).2 from hc) with hc|hc
   ·exact h3 c hc
   ·exact h6 c hc
theorem ahK{x:List Nat}{kvs:List (D×D)}(hk:Dw x kvs)(s:Nat):Ww (.dct kvs) (.str [s]) (.str [s])=some (.str ((look kvs s).getD [s])):=by
 show some ((m5 kvs (.inr (strOf [s]))).getD (.str [s]))=_;unfold look;cases e:m5 kvs (.inr (strOf [s])) with
 | none=>rfl
 | some v=>
  obtain⟨k,hm,_⟩:=jJ.qx e;obtain⟨t,rfl,_⟩:=hk k v hm
  rfl
theorem SN{a b c:Ev}{env e1 e2 e3:Ev.Env}{kvs:List (D×D)}{k t d:D}(h1:a env = .ok (.dct kvs) e1)(h2:b e1 = .ok k e2)(h3:c e2 = .ok t e3)(h:Ww (.dct kvs) k t=some d):CJ a b c env = .ok d e3:=by
 unfold CJ;rw[h1];simp only[bindR];rw[h2];simp only;rw[h3];simp only;rw[h]
 rfl
theorem Z0(wy ch l r:D)(b:Bool)(a:Nat):dY [.tup [wy,ch,l,r],bN (b,[]),.str [a]]=some (.tup [bN (b,[a]),.str []]):=rfl
section
variable{x:List Nat}{l r:D}(hx:x∈XS)(hl:l∈SG x)(hr:r∈SG x)
include hx hl hr
theorem Us(wy:D)(c:Nat)(b:Bool)(h:List Nat)(hh:h.length<=1)(a:Nat)(ha:a∈35::x) :
  dO [.tup [wy,.tup [.tup [.str [],.str [c]]],l,r],bN (b,h),.str [a]]=some (.tup [bN (stp (.put c l r) (b,h) a).1,.str (stp (.put c l r) (b,h) a).2]):=by
 generalize hR:D.tup [wy,.tup [.tup [.str [],.str [c]]],l,r]=R;generalize hS:bN (b,h)=S;have fl:=jo x hx l hl a ha;have fr:=jo x hx r hr a ha;show _=some (D.tup [.tup [.bl (fit l a),.str [a]],.str (h++(if (b&&fit r a)=true then [c] else []))]);generalize hP:(h++(if (b&&fit r a)=true then [c] else []))=p;refine cR (env:=[Zf R,Zf S,Zs [a],Zf wy,Zf (.tup [.tup [.str [],.str [c]]]),Zf l,Zf r,Zb b,Zs h,Zs p]) ?_;unfold cY;refine(aB (e:=[Zf R,Zf S,Zs [a],Zf wy,Zf (.tup [.tup [.str [],.str [c]]]),Zf l,Zf r,Zn,Zn,Zn]) (by rw[<-hR];rfl)).trans ?_;refine(aB (e:=[Zf R,Zf S,Zs [a],Zf wy,Zf (.tup [.tup [.str [],.str [c]]]),Zf l,Zf r,Zb b,Zs h,Zn]) (by rw[<-hS];rfl)).trans ?_;refine(aB (e:=[Zf R,Zf S,Zs [a],Zf wy,Zf (.tup [.tup [.str [],.str [c]]]),Zf l,Zf r,Zb b,Zs h,Zs h]) rfl).trans ?_;refine(aB (e:=[Zf R,Zf S,Zs [a],Zf wy,Zf (.tup [.tup [.str [],.str [c]]]),Zf l,Zf r,Zb b,Zs h,Zs p]) ?_).trans ?_
 ·have t:ik (dD (aL 7)) (dD (ao gf (Zv 6 (Zv 2 aj)))) [Zf R,Zf S,Zs [a],Zf wy,Zf (.tup [.tup [.str [],.str [c]]]),Zf l,Zf r,Zb b,Zs h,Zs h] = .ok (b&&fit r a) [Zf R,Zf S,Zs [a],Zf wy,Zf (.tup [.tup [.str [],.str [c]]]),Zf l,Zf r,Zb b,Zs h,Zs h]:=
   qL rfl (d8 (aM (ds:=[r,.str [a]]) rfl fr))
  cases hc:b&&fit r a with
  | true=>
   rw[hc] at t hP;rw[if_pos rfl] at hP;rw[<-hP];exact(lz t).trans (bQ (jY (x:=.str h) (y:=.str [c]) rfl rfl rfl (pQ (by show h.length+1<=100000;omega))) rfl)
  | false=>
   rw[hc] at t hP;rw[if_neg Qxx,Qw8] at hP;rw[<-hP];exact(fK t).trans rfl
 ·refine bY (cB (ds:=[.tup [.bl (fit l a),.str [a]],.str p]) (aH (cB (ds:=[.bl (fit l a),.str [a]]) (aH (aM (ds:=[l,.str [a]]) (by rfl) fl) (aH (by rfl) bw)) Ev.zZ) (aH (by rfl) bw)) Ev.zZ)
theorem Ut(al:Bool){kvs:List (D×D)}(hk:Dw x kvs)(ch:D)(hd:yX [ch]=some (.dct kvs))(b:Bool)(s:Nat)(hs:s∈35::x)(a:Nat)(ha:a∈35::x) :
  dY [.tup [mZ al,ch,l,r],bN (b,[s]),.str [a]]=some (.tup [bN (stp (.chg al kvs l r) (b,[s]) a).1,.str (stp (.chg al kvs l r) (b,[s]) a).2]):=by
 generalize hR:D.tup [mZ al,ch,l,r]=R;generalize hS:bN (b,[s])=S;have fs:=jo x hx l hl s hs;have fr:=jo x hx r hr a ha;have hp:=Vj hk s hs (b&&fit r a);show _=some (D.tup [.tup [.bl (nrC al l s b (Ry kvs s (b&&fit r a))),.str [a]],.str (Ry kvs s (b&&fit r a))]);have hP:Ry kvs s (b&&fit r a)=if (b&&fit r a)=true then (look kvs s).getD [s] else [s]:=rfl
 generalize Ry kvs s (b&&fit r a)=p at *;refine cR (env:=[Zf R,Zf S,Zs [a],Zf (mZ al),Zf ch,Zf l,Zf r,Zb b,Zs [s],Zs p]) ?_;unfold dZ;refine(aB (e:=[Zf R,Zf S,Zs [a],Zf (mZ al),Zf ch,Zf l,Zf r,Zn,Zn,Zn]) (by rw[<-hR];rfl)).trans ?_;refine(aB (e:=[Zf R,Zf S,Zs [a],Zf (mZ al),Zf ch,Zf l,Zf r,Zb b,Zs [s],Zn]) (by rw[<-hS];rfl)).trans ?_;refine(aB (e:=[Zf R,Zf S,Zs [a],Zf (mZ al),Zf ch,Zf l,Zf r,Zb b,Zs [s],Zn]) ((fK (e:=[Zf R,Zf S,Zs [a],Zf (mZ al),Zf ch,Zf l,Zf r,Zb b,Zs [s],Zn]) (by rfl)).trans rfl)).trans ?_;refine(aB (e:=[Zf R,Zf S,Zs [a],Zf (mZ al),Zf ch,Zf l,Zf r,Zb b,Zs [s],Zs [s]]) rfl).trans ?_;refine(aB (e:=[Zf R,Zf S,Zs [a],Zf (mZ al),Zf ch,Zf l,Zf r,Zb b,Zs [s],Zs p]) ?_).trans ?_
 ·have t:ik (dD (aL 7)) (dD (ao gf (Zv 6 (Zv 2 aj)))) [Zf R,Zf S,Zs [a],Zf (mZ al),Zf ch,Zf l,Zf r,Zb b,Zs [s],Zs [s]] = .ok (b&&fit r a) [Zf R,Zf S,Zs [a],Zf (mZ al),Zf ch,Zf l,Zf r,Zb b,Zs [s],Zs [s]]:=
   qL rfl (d8 (aM (ds:=[r,.str [a]]) rfl fr))
  cases hc:b&&fit r a with
  | true=>
   rw[hc] at t hP;rw[if_pos rfl] at hP;rw[hP];exact(lz t).trans (bQ (SN (e1:=[Zf R,Zf S,Zs [a],Zf (mZ al),Zf ch,Zf l,Zf r,Zb b,Zs [s],Zs [s]]) (e2:=[Zf R,Zf S,Zs [a],Zf (mZ al),Zf ch,Zf l,Zf r,Zb b,Zs [s],Zs [s]]) (aM (ds:=[ch]) rfl hd) rfl rfl (ahK hk s)) rfl)
  | false=>
   rw[hc] at t hP;rw[if_neg Qxx] at hP;rw[hP];exact(fK t).trans rfl
 ·cases al with
  | false=>
   refine(vW ?_).trans rfl;refine(lz (e:=[Zf R,Zf S,Zs [a],Zf (mZ false),Zf ch,Zf l,Zf r,Zb b,Zs [s],Zs p]) rfl).trans ?_;refine bY (cB (ds:=[.tup [.bl (fit l s),.str [a]],.str p]) (aH (cB (ds:=[.bl (fit l s),.str [a]]) (aH (aM (ds:=[l,.str [s]]) rfl fs) (aH rfl bw)) Ev.zZ) (aH rfl bw)) Ev.zZ)
  | true=>
   refine(aB (e:=[Zf R,Zf S,Zs [a],Zf (mZ true),Zf ch,Zf l,Zf r,Zb b,Zs [s],Zs p]) ((fK (e:=[Zf R,Zf S,Zs [a],Zf (mZ true),Zf ch,Zf l,Zf r,Zb b,Zs [s],Zs p]) (by rfl)).trans rfl)).trans ?_
   match p,hp with
   | [],_=>rfl
   | [q],hp=>
    have fq:=jo x hx l hl q (hp.2 q (Qqk ..));refine(aB (e:=[Zf R,Zf S,Zs [a],Zf (mZ true),Zf ch,Zf l,Zf r,Zb b,Zs [s],Zs [q]]) ((fK (e:=[Zf R,Zf S,Zs [a],Zf (mZ true),Zf ch,Zf l,Zf r,Zb b,Zs [s],Zs [q]]) (by rfl)).trans rfl)).trans ?_;exact bY (cB (ds:=[.tup [.bl (fit l q),.str [a]],.str [q]]) (aH (cB (ds:=[.bl (fit l q),.str [a]]) (aH (aM (ds:=[l,.str [q]]) rfl fq) (aH rfl bw)) Ev.zZ) (aH rfl bw)) Ev.zZ)
   | _::_::_,hp=>exact absurd hp.1 (by simp)
end
theorem ZK{a b:Ev}{env:Ev.Env}{p q:Bool}(h1:a env = .ok (.bl p) env)(h2:b env = .ok (.bl q) env):Hw a b env = .ok (.bl (p||q)) env:=by
 cases p with
 | true=>rw[adF h1];rfl
 | false=>rw[adG h1,h2];rfl
theorem wg:∀{y z:List Nat},sG y=sG z->y=z
 | [],[],_=>rfl
 | [],_::_,h=>by cases h
 | _::_,[],h=>by cases h
 | a::y,b::z,h=>by
  have h1:D.str [a]::sG y=D.str [b]::sG z:=h;injection h1 with h2 h3
  injection h2 with h4
  injection h4 with h5
  rw[h5,wg h3]
theorem vZ(y:List Nat)(a:Nat):sG (y++[a])=sG y++[.str [a]]:=by unfold sG;rw[Qxz];rfl
theorem z8{z:List Nat}{done rest:List D}{d:D}(h:sG z=done++d::rest):∃a,d = .str [a]/\a∈z/\done.length<z.length:=by
 have hm:d∈sG z:=by rw[h];exact Qx1 _ (Qqk ..)
 obtain⟨a,ha,rfl⟩:=Qwz.mp hm;have:=Qxy List.length h;unfold sG at this;rw[Qqq,Qqy,Qqv] at this;exact⟨a,rfl,ha,by omega⟩
theorem adC{ps:List uF.Pr}(hp:0<ps.length){env:Ev.Env}{wy l r:D}(h:env[0]? = some (Zf (.tup [wy,.tup (ps.map encC),l,r]))):aR pP (aR cU (aR cU (au cU 0 (Zi 1)) (Zi 0)) (Zi 0)) (Zw []) env = .ok (.bl false) env:=by
 match ps,hp with
 | p::ps,_=>
  refine cj (x:=.str [p.1]) (y:=.str []) (e1:=env) ?_ rfl rfl;refine cj (x:=encC p) (y:=.int 0) (e1:=env) ?_ rfl rfl;refine cj (x:=.tup ((p::ps).map encC)) (y:=.int 0) (e1:=env) ?_ rfl (rQ (xs:=(p::ps).map encC) (j:=0) (v:=encC p) rfl);exact jY (x:=.tup [wy,.tup ((p::ps).map encC),l,r]) (y:=.int 1) h rfl h rfl
section
variable{x:List Nat}{R:D}{ρ:Rl}(hx:x∈XS)(hR:Is x R ρ)
include hx hR
theorem one_sign{s:St}(hs:qp x s){a:Nat}(ha:a∈35::x) :
  (jq [R]=some (.bl true)/\dO [R,bN s,.str [a]]=some (.tup [bN (stp ρ s a).1,.str (stp ρ s a).2]))\/(jq [R]=some (.bl false)/\dY [R,bN s,.str [a]]=some (.tup [bN (stp ρ s a).1,.str (stp ρ s a).2])):=by
 cases hR with
 | put hc hl hr=>exact .inl ⟨rfl,Us hx hl hr _ _ s.1 s.2 hs.1 a ha⟩
 | chg hp hd hk hl hr=>
  rename_i al ps kvs l r;refine .inr ⟨?_,?_⟩
  ·exact cR (env:=[(Zf (.tup [mZ al,.tup (ps.map encC),l,r]))]) (bY (adC hp rfl))
  ·obtain⟨b,h⟩:=s
   match h,hs with
   | [],hs=>exact Z0 _ _ _ _ _ _
   | [s],hs=>exact Ut hx hl hr al hk _ hd b s (hs.2 s (Qqk ..)) a ha
   | _::_::_,hs=>exact absurd hs.1 (by simp)
def MN:bO:=nG.jN
theorem XR{s:St}(hs:qp x s){a:Nat}(ha:a∈35::x)(A2 a6 a7:OD)(ps:List D)(hp:ps.length<=400)(t:Bool) :
  ∃u,MN [Zf R,Zf (bN s),A2,Zl ps,Zb t,Zs [a],a6,a7] = .nx [Zf R,(Zf (bN (stp ρ s a).1)),A2,(Zl (ps++[.str (stp ρ s a).2])),Zb (t||u),Zs [a],Zs s.2,(Zs ((stp ρ s a).2))]:=by
 obtain⟨u,hu⟩:∃u,Ai (.str (stp ρ s a).2) (.str s.2)=some (.bl u):=⟨_,rfl⟩;refine⟨u,?_⟩;have h1:=one_sign hx hR hs ha;generalize hq:(stp ρ s a).2=q at *;generalize hs':(stp ρ s a).1=s' at *;unfold MN
 let E0:Ev.Env:=[Zf R,Zf (bN s),A2,Zl ps,Zb t,Zs [a],Zs s.2,a7]
 refine(aB (e:=E0) rfl).trans ?_
 let E2:Ev.Env:=[Zf R,Zf (bN s'),A2,Zl ps,Zb t,Zs [a],Zs s.2,Zs q]
 refine(aB (e:=E2) ?_).trans ?_
 ·rcases h1 with ⟨g1,g2⟩|⟨g1,g2⟩
  ·refine(lz (e:=E0) (d8 (aM (ds:=[R]) rfl g1))).trans ?_;exact bQ (e:=E0) (aM (ds:=[R,bN s,.str [a]]) rfl g2) rfl
  ·refine(fK (e:=E0) (d8 (aM (ds:=[R]) rfl g1))).trans ?_;exact bQ (e:=E0) (aM (ds:=[R,bN s,.str [a]]) rfl g2) rfl
 let E1:Ev.Env:=[Zf R,Zf (bN s'),A2,Zl ps,Zb (t||u),Zs [a],Zs s.2,Zs q]
 refine(aB (e:=E1) ?_).trans ?_
 ·refine bQ (d:=.bl (t||u)) (e:=E2) (ZK rfl ?_) rfl;exact jY (x:=.str q) (y:=.str s.2) rfl rfl rfl hu
 ·exact(Ev.pH (i:=3) (xs:=ps) (d:=.str q) (e:=E1) rfl rfl rfl (Qw4 hp (by decide))).trans rfl
theorem read_signs{s:St}(hs:qp x s){z:List Nat}(hz:∀a∈z,a∈35::x)(hn:z.length<=150):∃t,gH [R,bN s,.str z]=some (.tup [bN (rd ρ s z).1,.str (rd ρ s z).2,.bl t]):=by
 obtain⟨e',f1,hd,dz,pl,t,a5,a6,a7,e1,hdz,e2,e3,e4,rfl⟩:=yL (g:=ak 5) (b:=MN) (sG z)
  (λdone env=>done.length<=z.length/\∃dz pl t a5 a6 a7,done=sG dz/\(∀a∈dz,a∈35::x)/\pl.flatten=(rd ρ s dz).2/\pl.length=done.length/\(∀q∈pl,q.length<=2)/\env=[Zf R,(Zf (bN (rd ρ s dz).1)),Zs z,Zl (pl.map .str),Zb t,a5,a6,a7])
  (λdone d rest hall env ⟨hd,dz,pl,t,a5,a6,a7,e1,hdz,e2,e3,e4,he⟩=>by
   subst he;obtain⟨a,rfl,ha,hl⟩:=z8 hall;have hok:=yS hR dz hs hdz;have hst:=Ug hR hok.1 (hz a ha);obtain⟨u,hb⟩:=XR hx hR hok.1 (hz a ha) (Zs z) a6 a7 (pl.map .str) (by rw[Qqq];omega) t;refine⟨_,_,rfl,hb,by rw[Qqy,Qw9];omega,dz++[a],pl++[(stp ρ (rd ρ s dz).1 a).2],(t||u),Zs [a],(Zs ((rd ρ s dz).1.2)),(Zs ((stp ρ (rd ρ s dz).1 a).2)),by rw[vZ,e1],?_,?_,?_,?_,?_⟩
   ·intro b hb;rcases Qw6.mp hb with hb|hb
    ·exact hdz b hb
    ·rw[Qq6.mp hb];exact hz a ha
   ·rw[Aa,List.flatten_append,e2];simp
   ·rw[Qqy,Qqy,e3]
    rfl
   ·intro q hq;rcases Qw6.mp hq with hq|hq
    ·exact e4 q hq
    ·rw[Qq6.mp hq];exact hst.2.1
   ·rw[Aa,Qxz]
    rfl)
  [Zf R,Zf (bN s),Zs z,Zl [],Zb false,Zn,Zn,Zn] ⟨Qx3 _,[],[],false,Zn,Zn,Zn,rfl,λa ha=>by simp at ha,rfl,rfl,λq hq=>by simp at hq,rfl⟩
 have hzz:=wg e1;subst hzz;refine⟨t,cR (env:=[Zf R,(Zf (bN (rd ρ s z).1)),Zs z,Zl (pl.map .str),Zb t,a5,a6,a7]) ?_⟩;unfold iH;refine(aB (e:=[Zf R,Zf (bN s),Zs z,Zl [],Zn,Zn,Zn,Zn]) rfl).trans ?_
 let E0:Ev.Env:=[Zf R,Zf (bN s),Zs z,Zl [],Zb false,Zn,Zn,Zn]
 refine(aB (e:=E0) rfl).trans ?_;refine(aB ((dh (ds:=sG z) (e:=E0) rfl).trans f1)).trans ?_;have hj:rW (.str []) (.lst (pl.map .str))=some (.str (rd ρ s z).2):=by rw[uF.afJ (by rw[e3];omega) e4,e2]
 exact bY (cB (ds:=[bN (rd ρ s z).1,.str (rd ρ s z).2,.bl t]) (aH rfl (aH (cj (x:=.str []) (y:=.lst (pl.map .str)) rfl rfl hj) (aH rfl bw))) Ev.zz3)
end
theorem Fz{g:GV}{b:bO}{d:D}{ds:List D}{env e1 e2:Ev.Env}(h1:g d env=some e1)(h2:b e1 = .nx e2):ir g b (d::ds) env=ir g b ds e2:=by
 conv=>lhs;unfold ir
 rw[h1];simp only;rw[h2]
def tn:D->D
 | .tup [wy,ch,l,r]=>.tup [wy,ch,r,l]
 | d=>d
def lf:D->D
 | .tup [_,_,l,_]=>l
 | d=>d
def rt:D->Bool
 | .str (114::_)=>true
 | _=>false
def lay(s:D)(Rs:List D):List D:=if rt s=true then Rs.map tn else Rs
theorem aaE{x:List Nat}{R:D}(h:dF x R):dF x (tn R)/\lN [R]=some (tn R)/\Hv [R]=some (tn R):=by obtain⟨wy,ch,l,r,rfl,h1,h2,h3,h4⟩:=h;exact⟨⟨wy,ch,r,l,rfl,h1,h2,h4,h3⟩,rfl,rfl⟩
theorem oh(s:D)(Rs:List D):(lay s Rs).length=Rs.length:=by
 unfold lay;split
 ·rw[Qqq]
 ·rfl
theorem tV{x:List Nat}{s:D}{Rs:List D}(h:∀R∈Rs,dF x R):∀R∈lay s Rs,dF x R:=by
 unfold lay;split
 ·intro R hR;obtain⟨Q,hQ,rfl⟩:=Qwz.mp hR;exact(aaE (h Q hQ)).1
 ·exact h
noncomputable def pJ(x:List Nat)(R:D):Rl:=open Classical in if h:∃ρ,Is x R ρ then h.choose else .put 0 .non .non
theorem oY{x:List Nat}{R:D}(h:dF x R):Is x R (pJ x R):=by unfold pJ;rw[dif_pos (Wl h)];exact(Wl h).choose_spec
noncomputable def mz(x:List Nat):List D->List St->List Nat->List St×List Nat
 | R::Rs,s::ss,z=>((rd (pJ x R) s z).1::(mz x Rs ss (rd (pJ x R) s z).2).1,(mz x Rs ss (rd (pJ x R) s z).2).2)
 | _,_,z=>([],z)
noncomputable def zf(x:List Nat):List D->List St->List Nat->List Nat
 | R::Rs,s::ss,z=>zf x Rs ss (rd (pJ x R) s (z++[35])).2
 | _,_,z=>z
def yK(Rs:List D):List St:=Rs.map λR=>(fit (lf R) 35,[])
section
variable{x:List Nat}{s:D}(hx:x∈XS)(hs:s∈sides){Rs:List D}(hR:∀R∈Rs,dF x R)(h4:Rs.length<=10)
include hx hs hR h4
theorem reading_rules:cV [.tup [s,.tup Rs]]=some (.tup (lay s Rs)):=by
 rcases Qq5.mp hs with rfl|hs
 ·rfl
 ·cases Qq6.mp hs;obtain⟨env',g1,v5,rfl⟩:=Ad (g:=ak 3) (e:=ao lN (Zv 3 aj)) (λenv=>∃v5,env=[Zf (.tup [.str [114,105,103,104,116],.tup Rs]),Zs [114,105,103,104,116],Zf (.tup Rs),v5]) tn Rs
   [Zf (.tup [.str [114,105,103,104,116],.tup Rs]),Zs [114,105,103,104,116],Zf (.tup Rs),Zn] ⟨none,rfl⟩
   (λd hd env ⟨v5,he⟩=>by
    subst he;exact⟨[Zf (.tup [.str [114,105,103,104,116],.tup Rs]),Zs [114,105,103,104,116],Zf (.tup Rs),Zf d],_,rfl,aM (ds:=[d]) rfl (aaE (hR d hd)).2.1,_,rfl⟩)
  let E0:Ev.Env:=[Zf (.tup [.str [114,105,103,104,116],.tup Rs]),Zs [114,105,103,104,116],Zf (.tup Rs)]
  refine cR (env:=E0) ?_;unfold fC;refine(aB (e:=E0) rfl).trans ?_;refine(vW ?_).trans rfl;refine(lz (e:=E0) rfl).trans ?_;refine bY (aM (ds:=[.lst (Rs.map tn)]) (aH ?_ bw) rfl);exact uA (lo:=3) (n:=4) (ds:=Rs) (aN:=E0) rfl rfl g1 (by rw[Qqq];exact Qq0 h4 (by decide))
theorem first_standing:cX [.tup [s,.tup Rs]]=some (.tup ((yK (lay s Rs)).map bN)):=by
 have h1:=reading_rules hx hs hR h4;have h2:=tV (s:=s) hR;have h3:=oh s Rs;generalize lay s Rs=Ls at *;generalize D.tup [s,.tup Rs]=O at *;obtain⟨env',g1,v1,v2,v3,v4,rfl⟩:=Ad (g:=bB 4 (aA (ak 1) (aA (ak 2) (aA (ak 3) (aA (ak 4) bF))))) (e:=bJ (aa (ao gf (Zv 3 (aa (Zw [35]) aj))) (aa (Zw []) aj))) (λenv=>∃v1 v2 v3 v4,env=[Zf O,v1,v2,v3,v4]) (λR=>bN (fit (lf R) 35,[])) Ls
  [Zf O,Zn,Zn,Zn,Zn] ⟨none,Zn,Zn,Zn,rfl⟩
  (λd hd env ⟨v1,v2,v3,v4,he⟩=>by
   subst he;obtain⟨wy,ch,l,r,rfl,hro⟩:=h2 d hd;exact⟨[Zf O,Zf wy,Zf ch,Zf l,Zf r],[Zf O,Zf wy,Zf ch,Zf l,Zf r],rfl,cB (ds:=[.bl (fit l 35),.str []]) (aH (aM (ds:=[l,.str [35]]) rfl (jo x hx l hro.left 35 (Qqk ..))) rfl) Ev.zZ,_,_,_,_,rfl⟩)
 refine cR (env:=[Zf O]) (bY (aM (ds:=[.lst (Ls.map λR=>bN (fit (lf R) 35,[]))]) (aH ?_ bw) ?_))
 ·exact uA (lo:=1) (n:=5) (ds:=Ls) (aN:=[Zf O]) (xn (aM (ds:=[O]) rfl h1) rfl) rfl g1 (by rw[Qqq,h3];exact Qq0 h4 (by decide))
 ·unfold yK;rw[Qw5]
  rfl
end
theorem adD(x:List Nat)(Rs:List D):∀s∈yK Rs,qp x s:=by intro s hs;obtain⟨R,_,rfl⟩:=Qwz.mp hs;exact⟨Qx3 _,λc hc=>by simp at hc⟩
def LR:bO:=nG.mV
def Ma:bO:=nG.lK
section
variable{x:List Nat}(hx:x∈XS)
theorem Qw{n m k:Nat}(h:(n+2)*2^(k+1)<=150)(hm:m<=2*(n+1)):(m+2)*2^k<=150/\n<=73:=by
 have h1:(n+2)*2^(k+1)=(2*(n+1)+2)*2^k:=by
  rw[Nat.pow_succ,<-Nat.mul_assoc,Nat.mul_right_comm]
  congr 1
  omega
 have h2:(m+2)*2^k<=(2*(n+1)+2)*2^k:=Nat.mul_le_mul_right _ (by omega);have h3:1<=2^k:=Nat.one_le_two_pow;have h4:2*(n+1)+2<=(2*(n+1)+2)*2^k:=Nat.le_mul_of_pos_right _ h3;omega
include hx
theorem aaB(A0 A1 A2:OD):∀(Rs:List D) (ss:List St) (z:List Nat) (acc ts:List D) (v6 v7 v8 v9:OD),Rs.length=ss.length->(∀R∈Rs,dF x R)->(∀s∈ss,qp x s)->(∀a∈z,a∈35::x)->(z.length+2)*2^Rs.length<=150->acc.length+Rs.length<=100->ts.length+Rs.length<=100->
  ∃us w6 w7 w8 w9,ir (bB 2 (aA (ak 6) (aA (ak 7) bF))) LR (qb Rs (ss.map bN)) [A0,A1,A2,Zs z,Zl acc,Zl ts,v6,v7,v8,v9] = .nx [A0,A1,A2,(Zs ((mz x Rs ss z).2)),(Zl (acc++(mz x Rs ss z).1.map bN)),Zl us,w6,w7,w8,w9]/\(∀s∈(mz x Rs ss z).1,qp x s)/\(mz x Rs ss z).1.length=Rs.length/\us.length<=100
 | [],[],z,acc,ts,v6,v7,v8,v9,_,_,_,_,_,_,ht=>by
  refine⟨ts,v6,v7,v8,v9,?_,λs hs=>by simp[mz] at hs,rfl,ht⟩;show Ev.Out.nx _=Ev.Out.nx [A0,A1,A2,Zs z,Zl (acc++[]),Zl ts,v6,v7,v8,v9];rw[Qw8]
 | [],_::_,_,_,_,_,_,_,_,h,_,_,_,_,_,_=>by simp at h
 | _::_,[],_,_,_,_,_,_,_,h,_,_,_,_,_,_=>by simp at h
 | R::Rs,s::ss,z,acc,ts,v6,v7,v8,v9,h,hR,hS,hz,hn,ha,ht=>by
  have hRi:=oY (hR R (Qqk ..));have hso:=hS s (Qqk ..);obtain⟨o1,o2,o3⟩:=yS hRi z hso hz;obtain⟨n1,n2⟩:=Qw hn (m:=(rd (pJ x R) s z).2.length) (by omega);obtain⟨t,hrs⟩:=read_signs hx hRi hso hz (by omega);rw[Qqv] at ha ht;obtain⟨us,w6,w7,w8,w9,g1,g2,g3,g4⟩:=aaB A0 A1 A2 Rs ss (rd (pJ x R) s z).2 (acc++[bN (rd (pJ x R) s z).1]) (ts++[.bl t]) (Zf R) (Zf (bN s)) (Zf (bN (rd (pJ x R) s z).1)) (Zb t) (by simpa using h) (λQ hQ=>hR Q (Qqj _ hQ)) (λq hq=>hS q (Qqj _ hq)) o3 n1 (by rw[Qqy,Qw9];omega) (by rw[Qqy,Qw9];omega);refine⟨us,w6,w7,w8,w9,?_,?_,?_,g4⟩
  ·show ir _ LR (.tup [R,bN s]::qb Rs (ss.map bN)) _=Ev.Out.nx [A0,A1,A2,(Zs ((mz x Rs ss (rd (pJ x R) s z).2).2)),(Zl (acc++(bN (rd (pJ x R) s z).1::(mz x Rs ss (rd (pJ x R) s z).2).1.map bN))),Zl us,w6,w7,w8,w9]
   let E2:Ev.Env:=[A0,A1,A2,Zs z,Zl acc,Zl ts,Zf R,Zf (bN s),v8,v9]
   rw[Fz (e1:=E2) (e2:=[A0,A1,A2,(Zs ((rd (pJ x R) s z).2)),(Zl (acc++[bN (rd (pJ x R) s z).1])),Zl (ts++[.bl t]),Zf R,Zf (bN s),(Zf (bN (rd (pJ x R) s z).1)),Zb t]) rfl ?_,g1,Qxk]
   ·rfl
   ·generalize(rd (pJ x R) s z).2=q at *;generalize(rd (pJ x R) s z).1=s' at *;unfold LR
    let E1:Ev.Env:=[A0,A1,A2,Zs q,Zl acc,Zl ts,Zf R,Zf (bN s),Zf (bN s'),Zb t]
    refine(aB (e:=E1) (bQ (e:=E2) (aM (ds:=[R,bN s,.str z]) rfl hrs) rfl)).trans ?_
    let E0:Ev.Env:=[A0,A1,A2,Zs q,Zl (acc++[bN s']),Zl ts,Zf R,Zf (bN s),Zf (bN s'),Zb t]
    refine(aB (e:=E0) ?_).trans ?_
    ·exact(Ev.pH (i:=4) (xs:=acc) (d:=bN s') (e:=E1) rfl rfl rfl (Qw4 (show acc.length<=100 by omega) (by decide))).trans rfl
    ·exact(Ev.pH (i:=5) (xs:=ts) (d:=.bl t) (e:=E0) rfl rfl rfl (Qw4 (show ts.length<=100 by omega) (by decide))).trans rfl
  ·intro q hq;rcases Qq5.mp (show q∈(rd (pJ x R) s z).1::(mz x Rs ss (rd (pJ x R) s z).2).1 from hq) with rfl|hq
   ·exact o1
   ·exact g2 q hq
  ·show(_::(mz x Rs ss (rd (pJ x R) s z).2).1).length=_;rw[Qqv,g3,Qqv]
theorem aaC(A0 A1:OD):∀(Rs:List D) (ss:List St) (z:List Nat) (ts:List D) (v6 v7 v8 v9:OD),Rs.length=ss.length->(∀R∈Rs,dF x R)->(∀s∈ss,qp x s)->(∀a∈z,a∈35::x)->(z.length+2)*2^Rs.length<=150->ts.length+Rs.length<=100->
  ∃us w6 w7 w8 w9,ir (bB 2 (aA (ak 4) (aA (ak 5) bF))) Ma (qb Rs (ss.map bN)) [A0,A1,Zs z,Zl ts,v6,v7,v8,v9] = .nx [A0,A1,Zs (zf x Rs ss z),Zl us,w6,w7,w8,w9]/\us.length<=100
 | [],[],z,ts,v6,v7,v8,v9,_,_,_,_,_,ht=>⟨ts,v6,v7,v8,v9,rfl,ht⟩
 | [],_::_,_,_,_,_,_,_,h,_,_,_,_,_=>by simp at h
 | _::_,[],_,_,_,_,_,_,h,_,_,_,_,_=>by simp at h
 | R::Rs,s::ss,z,ts,v6,v7,v8,v9,h,hR,hS,hz,hn,ht=>by
  have hRi:=oY (hR R (Qqk ..));have hso:=hS s (Qqk ..);have hz':∀a∈z++[35],a∈35::x:=λa ha=>by
   rcases Qw6.mp ha with ha|ha
   ·exact hz a ha
   ·rw[Qq6.mp ha];exact Qqk ..
  have hzl:(z++[35]).length=z.length+1:=by rw[Qqy,Qw9]
  obtain⟨o1,o2,o3⟩:=yS hRi (z++[35]) hso hz';obtain⟨n1,n2⟩:=Qw hn (m:=(rd (pJ x R) s (z++[35])).2.length) (by omega);obtain⟨t,hrs⟩:=read_signs hx hRi hso hz' (by omega);rw[Qqv] at ht;obtain⟨us,w6,w7,w8,w9,g1,g4⟩:=aaC A0 A1 Rs ss (rd (pJ x R) s (z++[35])).2 (ts++[.bl t]) (Zf R) (Zf (bN s)) (Zf (bN (rd (pJ x R) s (z++[35])).1)) (Zb t) (by simpa using h) (λQ hQ=>hR Q (Qqj _ hQ)) (λq hq=>hS q (Qqj _ hq)) o3 n1 (by rw[Qqy,Qw9];omega);refine⟨us,w6,w7,w8,w9,?_,g4⟩;show ir _ Ma (.tup [R,bN s]::qb Rs (ss.map bN)) _=Ev.Out.nx [A0,A1,(Zs (zf x Rs ss (rd (pJ x R) s (z++[35])).2)),Zl us,w6,w7,w8,w9]
  let E1:Ev.Env:=[A0,A1,Zs z,Zl ts,Zf R,Zf (bN s),v8,v9]
  rw[Fz (e1:=E1) (e2:=[A0,A1,(Zs ((rd (pJ x R) s (z++[35])).2)),Zl (ts++[.bl t]),Zf R,Zf (bN s),(Zf (bN (rd (pJ x R) s (z++[35])).1)),Zb t]) rfl ?_,g1];generalize(rd (pJ x R) s (z++[35])).2=q at *;generalize(rd (pJ x R) s (z++[35])).1=s' at *;unfold Ma
  let E0:Ev.Env:=[A0,A1,Zs q,Zl ts,Zf R,Zf (bN s),Zf (bN s'),Zb t]
  refine(aB (e:=E0) (bQ (e:=E1) (aM (ds:=[R,bN s,.str (z++[35])]) (aH rfl (aH rfl (aH (jY (x:=.str z) (y:=.str [35]) rfl rfl rfl (pQ (by show z.length+1<=100000;omega))) bw))) hrs) rfl)).trans ?_;exact(Ev.pH (i:=3) (xs:=ts) (d:=.bl t) (e:=E0) rfl rfl rfl (Qw4 (show ts.length<=100 by omega) (by decide))).trans rfl
end
open uF (XS sides nZ pQ Em)
open jJ (HW qm HY PV SG S7 prs one others JB HH Ho Vi pG HX oH)
open uF (G6 QF)
theorem changes(n:Int)(x:List Nat)(hx:x∈XS):∃ch n',jJ.iW [.lst [.int n],.str x]=some (ch,.lst [.int n'])/\Em x ch:=by
 obtain⟨d,hd,e⟩:=dig n 5 (by decide);have hp:=HW x hx;have hl4:=qm x hx;have t:dD (aR pP (eU jJ.bh 0 (aa (Zi 5) aj)) (Zi 0)) [Zl [.int n],Zs x,Zn,Zn,Zn,Zn] = .ok ((d:Int) == 0) [Zl [.int (n / 5)],Zs x,Zn,Zn,Zn,Zn]:=by
  rw[<-e]
  rfl
 by_cases h0:d=0
 ·subst h0;obtain⟨j,hj,ej⟩:=dig (n / 5) x.length hp
  let E0:Ev.Env:=[Zl [.int (n / 5 / (x.length:Int))],Zs x,Zn,Zn,Zn,Zn]
  refine⟨.tup [.tup [.str [],.str [x[j]]]],n / 5 / (x.length:Int),jA (env:=E0) ?_ rfl,.put (Qx2 hj)⟩;unfold jJ.fU;refine(vW (d:=.tup [.tup [.str [],.str [x[j]]]]) (o:=false) (e:=E0) ?_).trans rfl;refine(lz t).trans ?_;refine bY (cB (aH (cB (ds:=[.str [],.str [x[j]]]) (aH (d:=.str []) rfl (aH ?_ bw)) Ev.zZ) bw) Ev.zz1);refine jY (x:=.str x) (y:=.int (n / 5 % (x.length:Int))) rfl ?_ rfl ?_
  ·exact Ev.zb (x:=.lst [.int (n / 5)]) (ds:=[.int (x.length:Int)]) (e1:=[Zl [.int (n / 5)],Zs x,Zn,Zn,Zn,Zn]) rfl rfl rfl (pG _ x.length hp (by omega))
  ·show(xQ x (n / 5 % (x.length:Int))).map _=_;rw[ej,Oi hj]
   rfl
 ·have t0:((d:Int) == 0)=false:=by rw[Qx7];omega
  rw[t0] at t;obtain⟨j,hj,ej⟩:=dig (n / 5) 3 (by decide);obtain⟨ds,hds,hl1,hl2⟩:∃ds,yp [.int (1+(j:Int))]=some ds/\0<ds.length/\ds.length<=4:=by
   have hc:j=0\/j=1\/j=2:=by omega
   rcases hc with rfl|rfl|rfl
   ·exact⟨_,rfl,by decide,by decide⟩
   ·exact⟨_,rfl,by decide,by decide⟩
   ·exact⟨_,rfl,by decide,by decide⟩
  obtain⟨e',f1,n',kvs,zs,v3,v4,v5,rfl,hk,hz1,hz2⟩:=yL (g:=ak 3) (b:=aF one (aF others JB)) ds
   (λdone env=>∃n kvs zs v3 v4 v5,env=[Zl [.int n],Zs x,Zt (.dct kvs),v3,v4,v5]/\HY x kvs zs/\zs.length<=done.length/\(0<done.length->0<zs.length))
   (λdone s rest hall env ⟨n,kvs,zs,v3,v4,v5,he,hk,hz1,hz2⟩=>by
    subst he;have hdl:done.length<=4:=by have:=Qxy List.length hall;rw[Qqy,Qqv] at this;omega
    have hkl:kvs.length=zs.length:=by
     have:=Qxy List.length hk.keys
     rwa [Qqq,Qqq] at this
    obtain⟨p,n',w4,w5,hpv,hb⟩:=jJ.round n x hx kvs (by omega) (Zf s) v4 v5;obtain⟨zs',hk',z1,z2⟩:=hk.put hpv (HX hpv);exact⟨_,_,rfl,hb,n',_,zs',_,_,_,rfl,hk',by rw[Qqy,Qw9];omega,λ_=>z1⟩)
   [Zl [.int (n / 5 / 3)],Zs x,Zt (.dct []),Zn,Zn,Zn] ⟨_,[],[],_,_,_,rfl,⟨rfl,.nil,λc hc=>by simp at hc,λk v h=>by simp at h⟩,Qqw _,λh=>h⟩
  have hz3:zs.length<=4:=Qq0 hz1 hl2;have hok:Em x (.tup (prs kvs ((jz (zs.map λc=>[c])).map D.str))):=by
   obtain⟨ps,e1,e2,e3⟩:=G6 hx _ (Ho hk);have hl:ps.length=zs.length:=by rw[e2,Qqq,(jh _).length_eq,Qqq]
   rw[e1];have:=hz2 hl1;exact .chg (by omega) (by omega) e3
  let E1:Ev.Env:=[Zl [.int n'],Zs x,Zt (.dct kvs),v3,v4,v5]
  refine⟨_,n',jA (env:=E1) ?_ rfl,hok⟩;unfold jJ.fU;refine(aB (e:=[Zl [.int (n / 5)],Zs x,Zn,Zn,Zn,Zn]) ((fK t).trans rfl)).trans ?_;refine(aB (e:=[Zl [.int (n / 5)],Zs x,Zt (.dct []),Zn,Zn,Zn]) rfl).trans ?_;refine(aB (e:=E1) ?_).trans ?_
  ·refine(dh (ds:=ds) (e:=[Zl [.int (n / 5 / 3)],Zs x,Zt (.dct []),Zn,Zn,Zn]) ?_).trans f1;have a1:aa (aR dC (Zi 1) (eU jJ.bh 0 (aa (Zi 3) aj))) aj [Zl [.int (n / 5)],Zs x,Zt (.dct []),Zn,Zn,Zn] = .ok [.int (1+n / 5 % 3)] [Zl [.int (n / 5 / 3)],Zs x,Zt (.dct []),Zn,Zn,Zn]:=by rfl
   unfold ju;rw[a1];show gC (yp [.int (1+n / 5 % ((3:Nat):Int))]) _=_;rw[ej,hds]
   rfl
  ·exact HH (QF hk hz3) _ _ _ _ _
theorem rule(n:Int)(x:List Nat)(hx:x∈XS):∃w ch l r n',jJ.jW [.lst [.int n],.str x]=some (.tup [w,ch,l,r],.lst [.int n'])/\nZ x w ch l r:=by
 obtain⟨d,hd,e⟩:=dig n 2 (by decide);obtain⟨w,hw,h1⟩:∃w,(w = .str [111,110,99,101]\/w = .str [97,108,111,110,103])/\cU (.lst [.str [111,110,99,101],.str [97,108,111,110,103]]) (.int (d:Int))=some w:=by
  have hc:d=0\/d=1:=by omega
  rcases hc with rfl|rfl
  ·exact⟨_,.inl rfl,rfl⟩
  ·exact⟨_,.inr rfl,rfl⟩
 obtain⟨ch,n1,h2,h3⟩:=changes (n / 2) x hx;obtain⟨l,n2,h5,h6⟩:=jJ.signs n1 x hx;obtain⟨r,n3,h7,h8⟩:=jJ.signs n2 x hx
 let E1:Ev.Env:=[Zl [.int n3],Zs x,Zf w,Zf ch]
 refine⟨w,ch,l,r,n3,jA (env:=E1) ?_ rfl,⟨hw,h3,h6,h8⟩⟩;unfold jJ.j8
 let E3:Ev.Env:=[Zl [.int (n / 2)],Zs x,Zf w,Zn]
 refine(aB (e:=E3) ?_).trans ?_
 ·refine bQ (d:=w) (e:=[Zl [.int (n / 2)],Zs x,Zn,Zn]) ?_ rfl;refine cj (x:=.lst [.str [111,110,99,101],.str [97,108,111,110,103]]) (y:=.int (n % 2)) (e1:=[Zl [.int n],Zs x,Zn,Zn]) rfl rfl ?_;have e2:n % 2=(d:Int):=e;rw[e2];exact h1
 let E0:Ev.Env:=[Zl [.int n1],Zs x,Zf w,Zf ch]
 refine(aB (e:=E0) ?_).trans ?_
 ·exact bQ (d:=ch) (e:=[Zl [.int n1],Zs x,Zf w,Zn]) (Ev.zb (x:=.lst [.int (n / 2)]) (ds:=[.str x]) (e1:=E3) rfl rfl rfl h2) rfl
 ·let E2:Ev.Env:=[Zl [.int n2],Zs x,Zf w,Zf ch]
  refine bY (cB (ds:=[w,ch,l,r]) (aH (d:=w) (e1:=E0) rfl (aH (d:=ch) (e1:=E0) rfl (aH (d:=l) (e1:=E2) ?_ (aH (d:=r) (e1:=E1) ?_ bw)))) Ev.zz4)
  ·exact Ev.zb (x:=.lst [.int n1]) (ds:=[.str x]) (e1:=E0) rfl rfl rfl h5
  ·exact Ev.zb (x:=.lst [.int n2]) (ds:=[.str x]) (e1:=E2) rfl rfl rfl h7
theorem order(n:Int)(x:List Nat)(hx:x∈XS)(m:Nat)(hm:m<=10):∃s Rs n',kZ [.lst [.int n],.str x,.int (m:Int)]=some (.tup [s,.tup Rs],.lst [.int n'])/\s∈sides/\(∀R∈Rs,dF x R)/\Rs.length<=m:=by
 obtain⟨d,hd,e⟩:=dig n 2 (by decide);obtain⟨s,hs,h1⟩:∃s,s∈sides/\cU (.lst [.str [108,101,102,116],.str [114,105,103,104,116]]) (.int (d:Int))=some s:=by
  have hc:d=0\/d=1:=by omega
  rcases hc with rfl|rfl
  ·exact⟨_,Qqk ..,rfl⟩
  ·exact⟨_,Qqj _ (Qqk ..),rfl⟩
 obtain⟨j,hj,ej⟩:=dig (n / 2) (m+1) (by omega);obtain⟨Rs,env',g1,⟨n',v4,rfl⟩,g3,g4⟩:=qU.Wf (g:=ak 4) (e:=eU jW 0 (Zv 1 aj)) (λenv=>∃n v4,env=[Zl [.int n],Zs x,Zf (.int (m:Int)),Zf s,v4]) (dF x) (jb 0 1 j)
  [Zl [.int (n / 2 / ((m+1:Nat):Int))],Zs x,Zf (.int (m:Int)),Zf s,Zn] ⟨_,_,rfl⟩
  (λt _ env ⟨n,v4,he⟩=>by
   subst he;obtain⟨wy,ch,l,r,n',h2,h3⟩:=rule n x hx;refine⟨.tup [wy,ch,l,r],_,[Zl [.int n'],Zs x,Zf (.int (m:Int)),Zf s,Zf t],rfl,?_,⟨_,_,rfl⟩,_,_,_,_,rfl,h3⟩;exact Ev.zb (x:=.lst [.int n]) (ds:=[.str x]) (e1:=[Zl [.int n],Zs x,Zf (.int (m:Int)),Zf s,Zf t]) rfl rfl rfl h2)
 have hl:Rs.length=j:=by rw[qW] at g4;exact g4
 refine⟨s,Rs,n',jA (env:=[Zl [.int n'],Zs x,Zf (.int (m:Int)),Zf s]) ?_ rfl,hs,g3,by omega⟩;unfold pY
 let E0:Ev.Env:=[Zl [.int (n / 2)],Zs x,Zf (.int (m:Int)),Zf s]
 refine(aB (e:=E0) ?_).trans ?_
 ·refine bQ (d:=s) (e:=[Zl [.int (n / 2)],Zs x,Zf (.int (m:Int)),Zn]) ?_ rfl;refine cj (x:=.lst [.str [108,101,102,116],.str [114,105,103,104,116]]) (y:=.int (n % 2)) (e1:=[Zl [.int n],Zs x,Zf (.int (m:Int)),Zn]) rfl rfl ?_;have e2:n % 2=(d:Int):=e;rw[e2];exact h1
 refine bY (cB (ds:=[s,.tup Rs]) (aH (d:=s) (e1:=E0) rfl (aH ?_ bw)) Ev.zZ);refine aM (ds:=[.lst Rs]) (aH ?_ bw) rfl
 let E1:Ev.Env:=[Zl [.int (n / 2 / ((m+1:Nat):Int))],Zs x,Zf (.int (m:Int)),Zf s]
 refine uA (lo:=4) (n:=5) (ds:=jb 0 1 j) (aN:=E1) (dR:=[Zl [.int n'],Zs x,Zf (.int (m:Int)),Zf s,v4]) ?_ rfl g1 (by rw[hl];exact Qq0 (show j<=10 by omega) (by decide));refine qU.tY (ds:=[.int (n / 2 % ((m+1:Nat):Int))]) ?_ ?_
 ·refine aH (e1:=E1) ?_ bw;exact Ev.zb (x:=.lst [.int (n / 2)]) (ds:=[.int ((m+1:Nat):Int)]) (e1:=E0) rfl rfl rfl (jJ.pG (n / 2) (m+1) (by omega) (by omega))
 ·have e2:n / 2 % ((m+1:Nat):Int)=(j:Int):=ej;rw[e2];exact qU.abR (by omega)
open uF (XS sides nZ pQ fit jo)
theorem Kv{a:d7}{env e:Ev.Env}{x y:List D}(h:a env = .ok [.tup x,.tup y] e):za a env = .ok (qb x y) e:=by unfold za;rw[h];rfl
structure yO(x:List Nat)(s:D)(Rs:List D)(ss:List St):Prop where
 hx:x∈XS
 hs:s∈sides
 hR:∀R∈Rs,dF x R
 h4:Rs.length<=4
 hl:ss.length=Rs.length
 hS:∀t∈ss,qp x t
theorem aey{n m:Nat}(h:n<=4)(hm:m<=7):(m+2)*2^n<=150:=by have h1:2^n<=2^4:=Nat.pow_le_pow_right (by decide) h;have h2:(m+2)*2^n<=9*2^4:=Nat.mul_le_mul (by omega) h1;omega
section
variable{x:List Nat}{s:D}{Rs:List D}{ss:List St}(o:yO x s Rs ss){z:List Nat}(hz:∀a∈z,a∈35::x)(hn:z.length<=7)
include o hz hn
theorem watch_on:∃us,o9 [.tup [s,.tup Rs],.tup (ss.map bN),.str z]=some (.tup [.tup ((mz x (lay s Rs) ss z).1.map bN),.str (mz x (lay s Rs) ss z).2,.tup us])/\yO x s Rs (mz x (lay s Rs) ss z).1:=by
 have h1:=reading_rules o.hx o.hs o.hR (Qq0 o.h4 (by decide));have h2:=tV (s:=s) o.hR;have h3:=oh s Rs;have h4:=o.h4;have hl:=o.hl;have hx:=o.hx;have hS:=o.hS;have hs:=o.hs;have hR:=o.hR;generalize lay s Rs=Ls at *;generalize D.tup [s,.tup Rs]=O at *;obtain⟨us,w6,w7,w8,w9,g1,g2,g3,g4⟩:=aaB hx (Zf O) (Zf (.tup (ss.map bN))) (Zs z) Ls ss z [] [] none none none none (by omega) h2 hS hz (aey (by omega) hn) (by rw[Qx8];omega) (by rw[Qx8];omega);refine⟨us,cR (env:=[Zf O,(Zf (.tup (ss.map bN))),Zs z,(Zs ((mz x Ls ss z).2)),(Zl ([]++(mz x Ls ss z).1.map bN)),Zl us,w6,w7,w8,w9]) ?_,hx,hs,hR,h4,by omega,g2⟩;unfold j0;refine(aB (e:=[Zf O,(Zf (.tup (ss.map bN))),Zs z,Zs z,Zn,Zn,Zn,Zn,Zn,Zn]) (by rfl)).trans ?_;refine(aB (e:=[Zf O,(Zf (.tup (ss.map bN))),Zs z,Zs z,Zl [],Zn,Zn,Zn,Zn,Zn]) (by rfl)).trans ?_
 let E0:Ev.Env:=[Zf O,(Zf (.tup (ss.map bN))),Zs z,Zs z,Zl [],Zl [],Zn,Zn,Zn,Zn]
 refine(aB (e:=E0) (by rfl)).trans ?_;refine(aB ((dh (ds:=qb Ls (ss.map bN)) (e:=E0) ?_).trans g1)).trans ?_
 ·exact Kv (aH (aM (ds:=[O]) (by rfl) h1) (by rfl))
 ·rw[List.nil_append];exact bY (cB (ds:=[.tup ((mz x Ls ss z).1.map bN),.str (mz x Ls ss z).2,.tup us]) (by rfl) Ev.zz3)
theorem read_on:mG [.tup [s,.tup Rs],.tup (ss.map bN),.str z]=some (.tup [.tup ((mz x (lay s Rs) ss z).1.map bN),.str (mz x (lay s Rs) ss z).2])/\yO x s Rs (mz x (lay s Rs) ss z).1:=by
 obtain⟨us,h1,h2⟩:=watch_on o hz hn;refine⟨?_,h2⟩;generalize(mz x (lay s Rs) ss z).1.map bN=T at *;generalize(mz x (lay s Rs) ss z).2=q at *;generalize D.tup [s,.tup Rs]=O at *
 let E0:Ev.Env:=[Zf O,(Zf (.tup (ss.map bN))),Zs z,Zf (.tup T),Zs q,Zf (.tup us)]
 refine cR (env:=E0) ?_;unfold lq;refine(aB (e:=E0) ?_).trans ?_
 ·exact bQ (e:=[Zf O,(Zf (.tup (ss.map bN))),Zs z,Zn,Zn,Zn]) (aM (ds:=[O,.tup (ss.map bN),.str z]) (by rfl) h1) (by rfl)
 ·exact bY (cB (ds:=[.tup T,.str q]) (by rfl) Ev.zZ)
omit hz hn
theorem watch_end:∃us,nu [.tup [s,.tup Rs],.tup (ss.map bN)]=some (.tup [.str (zf x (lay s Rs) ss []),.tup us]):=by
 have h1:=reading_rules o.hx o.hs o.hR (Qq0 o.h4 (by decide));have h2:=tV (s:=s) o.hR;have h3:=oh s Rs;have h4:=o.h4;have hl:=o.hl;have hx:=o.hx;have hS:=o.hS;generalize lay s Rs=Ls at *;generalize D.tup [s,.tup Rs]=O at *;obtain⟨us,w6,w7,w8,w9,g1,g4⟩:=aaC hx (Zf O) (Zf (.tup (ss.map bN))) Ls ss [] [] none none none none (by omega) h2 hS (λa ha=>by simp at ha) (aey (m:=0) (by omega) (by decide)) (by rw[Qx8];omega);refine⟨us,cR (env:=[Zf O,(Zf (.tup (ss.map bN))),Zs (zf x Ls ss []),Zl us,w6,w7,w8,w9]) ?_⟩;unfold jk;refine(aB (e:=[Zf O,(Zf (.tup (ss.map bN))),Zs [],Zn,Zn,Zn,Zn,Zn]) (by rfl)).trans ?_
 let E0:Ev.Env:=[Zf O,(Zf (.tup (ss.map bN))),Zs [],Zl [],Zn,Zn,Zn,Zn]
 refine(aB (e:=E0) (by rfl)).trans ?_;refine(aB ((dh (ds:=qb Ls (ss.map bN)) (e:=E0) ?_).trans g1)).trans ?_
 ·exact Kv (aH (aM (ds:=[O]) (by rfl) h1) (by rfl))
 ·exact bY (cB (ds:=[.str (zf x Ls ss []),.tup us]) (by rfl) Ev.zZ)
theorem end_of:jF [.tup [s,.tup Rs],.tup (ss.map bN)]=some (.str (zf x (lay s Rs) ss [])):=by obtain⟨us,h1⟩:=watch_end o;generalize zf x (lay s Rs) ss []=q at *;generalize D.tup [s,.tup Rs]=O at *;exact cR (env:=[Zf O,(Zf (.tup (ss.map bN)))]) (bY (cj (x:=.tup [.str q,.tup us]) (y:=.int 0) (aM (ds:=[O,.tup (ss.map bN)]) (by rfl) h1) (by rfl) (by rfl)))
end
end j9
namespace K16
open Ev PySem L2
open jJ (SG f9)
open uF (XS sides nZ pQ fit jo Dw look m9 mZ encC sg ed nw Np cg out inn pc pin)
open Ii (dF nq cF fin)
open j9 (Rl stp rd G3 Aa Uu Is Wl pJ oY mz zf yK lay tn lf Ry nrC bN qp yO rt)
open K10 (J)
theorem z9{x:List Nat}:∀(Ls:List D) (ss:List j9.St) (z y:List Nat),Ls.length=ss.length->mz x Ls ss (z++y)=((mz x Ls (mz x Ls ss z).1 y).1,(mz x Ls ss z).2++(mz x Ls (mz x Ls ss z).1 y).2)
 | [],[],z,y,_=>rfl
 | [],_::_,_,_,h=>by simp at h
 | _::_,[],_,_,h=>by simp at h
 | L::Ls,s::ss,z,y,h=>by
  show((rd (pJ x L) s (z++y)).1::(mz x Ls ss (rd (pJ x L) s (z++y)).2).1,(mz x Ls ss (rd (pJ x L) s (z++y)).2).2)=_;rw[G3];simp only;rw[z9 Ls ss _ _ (by simpa using h)]
  rfl
theorem wD{x:List Nat}:∀(Ls:List D) (ss:List j9.St),Ls.length=ss.length->mz x Ls ss []=(ss,[])
 | [],[],_=>rfl
 | [],_::_,h=>by simp at h
 | _::_,[],h=>by simp at h
 | L::Ls,s::ss,h=>by
  show(s::(mz x Ls ss []).1,(mz x Ls ss []).2)=_;rw[wD Ls ss (by simpa using h)]
open uF (XS sides nZ pQ fit jo)
open j9 (mz zf yK lay bN qp yO rt rd pJ oY yS wg vZ z8)
theorem GZ{x:List Nat}:∀(Ls:List D) (ss:List j9.St) (z:List Nat),(∀R∈Ls,dF x R)->(∀s∈ss,qp x s)->(∀a∈z,a∈35::x)->(mz x Ls ss z).2.length<=2^Ls.length*z.length
 | [],[],z,_,_,_=>by show z.length<=1*z.length;omega
 | [],_::_,z,_,_,_=>by show z.length<=1*z.length;omega
 | L::Ls,[],z,_,_,_=>by
  show z.length<=2^(Ls.length+1)*z.length;exact Nat.le_mul_of_pos_left _ (Nat.two_pow_pos _)
 | L::Ls,s::ss,z,hR,hS,hz=>by
  obtain⟨o1,o2,o3⟩:=yS (oY (hR L (Qqk ..))) z (hS s (Qqk ..)) hz;have h1:=GZ Ls ss (rd (pJ x L) s z).2 (λQ hQ=>hR Q (Qqj _ hQ)) (λq hq=>hS q (Qqj _ hq)) o3;show(mz x Ls ss (rd (pJ x L) s z).2).2.length<=2^(Ls.length+1)*z.length;have h2:2^Ls.length*(rd (pJ x L) s z).2.length<=2^Ls.length*(2*z.length):=Nat.mul_le_mul_left _ o2;rw[Nat.pow_succ,Nat.mul_assoc];omega
end K16
namespace K17
open Ev PySem L2
open jJ (SG)
open uF (XS sides pQ fit)
open Ii (dF fin)
open j9 (bN yO qp mz zf yK lay tn lf rt wg vZ z8)
open K16 (z9 wD)
def qS(ss:List j9.St):NK:=.tup (ss.map λs=>.tup [.num (if s.1 then 1 else 0),.txt (strOf s.2)])
theorem afw:∀ss:List j9.St,o7 (ss.map bN)=some (ss.map λs=>.tup [.num (if s.1 then 1 else 0),.txt (strOf s.2)])
 | []=>rfl
 | (b,z)::ss=>by
  have ih:=afw ss;have h1:oM (bN (b,z))=some (.tup [.num (if b then 1 else 0),.txt (strOf z)]):=by simp[bN,oM,o7]
  rw[Qq2,Qq2];unfold o7;rw[h1,ih]
theorem aa9:∀ss:List j9.St,NK.jZ (ss.map λs=>.tup [.num (if s.1 then 1 else 0),.txt (strOf s.2)])<=1
 | []=>by unfold NK.jZ;simp
 | s::ss=>by
  have ih:=aa9 ss;rw[Qq2];unfold NK.jZ;have:NK.dep (.tup [.num (if s.1 then 1 else 0),.txt (strOf s.2)])=1:=by simp[NK.dep,NK.jZ]
  rw[this];omega
theorem afx(ss:List j9.St):oM (.tup (ss.map bN))=some (qS ss):=by
 unfold oM;rw[afw]
 rfl
theorem aaU(ss:List j9.St):Ff (.tup (ss.map bN))=some (qS ss):=by
 show(oM (.tup (ss.map bN))).bind _=_;rw[afx];have h:(qS ss).dep<=8:=by unfold qS NK.dep;have:=aa9 ss;omega
 exact if_pos h
theorem U3:∀(ss tt:List j9.St),(ss.map λs=>NK.tup [.num (if s.1 then 1 else 0),.txt (strOf s.2)])=(tt.map λs=>NK.tup [.num (if s.1 then 1 else 0),.txt (strOf s.2)])->ss=tt
 | [],[],_=>rfl
 | [],_::_,h=>by cases h
 | _::_,[],h=>by cases h
 | (b,z)::ss,(c,y)::tt,h=>by
  rw[Qq2,Qq2] at h;obtain⟨h1,h2⟩:=Qjq h;have h3:=NK.tup.inj h1;obtain⟨h4,h5⟩:=Qjq h3;obtain⟨h6,_⟩:=Qjq h5;have h7:z=y:=SX.kE (NK.txt.inj h6);have h8:=NK.num.inj h4;simp only at h8;have h9:b=c:=by cases b<;>cases c<;>first|rfl|(simp at h8)
  rw[h9,h7,U3 ss tt h2]
theorem U4{ss tt:List j9.St}(h:qS ss=qS tt):ss=tt:=U3 ss tt (NK.tup.inj h)
theorem Wu{i:Nat}{b c:Ev}{env e2 e3:Ev.Env}{k t:D}{q:NK}{o o':Bool}{z kvs:List (D×D)}(h0:env[i]? = some (some (o,.fG z)))(h1:b env = .ok k e2)(h2:c e2 = .ok t e3)(h3:e3[i]? = some (some (o',.fG kvs)))(h4:Ff k=some q):nA i b c env = .ok ((lX kvs q).getD t) e3:=by
 unfold nA;rw[h0];show bindR (b env) _=_;rw[h1];show bindR (c e2) _=_;rw[h2];show(match e3[i]? with|some (some (_,.fG kvs))=>gC ((Ff k).map λq=>(lX kvs q).getD t) e3|_=>.stuck)=_;rw[h3,h4]
 rfl
theorem qM{i:Nat}{k a:Ev}{env e1 e2:Ev.Env}{d kd z:D}{o:Bool}{q:NK}{kvs:List (D×D)}(h1:a env = .ok d e1)(h0:e1[i]? = some (some (o,z)))(h2:k e1 = .ok kd e2)(h3:e2[i]? = some (Zt (.fG kvs)))(h4:Ff kd=some q)(h5:kvs.length<sizeLine):n8 i k a env = .nx (e2.set i (Zt (.fG (uN kvs kd q d)))):=by unfold n8;simp only[h1,jG,h0,h2,h3,h4,if_pos h5]
end K17
namespace K19
open Ev PySem L2
open uF (XS sides pQ fit)
open Ii (dF)
open j9 (bN yO qp rd pJ oY yS mz zf yK lay tn lf rt wg vZ z8)
open K16 (z9 wD GZ)
theorem WK{x:List Nat}:∀(Ls:List D) (ss:List j9.St) (z:List Nat),(∀R∈Ls,dF x R)->(∀s∈ss,qp x s)->(∀a∈z,a∈35::x)->(∀a∈zf x Ls ss z,a∈35::x)/\(zf x Ls ss z).length+2<=2^Ls.length*(z.length+2)
 | [],[],z,_,_,h=>⟨h,by show z.length+2<=1*_;omega⟩
 | [],_::_,z,_,_,h=>⟨h,by show z.length+2<=1*_;omega⟩
 | L::Ls,[],z,_,_,h=>⟨h,by show z.length+2<=2^(Ls.length+1)*_;exact Nat.le_mul_of_pos_left _ (Nat.two_pow_pos _)⟩
 | L::Ls,s::ss,z,hR,hS,hz=>by
  obtain⟨o1,o2,o3⟩:=yS (oY (hR L (Qqk ..))) (z++[35]) (hS s (Qqk ..)) (λa ha=>by
   rcases Qw6.mp ha with h|h
   ·exact hz a h
   ·rw[Qq6.mp h];exact Qqk ..)
  obtain⟨i1,i2⟩:=WK Ls ss (rd (pJ x L) s (z++[35])).2 (λQ hQ=>hR Q (Qqj _ hQ)) (λq hq=>hS q (Qqj _ hq)) o3;refine⟨i1,Qq0 i2 ?_⟩;rw[Qqy,Qw9] at o2;show _<=2^(Ls.length+1)*_;rw[Nat.pow_succ,Nat.mul_assoc];exact Nat.mul_le_mul_left _ (by omega)
end K19
namespace KB
section
variable{P:Type}(L:P->Nat->P)(S:P->Bool)(x:List Nat)(p0:P)
def pl(w:List Nat):P:=w.foldl L p0
variable{L S x p0}
theorem Qm{α:Type}{l:List α}{a b:α}{i:Nat}(h:l[i]? = some b):(l++[a])[i]? = some b:=by rw[Qxq (Qq4.mp h).1];exact h
theorem Hs{α:Type}{l:List α}{a:α}:(l++[a])[l.length]? = some a:=by rw[Qx0 (Qqw _),Nat.sub_self];rfl
theorem qG{α:Type}[DecidableEq α]:∀(U ps:List α),ps.Nodup->(∀p∈ps,p∈U)->ps.length<=U.length
 | U,[],_,_=>Qx3 _
 | U,p::ps,hn,hs=>by
  have hp:=hs p (Qqk ..);have h:=qG (U.erase p) ps (Qx9.mp hn).2 λq hq=>by
   have hne:q≠p:=λe=>(Qx9.mp hn).1 (e ▸ hq);exact(List.mem_erase_of_ne hne).mpr (hs q (Qqj _ hq))
  have h2:=List.length_erase_of_mem hp;have h3:0<U.length:=Qj1 hp;rw[Qqv];omega
end
open Ev PySem L2
open jJ (f9)
open uF (sides)
open j9 (rt)
open K17 (qM)
section
variable{P:Type}[DecidableEq P]{Φ:Stmt->List D->LD}{sl ss:Stmt}{cl cs:List D}{x:List Nat}{jK side:D}{so:LD}{en:P->D}{key:P->NK}{L:P->Nat->P}{S:P->Bool}{Ok:P->Prop}{U:List P}{p0:P}
structure Gives(Φ:Stmt->List D->LD)(sl ss:Stmt)(cl cs:List D)(x:List Nat)(en:P->D)(key:P->NK)(L:P->Nat->P)(S:P->Bool)(Ok:P->Prop)(U:List P):Prop where
 lead:∀p a,Ok p->a∈x->Φ sl cl [en p,.str [a]]=some (en (L p a))/\Ok (L p a)
 shows:∀p,Ok p->Φ ss cs [en p]=some (.bl (S p))
 nk:∀p,Ff (en p)=some (key p)
 inj:∀p q,key p=key q->p=q
 all:∀p,Ok p->p∈U
 few:U.length<=6998
def kn(en:P->D)(ps:List P):List (D×D):=ps.map λp=>(en p,.bl true)
variable(G:Gives Φ sl ss cl cs x en key L S Ok U)
include G
omit G [DecidableEq P] in
end
section
variable{P:Type}[DecidableEq P]{Φ:Stmt->List D->LD}{sl ss:Stmt}{cl cs:List D}{x:List Nat}{jK side:D}{so:LD}{en:P->D}{key:P->NK}{L:P->Nat->P}{S:P->Bool}{Ok:P->Prop}{U:List P}{p0:P}
variable(G:Gives Φ sl ss cl cs x en key L S Ok U)
theorem jO{g:GV}{b:bO}{d:D}{ds:List D}{env e1 e2:Ev.Env}(h1:g d env=some e1)(h2:b e1 = .nx e2):ir g b (d::ds) env=ir g b ds e2:=by
 conv=>lhs;unfold ir
 rw[h1];simp only;rw[h2]
theorem Av{t:gK}{b:bO}{m:Nat}{env e1 e2:Ev.Env}(h:t env = .ok true e1)(h2:b e1 = .nx e2):dI t b (m+1) env=dI t b m e2:=by
 conv=>lhs;unfold dI
 rw[h];simp only[jG,if_true];rw[h2]
theorem Ip{t:gK}{b:bO}{m:Nat}{env e1:Ev.Env}(h:t env = .ok false e1):dI t b (m+1) env = .nx e1:=by
 conv=>lhs;unfold dI
 rw[h];rfl
include G
end
end KB
namespace il
open Ev
section
def lJ:Ev:=nG.lJ
def lg:bO:=nG.lg
def dX:LD:=cH 1 lg
def ql:bO:=nG.ql
def gf:LD:=cH 2 ql
def jH:bO:=nG.jH
def lN:LD:=cH 5 jH
def iY:bO:=nG.iY
def jq:LD:=cH 1 iY
def jU:Ev:=nG.jU
def fC:bO:=nG.fC
def cV:LD:=cH 3 fC
def jx:Ev:=nG.jx
def fY:bO:=nG.fY
def cX:LD:=cH 1 fY
def cY:bO:=nG.cY
def dO:LD:=cH 10 cY
def dZ:bO:=nG.dZ
def dY:LD:=cH 10 dZ
def jN:bO:=nG.jN
def iH:bO:=nG.iH
def gH:LD:=cH 8 iH
def mV:bO:=nG.mV
def j0:bO:=nG.j0
def o9:LD:=cH 10 j0
def lK:bO:=nG.lK
def jk:bO:=nG.jk
def nu:LD:=cH 8 jk
def lq:bO:=nG.lq
def mG:LD:=cH 6 lq
def pq:bO:=nG.pq
def jF:LD:=cH 2 pq
def iU:bO:=aF (aX (ao mG (Zv 1 (aa (au cU 2 (ao cz (aa (aO 4) aj))) (Zv 6 aj)))) (bB 2 (aA (ak 7) (aA (ak 8) bF)))) (aF (gr (dD (au oA 7 (aO 3))) (aF (n8 3 (aL 7) (ao cz (aa (aO 2) aj))) (dJ 2 (aL 7))) cM) (dJ 5 (bJ (Zv 8 (aa (au rY 3 (aO 7)) aj)))))
def iT:bO:=aF (cI 5 (bT aj)) (aF (eE (dB (ao dX (Zv 0 aj))) (ak 6) (iU)) (aF (gr (dD (aR gGt (ao cz (aa (aO 2) aj)) (Zi 600))) (Gu) cM) (dJ 4 (ao bZ (aa (aO 5) aj)))))
def rM:bO:=aF (cI 2 (bT (aa (ao cX (Zv 1 aj)) aj))) (aF (cI 3 (CK (au cU 2 (Zi 0)) (Zi 0))) (aF (cI 4 (bT aj)) (aF (dI (dD (aR uP (ao cz (aa (aO 4) aj)) (ao cz (aa (aO 2) aj)))) (iT) 7000) (bD (bJ (Zv 2 (Zv 4 aj)))))))
def pg:LD:=cH 9 rM
def gD:Ev:=dH 4 6 (rH (Zv 2 (Zv 3 aj))) (bB 2 (aA (ak 4) (aA (ak 5) bF))) bK (bJ (aa (ao jF (Zv 1 (Zv 4 aj))) (Zv 5 aj)))
def je:bO:=aF (aX (ao pg (Zv 0 (Zv 1 aj))) (bB 2 (aA (ak 2) (aA (ak 3) bF)))) (bD (gD))
def gG:LD:=cH 4 je
def gA:bO:=O6 3 (Zi 1)
def fc:bO:=aF (aX (Zi 0) (ak 3)) (aF (dI (ik (dD (au uP 3 (ao cz (aa (aO 1) aj)))) (ik (dD (au uP 3 (ao cz (aa (aO 2) aj)))) (dD (aR pP (au cU 1 (aO 3)) (au cU 2 (aO 3)))))) (gA) 7000) (aX (pU (aL 1) n6 (yM (aL 3))) (ak 1)))
def lQ:bO:=aF (aX (au cU 0 (Zi 0)) (ak 1)) (aF (eE (dB (aL 0)) (ak 2) (fc)) (bD (aL 1)))
def ie:LD:=cH 4 lQ
def gQ:Ev:=dH 3 5 (dB (aL 0)) (bB 2 (aA (ak 3) (aA (ak 4) bF))) bK (aL 3)
def dW:Ev:=dH 5 7 (dB (aL 4)) (bB 2 (aA (ak 5) (aA (ak 6) bF))) bK (au dC 5 (au cU 1 (aO 6)))
def fJ:Ev:=dH 3 5 (dB (aL 0)) (bB 2 (aA (ak 3) (aA (ak 4) bF))) bK (ao ie (aa (aR dC (bT (Zv 3 aj)) (dW)) aj))
def dU:bO:=aF (aX (aL 2) (ak 1)) (cI 2 (fJ))
def jt:bO:=aF (aX (bT aj) (ak 1)) (aF (cI 2 (gQ)) (aF (dI (dD (au Ai 2 (aO 1))) (dU) 20000) (bD (aL 2))))
def ig:LD:=cH 3 jt
def gb:Ev:=dH 7 9 (dB (aL 5)) (bB 2 (aA (ak 7) (aA (ak 8) bF))) bK (bJ (aa (pU (au dC 7 (au cU 1 (aO 8))) (yM (aL 6)) n6) (Zv 8 aj)))
def eO:bO:=aF (aX (ao cz (aa (aO 3) aj)) (ak 6)) (dJ 2 (bJ (aa (pU (aL 4) (yM (aL 6)) n6) (aa (ao bZ (aa (gb) aj)) aj))))
def jP:bO:=aF (aX (ao ig (Zv 0 aj)) (ak 1)) (aF (cI 2 (bT aj)) (aF (eE (rH (Zv 1 (Zv 0 aj))) (bB 2 (aA (ak 3) (aA (bB 2 (aA (ak 4) (aA (ak 5) bF))) bF))) (eO)) (bD (bJ (aa (au cU 1 (Zi 0)) (Zv 2 aj))))))
def iQ:LD:=cH 7 jP
def iV:bO:=gr (dD (au oA 2 (aO 1))) (n8 1 (aL 2) (ao xg (aa (aO 1) aj))) cM
def mU:Ev:=dH 3 4 (dB (aL 0)) (ak 3) bK (au rY 1 (aO 3))
def rN:bO:=aF (cI 1 (Aj)) (aF (eE (dB (aL 0)) (ak 2) (iV)) (bD (mU)))
def jV:LD:=cH 3 rN
def fX:Ev:=dH 5 7 (dB (aL 4)) (bB 2 (aA (ak 5) (aA (ak 6) bF))) bK (aL 5)
def gZ:Ev:=dH 3 5 (dB (aL 0)) (bB 2 (aA (ak 3) (aA (ak 4) bF))) bK (bJ (Zv 3 (aa (ao bZ (aa (fX) aj)) aj)))
def fW:Ev:=dH 6 8 (dB (aL 5)) (bB 2 (aA (ak 6) (aA (ak 7) bF))) bK (au cU 1 (aO 7))
def gY:Ev:=dH 3 6 (xr (Zv 0 aj)) (bB 2 (aA (ak 3) (aA (bB 2 (aA (ak 4) (aA (ak 5) bF))) bF))) bK (bJ (aa (au cU 1 (aO 3)) (aa (ao bZ (aa (fW) aj)) aj)))
def fV:bO:=aF (aX (nW iG (aL 1)) (ak 2)) (aX (ao jV (aa (gY) aj)) (ak 1))
def mY:bO:=aF (aX (ao jV (aa (gZ) aj)) (ak 1)) (aF (aX (Zi 0) (ak 2)) (aF (dI (dD (au uP 2 (nW iG (aL 1)))) (fV) 7000) (bD (aL 1))))
def jE:LD:=cH 3 mY
def kW:bO:=aF (gr (dD (aR oN (au cU 1 (aO 9)) (aO 2))) (aF (oU 2 (au cU 1 (aO 9)) (ao cz (aa (aO 3) aj))) (dJ 3 (aL 9))) cM) (dJ 7 (bJ (Zv 8 (aa (au jD 2 (au cU 1 (aO 9))) aj))))
def kj:bO:=aF (aX (au cU 0 (au cU 3 (ao cz (aa (aO 4) aj)))) (bB 2 (aA (ak 5) (aA (ak 6) bF)))) (aF (cI 7 (bT aj)) (aF (eE (dB (aL 6)) (bB 2 (aA (ak 8) (aA (ak 9) bF))) (kW)) (dJ 4 (bJ (Zv 5 (aa (ao bZ (aa (aO 7) aj)) aj))))))
def xE:bO:=aF (aX (ao jE (Zv 0 aj)) (ak 1)) (aF (cI 2 (xu (au cU 1 (Zi 0)) (Zi 0))) (aF (cI 3 (bT (aa (Zi 0) aj))) (aF (cI 4 (bT aj)) (aF (dI (dD (aR uP (ao cz (aa (aO 4) aj)) (ao cz (aa (aO 3) aj)))) (kj) 7000) (bD (ao bZ (aa (aO 4) aj)))))))
def qJ:LD:=cH 10 xE
def jQ:bO:=aF (aX (ao iQ (aa (ao gG (Zv 0 (Zv 1 aj))) aj)) (bB 2 (aA (ak 2) (aA (ak 3) bF)))) (bD (bJ (Zv 2 (aa (ao qJ (Zv 3 aj)) aj))))
def fB:LD:=cH 4 jQ
end
end il
namespace KM
abbrev cG:=List Nat×List (List Nat×Nat)
def jw(M:List cG):Nat->List Nat->Option (List Nat)
 | i,[]=>M[i]?.map (·.1)
 | i,a::w=>match M[i]? with
  | none=>none
  | some st=>match st.2[a]? with
   | none=>none
   | some pt=>(jw M pt.2 w).map (pt.1 ++ ·)
structure fM(M:List cG)(c:List (List Nat)):Prop where
 len:c.length=M.length
 fin:∀(i:Nat) (st:cG),M[i]? = some st->(c.getD i []) <+: st.1
 stp:∀(i:Nat) (st:cG) (pt:List Nat×Nat),M[i]? = some st->pt∈st.2->(c.getD i []) <+: pt.1++c.getD pt.2 []
def early(c:List (List Nat))(i:Nat)(st:cG):cG:=(st.1.drop (c.getD i []).length,st.2.map λpt=>((pt.1++c.getD pt.2 []).drop (c.getD i []).length,pt.2))
def abl(M M':List cG)(c:List (List Nat)):Prop:=∀i,M'[i]? = M[i]?.map (early c i)
theorem wG{a b:List Nat}(h:a <+: b):b=a++b.drop a.length:=by obtain⟨t,rfl⟩:=h;rw[List.drop_left]
theorem Rk{M M':List cG}{c:List (List Nat)}(C:fM M c)(E:abl M M' c):∀(w:List Nat) (i:Nat) (r:List Nat),jw M i w=some r->∃r',jw M' i w=some r'/\r=c.getD i []++r':=by
 intro w
 induction w with
 | nil=>
  intro i r h;unfold jw at h;obtain⟨st,h1,rfl⟩:=Qww.mp h;refine⟨st.1.drop (c.getD i []).length,?_,wG (C.fin i st h1)⟩;unfold jw;rw[E i,h1]
  rfl
 | cons a w ih=>
  intro i r h;unfold jw at h;cases h1:M[i]? with
  | none=>rw[h1] at h;cases h
  | some st=>
   rw[h1] at h;simp only at h;cases h2:st.2[a]? with
   | none=>rw[h2] at h;cases h
   | some pt=>
    rw[h2] at h;obtain⟨r1,h3,rfl⟩:=Qww.mp (show(jw M pt.2 w).map (pt.1 ++ ·)=some r from h);obtain⟨r2,h4,rfl⟩:=ih pt.2 r1 h3;have hp:=wG (C.stp i st pt h1 (Qq8 h2));refine⟨(pt.1++c.getD pt.2 []).drop (c.getD i []).length++r2,?_,?_⟩
    ·unfold jw;rw[E i,h1];show(match (st.2.map λpt=>((pt.1++c.getD pt.2 []).drop (c.getD i []).length,pt.2))[a]? with|none=>none|some pt=>(jw M' pt.2 w).map (pt.1 ++ ·))=_;rw[Qwx,h2];show(jw M' pt.2 w).map _=_;rw[h4]
     rfl
    ·rw[<-Qxk,<-Qxk,<-hp]
structure Alike(M:List cG)(g:Nat->Nat):Prop where
 fin:∀(i j:Nat) (s t:cG),M[i]? = some s->M[j]? = some t->g i=g j->s.1=t.1/\s.2.map (·.1)=t.2.map (·.1)/\s.2.map (λpt=>g pt.2)=t.2.map (λpt=>g pt.2)
 inn:∀(i:Nat) (st:cG) (pt:List Nat×Nat),M[i]? = some st->pt∈st.2->pt.2<M.length
theorem Rm{M:List cG}{g:Nat->Nat}(A:Alike M g):∀(w:List Nat) (i j:Nat),i<M.length->j<M.length->g i=g j->jw M i w=jw M j w:=by
 intro w
 induction w with
 | nil=>
  intro i j hi hj hg;unfold jw;rw[Qq7 hi,Qq7 hj];show some M[i].1=some M[j].1;rw[(A.fin i j _ _ (Qq7 hi) (Qq7 hj) hg).1]
 | cons a w ih=>
  intro i j hi hj hg;have h1:=Qq7 hi;have h2:=Qq7 hj;obtain⟨e1,e2,e3⟩:=A.fin i j _ _ h1 h2 hg;unfold jw;rw[h1,h2];have k2:=Qxy (λl=>l[a]?) e2;have k3:=Qxy (λl=>l[a]?) e3;simp only[Qwx] at k2 k3;show(match M[i].2[a]? with|none=>none|some pt=>(jw M pt.2 w).map (pt.1 ++ ·))=(match M[j].2[a]? with|none=>none|some pt=>(jw M pt.2 w).map (pt.1 ++ ·));cases p:M[i].2[a]? with
  | none=>
   rw[p] at k2;cases q:M[j].2[a]? with
   | none=>rfl
   | some t=>rw[q] at k2;cases k2
  | some s=>
   rw[p] at k2 k3;cases q:M[j].2[a]? with
   | none=>rw[q] at k2;cases k2
   | some t=>
    rw[q] at k2 k3;have u1:s.1=t.1:=Qwv k2;have u2:g s.2=g t.2:=Qwv k3;show(jw M s.2 w).map _=(jw M t.2 w).map _;rw[ih s.2 t.2 (A.inn i _ s h1 (Qq8 p)) (A.inn j _ t h2 (Qq8 q)) u2,u1]
structure Xj(M N:List cG)(g:Nat->Nat)(kept:List Nat)(pl:Nat->Nat):Prop where
 len:N.length=kept.length
 inn:∀k∈kept,k<M.length
 row:∀(j k:Nat) (st:cG),kept[j]? = some k->M[k]? = some st->N[j]? = some (st.1,st.2.map λpt=>(pt.1,pl (g pt.2)))
 led:∀k∈kept,∀(st:cG),M[k]? = some st->∀pt∈st.2,∃(k':Nat),kept[pl (g pt.2)]? = some k'/\g k'=g pt.2
theorem MK{M N:List cG}{g:Nat->Nat}{kept:List Nat}{pl:Nat->Nat}(A:Alike M g)(J:Xj M N g kept pl):∀(w:List Nat) (j k:Nat),kept[j]? = some k->jw N j w=jw M k w:=by
 intro w
 induction w with
 | nil=>
  intro j k h;have hk:=J.inn k (Qq8 h);unfold jw;rw[J.row j k _ h (Qq7 hk),Qq7 hk]
  rfl
 | cons a w ih=>
  intro j k h;have hm:=Qq8 h;have hk:=J.inn k hm;have h1:=Qq7 hk;unfold jw;rw[J.row j k _ h h1,h1];show(match (M[k].2.map λpt=>(pt.1,pl (g pt.2)))[a]? with|none=>none|some pt=>(jw N pt.2 w).map (pt.1 ++ ·))=(match M[k].2[a]? with|none=>none|some pt=>(jw M pt.2 w).map (pt.1 ++ ·));rw[Qwx];cases p:M[k].2[a]? with
  | none=>rfl
  | some pt=>
   have hp:=Qq8 p;obtain⟨k',e1,e2⟩:=J.led k hm _ h1 pt hp;show(jw N (pl (g pt.2)) w).map _=(jw M pt.2 w).map _;rw[ih _ k' e1,Rm A w k' pt.2 (J.inn k' (Qq8 e1)) (A.inn k _ pt h1 hp) e2]
def cp:List Nat->List Nat->List Nat
 | a::as,b::bs=>if a=b then a::cp as bs else []
 | [],_=>[]
 | _::_,[]=>[]
theorem ZW:∀a b:List Nat,cp a b <+: a
 | [],b=>by cases b<;>exact Qzw
 | a::as,[]=>Qzw
 | a::as,b::bs=>by
  unfold cp;split
  ·exact(List.prefix_cons_inj a).mpr (ZW as bs)
  ·exact Qzw
theorem af6:∀a b:List Nat,cp a b <+: b
 | [],b=>by cases b<;>exact Qzw
 | a::as,[]=>Qzw
 | a::as,b::bs=>by
  unfold cp;split
  ·rename_i h;rw[h];exact(List.prefix_cons_inj b).mpr (af6 as bs)
  ·exact Qzw
theorem WY:∀{c a b:List Nat},c <+: a->c <+: b->c <+: cp a b
 | [],_,_,_,_=>Qzw
 | c::cs,a,b,h1,h2=>by
  obtain⟨t,rfl⟩:=h1;obtain⟨u,rfl⟩:=h2;show c::cs <+: cp (c::(cs++t)) (c::(cs++u));unfold cp;rw[if_pos rfl];exact(List.prefix_cons_inj c).mpr (WY (List.prefix_append ..) (List.prefix_append ..))
theorem adR(a b:List Nat):(cp a b).length<=a.length:=(ZW a b).length_le
def lcp(t:List Nat)(ts:List (List Nat)):List Nat:=(t::ts).foldl cp t
theorem Cw:∀(ts:List (List Nat)) (t:List Nat),ts.foldl cp t <+: t/\∀u∈ts,ts.foldl cp t <+: u
 | [],t=>⟨List.prefix_refl _,λu hu=>by simp at hu⟩
 | s::ts,t=>by
  obtain⟨h1,h2⟩:=Cw ts (cp t s);refine⟨h1.trans (ZW t s),λu hu=>?_⟩;rcases Qq5.mp hu with rfl|hu
  ·exact h1.trans (af6 t u)
  ·exact h2 u hu
theorem fold_max:∀(ts:List (List Nat)) (t c:List Nat),c <+: t->(∀u∈ts,c <+: u)->c <+: ts.foldl cp t
 | [],t,c,h,_=>h
 | s::ts,t,c,h,h2=>fold_max ts (cp t s) c (WY h (h2 s (Qqk ..))) λu hu=>h2 u (Qqj _ hu)
theorem We(t:List Nat)(ts:List (List Nat)):lcp t ts <+: t:=(Cw _ _).1
theorem aaW(t:List Nat)(ts:List (List Nat)){u:List Nat}(h:u∈ts):lcp t ts <+: u:=(Cw _ _).2 u (Qqj _ h)
theorem Qc{t c:List Nat}{ts:List (List Nat)}(h:c <+: t)(h2:∀u∈ts,c <+: u):c <+: lcp t ts:=
 fold_max _ _ _ h λu hu=>by
  rcases Qq5.mp hu with rfl|hu
  ·exact h
  ·exact h2 u hu
def ends(M:List cG):List (List Nat):=M.map (·.1)
def gO(M:List cG)(c:List (List Nat)):List (List Nat):=M.map λst=>lcp st.1 (st.2.map λpt=>pt.1++c.getD pt.2 [])
def PW(c d:List (List Nat)):Prop:=c.length=d.length/\∀i,c.getD i [] <+: d.getD i []
theorem getD_map{α β:Type}(f:α->β)(l:List α)(i:Nat)(b:β):(l.map f).getD i b=(l[i]?.map f).getD b:=by rw[Qq9,Qwx]
theorem Bb(M:List cG)(c:List (List Nat)):PW (gO M c) (ends M):=by
 refine⟨by unfold gO ends;rw[Qqq,Qqq],λi=>?_⟩;unfold gO ends;rw[getD_map,getD_map];cases M[i]? with
 | none=>exact List.prefix_refl _
 | some st=>exact We ..
theorem Q8{M:List cG}{c d:List (List Nat)}(h:PW c d):PW (gO M c) (gO M d):=by
 refine⟨by unfold gO;rw[Qqq,Qqq],λi=>?_⟩;unfold gO;rw[getD_map,getD_map];cases M[i]? with
 | none=>exact List.prefix_refl _
 | some st=>
  refine Qc (We ..) λu hu=>?_;obtain⟨pt,hp,rfl⟩:=Qwz.mp hu;refine(aaW st.1 (st.2.map λpt=>pt.1++c.getD pt.2 []) (Qwz.mpr ⟨pt,hp,rfl⟩)).trans ?_;exact(List.prefix_append_right_inj _).mpr (h.2 pt.2)
def uG(c:List (List Nat)):Nat:=(c.map List.length).sum
theorem PW.tail{a b:List Nat}{c d:List (List Nat)}(h:PW (a::c) (b::d)):a <+: b/\PW c d:=
 ⟨h.2 0,Nat.succ.inj h.1,λi=>h.2 (i+1)⟩
theorem PW.lt:∀{c d:List (List Nat)},PW c d->uG c<=uG d/\(c≠d->uG c<uG d)
 | [],[],_=>⟨Qqw _,λh=>absurd rfl h⟩
 | [],_::_,h=>by cases h.1
 | _::_,[],h=>by cases h.1
 | a::c,b::d,h=>by
  obtain⟨h1,h2⟩:=h.tail;obtain⟨h3,h4⟩:=PW.lt h2;have h5:=h1.length_le;have e1:uG (a::c)=a.length+uG c:=by unfold uG;rw[Qq2,List.sum_cons]
  have e2:uG (b::d)=b.length+uG d:=by unfold uG;rw[Qq2,List.sum_cons]
  rw[e1,e2];refine⟨by omega,λhn=>?_⟩;by_cases hcd:c=d
  ·subst hcd;have hab:a≠b:=λz=>hn (by rw[z]);have:a.length≠b.length:=λz=>hab (h1.eq_of_length z);omega
  ·have:=h4 hcd;omega
theorem Ob{M:List cG}{c:List (List Nat)}(h:c=gO M c):fM M c:=by
 have row:∀(i:Nat) (st:cG),M[i]? = some st->c.getD i []=lcp st.1 (st.2.map λpt=>pt.1++c.getD pt.2 []):=λi st hs=>by
  have e:c.getD i []=(gO M c).getD i []:=by rw[<-h]
  rw[e];unfold gO;rw[getD_map,hs]
  rfl
 refine⟨by rw[h];unfold gO;rw[Qqq],λi st hs=>?_,λi st pt hs hp=>?_⟩
 ·rw[row i st hs];exact We ..
 ·rw[row i st hs];exact aaW _ _ (Qwz.mpr ⟨pt,hp,rfl⟩)
theorem getD_none{c:List (List Nat)}{i:Nat}(h:c.length<=i):c.getD i []=[]:=by rw[Qq9,Qjj h];rfl
theorem fM.keep{M:List cG}{d k:List (List Nat)}(D:fM M d)(h:PW d k):PW d (gO M k):=by
 refine⟨by rw[D.len];unfold gO;rw[Qqq],λi=>?_⟩;unfold gO;rw[getD_map];cases e:M[i]? with
 | none=>
  rw[getD_none (by rw[D.len];exact List.getElem?_eq_none_iff.mp e)];exact Qzw
 | some st=>
  refine Qc (D.fin i st e) λu hu=>?_;obtain⟨pt,hp,rfl⟩:=Qwz.mp hu;exact(D.stp i st pt e hp).trans ((List.prefix_append_right_inj _).mpr (h.2 pt.2))
theorem fM.first{M:List cG}{d:List (List Nat)}(D:fM M d):PW d (ends M):=by
 refine⟨by rw[D.len];unfold ends;rw[Qqq],λi=>?_⟩;unfold ends;rw[getD_map];cases e:M[i]? with
 | none=>
  rw[getD_none (by rw[D.len];exact List.getElem?_eq_none_iff.mp e)];exact Qzw
 | some st=>exact D.fin i st e
def rT(M:List cG):Prop:=∀e,fM M e->∀i,e.getD i []=[]
section
variable{T:Type}[DecidableEq T]
def fL(ys:List T)(x:T):List T:=if x∈ys then ys else ys++[x]
def uniq(ts:List T):List T:=ts.foldl fL []
theorem qO(ys:List T)(x y:T):y∈fL ys x↔y∈ys\/y=x:=by
 unfold fL;split
 ·rename_i h;exact⟨.inl,λq=>q.elim id λe=>e ▸ h⟩
 ·rw[Qw6,Qq6]
theorem xF{ys:List T}(x:T)(h:ys.Nodup):(fL ys x).Nodup:=by
 unfold fL;split
 ·exact h
 ·rename_i hn;rw[List.nodup_append];exact⟨h,Qx9.mpr ⟨by simp,.nil⟩,λa ha b hb e=>hn (by rw[Qq6.mp hb] at e;exact e ▸ ha)⟩
theorem Ks:∀(ts ys:List T) (y:T),y∈ts.foldl fL ys↔y∈ys\/y∈ts
 | [],ys,y=>by simp
 | t::ts,ys,y=>by
  rw[Qz7,Ks ts,qO,Qq5,or_assoc]
theorem Qu:∀(ts ys:List T),ys.Nodup->(ts.foldl fL ys).Nodup
 | [],_,h=>h
 | t::ts,ys,h=>Qu ts _ (xF t h)
theorem iI{ts:List T}{y:T}:y∈uniq ts↔y∈ts:=by unfold uniq;rw[Ks];simp
theorem Gj(ts:List T):(uniq ts).Nodup:=Qu ts [] .nil
theorem qy(ts:List T):(uniq ts).length<=ts.length:=KB.qG ts _ (Gj ts) λp hp=>iI.mp hp
def cu:List T->T->Nat
 | [],_=>0
 | u::us,t=>if u=t then 0 else cu us t+1
theorem jC:∀{l:List T} {t:T},t∈l->l[cu l t]? = some t
 | u::us,t,h=>by
  unfold cu;split
  ·rename_i e;rw[e];rfl
  ·rename_i e;rw[List.getElem?_cons_succ];exact jC ((Qq5.mp h).resolve_left λz=>e z.symm)
theorem wU{l:List T}{t:T}(h:t∈l):cu l t<l.length:=(Qq4.mp (jC h)).1
theorem wV:∀{l:List T} {t:T} (m:List T),t∈l->cu (l++m) t=cu l t
 | u::us,t,m,h=>by
  rw[List.cons_append];unfold cu;split
  ·rfl
  ·rename_i e;rw[wV m ((Qq5.mp h).resolve_left λz=>e z.symm)]
theorem rE:∀{l:List T} {i:Nat} {t:T},l.Nodup->l[i]? = some t->cu l t=i
 | u::us,0,t,_,h=>by cases h;unfold cu;rw[if_pos rfl]
 | u::us,i+1,t,hn,h=>by
  rw[List.getElem?_cons_succ] at h;obtain⟨h1,h2⟩:=Qx9.mp hn;unfold cu;have hne:¬u=t:=λe=>h1 (e ▸ Qq8 h);rw[if_neg hne,rE h2 h]
theorem Sq{l:List T}{a b:T}(ha:a∈l)(hb:b∈l)(h:cu l a=cu l b):a=b:=by have h1:=jC ha;have h2:=jC hb;rw[h,h2] at h1;exact(Qwv h1).symm
end
def nums{T:Type}[DecidableEq T](ts:List T):List Nat:=ts.map λt=>cu (uniq ts) t
theorem qF{T:Type}[DecidableEq T](ts:List T):(nums ts).length=ts.length:=by unfold nums;rw[Qqq]
theorem m8{T:Type}[DecidableEq T]{ts:List T}{i:Nat}{t:T}(h:ts[i]? = some t):(nums ts).getD i 0=cu (uniq ts) t:=by
 unfold nums;rw[getD_map,h]
 rfl
theorem tH{T:Type}[DecidableEq T]{ts:List T}{i j:Nat}{t u:T}(h1:ts[i]? = some t)(h2:ts[j]? = some u)(h:(nums ts).getD i 0=(nums ts).getD j 0):t=u:=by rw[m8 h1,m8 h2] at h;exact Sq (iI.mpr (Qq8 h1)) (iI.mpr (Qq8 h2)) h
theorem PB{T:Type}[DecidableEq T](ts:List T):∀k∈nums ts,k<ts.length:=λk hk=>by
 obtain⟨t,ht,rfl⟩:=Qwz.mp hk;exact Qwq (wU (iI.mpr ht)) (qy ts)
def jd(M:List cG):List (List Nat×List (List Nat)):=M.map λst=>(st.1,st.2.map (·.1))
def dq(M:List cG)(g:List Nat):List (Nat×List Nat):=M.zipIdx.map λp=>(g.getD p.2 0,p.1.2.map λpt=>g.getD pt.2 0)
def cnt(g:List Nat):Nat:=(uniq (g.map λ(k:Nat)=>(k:Int))).length
theorem pF{M:List cG}{i:Nat}{st:cG}(h:M[i]? = some st):(jd M)[i]? = some (st.1,st.2.map (·.1)):=by unfold jd;rw[Qwx,h];rfl
theorem iu{M:List cG}{g:List Nat}{i:Nat}{st:cG}(h:M[i]? = some st):(dq M g)[i]? = some (g.getD i 0,st.2.map λpt=>g.getD pt.2 0):=by unfold dq;rw[Qwx,List.getElem?_zipIdx,h];simp
theorem m6(M:List cG)(g:List Nat):(dq M g).length=M.length:=by unfold dq;rw[Qqq,List.length_zipIdx]
theorem Oa(g:List Nat):cnt g<=g.length:=by unfold cnt;exact Qq0 (qy _) (by rw[Qqq];exact Qqw _)
theorem ZZ{g:List Nat}(h:0<g.length):0<cnt g:=by unfold cnt;refine Qj1 (a:=((g[0]:Nat):Int)) (iI.mpr (Qwz.mpr ⟨g[0],Qx2 h,rfl⟩))
theorem yR{g g':List Nat}(hl:g'.length=g.length)(hr:∀i j,i<g.length->j<g.length->g'.getD i 0=g'.getD j 0->g.getD i 0=g.getD j 0)(hc:cnt g'<=cnt g) :
  ∀i j,i<g.length->j<g.length->g.getD i 0=g.getD j 0->g'.getD i 0=g'.getD j 0:=by
 intro i j hi hj h;apply Classical.byContradiction;intro hne
 -- a way from the aiu groups to the others
 have gt:∀(l:List Nat) (k:Nat),k<l.length->l.getD k 0∈l:=λl k hk=>by
  rw[Qq9,Qq7 hk];exact Qx2 hk
 let F:Int->Int:=λv=>((g.getD (cu g' v.toNat) 0:Nat):Int)
 have hF:∀k,k<g.length->F ((g'.getD k 0:Nat):Int)=((g.getD k 0:Nat):Int):=λk hk=>by
  show((g.getD (cu g' (((g'.getD k 0:Nat):Int)).toNat) 0:Nat):Int)=_;rw[Qzx];have hm:g'.getD k 0∈g':=gt g' k (by omega);have h1:=wU hm;have e:g'.getD (cu g' (g'.getD k 0)) 0=g'.getD k 0:=by
   rw[Qq9 (i:=cu g' _),jC hm]
   rfl
  rw[hr _ k (by omega) hk e]
 have key:=KB.qG (((uniq (g'.map λ(k:Nat)=>(k:Int))).erase ((g'.getD j 0:Nat):Int)).map F) (uniq (g.map λ(k:Nat)=>(k:Int))) (Gj _) λv hv=>by
  obtain⟨n,hn,rfl⟩:=Qwz.mp (iI.mp hv);obtain⟨k,hk⟩:=List.mem_iff_getElem?.mp hn;have hkl:k<g.length:=(Qq4.mp hk).1;have ek:g.getD k 0=n:=by rw[Qq9,hk];rfl
  by_cases hkj:g'.getD k 0=g'.getD j 0
  ·-- the place of j is taken by i
   have e1:g.getD k 0=g.getD j 0:=hr k j hkl hj hkj;refine Qwz.mpr ⟨((g'.getD i 0:Nat):Int),?_,?_⟩
   ·refine(List.mem_erase_of_ne ?_).mpr (iI.mpr (Qwz.mpr ⟨_,gt g' i (by omega),rfl⟩));exact λz=>hne (Qvx z)
   ·rw[hF i hi,h,<-e1,ek]
  ·refine Qwz.mpr ⟨((g'.getD k 0:Nat):Int),?_,?_⟩
   ·refine(List.mem_erase_of_ne ?_).mpr (iI.mpr (Qwz.mpr ⟨_,gt g' k (by omega),rfl⟩));exact λz=>hkj (Qvx z)
   ·rw[hF k hkl,ek]
 have hmem:((g'.getD j 0:Nat):Int)∈uniq (g'.map λ(k:Nat)=>(k:Int)):=iI.mpr (Qwz.mpr ⟨_,gt g' j (by omega),rfl⟩);rw[Qqq,List.length_erase_of_mem hmem] at key;have:=Qj1 hmem;unfold cnt at hc;omega
structure pA(M:List cG)(g:List Nat):Prop where
 len:g.length=M.length
 fst:∀(i j:Nat) (s t:cG),M[i]? = some s->M[j]? = some t->g.getD i 0=g.getD j 0->s.1=t.1/\s.2.map (·.1)=t.2.map (·.1)
 lt:∀k∈g,k<M.length
theorem YD(M:List cG):pA M (nums (jd M)):=by
 refine⟨by rw[qF];unfold jd;rw[Qqq],λi j s t hs ht h=>?_,λk hk=>?_⟩
 ·have:=tH (pF hs) (pF ht) h;exact Prod.mk.inj this
 ·have:=PB _ k hk;unfold jd at this;rw[Qqq] at this;exact this
theorem cW{M:List cG}{i:Nat}(h:i<M.length):M[i]? = some M[i]:=Qq7 h
theorem pA.next{M:List cG}{g:List Nat}(P:pA M g):pA M (nums (dq M g)):=by
 refine⟨by rw[qF,m6],λi j s t hs ht h=>?_,λk hk=>?_⟩
 ·have:=tH (iu hs) (iu ht) h;exact P.fst i j s t hs ht (Qxy Prod.fst this)
 ·have:=PB _ k hk;rw[m6] at this;exact this
theorem Le{M:List cG}{g:List Nat}(P:pA M g)(hin:∀(i:Nat) (st:cG) (pt:List Nat×Nat),M[i]? = some st->pt∈st.2->pt.2<M.length)(hc:cnt (nums (dq M g))<=cnt g) :
  Alike M λi=>(nums (dq M g)).getD i 0:=by
 have hl:(nums (dq M g)).length=g.length:=by rw[qF,m6,P.len]
 have hsame:=yR hl (λi j hi hj h=>by
  rw[P.len] at hi hj;have:=tH (iu (g:=g) (cW hi)) (iu (g:=g) (cW hj)) h;exact Qxy Prod.fst this) hc
 rw[P.len] at hsame;refine⟨λi j s t hs ht h=>?_,hin⟩;have:=tH (iu (g:=g) hs) (iu (g:=g) ht) h;have h1:=Qxy Prod.fst this;have h2:s.2.map (λpt=>g.getD pt.2 0)=t.2.map (λpt=>g.getD pt.2 0):=Qxy Prod.snd this;obtain⟨e1,e2⟩:=P.fst i j s t hs ht h1;refine⟨e1,e2,?_⟩
 -- led to the same groups
 have hlen:s.2.length=t.2.length:=by have:=Qxy List.length h2;rwa [Qqq,Qqq] at this
 refine List.ext_getElem? λk=>?_;have h3:=Qxy (λl:List Nat=>l[k]?) h2;simp only[Qwx] at h3 ⊢;cases p:s.2[k]? with
 | none=>
  rw[p] at h3;cases q:t.2[k]? with
  | none=>rfl
  | some u=>rw[q] at h3;cases h3
 | some v=>
  rw[p] at h3;cases q:t.2[k]? with
  | none=>rw[q] at h3;cases h3
  | some u=>
   rw[q] at h3;have h4:g.getD v.2 0=g.getD u.2 0:=Qwv h3;show some ((nums (dq M g)).getD v.2 0)=some ((nums (dq M g)).getD u.2 0);rw[hsame v.2 u.2 (hin i s v hs (Qq8 p)) (hin j t u ht (Qq8 q)) h4]
def um(M:List cG)(g:List Nat):Prop:=∀(S:Nat->Prop) (h:Nat->Nat),(∀(i:Nat) (st:cG) (pt:List Nat×Nat),S i->M[i]? = some st->pt∈st.2->S pt.2)->
 (∀(i j:Nat) (s t:cG),S i->S j->M[i]? = some s->M[j]? = some t->h i=h j->s.1=t.1/\s.2.map (·.1)=t.2.map (·.1)/\s.2.map (λpt=>h pt.2)=t.2.map (λpt=>h pt.2))->
 ∀i j,S i->S j->i<M.length->j<M.length->h i=h j->g.getD i 0=g.getD j 0
theorem ZX(M:List cG):um M (nums (jd M)):=by intro S h hS hA i j si sj hi hj e;obtain⟨e1,e2,_⟩:=hA i j _ _ si sj (cW hi) (cW hj) e;rw[m8 (pF (cW hi)),m8 (pF (cW hj)),e1,e2]
theorem K1{M:List cG}{g:List Nat}(hin:∀(i:Nat) (st:cG) (pt:List Nat×Nat),M[i]? = some st->pt∈st.2->pt.2<M.length)(C:um M g):um M (nums (dq M g)):=by
 intro S h hS hA i j si sj hi hj e;obtain⟨_,_,e3⟩:=hA i j _ _ si sj (cW hi) (cW hj) e;rw[m8 (iu (cW hi)),m8 (iu (cW hj)),C S h hS hA i j si sj hi hj e]
 congr 2
 refine List.ext_getElem? λk=>?_;have h3:=Qxy (λl:List Nat=>l[k]?) e3;simp only[Qwx] at h3 ⊢;cases p:M[i].2[k]? with
 | none=>
  rw[p] at h3;cases q:M[j].2[k]? with
  | none=>rfl
  | some u=>rw[q] at h3;cases h3
 | some v=>
  rw[p] at h3;cases q:M[j].2[k]? with
  | none=>rw[q] at h3;cases h3
  | some u=>
   rw[q] at h3;have hv:=Qq8 p;have hu:=Qq8 q;show some (g.getD v.2 0)=some (g.getD u.2 0);rw[C S h hS hA v.2 u.2 (hS i _ v si (cW hi) hv) (hS j _ u sj (cW hj) hu) (hin i _ v (cW hi) hv) (hin j _ u (cW hj) hu) (Qwv h3)]
open Ev PySem L2
open uF (XS sides fit look m9 Dw)
open Ii (dF)
open j9 (Rl Is stp rd mz zf yK lay lf pJ oY Ry yO qp)
theorem afb{x:List Nat}{kvs:List (D×D)}(hk:Dw x kvs){s:Nat}(hs:s∈x)(b:Bool):∀c∈Ry kvs s b,c∈x:=by
 unfold Ry;split
 ·cases e:look kvs s with
  | none=>exact λc hc=>by rw[Qq6.mp hc];exact hs
  | some t=>exact λc hc=>(m9 hk e).2.2 c hc
 ·exact λc hc=>by rw[Qq6.mp hc];exact hs
theorem aeH{x:List Nat}{R:D}{ρ:Rl}(hR:Is x R ρ){s:j9.St}(hs:∀c∈s.2,c∈x){a:Nat}(ha:a∈x):(∃b,(stp ρ s a).1=(b,[a]))/\∀c∈(stp ρ s a).2,c∈x:=by
 cases hR with
 | put hc hl hr=>
  refine⟨⟨_,rfl⟩,λc hm=>?_⟩;rcases Qw6.mp hm with hm|hm
  ·exact hs c hm
  ·split at hm
   ·rw[Qq6.mp hm];exact hc
   ·simp at hm
 | chg hp hd hk hl hr=>
  obtain⟨b,h⟩:=s
  match h,hs with
  | [],hs=>exact⟨⟨_,rfl⟩,λc hc=>by simp[stp] at hc⟩
  | s::h,hs=>exact⟨⟨_,rfl⟩,afb hk (hs s (Qqk ..)) _⟩
theorem X3{x:List Nat}{R:D}{ρ:Rl}(hR:Is x R ρ):∀(z:List Nat) {s:j9.St},(∀c∈s.2,c∈x)->(∀a∈z,a∈x)->((rd ρ s z).1=s/\z=[]\/∃b,∃c∈x,(rd ρ s z).1=(b,[c]))/\∀c∈(rd ρ s z).2,c∈x
 | [],s,hs,_=>⟨.inl ⟨rfl,rfl⟩,λc hc=>by simp[rd] at hc⟩
 | a::z,s,hs,hz=>by
  have ha:=hz a (Qqk ..);obtain⟨⟨b,h1⟩,h2⟩:=aeH hR hs ha;have h1':∀c∈(stp ρ s a).1.2,c∈x:=λc hc=>by rw[h1] at hc;rw[Qq6.mp hc];exact ha
  obtain⟨h3,h4⟩:=X3 hR z h1' λb hb=>hz b (Qqj _ hb);refine⟨.inr ?_,λc hc=>?_⟩
  ·rcases h3 with ⟨e,_⟩|⟨b',c,hc,e⟩
   ·exact⟨b,a,ha,by show(rd ρ (stp ρ s a).1 z).1=_;rw[e,h1]⟩
   ·exact⟨b',c,hc,e⟩
  ·rcases Qw6.mp (show c∈(stp ρ s a).2++(rd ρ (stp ρ s a).1 z).2 from hc) with hc|hc
   ·exact h2 c hc
   ·exact h4 c hc
theorem XJ{x:List Nat}{R:D}{ρ:Rl}(hR:Is x R ρ){s:j9.St}(hs:∀c∈s.2,c∈x)(a:Nat):∀c∈(stp ρ s a).2,c∈x:=by
 cases hR with
 | put hc hl hr=>
  intro c hm;rcases Qw6.mp hm with hm|hm
  ·exact hs c hm
  ·split at hm
   ·rw[Qq6.mp hm];exact hc
   ·simp at hm
 | chg hp hd hk hl hr=>
  obtain⟨b,h⟩:=s
  match h,hs with
  | [],hs=>exact λc hc=>by simp[stp] at hc
  | s::h,hs=>exact afb hk (hs s (Qqk ..)) _
theorem abS{x:List Nat}{R:D}{ρ:Rl}(hR:Is x R ρ){z:List Nat}{s:j9.St}(hs:∀c∈s.2,c∈x)(hz:∀a∈z,a∈x):∀c∈(rd ρ s (z++[35])).2,c∈x:=by
 obtain⟨h1,h2⟩:=X3 hR z hs hz;have h3:∀c∈(rd ρ s z).1.2,c∈x:=by
  rcases h1 with ⟨e,_⟩|⟨b,c,hc,e⟩
  ·rw[e];exact hs
  ·rw[e];exact λd hd=>by rw[Qq6.mp hd];exact hc
 intro c hc;rw[j9.Aa] at hc;rcases Qw6.mp hc with hc|hc
 ·exact h2 c hc
 ·exact XJ hR h3 35 c hc
def U(x:List Nat):List D->List (List j9.St)
 | []=>[[]]
 | R::Ls=>yK (R::Ls)::([false,true].flatMap λb=>x.flatMap λc=>(U x Ls).map λu=>(b,[c])::u)
theorem QJ(x:List Nat)(Ls:List D):yK Ls∈U x Ls:=by
 cases Ls with
 | nil=>exact Qqk ..
 | cons R Ls=>exact Qqk ..
theorem ad7{x:List Nat}{R:D}{Ls:List D}{u:List j9.St}(b:Bool){c:Nat}(hc:c∈x)(h:u∈U x Ls):(b,[c])::u∈U x (R::Ls):=by refine Qqj _ (Qkj.mpr ⟨b,by cases b<;>simp,Qkj.mpr ⟨c,hc,Qwz.mpr ⟨u,h,rfl⟩⟩⟩)
theorem Am{x:List Nat}{R:D}{Ls:List D}{p:List j9.St}(h:p∈U x (R::Ls)):∃s u,p=s::u/\u∈U x Ls/\(∀c∈s.2,c∈x)/\(s::u=yK (R::Ls)\/∃b,∃c∈x,s=(b,[c])):=by
 rcases Qq5.mp h with rfl|h
 ·exact⟨_,yK Ls,rfl,QJ x Ls,λc hc=>by simp at hc,.inl rfl⟩
 ·obtain⟨b,_,h⟩:=Qkj.mp h;obtain⟨c,hc,h⟩:=Qkj.mp h;obtain⟨u,hu,rfl⟩:=Qwz.mp h;exact⟨(b,[c]),u,rfl,hu,λd hd=>by rw[Qq6.mp hd];exact hc,.inr ⟨b,c,hc,rfl⟩⟩
theorem Xf{x:List Nat}:∀(Ls:List D) (p:List j9.St),p∈U x Ls->Ls.length=p.length
 | [],p,h=>by rw[Qq6.mp h];rfl
 | R::Ls,p,h=>by
  obtain⟨s,u,rfl,hu,_⟩:=Am h;rw[Qqv,Qqv,Xf Ls u hu]
theorem aaK{x:List Nat}:∀(Ls:List D) (p:List j9.St) (z:List Nat),(∀R∈Ls,dF x R)->p∈U x Ls->(∀a∈z,a∈x)->(mz x Ls p z).1∈U x Ls
 | [],p,z,_,_,_=>Qq6.mpr rfl
 | R::Ls,p,z,hR,hp,hz=>by
  obtain⟨s,u,rfl,hu,hs,h⟩:=Am hp;obtain⟨h1,h2⟩:=X3 (oY (hR R (Qqk ..))) z hs hz;show(rd (pJ x R) s z).1::(mz x Ls u (rd (pJ x R) s z).2).1∈U x (R::Ls);have ht:=aaK Ls u (rd (pJ x R) s z).2 (λQ hQ=>hR Q (Qqj _ hQ)) hu h2;rcases h1 with ⟨e,hzn⟩|⟨b,c,hc,e⟩
  ·subst hzn;have hl:=Xf Ls u hu;have e2:(mz x Ls u (rd (pJ x R) s []).2).1=u:=by
    show(mz x Ls u []).1=u;rw[K16.wD Ls u hl]
   rw[e2];exact hp
  ·rw[e];exact ad7 b hc ht
theorem vH{α β:Type}(f:α->List β)(k:Nat):∀l:List α,(∀a∈l,(f a).length=k)->(l.flatMap f).length=l.length*k
 | [],_=>by simp
 | a::l,h=>by
  rw[List.flatMap_cons,Qqy,h a (Qqk ..),vH f k l λb hb=>h b (Qqj _ hb),Qqv,Nat.succ_mul,Nat.add_comm]
theorem QK(x:List Nat)(R:D)(Ls:List D):(U x (R::Ls)).length=1+2*(x.length*(U x Ls).length):=by show(yK (R::Ls)::([false,true].flatMap λb=>x.flatMap λc=>(U x Ls).map λu=>(b,[c])::u)).length=_;rw[Qqv,vH _ (x.length*(U x Ls).length) _ λb _=>vH _ (U x Ls).length _ λc _=>by rw[Qqq]];rw[Qqv,Qqv,Qx8];omega
theorem agf{x:List Nat}{Ls:List D}(h:x.length<=4)(h3:Ls.length<=3):(U x Ls).length<=585:=by
 have step:∀(R:D) (L:List D) (k:Nat),(U x L).length<=k->(U x (R::L)).length<=1+8*k:=λR L k hk=>by
  rw[QK];have:=Nat.mul_le_mul h hk;omega
 match Ls,h3 with
 | [],_=>exact Qq0 (Qqw 1) (by decide)
 | [a],_=>exact Qq0 (step a [] 1 (Qqw _)) (by decide)
 | [a,b],_=>exact Qq0 (step a _ 9 (step b [] 1 (Qqw _))) (by decide)
 | [a,b,c],_=>exact step a _ 73 (step b _ 9 (step c [] 1 (Qqw _)))
theorem ad6{x:List Nat}{Ls:List D}(h:x.length<=2)(h3:Ls.length<=4):(U x Ls).length<=341:=by
 have step:∀(R:D) (L:List D) (k:Nat),(U x L).length<=k->(U x (R::L)).length<=1+4*k:=λR L k hk=>by
  rw[QK];have:=Nat.mul_le_mul h hk;omega
 match Ls,h3 with
 | [],_=>exact Qq0 (Qqw 1) (by decide)
 | [a],_=>exact Qq0 (step a [] 1 (Qqw _)) (by decide)
 | [a,b],_=>exact Qq0 (step a _ 5 (step b [] 1 (Qqw _))) (by decide)
 | [a,b,c],_=>exact Qq0 (step a _ 21 (step b _ 5 (step c [] 1 (Qqw _)))) (by decide)
 | [a,b,c,d],_=>exact step a _ 85 (step b _ 21 (step c _ 5 (step d [] 1 (Qqw _))))
theorem aaJ{x:List Nat}:∀(Ls:List D) (p:List j9.St) (z:List Nat),(∀R∈Ls,dF x R)->p∈U x Ls->(∀a∈z,a∈x)->∀c∈(mz x Ls p z).2,c∈x
 | [],p,z,_,hp,hz=>by rw[Qq6.mp hp];exact hz
 | R::Ls,p,z,hR,hp,hz=>by
  obtain⟨s,u,rfl,hu,hs,h⟩:=Am hp;exact aaJ Ls u _ (λQ hQ=>hR Q (Qqj _ hQ)) hu (X3 (oY (hR R (Qqk ..))) z hs hz).2
theorem aa4{x:List Nat}:∀(Ls:List D) (p:List j9.St) (z:List Nat),(∀R∈Ls,dF x R)->p∈U x Ls->(∀a∈z,a∈x)->∀c∈zf x Ls p z,c∈x
 | [],p,z,_,hp,hz=>by rw[Qq6.mp hp];exact hz
 | R::Ls,p,z,hR,hp,hz=>by
  obtain⟨s,u,rfl,hu,hs,h⟩:=Am hp;exact aa4 Ls u _ (λQ hQ=>hR Q (Qqj _ hQ)) hu (abS (oY (hR R (Qqk ..))) hs hz)
open jJ (f9)
open uF (XS sides fit)
open j9 (bN mz zf yK lay yO qp)
open K17 (qM qS U4 aaU)
theorem SQ:il.jF=j9.jF:=rfl
theorem first_is:il.cX=j9.cX:=rfl
theorem Gv:il.dX=jJ.dX:=rfl
section
variable{T:Type}[DecidableEq T]{en:T->D}{key:T->NK}
def lW(en:T->D):Nat->List T->List (D×D)
 | _,[]=>[]
 | n,u::us=>(en u,.int (n:Int))::lW en (n+1) us
omit [DecidableEq T] in
theorem J4:∀(us:List T) (n:Nat) (t:T),lW en n (us++[t])=lW en n us++[(en t,.int ((n+us.length:Nat):Int))]
 | [],n,t=>rfl
 | u::us,n,t=>by
  show(en u,D.int (n:Int))::lW en (n+1) (us++[t])=(en u,D.int (n:Int))::(lW en (n+1) us++_);rw[J4 us (n+1) t,Qqv];have:n+1+us.length=n+(us.length+1):=by omega
  rw[this]
omit [DecidableEq T] in
theorem uy:∀(us:List T) (n:Nat),(lW en n us).length=us.length
 | [],n=>rfl
 | u::us,n=>by
  show(lW en (n+1) us).length+1=us.length+1;rw[uy us]
structure Lq(en:T->D)(key:T->NK):Prop where
 nk:∀t,Ff (en t)=some (key t)
 inj:∀p q,key p=key q->p=q
variable(Y:Lq en key)
include Y
theorem ux:∀(us:List T) (n:Nat) (t:T),lX (lW en n us) (key t)=if t∈us then some (.int ((n+cu us t:Nat):Int)) else none
 | [],n,t=>by simp[lW,lX]
 | u::us,n,t=>by
  have ih:=ux us (n+1) t;unfold lX at ih ⊢;unfold lW;rw[Qz6];have hu:oM (en u)=some (key u):=(yC (Y.nk u)).1;by_cases h:u=t
  ·subst h;simp only[hu,decide_true];have ei:cu (u::us) u=0:=by unfold cu;rw[if_pos rfl]
   rw[if_pos (Qqk ..),ei]
   rfl
  ·have hne:¬(some (key u)=some (key t)):=λe=>h (Y.inj u t (Qwv e));simp only[hu,Qwk hne];have ei:cu (u::us) t=cu us t+1:=by conv=>lhs;unfold cu;rw[if_neg h]
   rw[ih,ei];by_cases hm:t∈us
   ·rw[if_pos hm,if_pos (Qqj _ hm)];have:n+1+cu us t=n+(cu us t+1):=by omega
    rw[this]
   ·rw[if_neg hm,if_neg λz=>(Qq5.mp z).elim (λe=>h e.symm) hm]
theorem Hl(us:List T)(t:T)(h:t ∉ us):uN (lW en 0 us) (en t) (key t) (.int (us.length:Int))=lW en 0 (us++[t]):=by
 unfold uN;rw[ux Y,if_neg h,J4,Nat.zero_add]
 rfl
theorem Fo(us:List T)(t:T)[dc:Decidable (t∈us)]:oA (en t) (.fG (lW en 0 us))=some (.bl (!decide (t∈us))):=by
 show(Ff (en t)).map _=_;rw[Y.nk];show some (D.bl (!(lX (lW en 0 us) (key t)).isSome))=_;rw[ux Y];by_cases h:t∈us
 ·rw[if_pos h,Qw2 h];rfl
 ·rw[if_neg h,Qwk h];rfl
theorem Hm(us:List T)(t:T)(h:t∈us):rY (.fG (lW en 0 us)) (en t)=some (.int (cu us t:Int)):=by show(Ff (en t)).bind _=_;rw[Y.nk];show lX (lW en 0 us) (key t)=_;rw[ux Y,if_pos h,Nat.zero_add]
omit Y
theorem uE(us:List T)(t:T):t∈fL us t:=(qO us t t).mpr (.inr rfl)
theorem Lf{us:List T}{t u:T}(h:u∈us):cu (fL us t) u=cu us u:=by
 unfold fL;split
 ·rfl
 ·exact wV _ h
theorem Xb(us:List T)(t:T):(fL us t).length<=us.length+1:=by
 unfold fL;split
 ·omega
 ·rw[Qqy];exact Qqw _
theorem Lg{us:List T}{t u:T}{i:Nat}(h:us[i]? = some u):(fL us t)[i]? = some u:=by
 unfold fL;split
 ·exact h
 ·exact KB.Qm h
end
abbrev P:=List j9.St
def lU(p:P):D:=.tup (p.map bN)
theorem J7:Lq lU qS:=⟨aaU,λ_ _ h=>U4 h⟩
def aJ(pt:List Nat×Nat):D:=.tup [.str pt.1,.int (pt.2:Int)]
def aV(st:cG):D:=.tup [.str st.1,.tup (st.2.map aJ)]
noncomputable def Fx(x:List Nat)(Ls:List D)(p:P)(a:Nat):P:=(mz x Ls p [a]).1
noncomputable def Nb(x:List Nat)(Ls:List D)(p:P)(a:Nat):List Nat:=(mz x Ls p [a]).2
noncomputable def m7(x:List Nat)(Ls:List D)(ps:List P)(p:P)(a:Nat):List Nat×Nat:=(Nb x Ls p a,cu ps (Fx x Ls p a))
structure OkP(x:List Nat)(s:D)(Rs:List D)(p:P):Prop where
 o:yO x s Rs p
 u:p∈U x (lay s Rs)
abbrev Du(jK ord:D)(ps:List P)(rows:List D)(a5 a6 a7 a8:OD):Ev.Env:=
 [Zf jK,Zf ord,Zl (ps.map lU),Zt (.fG (lW lU 0 ps)),Zl rows,a5,a6,a7,a8]
structure Xl(x:List Nat)(s:D)(Rs:List D)(ps:List P):Prop where
 nd:ps.Nodup
 z0:ps[0]? = some (yK (lay s Rs))
 ok:∀p∈ps,OkP x s Rs p
 reach:∀p∈ps,∃w:List Nat,(∀a∈w,a∈x)/\w.foldl (Fx x (lay s Rs)) (yK (lay s Rs))=p
section
variable{x:List Nat}{s:D}{Rs:List D}{jK:D}
theorem OkP.next{p:P}(h:OkP x s Rs p){a:Nat}(ha:a∈x):il.mG [.tup [s,.tup Rs],lU p,.str [a]]=some (.tup [lU (Fx x (lay s Rs) p a),.str (Nb x (lay s Rs) p a)])/\OkP x s Rs (Fx x (lay s Rs) p a):=by
 have hz:∀b ∈ [a],b∈35::x:=λb hb=>by rw[Qq6.mp hb];exact Qqj _ ha
 obtain⟨h1,h2⟩:=j9.read_on h.o hz (by show 1<=7;decide);exact⟨h1,h2,aaK _ _ _ (j9.tV h.o.hR) h.u λb hb=>by rw[Qq6.mp hb];exact ha⟩
theorem Xl.add{ps:List P}(F:Xl x s Rs ps){p:P}(hp:p∈ps){a:Nat}(ha:a∈x):Xl x s Rs (fL ps (Fx x (lay s Rs) p a)):=by
 refine⟨xF _ F.nd,Lg F.z0,λq hq=>?_,λq hq=>?_⟩
 ·rcases(qO _ _ _).mp hq with hq|rfl
  ·exact F.ok q hq
  ·exact((F.ok p hp).next ha).2
 ·rcases(qO _ _ _).mp hq with hq|rfl
  ·exact F.reach q hq
  ·obtain⟨w,h1,h2⟩:=F.reach p hp;refine⟨w++[a],λb hb=>?_,by rw[List.foldl_append,h2];rfl⟩;rcases Qw6.mp hb with hb|hb
   ·exact h1 b hb
   ·rw[Qq6.mp hb];exact ha
theorem Xl.few{ps:List P}(F:Xl x s Rs ps)(hu:(U x (lay s Rs)).length<=600):ps.length<=600:=Qq0 (KB.qG _ ps F.nd λq hq=>(F.ok q hq).u) hu
theorem aeO{ps:List P}(F:Xl x s Rs ps)(hu:(U x (lay s Rs)).length<=600){rows steps:List D}{p:P}(hp:ps[rows.length]? = some p)(hs:steps.length<=100){a:Nat}(ha:a∈x)(a7 a8:OD) :
  il.iU (Du jK (.tup [s,.tup Rs]) ps rows (Zl steps) (Zs [a]) a7 a8) =
   .nx (Du jK (.tup [s,.tup Rs]) (fL ps (Fx x (lay s Rs) p a)) rows (Zl (steps++[aJ (m7 x (lay s Rs) (fL ps (Fx x (lay s Rs) p a)) p a)])) (Zs [a]) (Zf (lU (Fx x (lay s Rs) p a))) (Zs (Nb x (lay s Rs) p a))):=by
 obtain⟨h1,_⟩:=(F.ok p (Qq8 hp)).next ha;have hlen:=F.few hu;unfold m7 aJ;generalize Fx x (lay s Rs) p a=q at *;generalize Nb x (lay s Rs) p a=o at *;generalize D.tup [s,.tup Rs]=O at *;have hix:cU (.lst (ps.map lU)) (.int (rows.length:Int))=some (lU p):=by show xQ (ps.map lU) (rows.length:Int)=_;exact rQ (by rw[Qwx,hp];rfl)
 unfold il.iU
 let E0:Ev.Env:=Du jK O ps rows (Zl steps) (Zs [a]) (Zf (lU q)) (Zs o)
 refine(aB (e:=E0) ?_).trans ?_
 ·let E1:Ev.Env:=Du jK O ps rows (Zl steps) (Zs [a]) a7 a8
  refine bQ (d:=.tup [lU q,.str o]) (e:=E1) ?_ rfl;refine aM (ds:=[O,lU p,.str [a]]) (aH (e1:=E1) rfl (aH (e1:=E1) ?_ rfl)) h1;exact vI (x:=.lst (ps.map lU)) (y:=.int (rows.length:Int)) rfl rfl rfl hix
 have fin:∀qs:List P,q∈qs->dJ 5 (bJ (Zv 8 (aa (au rY 3 (aO 7)) aj))) (Du jK O qs rows (Zl steps) (Zs [a]) (Zf (lU q)) (Zs o)) =
   .nx (Du jK O qs rows (Zl (steps++[.tup [.str o,.int (cu qs q:Int)]])) (Zs [a]) (Zf (lU q)) (Zs o)):=λqs hq=>by
  let E2:Ev.Env:=Du jK O qs rows (Zl steps) (Zs [a]) (Zf (lU q)) (Zs o)
  refine(Ev.pH (i:=5) (xs:=steps) (d:=.tup [.str o,.int (cu qs q:Int)]) (e:=E2) rfl ?_ rfl (Qw4 hs (by decide))).trans rfl;refine cB (ds:=[.str o,.int (cu qs q:Int)]) (aH (e1:=E2) rfl (aH ?_ bw)) Ev.zZ;exact vI (x:=.fG (lW lU 0 qs)) (y:=lU q) rfl rfl rfl (Hm J7 qs q hq)
 have ht:dD (au oA 7 (aO 3)) (Du jK O ps rows (Zl steps) (Zs [a]) (Zf (lU q)) (Zs o)) = .ok (!decide (q∈ps)) (Du jK O ps rows (Zl steps) (Zs [a]) (Zf (lU q)) (Zs o)):=
  d8 (jY (x:=lU q) (y:=.fG (lW lU 0 ps)) rfl rfl rfl (Fo J7 ps q))
 by_cases hq:q∈ps
 ·rw[Qw2 hq] at ht;refine(aB (e:=E0) (fK ht)).trans ?_;have e:fL ps q=ps:=if_pos hq;rw[e];exact fin ps hq
 ·rw[Qwk hq] at ht;have e:fL ps q=ps++[q]:=if_neg hq;rw[e];refine(aB (e:=Du jK O (ps++[q]) rows (Zl steps) (Zs [a]) (Zf (lU q)) (Zs o)) ?_).trans (fin (ps++[q]) (by simp));refine(lz ht).trans ?_;have s4:=qM (i:=3) (k:=aL 7) (a:=ao cz (aa (aO 2) aj)) (env:=E0) (e1:=E0) (e2:=E0) (d:=.int ((ps.map lU).length:Int)) (kd:=lU q) (z:=.fG (lW lU 0 ps)) (o:=true) (q:=qS q) (kvs:=lW lU 0 ps) rfl rfl rfl rfl (J7.nk q)
   (by rw[uy];exact Qw4 hlen (by decide))
  rw[Qqq,Hl J7 ps q hq] at s4;rw[aB s4];refine(Ev.pH (i:=2) (xs:=ps.map lU) (d:=lU q) (e:=[Zf jK,Zf O,Zl (ps.map lU),Zt (.fG (lW lU 0 (ps++[q]))),Zl rows,Zl steps,Zs [a],Zf (lU q),Zs o]) rfl rfl rfl (by rw[Qqq];exact Qw4 hlen (by decide))).trans ?_;have e5:ps.map lU++[lU q]=(ps++[q]).map lU:=by rw[Qxz];rfl
  rw[e5]
  rfl
theorem aeP(hu:(U x (lay s Rs)).length<=600){rows:List D}{p:P}(hx4:x.length<=50):∀(rest done:List Nat) (ps:List P) (a6 a7 a8:OD),x=done++rest->Xl x s Rs ps->ps[rows.length]? = some p->(∀a∈done,Fx x (lay s Rs) p a∈ps)->
  ∃ps' b6 b7 b8,ir (ak 6) il.iU (sG rest) (Du jK (.tup [s,.tup Rs]) ps rows (Zl (done.map λa=>aJ (m7 x (lay s Rs) ps p a))) a6 a7 a8) =
   .nx (Du jK (.tup [s,.tup Rs]) ps' rows (Zl (x.map λa=>aJ (m7 x (lay s Rs) ps' p a))) b6 b7 b8)/\Xl x s Rs ps'/\(∀a∈x,Fx x (lay s Rs) p a∈ps')/\∃more,ps'=ps++more:=by
 intro rest
 induction rest with
 | nil=>
  intro done ps a6 a7 a8 hx F hp hd;rw[Qw8] at hx;subst hx;exact⟨ps,a6,a7,a8,rfl,F,hd,[],by rw[Qw8]⟩
 | cons a rest ih=>
  intro done ps a6 a7 a8 hx F hp hd;have ha:a∈x:=by rw[hx];simp
  have hx':x=(done++[a])++rest:=by rw[hx];simp
  have hdl:done.length<=50:=by have:=Qxy List.length hx;rw[Qqy] at this;omega
  have h1:=aeO (jK:=jK) F hu (steps:=done.map λa=>aJ (m7 x (lay s Rs) ps p a)) hp (by rw[Qqq];omega) ha a7 a8;have F':=F.add (Qq8 hp) ha;have hs:(done.map λb=>aJ (m7 x (lay s Rs) ps p b))++[aJ (m7 x (lay s Rs) (fL ps (Fx x (lay s Rs) p a)) p a)]=(done++[a]).map λb=>aJ (m7 x (lay s Rs) (fL ps (Fx x (lay s Rs) p a)) p b):=by
   rw[Qxz]
   congr 1
   refine Qx4 λb hb=>?_;unfold m7;rw[Lf (hd b hb)]
  rw[hs] at h1;obtain⟨ps',b6,b7,b8,g1,g2,g3,more,g4⟩:=ih (done++[a]) (fL ps (Fx x (lay s Rs) p a)) _ _ _ hx' F' (Lg hp) (λb hb=>by
   rcases Qw6.mp hb with hb|hb
   ·exact(qO _ _ _).mpr (.inl (hd b hb))
   ·rw[Qq6.mp hb];exact uE _ _)
  refine⟨ps',b6,b7,b8,?_,g2,g3,?_⟩
  ·rw[<-g1];exact KB.jO rfl h1
  ·rw[g4];unfold fL;split
   ·exact⟨more,rfl⟩
   ·exact⟨_,Qxk ..⟩
noncomputable def lV(x:List Nat)(Ls:List D)(ps:List P)(p:P):D:=.tup (x.map λa=>aJ (m7 x Ls ps p a))
structure All(x:List Nat)(s:D)(Rs:List D)(ps:List P):Prop extends Xl x s Rs ps where
 clo:∀p∈ps,∀a∈x,Fx x (lay s Rs) p a∈ps
theorem Wo{ps more:List P}{q:P}(h:q∈ps):cu (ps++more) q=cu ps q:=wV _ h
theorem X6(hu:(U x (lay s Rs)).length<=600)(hx4:x.length<=50)(hso:il.dX [jK]=some (.tup (sG x))):∀(m n:Nat) (ps:List P) (a5 a6 a7 a8:OD),n+m=7000->n<=ps.length->Xl x s Rs ps->(∀p∈ps.take n,∀a∈x,Fx x (lay s Rs) p a∈ps)->
  ∃ps' b5 b6 b7 b8,dI (dD (aR uP (ao cz (aa (aO 4) aj)) (ao cz (aa (aO 2) aj)))) il.iT m (Du jK (.tup [s,.tup Rs]) ps ((ps.take n).map (lV x (lay s Rs) ps)) a5 a6 a7 a8) =
   .nx (Du jK (.tup [s,.tup Rs]) ps' (ps'.map (lV x (lay s Rs) ps')) b5 b6 b7 b8)/\All x s Rs ps':=by
 intro m
 induction m with
 | zero=>
  intro n ps a5 a6 a7 a8 hm hn F hc;have:=F.few hu;omega
 | succ m ih=>
  intro n ps a5 a6 a7 a8 hm hn F hc;have hrl:((ps.take n).map (lV x (lay s Rs) ps)).length=n:=by rw[Qqq,Qzv];omega
  have ht:dD (aR uP (ao cz (aa (aO 4) aj)) (ao cz (aa (aO 2) aj))) (Du jK (.tup [s,.tup Rs]) ps ((ps.take n).map (lV x (lay s Rs) ps)) a5 a6 a7 a8) = .ok (decide (n<ps.length)) (Du jK (.tup [s,.tup Rs]) ps ((ps.take n).map (lV x (lay s Rs) ps)) a5 a6 a7 a8):=by
   refine d8 (cj (x:=.int (((ps.take n).map (lV x (lay s Rs) ps)).length:Int)) (y:=.int ((ps.map lU).length:Int)) rfl rfl ?_);rw[hrl,Qqq];show some (D.bl (decide ((n:Int)<(ps.length:Int))))=_
   congr 2
   simp
  by_cases hlt:n<ps.length
  ·rw[Qw2 hlt] at ht;have hp:ps[n]? = some ps[n]:=Qq7 hlt;obtain⟨ps',b6,b7,b8,g1,g2,g3,more,g4⟩:=aeP (jK:=jK) (p:=ps[n]) (rows:=(ps.take n).map (lV x (lay s Rs) ps)) hu hx4 x [] ps a6 a7 a8 rfl F (by rw[hrl];exact hp) (λa ha=>by simp at ha);have hn':n+1<=ps'.length:=by rw[g4,Qqy];omega
   have hf:=g2.few hu;have e1:(ps.take n).map (lV x (lay s Rs) ps)++[lV x (lay s Rs) ps' ps[n]]=(ps'.take (n+1)).map (lV x (lay s Rs) ps'):=by
    have e2:ps'.take (n+1)=ps.take n++[ps[n]]:=by rw[g4,List.take_append_of_le_length (by omega),List.take_succ_eq_append_getElem hlt]
    rw[e2,Qxz]
    congr 1
    refine Qx4 λp hpm=>?_;unfold lV
    congr 1
    refine Qx4 λa ha=>?_;unfold m7;rw[g4,Wo (hc p hpm a ha)]
   have hb:il.iT (Du jK (.tup [s,.tup Rs]) ps ((ps.take n).map (lV x (lay s Rs) ps)) a5 a6 a7 a8) = .nx (Du jK (.tup [s,.tup Rs]) ps' ((ps'.take (n+1)).map (lV x (lay s Rs) ps')) (Zl (x.map λa=>aJ (m7 x (lay s Rs) ps' ps[n] a))) b6 b7 b8):=by
    rw[<-e1];generalize(ps.take n).map (lV x (lay s Rs) ps)=rows at *;unfold il.iT
    let E0:Ev.Env:=Du jK (.tup [s,.tup Rs]) ps rows (Zl []) a6 a7 a8
    refine(aB (e:=E0) rfl).trans ?_;refine(aB ((dh (ds:=sG x) (e:=E0) (xn (aM (ds:=[jK]) rfl hso) rfl)).trans g1)).trans ?_;have t6:dD (aR gGt (ao cz (aa (aO 2) aj)) (Zi 600)) (Du jK (.tup [s,.tup Rs]) ps' rows (Zl (x.map λa=>aJ (m7 x (lay s Rs) ps' ps[n] a))) b6 b7 b8) = .ok false (Du jK (.tup [s,.tup Rs]) ps' rows (Zl (x.map λa=>aJ (m7 x (lay s Rs) ps' ps[n] a))) b6 b7 b8):=by refine d8 (cj (x:=.int ((ps'.map lU).length:Int)) (y:=.int 600) rfl rfl ?_);rw[Qqq];show some (D.bl (decide ((600:Int)<(ps'.length:Int))))=_;rw[Qwk (by omega)]
    refine(aB (fK t6)).trans ?_;exact(Ev.pH (i:=4) (xs:=rows) (d:=lV x (lay s Rs) ps' ps[n]) (e:=Du jK (.tup [s,.tup Rs]) ps' rows (Zl (x.map λa=>aJ (m7 x (lay s Rs) ps' ps[n] a))) b6 b7 b8) rfl rfl rfl (by rw[hrl];exact Qwq hlt (Qq0 (F.few hu) (by decide)))).trans rfl
   rw[KB.Av ht hb];refine ih (n+1) ps' _ _ _ _ (by omega) hn' g2 λp hpm a ha=>?_;have e2:ps'.take (n+1)=ps.take n++[ps[n]]:=by rw[g4,List.take_append_of_le_length (by omega),List.take_succ_eq_append_getElem hlt]
   rw[e2] at hpm;rcases Qw6.mp hpm with hpm|hpm
   ·rw[g4];exact List.mem_append_left _ (hc p hpm a ha)
   ·rw[Qq6.mp hpm];exact g3 a ha
  ·rw[Qwk hlt] at ht;have e:n=ps.length:=by omega
   have e2:ps.take n=ps:=by rw[e,List.take_length]
   rw[e2] at hc;refine⟨ps,a5,a6,a7,a8,?_,F,hc⟩;rw[KB.Ip ht,e2]
theorem Jx(hx:x∈XS)(hs:s∈sides)(hR:∀R∈Rs,dF x R)(h4:Rs.length<=4)(hu:(U x (lay s Rs)).length<=600)(hso:il.dX [jK]=some (.tup (sG x))) :
  ∃ps,il.pg [jK,.tup [s,.tup Rs]]=some (.tup [.lst (ps.map lU),.lst (ps.map (lV x (lay s Rs) ps))])/\All x s Rs ps:=by
 have hx4:x.length<=50:=Qq0 (jJ.qm x hx) (by decide);have hf:il.cX [.tup [s,.tup Rs]]=some (lU (yK (lay s Rs))):=by rw[first_is];exact j9.first_standing hx hs hR (by omega)
 have o0:yO x s Rs (yK (lay s Rs)):=⟨hx,hs,hR,h4,by unfold yK;rw[Qqq,j9.oh],j9.adD x _⟩;have F0:Xl x s Rs [yK (lay s Rs)]:=⟨Qx9.mpr ⟨by simp,.nil⟩,rfl,λp hp=>by rw[Qq6.mp hp];exact⟨o0,QJ _ _⟩,λp hp=>by rw[Qq6.mp hp];exact⟨[],λa ha=>by simp at ha,rfl⟩⟩;obtain⟨ps,b5,b6,b7,b8,g1,g2⟩:=X6 (jK:=jK) hu hx4 hso 7000 0 [yK (lay s Rs)] none none none none rfl (Qx3 _) F0 (λp hp=>by simp at hp);refine⟨ps,?_,g2⟩;generalize yK (lay s Rs)=f at *;generalize D.tup [s,.tup Rs]=O at *;refine cR (env:=[Zf jK,Zf O,Zf (.lst (ps.map lU)),Zt (.fG (lW lU 0 ps)),Zf (.lst (ps.map (lV x (lay s Rs) ps))),b5,b6,b7,b8]) ?_;unfold il.rM
 let E0:Ev.Env:=[Zf jK,Zf O,Zl [lU f],Zn,Zn,Zn,Zn,Zn,Zn]
 refine(aB (e:=E0) ?_).trans ?_
 ·exact(oR (d:=.lst [lU f]) (e:=[Zf jK,Zf O,Zn,Zn,Zn,Zn,Zn,Zn,Zn]) (Kw (ds:=[lU f]) (aH (aM (ds:=[O]) rfl hf) bw) Ev.zz1)).trans rfl
 refine(aB (e:=[Zf jK,Zf O,Zl [lU f],Zt (.fG [(lU f,.int 0)]),Zn,Zn,Zn,Zn,Zn]) ?_).trans ?_
 ·refine(oR (d:=.fG [(lU f,.int 0)]) (e:=E0) ?_).trans rfl;unfold CK;show(match Ff (lU f) with|some _=>_|none=>_)=_;rw[J7.nk]
 refine(aB (e:=Du jK O [f] [] none none none none) rfl).trans ?_;refine(aB g1).trans ?_;exact bY (cB (ds:=[.lst (ps.map lU),.lst (ps.map (lV x (lay s Rs) ps))]) rfl Ev.zZ)
end
theorem W8{a b:gK}{env e:Ev.Env}(h:a env = .ok false e):ik a b env = .ok false e:=by unfold ik;rw[h];rfl
theorem Oj{a b:gK}{env e:Ev.Env}(h:a env = .ok true e):ik a b env=b e:=by unfold ik;rw[h];rfl
theorem vD(a b:Nat):uP (.int (a:Int)) (.int (b:Int))=some (.bl (decide (a<b))):=by
 show some (D.bl (decide ((a:Int)<(b:Int))))=_
 congr 2
 simp
theorem add_str{a b:List Nat}(h:a.length+b.length<=5000):dC (.str a) (.str b)=some (.str (a++b)):=by unfold dC;exact if_pos (Qq0 h (by decide))
theorem rD{α:Type}(f:α->D)(l:List α){q:Nat}{a:α}(h:l[q]? = some a):cU (.lst (l.map f)) (.int (q:Int))=some (f a):=by show xQ (l.map f) (q:Int)=_;exact rQ (by rw[Qwx,h];rfl)
def tS:gK:=ik (dD (au uP 3 (ao cz (aa (aO 1) aj)))) (ik (dD (au uP 3 (ao cz (aa (aO 2) aj)))) (dD (aR pP (au cU 1 (aO 3)) (au cU 2 (aO 3)))))
abbrev zF(A0:OD)(u t:List Nat)(k:Nat):Ev.Env:=[A0,Zs u,Zs t,Zf (.int (k:Int))]
theorem abD(A0:OD)(u t:List Nat)(k:Nat):dD (au uP 3 (ao cz (aa (aO 1) aj))) (zF A0 u t k) = .ok (decide (k<u.length)) (zF A0 u t k):=
 d8 (jY (i:=3) (b:=ao cz (aa (aO 1) aj)) (env:=zF A0 u t k) (e2:=zF A0 u t k) (x:=.int (k:Int)) (y:=.int (u.length:Int)) rfl rfl rfl (vD k u.length))
theorem aez(A0:OD)(u t:List Nat)(k:Nat):dD (au uP 3 (ao cz (aa (aO 2) aj))) (zF A0 u t k) = .ok (decide (k<t.length)) (zF A0 u t k):=
 d8 (jY (i:=3) (b:=ao cz (aa (aO 2) aj)) (env:=zF A0 u t k) (e2:=zF A0 u t k) (x:=.int (k:Int)) (y:=.int (t.length:Int)) rfl rfl rfl (vD k t.length))
theorem agV(A0:OD)(u t:List Nat)(k a b:Nat)(h1:u[k]? = some a)(h2:t[k]? = some b):dD (aR pP (au cU 1 (aO 3)) (au cU 2 (aO 3))) (zF A0 u t k) = .ok (decide (a=b)) (zF A0 u t k):=by
 have gx:∀(z:List Nat) (c:Nat),z[k]? = some c->cU (.str z) (.int (k:Int))=some (.str [c]):=λz c h=>by
  show(xQ z (k:Int)).map _=_;rw[rQ h]
  rfl
 have e:pP (.str [a]) (.str [b])=some (.bl (decide (a=b))):=by
  show some (D.bl ([a] == [b]))=_
  congr 2
  by_cases h:a=b
  ·rw[h];simp
  ·rw[Qwk h];exact Qx7.mpr λz=>h (Qjq z).1
 exact d8 (cj (x:=.str [a]) (y:=.str [b]) (e1:=zF A0 u t k) (jY (i:=1) (b:=aO 3) (env:=zF A0 u t k) (e2:=zF A0 u t k) (x:=.str u) (y:=.int (k:Int)) rfl rfl rfl (gx u a h1))
  (jY (i:=2) (b:=aO 3) (env:=zF A0 u t k) (e2:=zF A0 u t k) (x:=.str t) (y:=.int (k:Int)) rfl rfl rfl (gx t b h2)) e)
theorem Ji(A0:OD):∀(u t pre:List Nat) (m:Nat),u.length<m->
  dI tS il.gA m (zF A0 (pre++u) (pre++t) pre.length) = .nx (zF A0 (pre++u) (pre++t) (pre++cp u t).length)
 | [],t,pre,0,hm=>absurd hm (Qk6 _)
 | _::_,t,pre,0,hm=>absurd hm (Qk6 _)
 | [],t,pre,m+1,hm=>by
  have h1:=abD A0 (pre++[]) (pre++t) pre.length;rw[Qwk (by rw[Qw8];exact Qzj _)] at h1;have:cp [] t=[]:=by cases t<;>rfl
  have ht:tS (zF A0 (pre++[]) (pre++t) pre.length) = .ok false (zF A0 (pre++[]) (pre++t) pre.length):=W8 h1;rw[KB.Ip ht,this,Qw8]
 | a::u,[],pre,m+1,hm=>by
  have h1:=abD A0 (pre++a::u) (pre++[]) pre.length;have h2:=aez A0 (pre++a::u) (pre++[]) pre.length;rw[Qw2 (by rw[Qqy,Qqv];omega)] at h1;rw[Qwk (by rw[Qw8];exact Qzj _)] at h2;have:cp (a::u) []=[]:=rfl;have ht:tS (zF A0 (pre++a::u) (pre++[]) pre.length) = .ok false (zF A0 (pre++a::u) (pre++[]) pre.length):=(Oj h1).trans (W8 h2);rw[KB.Ip ht,this,Qw8]
 | a::u,b::t,pre,m+1,hm=>by
  have h1:=abD A0 (pre++a::u) (pre++b::t) pre.length;have h2:=aez A0 (pre++a::u) (pre++b::t) pre.length;have h3:=agV A0 (pre++a::u) (pre++b::t) pre.length a b (by simp) (by simp);rw[Qw2 (by rw[Qqy,Qqv];omega)] at h1 h2;have ht:tS (zF A0 (pre++a::u) (pre++b::t) pre.length) = .ok (decide (a=b)) (zF A0 (pre++a::u) (pre++b::t) pre.length):=(Oj h1).trans ((Oj h2).trans h3);by_cases hab:a=b
  ·subst hab;rw[Qw2 rfl] at ht;have e1:∀v:List Nat,pre++a::v=(pre++[a])++v:=λv=>by simp
   have e2:((pre++[a]).length:Int)=(pre.length:Int)+1:=by rw[Qqy,Qw9];rfl
   have hb:il.gA (zF A0 (pre++a::u) (pre++a::t) pre.length) = .nx (zF A0 ((pre++[a])++u) ((pre++[a])++t) (pre++[a]).length):=by
    unfold zF;rw[<-e1 u,<-e1 t,e2]
    rfl
   rw[Qqv] at hm;rw[KB.Av ht hb,Ji A0 u t (pre++[a]) m (by omega),<-e1 u,<-e1 t];have e3:cp (a::u) (a::t)=a::cp u t:=by conv=>lhs;unfold cp;rw[if_pos rfl]
   rw[e3,e1 (cp u t)]
  ·rw[Qwk hab] at ht;have e3:cp (a::u) (b::t)=[]:=by conv=>lhs;unfold cp;rw[if_neg hab]
   rw[KB.Ip ht,e3,Qw8]
theorem abK(A0 a3:OD)(u t:List Nat)(hu:u.length<=5000):il.fc [A0,Zs u,Zs t,a3] = .nx [A0,Zs (cp u t),Zs t,Zf (.int ((cp u t).length:Int))]:=by
 unfold il.fc;refine(aB (e:=[A0,Zs u,Zs t,Zf (.int 0)]) rfl).trans ?_;refine(aB (Ji A0 u t [] 7000 (by omega))).trans ?_;have e:cutD u none (some ((cp u t).length:Int))=cp u t:=by rw[HD];exact(List.prefix_iff_eq_take.mp (ZW u t)).symm
 refine bQ (d:=.str (cp u t)) (e:=[A0,Zs u,Zs t,Zf (.int ((cp u t).length:Int))]) ?_ rfl;show Ev.R.ok (D.str (cutD u none (some ((cp u t).length:Int)))) _=_;rw[e]
 rfl
theorem Uj(A0:OD):∀(ts:List (List Nat)) (u:List Nat) (a2 a3:OD),u.length<=5000->∃b2 b3,ir (ak 2) il.fc (ts.map .str) [A0,Zs u,a2,a3] = .nx [A0,Zs (ts.foldl cp u),b2,b3]
 | [],u,a2,a3,_=>⟨a2,a3,rfl⟩
 | t::ts,u,a2,a3,hu=>by
  obtain⟨b2,b3,h⟩:=Uj A0 ts (cp u t) (Zs t) (Zf (.int ((cp u t).length:Int))) (Qq0 (adR u t) hu);exact⟨b2,b3,by rw[Qz7,<-h,Qq2];exact KB.jO rfl (abK A0 a3 u t hu)⟩
theorem shared_start(t:List Nat)(ts:List (List Nat))(h:t.length<=5000):il.ie [.lst ((t::ts).map .str)]=some (.str (lcp t ts)):=by
 obtain⟨b2,b3,g⟩:=Uj (Zf (.lst ((t::ts).map .str))) (t::ts) t none none h;refine cR (env:=[Zf (.lst ((t::ts).map .str)),Zs (lcp t ts),b2,b3]) ?_;unfold il.lQ
 let E0:Ev.Env:=[Zf (.lst ((t::ts).map .str)),Zs t,Zn,Zn]
 refine(aB (e:=E0) (bQ (d:=.str t) (e:=[Zf (.lst ((t::ts).map .str)),Zn,Zn,Zn]) (jY (i:=0) (b:=Zi 0) (x:=.lst ((t::ts).map .str)) (y:=.int 0) rfl rfl rfl (rD (q:=0) D.str (t::ts) rfl)) rfl)).trans ?_;refine(aB ((dh (ds:=(t::ts).map .str) (e:=E0) rfl).trans g)).trans ?_
 rfl
structure MB(M:List cG):Prop where
 pos:0<M.length
 few:M.length<=600
 fin:∀st∈M,st.1.length<=30
 stp:∀st∈M,st.2.length<=50
 put:∀st∈M,∀pt∈st.2,pt.1.length<=200
 inn:∀st∈M,∀pt∈st.2,pt.2<M.length
theorem MB.adn{M:List cG}(B:MB M):∀(i:Nat) (st:cG) (pt:List Nat×Nat),M[i]? = some st->pt∈st.2->pt.2<M.length:=λi st pt h hp=>B.inn st (Qq8 h) pt hp
theorem uw{lo n:Nat}{it:d7}{g:GV}{e:Ev}{env:Ev.Env}(M:List cG)(out:cG->D)(hit:it env = .ok (M.map aV) env)(hlo:env.length=lo)(hn:n=lo+2)(hg:∀(st:cG) (u v:OD),g (aV st) (env++[u,v])=some (env++[Zs st.1,Zf (.tup (st.2.map aJ))]))
  (h:∀st∈M,e (env++[Zs st.1,Zf (.tup (st.2.map aJ))]) = .ok (out st) (env++[Zs st.1,Zf (.tup (st.2.map aJ))])) (hz:M.length<=600):dH lo n it g bK e env = .ok (.lst (M.map out)) env:=by
 subst hn hlo;have:=CG (lo:=env.length) (n:=env.length+2) (it:=it) (g:=g) (c:=bK) (e:=e) (env:=env) (aN:=env) M aV (λst=>[Zs st.1,Zf (.tup (st.2.map aJ))]) (λ_=>true) out hit rfl (λst hst=>⟨by simp,λvs hv=>?_,rfl,λ_=>h st hst⟩) (Qq0 hz (by decide))
 ·rw[this,Qk3.mpr (λ_ _=>rfl)]
 ·have hv:vs.length=2:=by omega
  match vs,hv with
  | [u,v],_=>exact hg st u v
theorem tQ{lo n:Nat}{it:d7}{g:GV}{e:Ev}{env:Ev.Env}(S:List (List Nat×Nat))(out:List Nat×Nat->D)(hit:it env = .ok (S.map aJ) env)(hlo:env.length=lo)(hn:n=lo+2)(hg:∀(pt:List Nat×Nat) (u v:OD),g (aJ pt) (env++[u,v])=some (env++[Zs pt.1,Zf (.int (pt.2:Int))]))
  (h:∀pt∈S,e (env++[Zs pt.1,Zf (.int (pt.2:Int))]) = .ok (out pt) (env++[Zs pt.1,Zf (.int (pt.2:Int))])) (hz:S.length<=50):dH lo n it g bK e env = .ok (.lst (S.map out)) env:=by
 subst hn hlo;have:=CG (lo:=env.length) (n:=env.length+2) (it:=it) (g:=g) (c:=bK) (e:=e) (env:=env) (aN:=env) S aJ (λpt=>[Zs pt.1,Zf (.int (pt.2:Int))]) (λ_=>true) out hit rfl (λst hst=>⟨by simp,λvs hv=>?_,rfl,λ_=>h st hst⟩) (Qq0 hz (by decide))
 ·rw[this,Qk3.mpr (λ_ _=>rfl)]
 ·have hv:vs.length=2:=by omega
  match vs,hv with
  | [u,v],_=>exact hg st u v
def encM(M:List cG):D:=.lst (M.map aV)
def CB(M:List cG)(c:List (List Nat)):Prop:=c.length=M.length/\∀i,(c.getD i []).length<=30
theorem getD_some{c:List (List Nat)}{i:Nat}(h:i<c.length):c[i]? = some (c.getD i []):=by rw[Qq9,Qq7 h];rfl
theorem CB.of{M:List cG}(B:MB M){c:List (List Nat)}(h:PW c (ends M)):CB M c:=by
 refine⟨by rw[h.1];unfold ends;rw[Qqq],λi=>Qq0 (h.2 i).length_le ?_⟩;unfold ends;rw[getD_map];cases e:M[i]? with
 | none=>exact Qx3 _
 | some st=>exact B.fin st (Qq8 e)
theorem Gr{k:Nat}:∀c:List (List Nat),(∀z∈c,z.length<=k)->uG c<=c.length*k
 | [],_=>Qx3 _
 | a::c,h=>by
  have ih:=Gr c λz hz=>h z (Qqj _ hz);have h1:=h a (Qqk ..);have e1:uG (a::c)=a.length+uG c:=by unfold uG;rw[Qq2,List.sum_cons]
  rw[e1,Qqv,Nat.succ_mul];omega
abbrev EnC(M:List cG)(k c:List (List Nat))(o:Bool):Ev.Env:=[Zf (encM M),Zf (.lst (k.map .str)),some (o,.lst (c.map .str))]
theorem WX{M:List cG}(B:MB M){k:List (List Nat)}(hk:CB M k)(d:D)(o:Bool):il.fJ [Zf (encM M),Zf (.lst (k.map .str)),some (o,d)] = .ok (.lst ((gO M k).map .str)) [Zf (encM M),Zf (.lst (k.map .str)),some (o,d)]:=by
 unfold il.fJ;have:=uw (lo:=3) (n:=5) (it:=dB (aL 0)) (g:=bB 2 (aA (ak 3) (aA (ak 4) bF))) (e:=ao il.ie (aa (aR dC (bT (Zv 3 aj)) (il.dW)) aj)) (env:=[Zf (encM M),Zf (.lst (k.map .str)),some (o,d)]) M
  (λst=>.str (lcp st.1 (st.2.map λpt=>pt.1++k.getD pt.2 []))) rfl rfl rfl (λst u v=>rfl) (λst hst=>?_) B.few
 ·rw[this];unfold gO;rw[Qw5]
  rfl
 ·have h2:il.dW [Zf (encM M),Zf (.lst (k.map .str)),some (o,d),Zs st.1,Zf (.tup (st.2.map aJ))] = .ok (.lst (st.2.map λpt=>.str (pt.1++k.getD pt.2 []))) [Zf (encM M),Zf (.lst (k.map .str)),some (o,d),Zs st.1,Zf (.tup (st.2.map aJ))]:=by
   unfold il.dW;refine tQ (lo:=5) (n:=7) (env:=[Zf (encM M),Zf (.lst (k.map .str)),some (o,d),Zs st.1,Zf (.tup (st.2.map aJ))]) st.2 (λpt=>.str (pt.1++k.getD pt.2 [])) rfl rfl rfl (λpt u v=>rfl) (λpt lY=>?_) (B.stp st hst);have hlt:pt.2<k.length:=by rw[hk.1];exact B.inn st hst pt lY
   refine jY (x:=.str pt.1) (y:=.str (k.getD pt.2 [])) rfl ?_ rfl (add_str ?_)
   ·exact jY (x:=.lst (k.map .str)) (y:=.int (pt.2:Int)) rfl rfl rfl (rD D.str k (getD_some hlt))
   ·have h1:=B.put st hst pt lY;have h2:=hk.2 pt.2;omega
  refine aM (ds:=[.lst ((st.1::st.2.map λpt=>pt.1++k.getD pt.2 []).map .str)]) (aH (cj (x:=.lst [.str st.1]) (y:=.lst (st.2.map λ(pt:List Nat×Nat)=>.str (pt.1++k.getD pt.2 []))) rfl h2 ?_) bw) (shared_start _ _ (Qq0 (B.fin st hst) (by decide)));unfold dC;refine(if_pos ?_).trans ?_
  ·rw[Qqq];have:=B.stp st hst;exact Qq0 (show 1+st.2.length<=51 by omega) (by decide)
  ·rw[Qq2,Qw5]
   rfl
theorem YX(a b:List (List Nat)):Ai (.lst (a.map .str)) (.lst (b.map .str))=some (.bl (!(a == b))):=by
 have h:=Ko a b;unfold pP at h;unfold Ai;cases e:bC 60 (.lst (a.map .str)) (.lst (b.map .str)) with
 | none=>rw[e] at h;cases h
 | some r=>
  rw[e] at h;have:r=(a == b):=by injection h with h;injection h
  rw[this]
  rfl
theorem QC(M:List cG)(k c:List (List Nat)):dD (au Ai 2 (aO 1)) (EnC M k c true) = .ok (!(c == k)) (EnC M k c true):=
 d8 (vI (x:=.lst (c.map .str)) (y:=.lst (k.map .str)) rfl rfl rfl (YX c k))
theorem QB{M:List cG}(B:MB M)(k c:List (List Nat))(hc:CB M c):il.dU (EnC M k c true) = .nx (EnC M c (gO M c) true):=by unfold il.dU;refine(aB (e:=EnC M c c false) rfl).trans ?_;exact(oR (WX B hc (.lst (c.map .str)) false)).trans rfl
theorem WW{M:List cG}(B:MB M):∀(m:Nat) (k:List (List Nat)),CB M k->PW (gO M k) k->uG k<m->(∀d,fM M d->PW d k)->∃c,dI (dD (au Ai 2 (aO 1))) il.dU m (EnC M k (gO M k) true) = .nx (EnC M c c true)/\c=gO M c/\CB M c/\∀d,fM M d->PW d c:=by
 intro m
 induction m with
 | zero=>intro k _ _ h;omega
 | succ m ih=>
  intro k hk hp hs hg;have ht:=QC M k (gO M k);by_cases e:gO M k=k
  ·rw[e,Qj0] at ht;refine⟨k,?_,e.symm,hk,hg⟩;rw[e];exact KB.Ip ht
  ·have hb:(gO M k == k)=false:=Qx7.mpr e;rw[hb] at ht;have hc:CB M (gO M k):=CB.of B (Bb M k);obtain⟨c,h1,h2,h3,h4⟩:=ih (gO M k) hc (Q8 hp) (by have:=(PW.lt hp).2 e;omega) λd hd=>hd.keep (hg d hd);exact⟨c,by rw[KB.Av ht (QB B k (gO M k) hc)];exact h1,h2,h3,h4⟩
theorem certain_starts{M:List cG}(B:MB M):∃c,il.ig [encM M]=some (.lst (c.map .str))/\c=gO M c/\CB M c/\∀d,fM M d->PW d c:=by
 have he:CB M (ends M):=CB.of B ⟨rfl,λi=>List.prefix_refl _⟩;have hsum:uG (ends M)<=18000:=by
  have h1:=Gr (k:=30) (ends M) λz hz=>by
   obtain⟨st,hst,rfl⟩:=Qwz.mp hz;exact B.fin st hst
  have h2:(ends M).length<=600:=by rw[he.1];exact B.few
  have h3:=Nat.mul_le_mul_right 30 h2;omega
 obtain⟨c,h1,h2,h3,h4⟩:=WW B 19999 (ends M) he (Bb M (ends M)) (by omega) λd hd=>hd.first;refine⟨c,?_,h2,h3,h4⟩;refine cR (env:=EnC M c c false) ?_;unfold il.jt
 let E0:Ev.Env:=[Zf (encM M),Zf (.lst []),Zn]
 refine(aB (e:=E0) rfl).trans ?_;refine(aB (e:=EnC M [] (ends M) true) ?_).trans ?_
 ·refine(oR (d:=.lst ((ends M).map .str)) (e:=E0) ?_).trans rfl;unfold il.gQ;refine(uw (lo:=3) (n:=5) (it:=dB (aL 0)) (g:=bB 2 (aA (ak 3) (aA (ak 4) bF))) (e:=aL 3) (env:=E0) M (λst=>.str st.1) rfl rfl rfl (λst u v=>rfl) (λst hst=>rfl) B.few).trans ?_;unfold ends;rw[Qw5]
  rfl
 refine(aB ((KB.Av ?_ (QB B [] (ends M) he)).trans h1)).trans ?_
 ·rw[QC];have:(ends M == [])=false:=Qx7.mpr λz=>by
   have h1:=he.1;have h2:=B.pos;rw[z,Qx8] at h1;omega
  rw[this]
  rfl
 ·rfl
def nY(c:List (List Nat))(q:List Nat×cG):cG:=(q.2.1.drop q.1.length,q.2.2.map λpt=>((pt.1++c.getD pt.2 []).drop q.1.length,pt.2))
def eZ(c:List (List Nat))(M:List cG):List cG:=(c.zip M).map (nY c)
theorem Xq(c:List (List Nat))(M:List cG):qb (c.map .str) (M.map aV)=(c.zip M).map λq=>.tup [.str q.1,aV q.2]:=by
 unfold qb;rw[List.zip_map,Qw5]
 rfl
abbrev Tv(M:List cG)(c:List (List Nat))(acc:List D)(a3 a4 a5 a6:OD):Ev.Env:=[Zf (encM M),Zf (.lst (c.map .str)),Zl acc,a3,a4,a5,a6]
theorem M9{M:List cG}(B:MB M){c:List (List Nat)}(hc:CB M c){acc:List D}(ha:acc.length<=600)(u:List Nat){st:cG}(hst:st∈M)(a6:OD) :
  il.eO (Tv M c acc (Zs u) (Zs st.1) (Zf (.tup (st.2.map aJ))) a6) = .nx (Tv M c (acc++[aV (nY c (u,st))]) (Zs u) (Zs st.1) (Zf (.tup (st.2.map aJ))) (Zf (.int (u.length:Int)))):=by
 unfold il.eO
 let E0:Ev.Env:=Tv M c acc (Zs u) (Zs st.1) (Zf (.tup (st.2.map aJ))) (Zf (.int (u.length:Int)))
 refine(aB (e:=E0) rfl).trans ?_;have h2:il.gb (Tv M c acc (Zs u) (Zs st.1) (Zf (.tup (st.2.map aJ))) (Zf (.int (u.length:Int)))) = .ok (.lst (st.2.map λpt=>aJ ((pt.1++c.getD pt.2 []).drop u.length,pt.2))) (Tv M c acc (Zs u) (Zs st.1) (Zf (.tup (st.2.map aJ))) (Zf (.int (u.length:Int)))):=by
  unfold il.gb;refine tQ (lo:=7) (n:=9) (env:=E0) st.2 (λpt=>aJ ((pt.1++c.getD pt.2 []).drop u.length,pt.2)) rfl rfl rfl (λpt a b=>rfl) (λpt lY=>?_) (B.stp st hst);have hlt:pt.2<c.length:=by rw[hc.1];exact B.inn st hst pt lY
  refine cB (ds:=[.str ((pt.1++c.getD pt.2 []).drop u.length),.int (pt.2:Int)]) (aH (e1:=Tv M c acc (Zs u) (Zs st.1) (Zf (.tup (st.2.map aJ))) (Zf (.int (u.length:Int)))++[Zs pt.1,Zf (.int (pt.2:Int))]) ?_ rfl) Ev.zZ;have h3:au dC 7 (au cU 1 (aO 8)) (Tv M c acc (Zs u) (Zs st.1) (Zf (.tup (st.2.map aJ))) (Zf (.int (u.length:Int)))++[Zs pt.1,Zf (.int (pt.2:Int))]) = .ok (.str (pt.1++c.getD pt.2 [])) (Tv M c acc (Zs u) (Zs st.1) (Zf (.tup (st.2.map aJ))) (Zf (.int (u.length:Int)))++[Zs pt.1,Zf (.int (pt.2:Int))]):=by
   refine jY (x:=.str pt.1) (y:=.str (c.getD pt.2 [])) rfl ?_ rfl (add_str ?_)
   ·exact jY (x:=.lst (c.map .str)) (y:=.int (pt.2:Int)) rfl rfl rfl (rD D.str c (getD_some hlt))
   ·have h1:=B.put st hst pt lY;have h2:=hc.2 pt.2;omega
  unfold pU;rw[h3];show Ev.R.ok (D.str (cutD (pt.1++c.getD pt.2 []) (some (u.length:Int)) none)) _=_;rw[FZ]
 refine(Ev.pH (i:=2) (xs:=acc) (d:=aV (nY c (u,st))) (e:=E0) rfl ?_ rfl (Qw4 ha (by decide))).trans rfl;refine cB (ds:=[.str (st.1.drop u.length),.tup (st.2.map λpt=>aJ ((pt.1++c.getD pt.2 []).drop u.length,pt.2))]) (aH (e1:=E0) ?_ (aH (aM (aH h2 bw) rfl) bw)) Ev.zZ |>.trans ?_
 ·show Ev.R.ok (D.str (cutD st.1 (some (u.length:Int)) none)) _=_;rw[FZ]
 ·unfold aV nY;rw[Qw5]
  rfl
theorem Vz{M:List cG}(B:MB M){c:List (List Nat)}(hc:CB M c):∀(l:List (List Nat×cG)) (acc:List D) (a3 a4 a5 a6:OD),acc.length+l.length<=600->(∀q∈l,q.2∈M)->
  ∃b3 b4 b5 b6,ir (bB 2 (aA (ak 3) (aA (bB 2 (aA (ak 4) (aA (ak 5) bF))) bF))) il.eO (l.map λq=>.tup [.str q.1,aV q.2]) (Tv M c acc a3 a4 a5 a6) = .nx (Tv M c (acc++l.map λq=>aV (nY c q)) b3 b4 b5 b6)
 | [],acc,a3,a4,a5,a6,_,_=>⟨a3,a4,a5,a6,by rw[List.map_nil,List.map_nil,Qw8];rfl⟩
 | q::l,acc,a3,a4,a5,a6,hl,hm=>by
  rw[Qqv] at hl;obtain⟨b3,b4,b5,b6,h⟩:=Vz B hc l (acc++[aV (nY c q)]) (Zs q.1) (Zs q.2.1) (Zf (.tup (q.2.2.map aJ))) (Zf (.int (q.1.length:Int))) (by rw[Qqy,Qw9];omega) λr hr=>hm r (Qqj _ hr);refine⟨b3,b4,b5,b6,?_⟩;rw[Qq2,Qq2];have e:acc++aV (nY c q)::(l.map λq=>aV (nY c q))=(acc++[aV (nY c q)])++l.map λq=>aV (nY c q):=by simp
  rw[e,<-h];exact KB.jO rfl (M9 B hc (by omega) q.1 (hm q (Qqk ..)) a6)
theorem put_out_early{M:List cG}(B:MB M):∃c,il.iQ [encM M]=some (.tup [.str (c.getD 0 []),encM (eZ c M)])/\c=gO M c/\CB M c/\∀d,fM M d->PW d c:=by
 obtain⟨c,h1,h2,h3,h4⟩:=certain_starts B;refine⟨c,?_,h2,h3,h4⟩;obtain⟨b3,b4,b5,b6,g⟩:=Vz B h3 (c.zip M) [] none none none none (by rw[Qx8,List.length_zip,h3.1];have:=B.few;omega) λq hq=>(Qk8 hq).2;have hc0:c[0]? = some (c.getD 0 []):=getD_some (by rw[h3.1];exact B.pos);refine cR (env:=[Zf (encM M),Zf (.lst (c.map .str)),Zf (encM (eZ c M)),b3,b4,b5,b6]) ?_;unfold il.jP;refine(aB (e:=[Zf (encM M),Zf (.lst (c.map .str)),Zn,Zn,Zn,Zn,Zn]) (bQ (d:=.lst (c.map .str)) (e:=[Zf (encM M),Zn,Zn,Zn,Zn,Zn,Zn]) (aM (ds:=[encM M]) rfl h1) rfl)).trans ?_;refine(aB (e:=Tv M c [] none none none none) rfl).trans ?_;refine(aB ((dh (ds:=(c.zip M).map λq=>.tup [.str q.1,aV q.2]) (e:=Tv M c [] none none none none) ?_).trans g)).trans ?_
 ·show Ev.R.ok (qb (c.map .str) (M.map aV)) _=_;rw[Xq]
 ·have e:[]++(c.zip M).map (λq=>aV (nY c q))=(eZ c M).map aV:=by
   unfold eZ;rw[List.nil_append,Qw5]
   rfl
  rw[e];refine bY (cB (ds:=[.str (c.getD 0 []),encM (eZ c M)]) (aH (e1:=Tv M c ((eZ c M).map aV) b3 b4 b5 b6) ?_ rfl) Ev.zZ);exact jY (x:=.lst (c.map .str)) (y:=.int 0) rfl rfl rfl (rD (q:=0) D.str c hc0)
theorem KH{c:List (List Nat)}{M:List cG}(h:c.length=M.length):abl M (eZ c M) c:=by
 intro i;unfold eZ;rw[Qwx];cases e:M[i]? with
 | none=>
  have:(c.zip M)[i]? = none:=Qjj (by
   have:=List.getElem?_eq_none_iff.mp e;rw[List.length_zip];omega)
  rw[this]
  rfl
 | some st=>
  have hi:i<c.length:=by rw[h];exact(Qq4.mp e).1
  have:(c.zip M)[i]? = some (c.getD i [],st):=by rw[List.getElem?_zip_eq_some];exact⟨getD_some hi,e⟩
  rw[this]
  rfl
theorem FT{c:List (List Nat)}{M:List cG}(h:c.length=M.length):(eZ c M).length=M.length:=by unfold eZ;rw[Qqq,List.length_zip,h,Nat.min_self]
theorem range_getD(n:Nat)(f:Nat->List Nat)(i:Nat):((List.range n).map f).getD i []=if i<n then f i else []:=by
 rw[getD_map];by_cases h:i<n
 ·rw[if_pos h,List.getElem?_range h];rfl
 ·rw[if_neg h,Qjj (by rw[List.length_range];omega)];rfl
theorem Hc{M:List cG}{c:List (List Nat)}(hc:fM M c)(hg:∀d,fM M d->PW d c):rT (eZ c M):=by
 intro e he i;have hE:=KH hc.len;have hl:=FT hc.len;have hd:∀i,((List.range M.length).map λi=>c.getD i []++e.getD i []).getD i []=c.getD i []++e.getD i []:=λi=>by
  rw[range_getD];by_cases h:i<M.length
  ·rw[if_pos h]
  ·rw[if_neg h,getD_none (by rw[hc.len];omega),getD_none (by rw[he.len,hl];omega)];rfl
 have D:fM M ((List.range M.length).map λi=>c.getD i []++e.getD i []):=by
  refine⟨by rw[Qqq,List.length_range],λj st hj=>?_,λj st pt hj hp=>?_⟩
  ·have h1:(eZ c M)[j]? = some (early c j st):=by rw[hE j,hj];rfl
   rw[hd,wG (hc.fin j st hj)];exact(List.prefix_append_right_inj _).mpr (he.fin j _ h1)
  ·have h1:(eZ c M)[j]? = some (early c j st):=by rw[hE j,hj];rfl
   have h2:=he.stp j _ ((pt.1++c.getD pt.2 []).drop (c.getD j []).length,pt.2) h1 (Qwz.mpr ⟨pt,hp,rfl⟩);rw[hd,hd,<-Qxk,wG (hc.stp j st pt hj hp),Qxk];exact(List.prefix_append_right_inj _).mpr h2
 have h:=((hg _ D).2 i).length_le;rw[hd,Qqy] at h;exact List.length_eq_zero_iff.mp (by omega)
open K17 (qM)
def gq(l:List Nat):List D:=l.map λ(k:Nat)=>.int (k:Int)
section
variable{T:Type}[DecidableEq T]{en:T->D}{key:T->NK}(Y:Lq en key)
include Y
theorem acX(A0:OD)(us:List T)(t:T)(h:us.length<=700):il.iV [A0,Zt (.fG (lW en 0 us)),Zf (en t)] = .nx [A0,Zt (.fG (lW en 0 (fL us t))),Zf (en t)]:=by
 have ht:dD (au oA 2 (aO 1)) [A0,Zt (.fG (lW en 0 us)),Zf (en t)] = .ok (!decide (t∈us)) [A0,Zt (.fG (lW en 0 us)),Zf (en t)]:=
  d8 (jY (i:=2) (b:=aO 1) (x:=en t) (y:=.fG (lW en 0 us)) rfl rfl rfl (Fo Y us t))
 unfold il.iV;by_cases hm:t∈us
 ·rw[Qw2 hm] at ht;rw[fK ht];have e:fL us t=us:=if_pos hm;rw[e]
  rfl
 ·rw[Qwk hm] at ht;rw[lz ht];have e:fL us t=us++[t]:=if_neg hm
  let E0:Ev.Env:=[A0,Zt (.fG (lW en 0 us)),Zf (en t)]
  have s4:=qM (i:=1) (k:=aL 2) (a:=ao xg (aa (aO 1) aj)) (env:=E0) (e1:=E0) (e2:=E0) (d:=.int ((lW en 0 us).length:Int)) (kd:=en t) (z:=.fG (lW en 0 us)) (o:=true) (q:=key t) (kvs:=lW en 0 us) rfl rfl rfl rfl (Y.nk t)
   (by rw[uy];exact Qw4 h (by decide))
  rw[uy,Hl Y us t hm] at s4;rw[s4,e]
  rfl
theorem V6(A0:OD):∀(ts us:List T) (a2:OD),us.length+ts.length<=700->∃b2,ir (ak 2) il.iV (ts.map en) [A0,Zt (.fG (lW en 0 us)),a2] = .nx [A0,Zt (.fG (lW en 0 (ts.foldl fL us))),b2]
 | [],us,a2,_=>⟨a2,rfl⟩
 | t::ts,us,a2,h=>by
  rw[Qqv] at h;have hl:=Xb us t;obtain⟨b2,g⟩:=V6 A0 ts (fL us t) (Zf (en t)) (by omega);exact⟨b2,by rw[Qq2,Qz7,<-g];exact KB.jO rfl (acX Y A0 us t (by omega))⟩
theorem numbered(ts:List T)(h:ts.length<=600):il.jV [.lst (ts.map en)]=some (.lst (gq (nums ts))):=by
 obtain⟨b2,g⟩:=V6 Y (Zf (.lst (ts.map en))) ts [] none (by rw[Qx8];omega)
 let E0:Ev.Env:=[Zf (.lst (ts.map en)),Zt (.fG (lW en 0 (uniq ts))),b2]
 refine cR (env:=E0) ?_;unfold il.rN
 let E1:Ev.Env:=[Zf (.lst (ts.map en)),Zt (.fG []),Zn]
 refine(aB (e:=E1) rfl).trans ?_;refine(aB ((dh (ds:=ts.map en) (e:=E1) rfl).trans g)).trans ?_;refine bY ?_;unfold il.mU;refine(N6 (lo:=3) (n:=4) (it:=dB (aL 0)) (e:=au rY 1 (aO 3)) (env:=E0) (aN:=E0) ts en (λt=>.int (cu (uniq ts) t:Int)) rfl rfl rfl (λt ht=>?_) (Qq0 h (by decide))).trans ?_
 ·exact vI (i:=1) (b:=aO 3) (x:=.fG (lW en 0 (uniq ts))) (y:=en t) rfl rfl rfl (Hm Y (uniq ts) t (iI.mpr ht))
 ·unfold gq nums;rw[Qw5]
  rfl
end
theorem wN{α:Type}{f:α->D}{k:α->NK}(h:∀a,oM (f a)=some (k a)):∀l:List α,o7 (l.map f)=some (l.map k)
 | []=>rfl
 | a::l=>by
  rw[Qq2];unfold o7;rw[h a,wN h l]
  rfl
theorem Dd{α:Type}{k:α->NK}(h:∀a,(k a).dep=0):∀l:List α,NK.jZ (l.map k)=0
 | []=>by unfold NK.jZ;rfl
 | a::l=>by
  rw[Qq2];unfold NK.jZ;rw[h a,Dd h l]
  rfl
theorem Nm{xs:List D}{q:NK}(h:oM (.tup xs)=some q)(hd:q.dep<=8):Ff (.tup xs)=some q:=by unfold Ff;simp only[h,Option.bind_some];exact if_pos hd
def en1(t:List Nat×List (List Nat)):D:=.tup [.str t.1,.tup (t.2.map .str)]
def afH(t:List Nat×List (List Nat)):NK:=.tup [.txt (strOf t.1),.tup (t.2.map λz=>.txt (strOf z))]
def en2(t:Nat×List Nat):D:=.tup [.int (t.1:Int),.tup (gq t.2)]
def afG(t:Nat×List Nat):NK:=.tup [.num (t.1:Int),.tup (t.2.map λ(z:Nat)=>.num (z:Int))]
theorem map_inj{α β:Type}{f:α->β}(h:∀a b,f a=f b->a=b):∀{l m:List α},l.map f=m.map f->l=m
 | [],[],_=>rfl
 | [],_::_,e=>by cases e
 | _::_,[],e=>by cases e
 | a::l,b::m,e=>by
  obtain⟨e1,e2⟩:=Qjq e;rw[h a b e1,map_inj h e2]
theorem afF:Lq en1 afH:=by
 refine⟨λt=>Nm ?_ ?_,λp q h=>?_⟩
 ·have h1:o7 (t.2.map D.str)=some (t.2.map λz=>NK.txt (strOf z)):=wN (λz=>by unfold oM;rfl) t.2;unfold oM o7 o7 o7;unfold oM;rw[h1]
  rfl
 ·unfold afH;have:NK.jZ (t.2.map λz=>NK.txt (strOf z))=0:=Dd (λz=>by unfold NK.dep;rfl) t.2;simp[NK.dep,NK.jZ,this]
 ·obtain⟨h1,h2⟩:=Qjq (NK.tup.inj h);obtain⟨h3,_⟩:=Qjq h2;have e1:p.1=q.1:=SX.kE (NK.txt.inj h1);have e2:p.2=q.2:=map_inj (λa b e=>SX.kE (NK.txt.inj e)) (NK.tup.inj h3);exact Prod.ext e1 e2
theorem afE:Lq en2 afG:=by
 refine⟨λt=>Nm ?_ ?_,λp q h=>?_⟩
 ·have h1:o7 (gq t.2)=some (t.2.map λ(z:Nat)=>NK.num (z:Int)):=wN (λz=>by unfold oM;rfl) t.2;unfold oM o7 o7 o7;unfold oM;rw[h1]
  rfl
 ·unfold afG;have:NK.jZ (t.2.map λ(z:Nat)=>NK.num (z:Int))=0:=Dd (λz=>by unfold NK.dep;rfl) t.2;simp[NK.dep,NK.jZ,this]
 ·obtain⟨h1,h2⟩:=Qjq (NK.tup.inj h);obtain⟨h3,_⟩:=Qjq h2;have e1:p.1=q.1:=Qvx (NK.num.inj h1);have e2:p.2=q.2:=map_inj (λa b e=>Qvx (NK.num.inj e)) (NK.tup.inj h3);exact Prod.ext e1 e2
theorem Ck{l:List Nat}{q:Nat}(h:q<l.length):cU (.lst (gq l)) (.int (q:Int))=some (.int ((l.getD q 0:Nat):Int)):=
 rD (λ(k:Nat)=>D.int (k:Int)) l (by rw[Qq9,Qq7 h];rfl)
theorem Wb{M:List cG}(B:MB M):il.gZ [Zf (encM M),Zn,Zn] = .ok (.lst ((jd M).map en1)) [Zf (encM M),Zn,Zn]:=by
 unfold il.gZ;refine(uw (lo:=3) (n:=5) (it:=dB (aL 0)) (g:=bB 2 (aA (ak 3) (aA (ak 4) bF))) (e:=bJ (Zv 3 (aa (ao bZ (aa (il.fX) aj)) aj))) (env:=[Zf (encM M),Zn,Zn]) M (λst=>en1 (st.1,st.2.map (·.1))) rfl rfl rfl (λst u v=>rfl) (λst hst=>?_) B.few).trans ?_
 ·have h2:il.fX [Zf (encM M),Zn,Zn,Zs st.1,Zf (.tup (st.2.map aJ))] = .ok (.lst (st.2.map λpt=>.str pt.1)) [Zf (encM M),Zn,Zn,Zs st.1,Zf (.tup (st.2.map aJ))]:=by
   unfold il.fX;exact tQ (lo:=5) (n:=7) (it:=dB (aL 4)) (g:=bB 2 (aA (ak 5) (aA (ak 6) bF))) (e:=aL 5) (env:=[Zf (encM M),Zn,Zn,Zs st.1,Zf (.tup (st.2.map aJ))]) st.2 (λpt=>.str pt.1) rfl rfl rfl (λpt u v=>rfl) (λpt lY=>rfl) (B.stp st hst)
  refine(cB (ds:=[.str st.1,.tup (st.2.map λpt=>.str pt.1)]) (aH (e1:=[Zf (encM M),Zn,Zn,Zs st.1,Zf (.tup (st.2.map aJ))]) rfl (aH (aM (aH h2 bw) rfl) bw)) Ev.zZ).trans ?_;unfold en1;rw[Qw5]
  rfl
 ·unfold jd;rw[Qw5]
  rfl
abbrev El(M:List cG)(g:List Nat)(m:Nat):Ev.Env:=[Zf (encM M),Zf (.lst (gq g)),Zf (.int (m:Int))]
theorem WD(M:List cG):FQ (M.map aV)=M.zipIdx.map λp=>.tup [.int (p.2:Nat),aV p.1]:=by
 unfold FQ;rw[List.zipIdx_map,Qw5]
 rfl
theorem Za{M:List cG}(B:MB M){g:List Nat}(hg:g.length=M.length)(m:Nat):il.gY (El M g m) = .ok (.lst ((dq M g).map en2)) (El M g m):=by
 unfold il.gY;have:=CG (lo:=3) (n:=6) (it:=xr (Zv 0 aj)) (g:=bB 2 (aA (ak 3) (aA (bB 2 (aA (ak 4) (aA (ak 5) bF))) bF))) (c:=bK) (e:=bJ (aa (au cU 1 (aO 3)) (aa (ao bZ (aa (il.fW) aj)) aj))) (env:=El M g m) (aN:=El M g m) M.zipIdx (λp=>.tup [.int (p.2:Nat),aV p.1])
  (λp=>[Zf (.int (p.2:Nat)),Zs p.1.1,Zf (.tup (p.1.2.map aJ))]) (λ_=>true) (λp=>en2 (g.getD p.2 0,p.1.2.map λpt=>g.getD pt.2 0)) (by
   show Ev.R.ok (FQ (M.map aV)) _=_;rw[WD]) rfl (λp hp=>⟨rfl,λvs hv=>?_,rfl,λ_=>?_⟩) (by rw[List.length_zipIdx];exact Qq0 B.few (by decide))
 ·rw[this,Qk3.mpr (λ_ _=>rfl)];unfold dq;rw[Qw5]
  rfl
 ·match vs,hv with
  | [u,v,w],_=>rfl
 ·obtain⟨st,i⟩:=p;have hi:M[i]? = some st:=by
   have:=List.mem_zipIdx_iff_getElem?.mp hp;exact this
  have hst:=Qq8 hi;have hil:i<g.length:=by rw[hg];exact(Qq4.mp hi).1
  have h2:il.fW (El M g m++[Zf (.int (i:Nat)),Zs st.1,Zf (.tup (st.2.map aJ))]) = .ok (.lst (st.2.map λpt=>.int ((g.getD pt.2 0:Nat):Int))) (El M g m++[Zf (.int (i:Nat)),Zs st.1,Zf (.tup (st.2.map aJ))]):=by unfold il.fW;refine tQ (lo:=6) (n:=8) (it:=dB (aL 5)) (g:=bB 2 (aA (ak 6) (aA (ak 7) bF))) (e:=au cU 1 (aO 7)) (env:=El M g m++[Zf (.int (i:Nat)),Zs st.1,Zf (.tup (st.2.map aJ))]) st.2 (λpt=>.int ((g.getD pt.2 0:Nat):Int)) rfl rfl rfl (λpt u v=>rfl) (λpt lY=>?_) (B.stp st hst);exact jY (i:=1) (b:=aO 7) (x:=.lst (gq g)) (y:=.int (pt.2:Int)) rfl rfl rfl (Ck (by rw[hg];exact B.inn st hst pt lY))
  refine(cB (ds:=[.int ((g.getD i 0:Nat):Int),.tup (st.2.map λpt=>.int ((g.getD pt.2 0:Nat):Int))]) (aH (e1:=El M g m++[Zf (.int (i:Nat)),Zs st.1,Zf (.tup (st.2.map aJ))]) ?_ (aH (aM (aH h2 bw) rfl) bw)) Ev.zZ).trans ?_
  ·exact jY (i:=1) (b:=aO 3) (x:=.lst (gq g)) (y:=.int (i:Int)) rfl rfl rfl (Ck hil)
  ·unfold en2 gq;rw[Qw5]
   rfl
theorem Nv(g:List Nat)(h:g.length<=600):iG (.lst (gq g))=some (.int (cnt g:Int)):=by
 have e:gq g=(g.map λ(k:Nat)=>(k:Int)).map D.int:=by unfold gq;rw[Qw5];rfl
 rw[e];show(Cp ((g.map λ(k:Nat)=>(k:Int)).map D.int)).bind _=_;rw[Ka];show(if (g.map λ(k:Nat)=>(k:Int)).length<4000 then _ else _)=_;rw[if_pos (by rw[Qqq];omega)]
 rfl
theorem Wa{M:List cG}(B:MB M):∀(m n:Nat) (g:List Nat),7000<=n+m->n<=600->pA M g->um M g->(n=0\/∃g0,pA M g0/\g=nums (dq M g0)/\n=cnt g0)->
  ∃g' g0 n',dI (dD (au uP 2 (nW iG (aL 1)))) il.fV m (El M g n) = .nx (El M g' n')/\pA M g0/\g'=nums (dq M g0)/\cnt g'<=cnt g0/\um M g':=by
 intro m
 induction m with
 | zero=>intro n g h1 h2;omega
 | succ m ih=>
  intro n g hm hn P hC hw;have hg6:g.length<=600:=by rw[P.len];exact B.few
  have ht:dD (au uP 2 (nW iG (aL 1))) (El M g n) = .ok (decide (n<cnt g)) (El M g n):=by
   refine d8 (jY (i:=2) (b:=nW iG (aL 1)) (env:=El M g n) (e2:=El M g n) (x:=.int (n:Int)) (y:=.int (cnt g:Int)) rfl ?_ rfl (vD n (cnt g)));show gC (iG (.lst (gq g))) _=_;rw[Nv g hg6]
   rfl
  by_cases hlt:n<cnt g
  ·rw[Qw2 hlt] at ht;have hb:il.fV (El M g n) = .nx (El M (nums (dq M g)) (cnt g)):=by
    unfold il.fV;refine(aB (e:=El M g (cnt g)) (bQ (d:=.int (cnt g:Int)) (e:=El M g n) ?_ rfl)).trans ?_
    ·show gC (iG (.lst (gq g))) _=_;rw[Nv g hg6]
     rfl
    ·exact bQ (d:=.lst (gq (nums (dq M g)))) (e:=El M g (cnt g)) (aM (aH (Za B P.len (cnt g)) bw) (numbered afE (dq M g) (by rw[m6];exact B.few))) rfl
   rw[KB.Av ht hb];have hc:=Oa g;exact ih (cnt g) (nums (dq M g)) (by omega) (by omega) P.next (K1 B.adn hC) (.inr ⟨g,P,rfl,rfl⟩)
  ·rw[Qwk hlt] at ht;rcases hw with h0|⟨g0,P0,e1,e2⟩
   ·have:=ZZ (g:=g) (by rw[P.len];exact B.pos);omega
   ·exact⟨g,g0,n,KB.Ip ht,P0,e1,by omega,hC⟩
theorem like_states{M:List cG}(B:MB M):∃g g0,il.jE [encM M]=some (.lst (gq g))/\pA M g0/\g=nums (dq M g0)/\cnt g<=cnt g0/\um M g:=by obtain⟨g,g0,n,h1,h2,h3,h4,h5⟩:=Wa B 7000 0 (nums (jd M)) (by omega) (by omega) (YD M) (ZX M) (.inl rfl);refine⟨g,g0,cR (env:=El M g n) ?_,h2,h3,h4,h5⟩;unfold il.mY;refine(aB (e:=[Zf (encM M),Zf (.lst (gq (nums (jd M)))),Zn]) (bQ (d:=.lst (gq (nums (jd M)))) (e:=[Zf (encM M),Zn,Zn]) (aM (aH (Wb B) bw) (numbered afF (jd M) (by unfold jd;rw[Qqq];exact B.few))) rfl)).trans ?_;refine(aB (e:=El M (nums (jd M)) 0) rfl).trans ?_;exact(aB h1).trans rfl
def Ea:Nat->List Nat->List (D×D)
 | _,[]=>[]
 | n,v::vs=>(.int (v:Int),.int (n:Int))::Ea (n+1) vs
theorem J6:∀(us:List Nat) (n:Nat) (t:Nat),Ea n (us++[t])=Ea n us++[(.int (t:Int),.int ((n+us.length:Nat):Int))]
 | [],n,t=>rfl
 | u::us,n,t=>by
  show(D.int (u:Int),D.int (n:Int))::Ea (n+1) (us++[t])=(D.int (u:Int),D.int (n:Int))::(Ea (n+1) us++_);rw[J6 us (n+1) t,Qqv];have:n+1+us.length=n+(us.length+1):=by omega
  rw[this]
theorem Qe:∀(us:List Nat) (n:Nat),(Ea n us).length=us.length
 | [],n=>rfl
 | u::us,n=>by
  show(Ea (n+1) us).length+1=us.length+1;rw[Qe us]
theorem Af:∀(us:List Nat) (n t:Nat),m5 (Ea n us) (.inl (t:Int))=if t∈us then some (.int ((n+cu us t:Nat):Int)) else none
 | [],n,t=>by simp[Ea,m5]
 | u::us,n,t=>by
  have ih:=Af us (n+1) t;show(if ou (.int (u:Int))=some (.inl (t:Int)) then _ else _)=_;by_cases h:u=t
  ·subst h;have ei:cu (u::us) u=0:=by unfold cu;rw[if_pos rfl]
   rw[if_pos (show ou (.int (u:Int))=some (.inl (u:Int)) from rfl),if_pos (Qqk ..),ei]
   rfl
  ·have hne:¬(ou (.int (u:Int))=some (.inl (t:Int))):=λe=>h (by
    have e1:=Qwv (show some (Sum.inl (u:Int):Key)=some (.inl (t:Int)) from e);exact Qvx (Sum.inl.inj e1))
   have ei:cu (u::us) t=cu us t+1:=by conv=>lhs;unfold cu;rw[if_neg h]
   rw[if_neg hne,ih,ei];by_cases hm:t∈us
   ·rw[if_pos hm,if_pos (Qqj _ hm)];have:n+1+cu us t=n+(cu us t+1):=by omega
    rw[this]
   ·rw[if_neg hm,if_neg λz=>(Qq5.mp z).elim (λe=>h e.symm) hm]
theorem R3(us:List Nat)(t:Nat):oN (.int (t:Int)) (.dct (Ea 0 us))=some (.bl (!decide (t∈us))):=by
 show some (D.bl (!(m5 (Ea 0 us) (.inl (t:Int))).isSome))=_;rw[Af];by_cases h:t∈us
 ·rw[if_pos h,Qw2 h];rfl
 ·rw[if_neg h,Qwk h];rfl
theorem Zd{us:List Nat}{t:Nat}(h:t∈us):jD (.dct (Ea 0 us)) (.int (t:Int))=some (.int (cu us t:Int)):=by show m5 (Ea 0 us) (.inl (t:Int))=_;rw[Af,if_pos h,Nat.zero_add]
theorem Zc{us:List Nat}{t:Nat}(h:t ∉ us):putD (Ea 0 us) (.int (t:Int)) (.inl (t:Int)) (.int (us.length:Int))=Ea 0 (us++[t]):=by
 unfold putD;rw[Af,if_neg h,J6,Nat.zero_add]
 rfl
theorem ZP{i:Nat}{k a:Ev}{env e1 e2:Ev.Env}{d kd z:D}{o:Bool}{q:Key}{kvs:List (D×D)}(h1:a env = .ok d e1)(h0:e1[i]? = some (some (o,z)))(h2:k e1 = .ok kd e2)(h3:e2[i]? = some (Zt (.dct kvs)))(h4:ou kd=some q)(h5:kvs.length<sizeLine):oU i k a env = .nx (e2.set i (Zt (.dct (putD kvs kd q d)))):=by unfold oU;simp only[h1,jG,h0,h2,h3,h4,if_pos h5]
def grp(g:List Nat)(i:Nat):Nat:=g.getD i 0
def gs(g kept:List Nat):List Nat:=kept.map (grp g)
def nC(g kept:List Nat)(to:Nat):List Nat:=if grp g to∈gs g kept then kept else kept++[to]
theorem NP(g kept:List Nat)(to:Nat):gs g (nC g kept to)=fL (gs g kept) (grp g to):=by
 unfold nC fL;split
 ·rfl
 ·unfold gs;rw[Qxz];rfl
def fZ(g kept:List Nat)(pt:List Nat×Nat):List Nat×Nat:=(pt.1,cu (gs g kept) (grp g pt.2))
abbrev zG(M:List cG)(g kept:List Nat)(told:List D)(a5 a6 a7 a8 a9:OD):Ev.Env:=
 [Zf (encM M),Zf (.lst (gq g)),Zt (.dct (Ea 0 (gs g kept))),Zl (gq kept),Zl told,a5,a6,a7,a8,a9]
structure TQ(M:List cG)(g kept:List Nat):Prop where
 nd:(gs g kept).Nodup
 z0:kept[0]? = some 0
 inn:∀k∈kept,k<M.length
theorem TQ.few{M:List cG}(B:MB M){g kept:List Nat}(K:TQ M g kept):kept.length<=600:=by
 have hn:kept.Nodup:=by have:=K.nd;unfold gs at this;exact(List.pairwise_map.mp this).imp λh e=>h (Qxy _ e)
 have:=KB.qG (List.range M.length) kept hn λk hk=>Qj3.mpr (K.inn k hk);rw[List.length_range] at this;exact Qq0 this B.few
theorem TQ.add{M:List cG}{g kept:List Nat}(K:TQ M g kept){to:Nat}(h:to<M.length):TQ M g (nC g kept to):=by
 refine⟨by rw[NP];exact xF _ K.nd,?_,λk hk=>?_⟩
 ·unfold nC;split
  ·exact K.z0
  ·exact KB.Qm K.z0
 ·unfold nC at hk;split at hk
  ·exact K.inn k hk
  ·rcases Qw6.mp hk with hk|hk
   ·exact K.inn k hk
   ·rw[Qq6.mp hk];exact h
theorem afK{M:List cG}(B:MB M){g kept:List Nat}(hg:g.length=M.length)(K:TQ M g kept){told steps:List D}(hs:steps.length<=100){pt:List Nat×Nat}(hp:pt.2<M.length)(a5 a6:OD) :
  il.kW (zG M g kept told a5 a6 (Zl steps) (Zs pt.1) (Zf (.int (pt.2:Int)))) =
   .nx (zG M g (nC g kept pt.2) told a5 a6 (Zl (steps++[aJ (fZ g (nC g kept pt.2) pt)])) (Zs pt.1) (Zf (.int (pt.2:Int)))):=by
 obtain⟨put,to⟩:=pt;have hfew:=K.few B;have gx:cU (.lst (gq g)) (.int (to:Int))=some (.int ((grp g to:Nat):Int)):=Ck (by rw[hg];exact hp);have ix:∀(kp:List Nat) (st:List D),au cU 1 (aO 9) (zG M g kp told a5 a6 (Zl st) (Zs put) (Zf (.int (to:Int)))) = .ok (.int ((grp g to:Nat):Int)) (zG M g kp told a5 a6 (Zl st) (Zs put) (Zf (.int (to:Int)))):=λkp st=>
  jY (i:=1) (b:=aO 9) (x:=.lst (gq g)) (y:=.int (to:Int)) rfl rfl rfl gx
 have fin:∀kp:List Nat,grp g to∈gs g kp->dJ 7 (bJ (Zv 8 (aa (au jD 2 (au cU 1 (aO 9))) aj))) (zG M g kp told a5 a6 (Zl steps) (Zs put) (Zf (.int (to:Int)))) =
   .nx (zG M g kp told a5 a6 (Zl (steps++[aJ (fZ g kp (put,to))])) (Zs put) (Zf (.int (to:Int)))):=λkp hm=>by
  let E1:Ev.Env:=zG M g kp told a5 a6 (Zl steps) (Zs put) (Zf (.int (to:Int)))
  refine(Ev.pH (i:=7) (xs:=steps) (d:=aJ (fZ g kp (put,to))) (e:=E1) rfl ?_ rfl (Qw4 hs (by decide))).trans rfl;refine cB (ds:=[.str put,.int (cu (gs g kp) (grp g to):Int)]) (aH (e1:=E1) rfl (aH ?_ bw)) Ev.zZ;exact vI (i:=2) (x:=.dct (Ea 0 (gs g kp))) (y:=.int ((grp g to:Nat):Int)) rfl (ix kp steps) rfl (Zd hm)
 have ht:dD (aR oN (au cU 1 (aO 9)) (aO 2)) (zG M g kept told a5 a6 (Zl steps) (Zs put) (Zf (.int (to:Int)))) = .ok (!decide (grp g to∈gs g kept)) (zG M g kept told a5 a6 (Zl steps) (Zs put) (Zf (.int (to:Int)))):=
  d8 (cj (x:=.int ((grp g to:Nat):Int)) (y:=.dct (Ea 0 (gs g kept))) (ix kept steps) rfl (R3 (gs g kept) (grp g to)))
 unfold il.kW;by_cases hm:grp g to∈gs g kept
 ·rw[Qw2 hm] at ht;have e:nC g kept to=kept:=if_pos hm;show _=Out.nx (zG M g (nC g kept to) told a5 a6 (Zl (steps++[aJ (fZ g (nC g kept to) (put,to))])) (Zs put) (Zf (.int (to:Int))));rw[e];exact(aB (fK ht)).trans (fin kept hm)
 ·rw[Qwk hm] at ht;have e:nC g kept to=kept++[to]:=if_neg hm;show _=Out.nx (zG M g (nC g kept to) told a5 a6 (Zl (steps++[aJ (fZ g (nC g kept to) (put,to))])) (Zs put) (Zf (.int (to:Int))));rw[e];have e2:gs g (kept++[to])=gs g kept++[grp g to]:=by unfold gs;rw[Qxz];rfl
  refine(aB ?_).trans (fin (kept++[to]) (by rw[e2];simp));refine(lz ht).trans ?_
  let E0:Ev.Env:=zG M g kept told a5 a6 (Zl steps) (Zs put) (Zf (.int (to:Int)))
  have s4:=ZP (i:=2) (k:=au cU 1 (aO 9)) (a:=ao cz (aa (aO 3) aj)) (env:=E0) (e1:=E0) (e2:=E0) (d:=.int ((gq kept).length:Int)) (kd:=.int ((grp g to:Nat):Int)) (z:=.dct (Ea 0 (gs g kept))) (o:=true) (q:=.inl ((grp g to:Nat):Int)) (kvs:=Ea 0 (gs g kept)) rfl rfl (ix kept steps) rfl rfl
   (by rw[Qe];unfold gs;rw[Qqq];exact Qw4 hfew (by decide))
  have e3:(gq kept).length=(gs g kept).length:=by unfold gq gs;rw[Qqq,Qqq]
  rw[e3,Zc hm,<-e2] at s4;rw[aB s4];refine(Ev.pH (i:=3) (xs:=gq kept) (d:=.int (to:Int)) (e:=[Zf (encM M),Zf (.lst (gq g)),Zt (.dct (Ea 0 (gs g (kept++[to])))),Zl (gq kept),Zl told,a5,a6,Zl steps,Zs put,Zf (.int (to:Int))]) rfl rfl rfl (by unfold gq;rw[Qqq];exact Qw4 hfew (by decide))).trans ?_;have e5:gq kept++[.int (to:Int)]=gq (kept++[to]):=by unfold gq;rw[Qxz];rfl
  rw[e5]
  rfl
theorem qX{g kept more:List Nat}{pt:List Nat×Nat}(h:grp g pt.2∈gs g kept):fZ g (kept++more) pt=fZ g kept pt:=by
 unfold fZ;have e:gs g (kept++more)=gs g kept++gs g more:=by unfold gs;rw[Qxz]
 rw[e,wV _ h]
theorem Tq(g kept:List Nat)(to:Nat):∃more,nC g kept to=kept++more:=by
 unfold nC;split
 ·exact⟨[],(Qw8 _).symm⟩
 ·exact⟨_,rfl⟩
def Runs:Nat->List Nat->Nat->Prop
 | c,[],c'=>c=c'
 | c,t::ts,c'=>(t<c/\Runs c ts c')\/(t=c/\Runs (c+1) ts c')
def zE:Nat->Nat->List (List Nat)->Nat->Prop
 | _,c,[],c'=>c=c'
 | n,c,r::rs,c'=>n<c/\∃c1,Runs c r c1/\zE (n+1) c1 rs c'
theorem Xc{M:List cG}{g kept:List Nat}(K:TQ M g kept){pt:List Nat×Nat}(hp:pt.2<M.length):((fZ g (nC g kept pt.2) pt).2<kept.length/\nC g kept pt.2=kept)\/((fZ g (nC g kept pt.2) pt).2=kept.length/\nC g kept pt.2=kept++[pt.2]):=by
 by_cases h:grp g pt.2∈gs g kept
 ·have e:nC g kept pt.2=kept:=if_pos h;rw[e];refine .inl ⟨?_,rfl⟩;have:=wU h;unfold gs at this;rw[Qqq] at this;exact this
 ·have e:nC g kept pt.2=kept++[pt.2]:=if_neg h;have nd:=(K.add hp).nd;rw[e] at nd ⊢;refine .inr ⟨?_,rfl⟩;have e2:gs g (kept++[pt.2])=gs g kept++[grp g pt.2]:=by unfold gs;rw[Qxz];rfl
  show cu (gs g (kept++[pt.2])) (grp g pt.2)=kept.length;refine rE nd ?_;rw[e2];have hl:(gs g kept).length=kept.length:=by unfold gs;rw[Qqq]
  rw[<-hl];exact KB.Hs
theorem afL{M:List cG}(B:MB M){g:List Nat}(hg:g.length=M.length){told:List D}(a5 a6:OD)(S:List (List Nat×Nat))(hS:S.length<=50)(hin:∀pt∈S,pt.2<M.length):∀(rest done:List (List Nat×Nat)) (kept:List Nat) (a8 a9:OD),S=done++rest->TQ M g kept->(∀pt∈done,grp g pt.2∈gs g kept)->
  ∃kept' b8 b9,ir (bB 2 (aA (ak 8) (aA (ak 9) bF))) il.kW (rest.map aJ) (zG M g kept told a5 a6 (Zl (done.map λpt=>aJ (fZ g kept pt))) a8 a9) =
   .nx (zG M g kept' told a5 a6 (Zl (S.map λpt=>aJ (fZ g kept' pt))) b8 b9)/\TQ M g kept'/\(∀pt∈S,grp g pt.2∈gs g kept')/\(∃more,kept'=kept++more)/\Runs kept.length (rest.map λpt=>(fZ g kept' pt).2) kept'.length:=by
 intro rest
 induction rest with
 | nil=>
  intro done kept a8 a9 hx K hd;rw[Qw8] at hx;subst hx;exact⟨kept,a8,a9,rfl,K,hd,⟨[],by rw[Qw8]⟩,rfl⟩
 | cons pt rest ih=>
  intro done kept a8 a9 hx K hd;have lY:pt∈S:=by rw[hx];simp
  have hx':S=(done++[pt])++rest:=by rw[hx];simp
  have hdl:done.length<=50:=by have:=Qxy List.length hx;rw[Qqy] at this;omega
  have h1:=afK B hg K (told:=told) (steps:=done.map λpt=>aJ (fZ g kept pt)) (by rw[Qqq];omega) (hin pt lY) a5 a6;have K':=K.add (hin pt lY);obtain⟨m1,em⟩:=Tq g kept pt.2;have hs:(done.map λq=>aJ (fZ g kept q))++[aJ (fZ g (nC g kept pt.2) pt)]=(done++[pt]).map λq=>aJ (fZ g (nC g kept pt.2) q):=by
   rw[Qxz]
   congr 1
   refine Qx4 λq hq=>?_;rw[em,qX (hd q hq)]
  rw[hs] at h1;have hpin:grp g pt.2∈gs g (nC g kept pt.2):=by rw[NP];exact uE _ _
  obtain⟨kept',b8,b9,g1,g2,g3,⟨more,g4⟩,g5⟩:=ih (done++[pt]) (nC g kept pt.2) (Zs pt.1) (Zf (.int (pt.2:Int))) hx' K' (λq hq=>by
   rw[NP];rcases Qw6.mp hq with hq|hq
   ·exact(qO _ _ _).mpr (.inl (hd q hq))
   ·rw[Qq6.mp hq];exact uE _ _)
  refine⟨kept',b8,b9,?_,g2,g3,⟨m1++more,by rw[g4,em,Qxk]⟩,?_⟩
  ·rw[<-g1,Qq2];exact KB.jO rfl h1
  ·rw[Qq2];have e0:fZ g kept' pt=fZ g (nC g kept pt.2) pt:=by rw[g4,qX hpin]
   rw[e0];rcases Xc K (hin pt lY) with ⟨q1,q2⟩|⟨q1,q2⟩
   ·refine .inl ⟨q1,?_⟩;rw[q2] at g5;exact g5
   ·refine .inr ⟨q1,?_⟩;rw[q2,Qqy,Qw9] at g5;exact g5
def jf(M:List cG)(g kept:List Nat)(k:Nat):cG:=((M.getD k ([],[])).1,(M.getD k ([],[])).2.map (fZ g kept))
structure Led(M:List cG)(g kept:List Nat):Prop extends TQ M g kept where
 led:∀k∈kept,∀pt∈(M.getD k ([],[])).2,grp g pt.2∈gs g kept
theorem getM{M:List cG}{k:Nat}(h:k<M.length):M[k]? = some (M.getD k ([],[])):=by rw[Qq9,Qq7 h];rfl
theorem Zg{M:List cG}(B:MB M){g:List Nat}(hg:g.length=M.length):∀(m n:Nat) (kept:List Nat) (a5 a6 a7 a8 a9:OD),n+m=7000->n<=kept.length->TQ M g kept->(∀k∈kept.take n,∀pt∈(M.getD k ([],[])).2,grp g pt.2∈gs g kept)->
  ∃kept' b5 b6 b7 b8 b9,dI (dD (aR uP (ao cz (aa (aO 4) aj)) (ao cz (aa (aO 3) aj)))) il.kj m (zG M g kept ((kept.take n).map λk=>aV (jf M g kept k)) a5 a6 a7 a8 a9) =
   .nx (zG M g kept' (kept'.map λk=>aV (jf M g kept' k)) b5 b6 b7 b8 b9)/\Led M g kept'/\(∃more,kept'=kept++more)/\zE n kept.length ((kept'.drop n).map λk=>(jf M g kept' k).2.map (·.2)) kept'.length:=by
 intro m
 induction m with
 | zero=>
  intro n kept a5 a6 a7 a8 a9 hm hn K hc;have:=K.few B;omega
 | succ m ih=>
  intro n kept a5 a6 a7 a8 a9 hm hn K hc;have hrl:((kept.take n).map λk=>aV (jf M g kept k)).length=n:=by rw[Qqq,Qzv];omega
  have ht:dD (aR uP (ao cz (aa (aO 4) aj)) (ao cz (aa (aO 3) aj))) (zG M g kept ((kept.take n).map λk=>aV (jf M g kept k)) a5 a6 a7 a8 a9) = .ok (decide (n<kept.length)) (zG M g kept ((kept.take n).map λk=>aV (jf M g kept k)) a5 a6 a7 a8 a9):=by
   refine d8 (cj (x:=.int (((kept.take n).map λk=>aV (jf M g kept k)).length:Int)) (y:=.int ((gq kept).length:Int)) rfl rfl ?_);have:(gq kept).length=kept.length:=by unfold gq;rw[Qqq]
   rw[hrl,this];exact vD n kept.length
  by_cases hlt:n<kept.length
  ·rw[Qw2 hlt] at ht;have hk:kept[n]? = some kept[n]:=Qq7 hlt;have hkl:=K.inn kept[n] (Qx2 hlt);generalize kept[n]=k at *;have hM:=getM hkl;have hst:=Qq8 hM;have row:∀kp,jf M g kp k=((M.getD k ([],[])).1,(M.getD k ([],[])).2.map (fZ g kp)):=λkp=>rfl;generalize M.getD k ([],[])=st at hM hst row;obtain⟨kept',b8,b9,g1,g2,g3,⟨more,g4⟩,g5⟩:=afL B hg (told:=(kept.take n).map λk=>aV (jf M g kept k)) (Zs st.1) (Zf (.tup (st.2.map aJ))) st.2 (B.stp st hst) (B.inn st hst) st.2 [] kept a8 a9 rfl K (λa ha=>by simp at ha);have hn':n+1<=kept'.length:=by rw[g4,Qqy];omega
   have hf:=g2.few B;have e2:kept'.take (n+1)=kept.take n++[k]:=by
    rw[g4,List.take_append_of_le_length (by omega),List.take_add_one,hk]
    rfl
   have e1:(kept.take n).map (λk=>aV (jf M g kept k))++[aV (jf M g kept' k)]=(kept'.take (n+1)).map λk=>aV (jf M g kept' k):=by
    rw[e2,Qxz]
    congr 1
    refine Qx4 λj hj=>?_;unfold jf
    congr 2
    refine Qx4 λpt lY=>?_;rw[g4,qX (hc j hj pt lY)]
   have hb:il.kj (zG M g kept ((kept.take n).map λk=>aV (jf M g kept k)) a5 a6 a7 a8 a9) = .nx (zG M g kept' ((kept'.take (n+1)).map λk=>aV (jf M g kept' k)) (Zs st.1) (Zf (.tup (st.2.map aJ))) (Zl (st.2.map λpt=>aJ (fZ g kept' pt))) b8 b9):=by
    rw[<-e1,row];generalize(kept.take n).map (λk=>aV (jf M g kept k))=told at *;unfold il.kj;refine(aB (e:=zG M g kept told (Zs st.1) (Zf (.tup (st.2.map aJ))) a7 a8 a9) (bQ (d:=aV st) (e:=zG M g kept told a5 a6 a7 a8 a9) ?_ rfl)).trans ?_
    ·refine jY (i:=0) (x:=encM M) (y:=.int (k:Int)) rfl ?_ rfl (rD aV M hM);refine vI (i:=3) (x:=.lst (gq kept)) (y:=.int (told.length:Int)) rfl rfl rfl ?_;rw[hrl];exact rD (λ(k:Nat)=>D.int (k:Int)) kept hk
    let E0:Ev.Env:=zG M g kept told (Zs st.1) (Zf (.tup (st.2.map aJ))) (Zl []) a8 a9
    refine(aB (e:=E0) rfl).trans ?_;refine(aB ((dh (ds:=st.2.map aJ) (e:=E0) rfl).trans g1)).trans ?_;refine(Ev.pH (i:=4) (xs:=told) (d:=.tup [.str st.1,.tup (st.2.map λpt=>aJ (fZ g kept' pt))]) (e:=zG M g kept' told (Zs st.1) (Zf (.tup (st.2.map aJ))) (Zl (st.2.map λpt=>aJ (fZ g kept' pt))) b8 b9) rfl rfl rfl (by rw[hrl];exact Qwq hlt (Qq0 (K.few B) (by decide)))).trans ?_;have e6:aV (st.1,st.2.map (fZ g kept')) = .tup [.str st.1,.tup (st.2.map λpt=>aJ (fZ g kept' pt))]:=by
     unfold aV;rw[Qw5]
     rfl
    rw[e6]
    rfl
   rw[KB.Av ht hb];have hst2:M.getD k ([],[])=st:=by rw[Qq9,hM];rfl
   obtain⟨kf,c5,c6,c7,c8,c9,f1,f2,⟨m2,f3⟩,f4⟩:=ih (n+1) kept' (Zs st.1) (Zf (.tup (st.2.map aJ))) (Zl (st.2.map λpt=>aJ (fZ g kept' pt))) b8 b9 (by omega) hn' g2 (λj hj pt lY=>by
   rw[e2] at hj;rcases Qw6.mp hj with hj|hj
   ·rw[g4];have e:gs g (kept++more)=gs g kept++gs g more:=by unfold gs;rw[Qxz]
    rw[e];exact List.mem_append_left _ (hc j hj pt lY)
   ·rw[Qq6.mp hj] at lY;rw[hst2] at lY;exact g3 pt lY)
   refine⟨kf,c5,c6,c7,c8,c9,f1,f2,⟨more++m2,by rw[f3,g4,Qxk]⟩,?_⟩;have hkn:kf[n]? = some k:=by rw[f3,g4,Qxk,Qxq hlt];exact hk
   have hnl:n<kf.length:=(Qq4.mp hkn).1;have e8:kf.drop n=k::kf.drop (n+1):=by
    rw[Qz8 hnl]
    congr 1
    exact(Qq4.mp hkn).2
   rw[e8,Qq2];refine⟨hlt,kept'.length,?_,f4⟩;have e9:(jf M g kf k).2.map (·.2)=st.2.map λpt=>(fZ g kept' pt).2:=by unfold jf;rw[hst2,Qw5];refine Qx4 λpt lY=>?_;show(fZ g kf pt).2=_;rw[f3,qX (g3 pt lY)]
   rw[e9];exact g5
  ·rw[Qwk hlt] at ht;have e:n=kept.length:=by omega
   have e2:kept.take n=kept:=by rw[e,List.take_length]
   rw[e2] at hc;refine⟨kept,a5,a6,a7,a8,a9,?_,⟨K,hc⟩,⟨[],(Qw8 _).symm⟩,?_⟩
   ·rw[KB.Ip ht,e2]
   ·rw[e,List.drop_length]
    rfl
theorem joined{M:List cG}(B:MB M):∃g g0 kept,il.qJ [encM M]=some (.tup (kept.map λk=>aV (jf M g kept k)))/\pA M g0/\g=nums (dq M g0)/\cnt g<=cnt g0/\Led M g kept/\um M g/\zE 0 1 (kept.map λk=>(jf M g kept k).2.map (·.2)) kept.length:=by
 obtain⟨g,g0,h1,h2,h3,h4,h5⟩:=like_states B;have hg:g.length=M.length:=by rw[h3,qF,m6]
 have K0:TQ M g [0]:=⟨Qx9.mpr ⟨by simp,.nil⟩,rfl,λk hk=>by rw[Qq6.mp hk];exact B.pos⟩;obtain⟨kept,b5,b6,b7,b8,b9,g1,g2,_,g3⟩:=Zg B hg 7000 0 [0] none none none none none rfl (Qx3 _) K0 (λk hk=>by simp at hk);refine⟨g,g0,kept,cR (env:=zG M g kept (kept.map λk=>aV (jf M g kept k)) b5 b6 b7 b8 b9) ?_,h2,h3,h4,g2,h5,g3⟩;unfold il.xE
 let E0:Ev.Env:=[Zf (encM M),Zf (.lst (gq g)),Zn,Zn,Zn,Zn,Zn,Zn,Zn,Zn]
 refine(aB (e:=E0) (bQ (d:=.lst (gq g)) (e:=[Zf (encM M),Zn,Zn,Zn,Zn,Zn,Zn,Zn,Zn,Zn]) (aM (ds:=[encM M]) rfl h1) rfl)).trans ?_;refine(aB (e:=[Zf (encM M),Zf (.lst (gq g)),Zt (.dct [(.int ((grp g 0:Nat):Int),.int 0)]),Zn,Zn,Zn,Zn,Zn,Zn,Zn]) ?_).trans ?_
 ·refine(oR (d:=.dct [(.int ((grp g 0:Nat):Int),.int 0)]) (e:=E0) ?_).trans rfl;have:au cU 1 (Zi 0) [Zf (encM M),Zf (.lst (gq g)),Zn,Zn,Zn,Zn,Zn,Zn,Zn,Zn] = .ok (.int ((grp g 0:Nat):Int)) [Zf (encM M),Zf (.lst (gq g)),Zn,Zn,Zn,Zn,Zn,Zn,Zn,Zn]:=
   jY (i:=1) (b:=Zi 0) (x:=.lst (gq g)) (y:=.int 0) rfl rfl rfl (Ck (q:=0) (by rw[hg];exact B.pos))
  unfold xu;rw[this]
  rfl
 refine(aB (e:=[Zf (encM M),Zf (.lst (gq g)),Zt (.dct [(.int ((grp g 0:Nat):Int),.int 0)]),Zl [.int 0],Zn,Zn,Zn,Zn,Zn,Zn]) rfl).trans ?_;refine(aB (e:=zG M g [0] [] none none none none none) rfl).trans ?_;exact(aB g1).trans rfl
theorem R8{M:List cG}(B:MB M){g g0 kept:List Nat}(P:pA M g0)(hg:g=nums (dq M g0))(hc:cnt g<=cnt g0)(L:Led M g kept):∀w,jw (kept.map (jf M g kept)) 0 w=jw M 0 w:=by
 subst hg;have A:=Le P B.adn hc;have J:Xj M (kept.map (jf M (nums (dq M g0)) kept)) (λi=>(nums (dq M g0)).getD i 0) kept (λv=>cu (gs (nums (dq M g0)) kept) v):=by
  refine⟨by rw[Qqq],L.inn,λj k st hj hs=>?_,λk hk st hs pt lY=>?_⟩
  ·rw[Qwx,hj];show some (jf M _ kept k)=_;unfold jf;rw[Qq9,hs]
   rfl
  ·have hm:=L.led k hk pt (by rw[Qq9,hs];exact lY);have h1:=jC hm;unfold gs at h1;rw[Qwx] at h1;obtain⟨k',e1,e2⟩:=Qww.mp h1;exact⟨k',e1,e2⟩
 exact λw=>MK A J w 0 0 L.z0
theorem GX{g kept:List Nat}{v:Nat}(h:v∈gs g kept):∃k,kept[cu (gs g kept) v]? = some k/\grp g k=v:=by have h1:=jC h;unfold gs at h1;rw[Qwx] at h1;obtain⟨k,e1,e2⟩:=Qww.mp h1;exact⟨k,e1,e2⟩
theorem GR{M:List cG}{g kept:List Nat}{j k:Nat}{st:cG}(h:kept[j]? = some k)(hs:M[k]? = some st):(kept.map (jf M g kept))[j]? = some (st.1,st.2.map (fZ g kept)):=by
 rw[Qwx,h];show some (jf M g kept k)=_;unfold jf;rw[Qq9,hs]
 rfl
theorem Es{s t:cG}{g:Nat->Nat}(h1:s.2.map (·.1)=t.2.map (·.1))(h2:s.2.map (λpt=>g pt.2)=t.2.map (λpt=>g pt.2)){pt:List Nat×Nat}(hp:pt∈s.2):∃q∈t.2,q.1=pt.1/\g q.2=g pt.2:=by
 obtain⟨a,ha⟩:=List.mem_iff_getElem?.mp hp;have k1:=Qxy (λl=>l[a]?) h1;have k2:=Qxy (λl=>l[a]?) h2;simp only[Qwx,ha] at k1 k2;cases q:t.2[a]? with
 | none=>rw[q] at k1;cases k1
 | some u=>
  rw[q] at k1 k2;exact⟨u,Qq8 q,(Qwv k1).symm,(Qwv k2).symm⟩
theorem DR{M:List cG}{g kept:List Nat}(A:Alike M (grp g))(L:Led M g kept)(hM:rT M):rT (kept.map (jf M g kept)):=by
 intro e he i
 let f:Nat->List Nat:=λi=>if grp g i∈gs g kept then e.getD (cu (gs g kept) (grp g i)) [] else []
 have hf:∀{i:Nat},grp g i∈gs g kept->f i=e.getD (cu (gs g kept) (grp g i)) []:=λh=>if_pos h;have led:∀(k:Nat) (st:cG) (pt:List Nat×Nat),k∈kept->M[k]? = some st->pt∈st.2->grp g pt.2∈gs g kept:=λk st pt hk hs hp=>L.led k hk pt (by rw[Qq9,hs];exact hp);have C:fM M ((List.range M.length).map f):=by
  have lt:∀{i:Nat} {st:cG},M[i]? = some st->((List.range M.length).map f).getD i []=f i:=λ{i st} h=>by
   rw[range_getD,if_pos (Qq4.mp h).1]
  refine⟨by rw[Qqq,List.length_range],λi st hi=>?_,λi st pt hi hp=>?_⟩
  ·rw[lt hi];by_cases h:grp g i∈gs g kept
   ·obtain⟨k,e1,e2⟩:=GX h;have hk:=cW (L.inn k (Qq8 e1));rw[hf h,<-(A.fin k i _ st hk hi e2).1];have:=he.fin _ _ (GR (g:=g) e1 hk);exact this
   ·have:f i=[]:=if_neg h;rw[this];exact Qzw
  ·have hpl:=A.inn i st pt hi hp;rw[lt hi,lt (cW hpl)];by_cases h:grp g i∈gs g kept
   ·obtain⟨k,e1,e2⟩:=GX h;have hkm:=Qq8 e1;have hk:=cW (L.inn k hkm);obtain⟨_,a2,a3⟩:=A.fin i k st _ hi hk e2.symm;obtain⟨q,q1,q2,q3⟩:=Es a2 a3 hp;have hq:=led k _ q hkm hk q1;have lY:grp g pt.2∈gs g kept:=by rw[<-q3];exact hq
    have:=he.stp _ _ (fZ g kept q) (GR e1 hk) (Qwz.mpr ⟨q,q1,rfl⟩);rw[hf h,hf lY,<-q2,<-q3];exact this
   ·have:f i=[]:=if_neg h;rw[this];exact Qzw
 by_cases hi:i<kept.length
 ·have hk:kept[i]? = some kept[i]:=Qq7 hi;have hm:grp g kept[i]∈gs g kept:=Qwz.mpr ⟨_,Qx2 hi,rfl⟩;have h1:=hM _ C kept[i];rw[range_getD,if_pos (L.inn _ (Qx2 hi)),hf hm] at h1;have h2:cu (gs g kept) (grp g kept[i])=i:=rE L.nd (by unfold gs;rw[Qwx,hk];rfl);rw[h2] at h1;exact h1
 ·exact getD_none (by rw[he.len,Qqq];omega)
theorem zX{M:List cG}{g kept:List Nat}(A:Alike M (grp g))(L:Led M g kept)(hC:um M g)(κ:Nat->Nat)
  (hκ:∀(i j:Nat) (s t:cG),(kept.map (jf M g kept))[i]? = some s->(kept.map (jf M g kept))[j]? = some t->κ i=κ j->s.1=t.1/\s.2.map (·.1)=t.2.map (·.1)/\s.2.map (λpt=>κ pt.2)=t.2.map (λpt=>κ pt.2)) :
  ∀i j,i<kept.length->j<kept.length->κ i=κ j->i=j:=by
 intro i j hi hj e;have hki:kept[i]? = some kept[i]:=Qq7 hi;have hkj:kept[j]? = some kept[j]:=Qq7 hj;have idx:∀(i:Nat) (hi:i<kept.length),cu (gs g kept) (grp g kept[i])=i:=λi hi=>rE L.nd (by unfold gs;rw[Qwx,Qq7 hi];rfl);have mem:∀(i:Nat) (hi:i<kept.length),grp g kept[i]∈gs g kept:=λi hi=>Qwz.mpr ⟨_,Qx2 hi,rfl⟩;have led:∀(k:Nat) (st:cG) (pt:List Nat×Nat),k∈kept->M[k]? = some st->pt∈st.2->grp g pt.2∈gs g kept:=λk st pt hk hs hp=>L.led k hk pt (by rw[Qq9,hs];exact hp);have like:∀(i:Nat) (s:cG),grp g i∈gs g kept->M[i]? = some s->∃st:cG,(kept.map (jf M g kept))[cu (gs g kept) (grp g i)]? = some st/\st.1=s.1/\st.2.map (·.1)=s.2.map (·.1)/\(st.2.map λpt=>κ pt.2)=s.2.map λpt=>κ (cu (gs g kept) (grp g pt.2)):=λi s hm hs=>by
  obtain⟨k,e1,e2⟩:=GX hm;have hk:=cW (L.inn k (Qq8 e1));obtain⟨a1,a2,a3⟩:=A.fin k i _ s hk hs e2;refine⟨_,GR e1 hk,a1,?_,?_⟩
  ·rw[<-a2,Qw5];rfl
  ·rw[Qw5];have:=Qxy (List.map λv=>κ (cu (gs g kept) v)) a3;rw[Qw5,Qw5] at this;exact this
 have key:=hC (λi=>grp g i∈gs g kept) (λi=>κ (cu (gs g kept) (grp g i))) (λi st pt hm hs hp=>by
   obtain⟨k,e1,e2⟩:=GX hm;have hkm:=Qq8 e1;have hk:=cW (L.inn k hkm);obtain⟨_,a2,a3⟩:=A.fin i k st _ hs hk e2.symm;obtain⟨q,q1,q2,q3⟩:=Es a2 a3 hp;show grp g pt.2∈gs g kept;rw[<-q3];exact led k _ q hkm hk q1)
  (λi j s t hmi hmj hs ht e=>by
   obtain⟨s',b1,b2,b3,b4⟩:=like i s hmi hs;obtain⟨t',c1,c2,c3,c4⟩:=like j t hmj ht;obtain⟨d1,d2,d3⟩:=hκ _ _ s' t' b1 c1 e;exact⟨by rw[<-b2,<-c2,d1],by rw[<-b3,<-c3,d2],by rw[<-b4,<-c4,d3]⟩)
  kept[i] kept[j] (mem i hi) (mem j hj) (L.inn _ (Qx2 hi)) (L.inn _ (Qx2 hj)) (by show κ _=κ _;rw[idx i hi,idx j hj];exact e)
 have h1:=idx i hi;have h2:=idx j hj;rw[show grp g kept[i]=grp g kept[j] from key] at h1;rw[<-h1,h2]
open qU (State Step Ui goF af3 Hu res idx oH Fp)
structure SO(x:List Nat)(m:Nat)(s:State):Prop where
 fin:s.1.length<=300
 len:s.2.length=x.length
 stp:∀p∈s.2,p.1.length<=300/\p.2<m
structure MO(x:List Nat)(m:Nat)(first:List Nat)(ss:List State):Prop where
 fst:first.length<=300
 pos:0<m
 len:ss.length=m
 sts:∀s∈ss,SO x m s
open uF (sides)
open j9 (mz zf yK lay yO)
section
variable{x:List Nat}{s:D}{Rs:List D}{jK:D}{ps:List P}
noncomputable def Ur(x:List Nat)(Ls:List D)(p:P)(w:List Nat):List Nat:=(mz x Ls p w).2++zf x Ls (mz x Ls p w).1 []
noncomputable def uH(x:List Nat)(Ls:List D)(ps:List P)(p:P):cG:=(zf x Ls p [],x.map (m7 x Ls ps p))
theorem standing_states(hx:x∈qU.XS)(hs:s∈sides)(hR:∀R∈Rs,dF x R)(h4:Rs.length<=4)(hu:(U x (lay s Rs)).length<=600)(hso:il.dX [jK]=some (.tup (sG x))) :
  ∃ps,il.gG [jK,.tup [s,.tup Rs]]=some (KM.encM (ps.map (uH x (lay s Rs) ps)))/\All x s Rs ps:=by
 obtain⟨ps,h1,A⟩:=Jx (jK:=jK) hx hs hR h4 hu hso;refine⟨ps,?_,A⟩;have he:∀p∈ps,il.jF [.tup [s,.tup Rs],lU p]=some (.str (zf x (lay s Rs) p [])):=λp hp=>by
  rw[SQ];exact j9.end_of (A.ok p hp).o
 have hf:=A.few hu;generalize D.tup [s,.tup Rs]=O at *
 let E0:Ev.Env:=[Zf jK,Zf O,Zf (.lst (ps.map lU)),Zf (.lst (ps.map (lV x (lay s Rs) ps)))]
 refine cR (env:=E0) ?_;unfold il.je;refine(aB (e:=E0) (bQ (d:=.tup [.lst (ps.map lU),.lst (ps.map (lV x (lay s Rs) ps))]) (e:=[Zf jK,Zf O,Zn,Zn]) (aM (ds:=[jK,O]) rfl h1) rfl)).trans ?_;refine bY ?_;unfold il.gD;have ez:qb (ps.map lU) (ps.map (lV x (lay s Rs) ps))=ps.map λp=>.tup [lU p,lV x (lay s Rs) ps p]:=by
  unfold qb;rw[List.zip_map',Qw5]
  rfl
 refine(CG (lo:=4) (n:=6) (it:=rH (Zv 2 (Zv 3 aj))) (g:=bB 2 (aA (ak 4) (aA (ak 5) bF))) (c:=bK) (e:=bJ (aa (ao il.jF (Zv 1 (Zv 4 aj))) (Zv 5 aj))) (env:=E0) (aN:=E0) ps (λp=>.tup [lU p,lV x (lay s Rs) ps p])
  (λp=>[Zf (lU p),Zf (lV x (lay s Rs) ps p)]) (λ_=>true) (λp=>aV (uH x (lay s Rs) ps p)) (by
   show Ev.R.ok (qb (ps.map lU) (ps.map (lV x (lay s Rs) ps))) _=_;rw[ez]) rfl (λp hp=>⟨rfl,λvs hv=>?_,rfl,λ_=>?_⟩) (Qq0 hf (by decide))).trans ?_
 ·match vs,hv with
  | [u,v],_=>rfl
 ·have er:aV (uH x (lay s Rs) ps p) = .tup [.str (zf x (lay s Rs) p []),lV x (lay s Rs) ps p]:=by
   unfold aV uH lV;rw[Qw5]
   rfl
  rw[er];exact cB (ds:=[.str (zf x (lay s Rs) p []),lV x (lay s Rs) ps p]) (aH (aM (ds:=[O,lU p]) rfl (he p hp)) rfl) Ev.zZ
 ·rw[Qk3.mpr (λ_ _=>rfl)];unfold KM.encM;rw[Qw5]
  rfl
theorem afd{n:Nat}(h:n<=4):2^n<=16:=Nat.pow_le_pow_right (n:=2) (by decide) h
theorem Jh(hR:∀R∈Rs,dF x R)(h4:Rs.length<=4){p:P}(hp:OkP x s Rs p):(zf x (lay s Rs) p []).length<=30/\∀a∈x,(Nb x (lay s Rs) p a).length<=16:=by
 have hl:=j9.oh s Rs;have h16:=afd (n:=(lay s Rs).length) (by omega);refine⟨?_,λa ha=>?_⟩
 ·have:=(K19.WK (lay s Rs) p [] (j9.tV hR) hp.o.hS (λa ha=>by simp at ha)).2;rw[Qx8] at this;omega
 ·have:=K16.GZ (lay s Rs) p [a] (j9.tV hR) hp.o.hS (λb hb=>by rw[Qq6.mp hb];exact Qqj _ ha);rw[Qw9] at this;unfold Nb;omega
theorem agk(hx:x∈qU.XS)(hR:∀R∈Rs,dF x R)(h4:Rs.length<=4)(hu:(U x (lay s Rs)).length<=600)(A:All x s Rs ps):MB (ps.map (uH x (lay s Rs) ps))/\∀st∈ps.map (uH x (lay s Rs) ps),st.2.length=x.length/\∀pt∈st.2,pt.1.length<=16:=by
 have hx4:x.length<=4:=jJ.qm x hx;have hp:∀st∈ps.map (uH x (lay s Rs) ps),st.2.length=x.length/\∀pt∈st.2,pt.1.length<=16:=λst hst=>by
  obtain⟨p,hp,rfl⟩:=Qwz.mp hst;refine⟨by unfold uH;rw[Qqq],λpt lY=>?_⟩;obtain⟨a,ha,rfl⟩:=Qwz.mp lY;exact(Jh hR h4 (A.ok p hp)).2 a ha
 refine⟨⟨?_,by rw[Qqq];exact A.few hu,λst hst=>?_,λst hst=>by have:=(hp st hst).1;omega,λst hst pt lY=>Qq0 ((hp st hst).2 pt lY) (by decide),λst hst pt lY=>?_⟩,hp⟩
 ·rw[Qqq];exact Qj1 (Qq8 A.z0)
 ·obtain⟨p,hp,rfl⟩:=Qwz.mp hst;exact(Jh hR h4 (A.ok p hp)).1
 ·obtain⟨p,hp,rfl⟩:=Qwz.mp hst;obtain⟨a,ha,rfl⟩:=Qwz.mp lY;rw[Qqq];exact wU (A.clo p hp a ha)
theorem Pb(A:All x s Rs ps):∀(w:List Nat) (p:P),p∈ps->(∀a∈w,a∈x)->jw (ps.map (uH x (lay s Rs) ps)) (cu ps p) (w.map (cu x))=some (Ur x (lay s Rs) p w)
 | [],p,hp,_=>by
  have hl:(lay s Rs).length=p.length:=by rw[j9.oh];exact(A.ok p hp).o.hl.symm
  show(ps.map (uH x (lay s Rs) ps))[cu ps p]?.map (·.1)=_;rw[Qwx,jC hp];unfold Ur;rw[K16.wD _ _ hl]
  rfl
 | a::w,p,hp,hw=>by
  have hl:(lay s Rs).length=p.length:=by rw[j9.oh];exact(A.ok p hp).o.hl.symm
  have ha:=hw a (Qqk ..);have ih:=Pb A w (Fx x (lay s Rs) p a) (A.clo p hp a ha) λb hb=>hw b (Qqj _ hb);have e1:(ps.map (uH x (lay s Rs) ps))[cu ps p]? = some (uH x (lay s Rs) ps p):=by rw[Qwx,jC hp];rfl
  have e2:(uH x (lay s Rs) ps p).2[cu x a]? = some (m7 x (lay s Rs) ps p a):=by
   unfold uH;rw[Qwx,jC ha]
   rfl
  rw[Qq2];unfold jw;rw[e1];simp only;rw[e2];show(jw _ (cu ps (Fx x (lay s Rs) p a)) (w.map (cu x))).map _=_;rw[ih];unfold Ur;have:=K16.z9 (x:=x) (lay s Rs) p [a] w hl;rw[List.singleton_append] at this;rw[this];show some (Nb x (lay s Rs) p a++((mz x (lay s Rs) (Fx x (lay s Rs) p a) w).2++zf x (lay s Rs) (mz x (lay s Rs) (Fx x (lay s Rs) p a) w).1 []))=_;rw[<-Qxk]
  rfl
theorem WL{M:List cG}{c:List (List Nat)}(B:MB M)(hp:∀st∈M,st.2.length=x.length/\∀pt∈st.2,pt.1.length<=16)(hc:CB M c):MB (eZ c M)/\∀st∈eZ c M,st.2.length=x.length:=by
 have hl:=FT hc.1;have key:∀st'∈eZ c M,∃st∈M,∃u,st'=nY c (u,st):=λst' h=>by
  obtain⟨q,hq,rfl⟩:=Qwz.mp h;exact⟨q.2,(Qk8 hq).2,q.1,rfl⟩
 refine⟨⟨by rw[hl];exact B.pos,by rw[hl];exact B.few,λst' h=>?_,λst' h=>?_,λst' h pt lY=>?_,λst' h pt lY=>?_⟩,λst' h=>?_⟩
 all_goals obtain⟨st,hst,u,rfl⟩:=key st' h
 ·show(st.1.drop u.length).length<=30;rw[Qz2];have:=B.fin st hst;omega
 ·show(st.2.map _).length<=50;rw[Qqq];exact B.stp st hst
 ·obtain⟨q,hq,rfl⟩:=Qwz.mp lY;show((q.1++c.getD q.2 []).drop u.length).length<=200;rw[Qz2,Qqy];have h1:=(hp st hst).2 q hq;have h2:=hc.2 q.2;omega
 ·obtain⟨q,hq,rfl⟩:=Qwz.mp lY;show q.2<_;rw[hl];exact B.inn st hst q hq
 ·show(st.2.map _).length=_;rw[Qqq];exact(hp st hst).1
def MX(x:List Nat)(M:List cG):Prop:=∀st∈M,(∀c∈st.1,c∈x)/\∀pt∈st.2,∀c∈pt.1,c∈x
theorem abJ(hR:∀R∈Rs,dF x R)(A:All x s Rs ps):MX x (ps.map (uH x (lay s Rs) ps)):=λst hst=>by
 obtain⟨p,hp,rfl⟩:=Qwz.mp hst;refine⟨aa4 _ p [] (j9.tV hR) (A.ok p hp).u (λa ha=>by simp at ha),λpt lY=>?_⟩;obtain⟨a,ha,rfl⟩:=Qwz.mp lY;exact aaJ _ p [a] (j9.tV hR) (A.ok p hp).u λb hb=>by rw[Qq6.mp hb];exact ha
theorem Jg{M:List cG}{c:List (List Nat)}(hx:MX x M)(hc:fM M c)(i:Nat):∀a∈c.getD i [],a∈x:=by
 cases e:M[i]? with
 | none=>rw[getD_none (by rw[hc.len];exact List.getElem?_eq_none_iff.mp e)];exact λa ha=>by simp at ha
 | some st=>exact λa ha=>(hx st (Qq8 e)).1 a ((hc.fin i st e).subset ha)
theorem ZM{M:List cG}{c:List (List Nat)}(hx:MX x M)(hc:fM M c):MX x (eZ c M):=λst' h=>by
 obtain⟨q,hq,rfl⟩:=Qwz.mp h;have hst:=(Qk8 hq).2;refine⟨λa ha=>(hx q.2 hst).1 a (List.mem_of_mem_drop ha),λpt lY=>?_⟩;obtain⟨r,hr,rfl⟩:=Qwz.mp lY;intro a ha;rcases Qw6.mp (List.mem_of_mem_drop ha) with ha|ha
 ·exact(hx q.2 hst).2 r hr a ha
 ·exact Jg hx hc r.2 a ha
structure Ds(N:List cG):Prop where
 onw:rT N
 dis:∀κ:Nat->Nat,(∀(i j:Nat) (s t:cG),N[i]? = some s->N[j]? = some t->κ i=κ j->s.1=t.1/\s.2.map (·.1)=t.2.map (·.1)/\s.2.map (λpt=>κ pt.2)=t.2.map (λpt=>κ pt.2))->∀i j,i<N.length->j<N.length->κ i=κ j->i=j
 num:zE 0 1 (N.map λst=>st.2.map (·.2)) N.length
theorem least_machine(hx:x∈qU.XS)(hs:s∈sides)(hR:∀R∈Rs,dF x R)(h4:Rs.length<=4)(hu:(U x (lay s Rs)).length<=600)(hso:il.dX [jK]=some (.tup (sG x))) :
  ∃first N,il.fB [jK,.tup [s,.tup Rs]]=some (qU.encM first N)/\MO x N.length first N/\(∀w,(∀a∈w,a∈x)->∃r,jw N 0 (w.map (cu x))=some r/\Ur x (lay s Rs) (yK (lay s Rs)) w=first++r)/\Ds N/\N.length<=600/\(∀c∈first,c∈x)/\MX x N:=by
 obtain⟨ps,h1,A⟩:=standing_states (jK:=jK) hx hs hR h4 hu hso;obtain⟨B,hp⟩:=agk hx hR h4 hu A;have hra:=λw hw=>Pb A w (yK (lay s Rs)) (Qq8 A.z0) hw;rw[rE A.nd A.z0] at hra;have hMX:=abJ hR A;generalize ps.map (uH x (lay s Rs) ps)=M at *;obtain⟨c,h2,h3,h5,h6⟩:=put_out_early B;obtain⟨B',hp'⟩:=WL B hp h5;obtain⟨g,g0,kept,j1,j2,j3,j4,j5,j6,j7⟩:=joined B';have hJ:=R8 B' j2 j3 j4 j5;have hC:=Ob h3;have hE:=KH h5.1;have hAl:Alike (eZ c M) (grp g):=by have:=Le j2 B'.adn (by rw[<-j3];exact j4);rw[<-j3] at this;exact this
 have hEX:=ZM hMX hC;refine⟨c.getD 0 [],kept.map (jf (eZ c M) g kept),?_,⟨Qq0 (h5.2 0) (by decide),?_,rfl,λst hst=>?_⟩,λw hw=>?_,⟨DR hAl j5 (Hc hC h6),λκ hκ i j hi hj=>zX hAl j5 j6 κ hκ i j (by rw[Qqq] at hi;exact hi) (by rw[Qqq] at hj;exact hj),by rw[Qw5,Qqq];exact j7⟩,by rw[Qqq];exact j5.few B',Jg hMX hC 0,λst hst=>?_⟩
 ·generalize D.tup [s,.tup Rs]=O at *;have j1':il.qJ [KM.encM (eZ c M)]=some (.tup ((kept.map (jf (eZ c M) g kept)).map aV)):=by rw[j1,Qw5];rfl
  let E0:Ev.Env:=[Zf jK,Zf O,Zs (c.getD 0 []),Zf (KM.encM (eZ c M))]
  refine cR (env:=E0) ?_;unfold il.jQ;refine(aB (e:=E0) (bQ (d:=.tup [.str (c.getD 0 []),KM.encM (eZ c M)]) (e:=[Zf jK,Zf O,Zn,Zn]) (aM (ds:=[KM.encM M]) (aH (aM (ds:=[jK,O]) rfl h1) bw) h2) rfl)).trans ?_;exact bY (cB (ds:=[.str (c.getD 0 []),.tup ((kept.map (jf (eZ c M) g kept)).map aV)]) (aH (e1:=E0) rfl (aH (aM (ds:=[KM.encM (eZ c M)]) rfl j1') bw)) Ev.zZ)
 ·rw[Qqq];exact Qj1 (Qq8 j5.z0)
 ·obtain⟨k,hk,rfl⟩:=Qwz.mp hst;have hM:=getM (j5.inn k hk);have hmem:=Qq8 hM;have ahz:=j5.led k hk;unfold jf;generalize(eZ c M).getD k ([],[])=st at *;refine⟨Qq0 (B'.fin st hmem) (by decide),by show(st.2.map _).length=_;rw[Qqq];exact hp' st hmem,λpt lY=>?_⟩;obtain⟨q,hq,rfl⟩:=Qwz.mp lY;refine⟨Qq0 (B'.put st hmem q hq) (by decide),?_⟩;have:=wU (ahz q hq);unfold gs at this;rw[Qqq] at this;rw[Qqq];exact this
 ·obtain⟨r,e1,e2⟩:=Rk hC hE (w.map (cu x)) 0 _ (hra w hw);exact⟨r,by rw[hJ];exact e1,e2⟩
 ·obtain⟨k,hk,rfl⟩:=Qwz.mp hst;have hM:=getM (j5.inn k hk);obtain⟨q1,q2⟩:=hEX _ (Qq8 hM);refine⟨q1,λpt lY=>?_⟩;obtain⟨r,hr,rfl⟩:=Qwz.mp lY;exact q2 r hr
end
open Ii (dF fin cF)
open j9 (mz zf yK lay yO rt)
structure agj(x:List Nat)(s:D)(Rs:List D)(first:List Nat)(N:List cG):Prop where
 mo:MO x N.length first N
 run:∀w,(∀a∈w,a∈x)->∃r,jw N 0 (w.map (cu x))=some r/\Ur x (lay s Rs) (yK (lay s Rs)) w=first++r
 lst:Ds N
 few:N.length<=600
 fx:∀c∈first,c∈x
 mx:MX x N
theorem Fl{x:List Nat}{s:D}{Rs rs:List D}(hx:x∈jJ.XS)(hs:s∈sides)(hR:∀R∈Rs,dF x R)(h4:Rs.length<=4)(h3:Rs.length<=3\/x.length<=2)(hr:jJ.Rows (sG x) rs):∃first N,il.fB [.tup rs,.tup [s,.tup Rs]]=some (qU.encM first N)/\agj x s Rs first N:=by
 have hu:(U x (lay s Rs)).length<=600:=by
  rcases h3 with h3|h3
  ·exact Qq0 (agf (jJ.qm x hx) (by rw[j9.oh];exact h3)) (by decide)
  ·exact Qq0 (ad6 h3 (by rw[j9.oh];exact h4)) (by decide)
 obtain⟨first,N,h1,h2,h3,h4,h5,h6,h7⟩:=least_machine (jK:=.tup rs) hx hs hR h4 hu (by rw[Gv];exact jJ.sounds_of hx hr);exact⟨first,N,h1,h2,h3,h4,h5,h6,h7⟩
end KM
namespace nG
open Ev PySem L2
open KM (cG aJ aV gq Runs zE rT fM Ds MX)
theorem Wd:fB=il.fB:=rfl
theorem Hq{t x:List Nat}(h:∀c∈t,c∈x)(hl:t.length<=300):fQ [.str t,.str x]=some (.bl true):=by
 have h1:mD [Zs t,Zs x] = .ok (.lst (t.map λc=>.bl (decide (c∈x)))) [Zs t,Zs x]:=by unfold mD;exact N6 (lo:=2) (n:=3) (aN:=[Zs t,Zs x]) t (λc=>.str [c]) (λc=>.bl (decide (c∈x))) rfl rfl rfl (λc _=>rfl) (Qq0 hl (by decide))
 let E0:Ev.Env:=[Zs t,Zs x]
 refine cR (env:=E0) ?_;unfold uR;refine bY ((Hy (e:=E0) rfl).trans (aM (aH h1 bw) ?_));rw[aa2];have:(t.all λc=>decide (c∈x))=true:=Qxv.mpr λc hc=>Qw2 (h c hc);rw[this]
abbrev uM(first x:List Nat)(N:List cG)(a2 a3:OD):Ev.Env:=[Zf (qU.encM first N),Zs x,a2,a3]
theorem acV(a b:Nat)(h:a=b):Ai (.int (a:Int)) (.int (b:Int))=some (.bl false):=by
 show some (D.bl (!((a:Int) == (b:Int))))=_;rw[h,Qj0]
 rfl
section
variable{first x:List Nat}{N:List cG}(hmx:MX x N)(hmo:KM.MO x N.length first N)(hfx:∀c∈first,c∈x)
include hmx hmo
theorem ac4{st:cG}(hst:st∈N){pt:List Nat×Nat}(lY:pt∈st.2)(a2:OD):gU (uM first x N a2 (Zf (aJ pt))) = .nx (uM first x N a2 (Zf (aJ pt))):=by
 obtain⟨b1,b2⟩:=(hmo.sts st hst).stp pt lY;have htx:=Hq ((hmx st hst).2 pt lY) b1;have t1:dD (ao fQ (aa (au cU 3 (Zi 0)) (Zv 1 aj))) (uM first x N a2 (Zf (aJ pt))) = .ok true (uM first x N a2 (Zf (aJ pt))):=d8 (aM (ds:=[.str pt.1,.str x]) rfl htx);have hlen:ao cz (aa (au cU 0 (Zi 1)) aj) (uM first x N a2 (Zf (aJ pt))) = .ok (.int (N.length:Int)) (uM first x N a2 (Zf (aJ pt))):=by refine aM (ds:=[.tup (N.map qU.bN)]) rfl ?_;show some (D.int ((N.map qU.bN).length:Int))=_;rw[Qqq]
 have t2:dD (xx gLe uP (Zi 0) (au cU 3 (Zi 1)) (ao cz (aa (au cU 0 (Zi 1)) aj))) (uM first x N a2 (Zf (aJ pt))) = .ok true (uM first x N a2 (Zf (aJ pt))):=by
  refine d8 ?_;unfold xx;show(match gLe (.int 0) (.int (pt.2:Int)) with|some (.bl k)=>if k=true then bindR (ao cz (aa (au cU 0 (Zi 1)) aj) (uM first x N a2 (Zf (aJ pt)))) λt e3=>gC (uP (.int (pt.2:Int)) t) e3 else .ok (.bl false) (uM first x N a2 (Zf (aJ pt)))|_=>.stuck)=_;have g1:gLe (.int 0) (.int (pt.2:Int))=some (.bl true):=by show some (D.bl (decide ((0:Int)<=(pt.2:Int))))=_;rw[Qw2 (Int.natCast_nonneg _)]
  rw[g1];simp only[if_true];rw[hlen];show gC (uP (.int (pt.2:Int)) (.int (N.length:Int))) _=_;rw[KM.vD,Qw2 b2]
  rfl
 unfold gU
 let E0:Ev.Env:=uM first x N a2 (Zf (aJ pt))
 refine(aB (fK (e:=E0) ((mX (e:=E0) rfl).trans ((mX (e:=E0) rfl).trans (oO t1))))).trans ?_;exact(fK (e:=E0) ((mX (e:=E0) rfl).trans ((mX (e:=E0) rfl).trans (oO t2)))).trans rfl
theorem Y8{st:cG}(hst:st∈N)(a3:OD):∃b3,gR (uM first x N (Zf (aV st)) a3) = .nx (uM first x N (Zf (aV st)) b3):=by
 obtain⟨q1,q2,q3⟩:=hmo.sts st hst;have htx:=Hq (hmx st hst).1 q1;have t1:dD (ao fQ (aa (au cU 2 (Zi 0)) (Zv 1 aj))) (uM first x N (Zf (aV st)) a3) = .ok true (uM first x N (Zf (aV st)) a3):=d8 (aM (ds:=[.str st.1,.str x]) rfl htx);have t2:dD (aR Ai (ao cz (aa (au cU 2 (Zi 1)) aj)) (ao cz (aa (aO 1) aj))) (uM first x N (Zf (aV st)) a3) = .ok false (uM first x N (Zf (aV st)) a3):=
  d8 (cj (x:=.int ((st.2.map aJ).length:Int)) (y:=.int (x.length:Int)) rfl rfl (acV _ _ (by rw[Qqq];exact q2)))
 obtain⟨e',f1,b3,rfl⟩:=xm (g:=ak 3) (b:=gU) (λenv=>∃b3,env=uM first x N (Zf (aV st)) b3) (st.2.map aJ)
  (λd hd env ⟨b3,he⟩=>by
   subst he;obtain⟨pt,lY,rfl⟩:=Qwz.mp hd;exact⟨_,_,rfl,ac4 hmx hmo hst lY _,_,rfl⟩)
  (uM first x N (Zf (aV st)) a3) ⟨_,rfl⟩
 refine⟨b3,?_⟩;unfold gR
 let E0:Ev.Env:=uM first x N (Zf (aV st)) a3
 refine(aB (fK (e:=E0) ((mX (e:=E0) rfl).trans ((mX (e:=E0) rfl).trans (oO t1))))).trans ?_;refine(aB (fK (e:=E0) ((mX (e:=E0) rfl).trans t2))).trans ?_;exact(dh (ds:=st.2.map aJ) (e:=E0) rfl).trans f1
include hfx
theorem Nz:jr [qU.encM first N,.str x]=some (.bl true):=by
 have htx:=Hq hfx hmo.fst;have t1:dD (ao fQ (aa (au cU 0 (Zi 0)) (Zv 1 aj))) (uM first x N none none) = .ok true (uM first x N none none):=d8 (aM (ds:=[.str first,.str x]) rfl htx);have t2:dD (aR pP (au cU 0 (Zi 1)) (bJ aj)) (uM first x N none none) = .ok false (uM first x N none none):=by
  refine d8 (cj (x:=.tup (N.map aV)) (y:=.tup []) rfl rfl ?_)
  match N,hmo.pos with
  | st::N,_=>rfl
 obtain⟨e',f1,b2,b3,rfl⟩:=xm (g:=ak 2) (b:=gR) (λenv=>∃b2 b3,env=uM first x N b2 b3) (N.map aV)
  (λd hd env ⟨b2,b3,he⟩=>by
   subst he;obtain⟨st,hst,rfl⟩:=Qwz.mp hd;obtain⟨c3,h⟩:=Y8 hmx hmo hst b3;exact⟨_,_,rfl,h,_,_,rfl⟩)
  (uM first x N none none) ⟨_,_,rfl⟩
 refine cR (env:=uM first x N b2 b3) ?_;unfold qN;refine(aB (fK (e:=uM first x N none none) ((mX (e:=uM first x N none none) rfl).trans ((mX (e:=uM first x N none none) rfl).trans (oO t1))))).trans ?_;refine(aB (fK (e:=uM first x N none none) ((mX (e:=uM first x N none none) rfl).trans t2))).trans ?_;exact(aB ((dh (ds:=N.map aV) (e:=uM first x N none none) rfl).trans f1)).trans rfl
end
def lr(N:List cG):D:=.tup (N.map aV)
theorem JT(t c:Nat):yJ (.int (t:Int)) (.lst (gq (List.range c)))=some (.bl (!decide (t<c))):=by
 unfold yJ Ah;show(Option.map (λb=>D.bl (!b)) (Qj (.int (t:Int)) ((List.range c).map λ(k:Nat)=>D.int (k:Int)))).or _=_;rw[Kc];have:decide (t∈List.range c)=decide (t<c):=by
  by_cases h:t<c
  ·rw[Qw2 h,Qw2 (Qj3.mpr h)]
  ·rw[Qwk h,Qwk λz=>h (Qj3.mp z)]
 rw[this]
 rfl
theorem M3(c:Nat):gq (List.range c)++[.int (c:Int)]=gq (List.range (c+1)):=by
 unfold gq;rw[List.range_succ,Qxz]
 rfl
abbrev Lr(N:List cG)(c k:Nat)(a3 a4:OD):Ev.Env:=[Zf (lr N),Zl (gq (List.range c)),Zf (.int (k:Int)),a3,a4]
theorem Xd(N:List cG)(k:Nat):∀(S:List (List Nat×Nat)) (c c':Nat) (a3 a4:OD),c'<=7000->Runs c (S.map (·.2)) c'->c<=c'/\∃b3 b4,ir (bB 2 (aA (ak 3) (aA (ak 4) bF))) pN (S.map aJ) (Lr N c k a3 a4) = .nx (Lr N c' k b3 b4)
 | [],c,c',a3,a4,_,h=>by cases(show c=c' from h);exact⟨Qqw _,a3,a4,rfl⟩
 | pt::S,c,c',a3,a4,hc,h=>by
  have ht:dD (au yJ 4 (aO 1)) (Lr N c k (Zs pt.1) (Zf (.int (pt.2:Int)))) = .ok (!decide (pt.2<c)) (Lr N c k (Zs pt.1) (Zf (.int (pt.2:Int)))):=
   d8 (jY (i:=4) (b:=aO 1) (x:=.int (pt.2:Int)) (y:=.lst (gq (List.range c))) rfl rfl rfl (JT pt.2 c))
  rw[Qq2];rcases(show(pt.2<c/\Runs c (S.map (·.2)) c')\/(pt.2=c/\Runs (c+1) (S.map (·.2)) c') from h) with ⟨h1,h2⟩|⟨h1,h2⟩
  ·rw[Qw2 h1] at ht;obtain⟨g0,b3,b4,g⟩:=Xd N k S c c' (Zs pt.1) (Zf (.int (pt.2:Int))) hc h2;exact⟨g0,b3,b4,(KB.jO rfl (fK ht)).trans g⟩
  ·rw[Qwk (by omega)] at ht;obtain⟨g0,b3,b4,g⟩:=Xd N k S (c+1) c' (Zs pt.1) (Zf (.int (pt.2:Int))) hc h2;refine⟨by omega,b3,b4,(KB.jO rfl ((lz ht).trans ?_)).trans g⟩;refine(Ev.pH (i:=1) (xs:=gq (List.range c)) (d:=.int (pt.2:Int)) (e:=Lr N c k (Zs pt.1) (Zf (.int (pt.2:Int)))) rfl rfl rfl (by unfold gq;rw[Qqq,List.length_range];exact Qw4 (show c<=7000 by omega) (by decide))).trans ?_;have e:gq (List.range c)++[.int (pt.2:Int)]=gq (List.range (c+1)):=by rw[h1];exact M3 c
   rw[e]
   rfl
theorem aaa{N:List cG}(hN:N.length<=600):∀(m k c:Nat) (a3 a4:OD),k+m=7000->k<=N.length->zE k c ((N.drop k).map λst=>st.2.map (·.2)) N.length->
  ∃b3 b4,dI (dD (au uP 2 (ao cz (aa (aO 1) aj)))) jc m (Lr N c k a3 a4) = .nx (Lr N N.length N.length b3 b4):=by
 intro m
 induction m with
 | zero=>intro k c a3 a4 h1 h2;omega
 | succ m ih=>
  intro k c a3 a4 hm hk hR;have ht:dD (au uP 2 (ao cz (aa (aO 1) aj))) (Lr N c k a3 a4) = .ok (decide (k<c)) (Lr N c k a3 a4):=by
   refine d8 (jY (i:=2) (b:=ao cz (aa (aO 1) aj)) (x:=.int (k:Int)) (y:=.int ((gq (List.range c)).length:Int)) rfl rfl rfl ?_);have:(gq (List.range c)).length=c:=by unfold gq;rw[Qqq,List.length_range]
   rw[this];exact KM.vD k c
  by_cases hkn:k<N.length
  ·rw[Qz8 hkn,Qq2] at hR;obtain⟨h1,c1,h2,h3⟩:=hR;rw[Qw2 h1] at ht;have hc1:c1<=N.length:=by
    have mono:∀(rs:List (List Nat)) (n c c':Nat),zE n c rs c'->c<=c':=by
     intro rs
     induction rs with
     | nil=>intro n c c' h;exact Nat.le_of_eq h
     | cons r rs ih=>
      intro n c c' h;obtain⟨_,c2,q1,q2⟩:=h;have r1:∀(ts:List Nat) (c c':Nat),Runs c ts c'->c<=c':=by
       intro ts
       induction ts with
       | nil=>intro c c' h;exact Nat.le_of_eq h
       | cons t ts ih=>
        intro c c' h;rcases h with ⟨_,h⟩|⟨_,h⟩
        ·exact ih c c' h
        ·exact Qq0 (Nat.le_succ _) (ih _ _ h)
      exact Qq0 (r1 r c c2 q1) (ih _ _ _ q2)
    exact mono _ _ _ _ h3
   have hs:N[k]? = some N[k]:=Qq7 hkn;generalize N[k]=st at *;obtain⟨g0,b3,b4,g⟩:=Xd N k st.2 c c1 a3 a4 (by omega) h2;have hb:jc (Lr N c k a3 a4) = .nx (Lr N c1 (k+1) b3 b4):=by unfold jc;refine(aB ((dh (ds:=st.2.map aJ) (e:=Lr N c k a3 a4) ?_).trans g)).trans rfl;refine xn (d:=.tup (st.2.map aJ)) (cj (x:=aV st) (y:=.int 1) (e1:=Lr N c k a3 a4) ?_ rfl rfl) rfl;refine jY (i:=0) (x:=lr N) (y:=.int (k:Int)) rfl ?_ rfl (qU.Hu aV N k st hs);refine vI (i:=1) (b:=aO 2) (x:=.lst (gq (List.range c))) (y:=.int (k:Int)) rfl rfl rfl ?_;exact KM.rD (λ(j:Nat)=>D.int (j:Int)) (List.range c) (List.getElem?_range h1)
   rw[KB.Av ht hb];exact ih (k+1) c1 b3 b4 (by omega) (by omega) h3
  ·have e:k=N.length:=by omega
   subst e;rw[List.drop_length] at hR;have e2:c=N.length:=hR;subst e2;rw[Qwk (Qzj _)] at ht;exact⟨a3,a4,KB.Ip ht⟩
theorem okI(l:List Nat):okN 60 (.lst (gq l))=true:=by
 show(gq l).all (okN 59)=true;exact Qxv.mpr λd hd=>by
  obtain⟨k,_,rfl⟩:=Qwz.mp hd
  rfl
theorem W9{N:List cG}(hN:N.length<=600)(hR:zE 0 1 (N.map λst=>st.2.map (·.2)) N.length):ph [lr N]=some (.bl true):=by
 obtain⟨b3,b4,g⟩:=aaa hN 7000 0 1 none none rfl (Qx3 _) hR;refine cR (env:=Lr N N.length N.length b3 b4) ?_;unfold uf;refine(aB (e:=[Zf (lr N),Zl [.int 0],Zn,Zn,Zn]) rfl).trans ?_;refine(aB (e:=Lr N 1 0 none none) rfl).trans ?_;refine(aB g).trans (bY ?_);refine vI (i:=1) (x:=.lst (gq (List.range N.length))) (y:=.lst (gq (List.range N.length))) rfl ?_ rfl (Ii.nq (okI _));have hl:ao cz (aa (aO 0) aj) (Lr N N.length N.length b3 b4) = .ok (.int (N.length:Int)) (Lr N N.length N.length b3 b4):=by refine aM (ds:=[lr N]) rfl ?_;show some (D.int ((N.map aV).length:Int))=_;rw[Qqq]
 unfold nW;rw[hl];show gC (if 0<=(N.length:Int)/\(N.length:Int).toNat<=sizeLine then _ else _) _=_;rw[if_pos ⟨Int.natCast_nonneg _,by rw[Qzx];exact Qq0 hN (by decide)⟩,Qzx]
 rfl
open KM (cG aJ aV rT fM)
def jg(F:List (List Nat))(q:Nat×List Nat×Nat):List (List Nat):=if (q.2.1++F.getD q.2.2 []).take 1=F.getD q.1 [] then F else F.set q.1 []
def Qv(N:List cG):List (Nat×List Nat×Nat):=N.zipIdx.flatMap λp=>p.1.2.map λpt=>(p.2,pt)
def nR(N:List cG)(F:List (List Nat)):List (List Nat):=(Qv N).foldl jg F
def full(F:List (List Nat)):Nat:=(F.filter λz=>!(z == [])).length
theorem Jl:∀(F:List (List Nat)) (i:Nat),full (F.set i [])<=full F/\(F.set i []≠F->full (F.set i [])<full F)
 | [],i=>⟨Qqw _,λh=>absurd rfl h⟩
 | z::F,0=>by
  show full ([]::F)<=full (z::F)/\([]::F≠z::F->full ([]::F)<full (z::F));unfold full;cases z with
  | nil=>exact⟨Qqw _,λh=>absurd rfl h⟩
  | cons a z=>
   rw[List.filter_cons,List.filter_cons];simp
 | z::F,i+1=>by
  obtain⟨h1,h2⟩:=Jl F i;show full (z::F.set i [])<=full (z::F)/\(z::F.set i []≠z::F->full (z::F.set i [])<full (z::F));unfold full at *;rw[List.filter_cons,List.filter_cons];split
  ·rw[Qqv,Qqv];refine⟨by omega,λh=>?_⟩;have:=h2 λe=>h (by rw[e]);omega
  ·exact⟨h1,λh=>h2 λe=>h (by rw[e])⟩
theorem Q9(F:List (List Nat))(q:Nat×List Nat×Nat):full (jg F q)<=full F/\(jg F q≠F->full (jg F q)<full F):=by
 unfold jg;split
 ·exact⟨Qqw _,λh=>absurd rfl h⟩
 ·exact Jl F q.1
theorem FJ:∀(L:List (Nat×List Nat×Nat)) (F:List (List Nat)),full (L.foldl jg F)<=full F/\(full F<=full (L.foldl jg F)->L.foldl jg F=F/\∀q∈L,jg F q=F)
 | [],F=>⟨Qqw _,λ_=>⟨rfl,λq hq=>by simp at hq⟩⟩
 | q::L,F=>by
  obtain⟨h1,h2⟩:=Q9 F q;obtain⟨h3,h4⟩:=FJ L (jg F q);rw[Qz7];refine⟨by omega,λh=>?_⟩;have e:jg F q=F:=Classical.byContradiction λz=>by have:=h2 z;omega
  rw[e] at h3 h4 ⊢;obtain⟨h5,h6⟩:=h4 (by rw[e] at h;exact h);refine⟨h5,λr hr=>?_⟩;rcases Qq5.mp hr with rfl|hr
  ·exact e
  ·exact h6 r hr
structure Ij(N:List cG)(F:List (List Nat)):Prop where
 len:F.length=N.length
 pre:∀i st,N[i]? = some st->F.getD i [] <+: st.1
 one:∀i,(F.getD i []).length<=1
theorem Cq(F:List (List Nat))(i j:Nat):(F.set i []).getD j []=if i=j then [] else F.getD j []:=by
 rw[Qq9,Qq9];by_cases h:i=j
 ·subst h;rw[if_pos rfl,List.getElem?_set];simp;split<;>rfl
 ·rw[if_neg h,Qw0 h]
theorem Ij.set{N:List cG}{F:List (List Nat)}(h:Ij N F)(i:Nat):Ij N (F.set i []):=by
 refine⟨by rw[Qzq];exact h.len,λj st hj=>?_,λj=>?_⟩
 ·rw[Cq];split
  ·exact Qzw
  ·exact h.pre j st hj
 ·rw[Cq];split
  ·exact Qx3 _
  ·exact h.one j
theorem Ij.step{N:List cG}{F:List (List Nat)}(h:Ij N F)(q:Nat×List Nat×Nat):Ij N (jg F q):=by
 unfold jg;split
 ·exact h
 ·exact h.set q.1
theorem Ij.fold{N:List cG}:∀(L:List (Nat×List Nat×Nat)) {F:List (List Nat)},Ij N F->Ij N (L.foldl jg F)
 | [],_,h=>h
 | q::L,_,h=>Ij.fold L (h.step q)
theorem stable{N:List cG}{F:List (List Nat)}(h:Ij N F)(hs:∀q∈Qv N,jg F q=F)(hO:rT N):∀i,F.getD i []=[]:=by
 refine hO F ⟨h.len,h.pre,λi st pt hi hp=>?_⟩;have hq:(i,pt)∈Qv N:=Qkj.mpr ⟨(st,i),List.mem_zipIdx_iff_getElem?.mpr hi,Qwz.mpr ⟨pt,hp,rfl⟩⟩;have:=hs _ hq;unfold jg at this;split at this
 ·rename_i e;rw[<-e];exact List.take_prefix ..
 ·have e:=Qxy (λl:List (List Nat)=>l.getD i []) this;simp only at e;rw[Cq,if_pos rfl] at e;rw[<-e];exact Qzw
theorem Fy:∀(F:List (List Nat)),full F=0->∀i,F.getD i []=[]
 | [],_,i=>rfl
 | z::F,h,i=>by
  unfold full at h;rw[List.filter_cons] at h;split at h
  ·simp at h
  ·rename_i hz;have hz':z=[]:=by
    cases z with
    | nil=>rfl
    | cons a z=>simp at hz
   cases i with
   | zero=>exact hz'
   | succ i=>exact Fy F h i
abbrev xP(N:List cG)(F:List (List Nat))(a2 a3 a4 a5 a6:OD):Ev.Env:=[Zf (lr N),Zl (F.map .str),a2,a3,a4,a5,a6]
theorem adJ{N:List cG}{F:List (List Nat)}(h:Ij N F){i:Nat}{pt:List Nat×Nat}(hi:i<N.length)(hp:pt.2<N.length)(hl:pt.1.length<=300)(a2 a3:OD) :
  lM (xP N F a2 a3 (Zf (.int (i:Int))) (Zs pt.1) (Zf (.int (pt.2:Int)))) = .nx (xP N (jg F (i,pt)) a2 a3 (Zf (.int (i:Int))) (Zs pt.1) (Zf (.int (pt.2:Int)))):=by
 have hF:∀{j:Nat},j<N.length->cU (.lst (F.map .str)) (.int (j:Int))=some (.str (F.getD j [])):=λ{j} hj=>KM.rD D.str F (KM.getD_some (by rw[h.len];exact hj));have h1:=h.one pt.2;have ha:au dC 5 (au cU 1 (aO 6)) (xP N F a2 a3 (Zf (.int (i:Int))) (Zs pt.1) (Zf (.int (pt.2:Int)))) = .ok (.str (pt.1++F.getD pt.2 [])) (xP N F a2 a3 (Zf (.int (i:Int))) (Zs pt.1) (Zf (.int (pt.2:Int)))):=by refine jY (i:=5) (x:=.str pt.1) (y:=.str (F.getD pt.2 [])) rfl ?_ rfl (KM.add_str (by omega));exact vI (i:=1) (b:=aO 6) (x:=.lst (F.map .str)) (y:=.int (pt.2:Int)) rfl rfl rfl (hF hp)
 have hs:pU (au dC 5 (au cU 1 (aO 6))) n6 (yM (Zi 1)) (xP N F a2 a3 (Zf (.int (i:Int))) (Zs pt.1) (Zf (.int (pt.2:Int)))) = .ok (.str ((pt.1++F.getD pt.2 []).take 1)) (xP N F a2 a3 (Zf (.int (i:Int))) (Zs pt.1) (Zf (.int (pt.2:Int)))):=by unfold pU;rw[ha];show Ev.R.ok (D.str (cutD (pt.1++F.getD pt.2 []) none (some ((1:Nat):Int)))) _=_;rw[HD]
 have hi2:au cU 1 (aO 4) (xP N F a2 a3 (Zf (.int (i:Int))) (Zs pt.1) (Zf (.int (pt.2:Int)))) = .ok (.str (F.getD i [])) (xP N F a2 a3 (Zf (.int (i:Int))) (Zs pt.1) (Zf (.int (pt.2:Int)))):=
  vI (i:=1) (b:=aO 4) (x:=.lst (F.map .str)) (y:=.int (i:Int)) rfl rfl rfl (hF hi)
 have ht:dD (aR Ai (pU (au dC 5 (au cU 1 (aO 6))) n6 (yM (Zi 1))) (au cU 1 (aO 4))) (xP N F a2 a3 (Zf (.int (i:Int))) (Zs pt.1) (Zf (.int (pt.2:Int)))) = .ok (!((pt.1++F.getD pt.2 []).take 1 == F.getD i [])) (xP N F a2 a3 (Zf (.int (i:Int))) (Zs pt.1) (Zf (.int (pt.2:Int)))):=
  d8 (cj hs hi2 rfl)
 unfold lM;by_cases e:(pt.1++F.getD pt.2 []).take 1=F.getD i []
 ·rw[e,Qj0] at ht;have e2:jg F (i,pt)=F:=if_pos e;rw[e2];exact(fK ht).trans rfl
 ·rw[Qx7.mpr e] at ht;have e2:jg F (i,pt)=F.set i []:=if_neg e;rw[e2];refine(lz ht).trans (bQ (d:=.str []) (e:=xP N F a2 a3 (Zf (.int (i:Int))) (Zs pt.1) (Zf (.int (pt.2:Int)))) rfl ?_);have hx:Wk (F.map D.str).length (i:Int)=some i:=by
   unfold Wk;rw[if_pos (Int.natCast_nonneg _),if_pos (by rw[Qqq,h.len];omega),Qzx]
  show(Wk (F.map D.str).length (i:Int)).map _=_;rw[hx];have em:(F.set i []).map D.str=(F.map D.str).set i (.str []):=List.map_set ..;unfold xP;rw[em]
  rfl
theorem aa5{N:List cG}{i:Nat}(hi:i<N.length)(a2 a3:OD):∀(S:List (List Nat×Nat)) (F:List (List Nat)) (a5 a6:OD),Ij N F->(∀pt∈S,pt.2<N.length/\pt.1.length<=300)->∃b5 b6,ir (bB 2 (aA (ak 5) (aA (ak 6) bF))) lM (S.map aJ) (xP N F a2 a3 (Zf (.int (i:Int))) a5 a6) = .nx (xP N ((S.map λpt=>(i,pt)).foldl jg F) a2 a3 (Zf (.int (i:Int))) b5 b6)
 | [],F,a5,a6,_,_=>⟨a5,a6,rfl⟩
 | pt::S,F,a5,a6,h,hS=>by
  obtain⟨q1,q2⟩:=hS pt (Qqk ..);obtain⟨b5,b6,g⟩:=aa5 hi a2 a3 S (jg F (i,pt)) (Zs pt.1) (Zf (.int (pt.2:Int))) (h.step _) λr hr=>hS r (Qqj _ hr);exact⟨b5,b6,by rw[Qq2,Qq2,Qz7,<-g];exact KB.jO rfl (adJ h hi q1 q2 a2 a3)⟩
theorem WM{N:List cG}(hb:∀st∈N,∀pt∈st.2,pt.2<N.length/\pt.1.length<=300)(a2 a3:OD):∀(k i:Nat) (F:List (List Nat)) (a4 a5 a6:OD),i+k=N.length->Ij N F->
  ∃b4 b5 b6,ir (ak 4) o8 ((List.range' i k).map λ(j:Nat)=>.int (j:Int)) (xP N F a2 a3 a4 a5 a6) = .nx (xP N ((((N.drop i).zipIdx i).flatMap λp=>p.1.2.map λpt=>(p.2,pt)).foldl jg F) a2 a3 b4 b5 b6)
 | 0,i,F,a4,a5,a6,hk,h=>⟨a4,a5,a6,by rw[List.drop_of_length_le (by omega)];rfl⟩
 | k+1,i,F,a4,a5,a6,hk,h=>by
  have hi:i<N.length:=by omega
  have hs:N[i]? = some N[i]:=Qq7 hi;obtain⟨b5,b6,g⟩:=aa5 hi a2 a3 N[i].2 F a5 a6 h (hb N[i] (Qx2 hi));have h':Ij N ((N[i].2.map λpt=>(i,pt)).foldl jg F):=h.fold _;obtain⟨c4,c5,c6,g'⟩:=WM hb a2 a3 k (i+1) _ (Zf (.int (i:Int))) b5 b6 (by omega) h';refine⟨c4,c5,c6,?_⟩;rw[Qz8 hi,List.zipIdx_cons,List.flatMap_cons,List.foldl_append,<-g',List.range'_succ,Qq2];refine KB.jO rfl ?_;unfold o8
  let E0:Ev.Env:=xP N F a2 a3 (Zf (.int (i:Int))) a5 a6
  refine(dh (ds:=N[i].2.map aJ) (e:=E0) ?_).trans g;refine xn (d:=.tup (N[i].2.map aJ)) (cj (x:=aV N[i]) (y:=.int 1) (e1:=E0) ?_ rfl rfl) rfl;exact jY (i:=0) (b:=aO 4) (x:=lr N) (y:=.int (i:Int)) rfl rfl rfl (qU.Hu aV N i N[i] hs)
theorem aa6(N:List cG)(F:List (List Nat))(a2 a3 a4 a5 a6:OD):ao cz (aa (aO 0) aj) (xP N F a2 a3 a4 a5 a6) = .ok (.int (N.length:Int)) (xP N F a2 a3 a4 a5 a6):=by refine aM (ds:=[lr N]) rfl ?_;show some (D.int ((N.map aV).length:Int))=_;rw[Qqq]
theorem MP(n:Nat)(h:n<=600):yp [.int (n:Int)]=some ((List.range' 0 n).map λ(j:Nat)=>.int (j:Int)):=by rw[abR (Qw4 h (by decide)),List.range_eq_range']
theorem adI{N:List cG}(hN:N.length<=600)(hb:∀st∈N,∀pt∈st.2,pt.2<N.length/\pt.1.length<=300){F:List (List Nat)}(h:Ij N F)(a2 a3 a4 a5 a6:OD) :
  ∃b4 b5 b6,lL (xP N F a2 a3 a4 a5 a6)=(if nR N F=F then .bk (xP N F a2 (Zf (.lst (F.map .str))) b4 b5 b6) else .nx (xP N (nR N F) a2 (Zf (.lst (F.map .str))) b4 b5 b6)):=by
 obtain⟨b4,b5,b6,g⟩:=WM hb a2 (Zf (.lst (F.map .str))) N.length 0 F a4 a5 a6 (by omega) h;rw[List.drop_zero] at g;refine⟨b4,b5,b6,?_⟩;unfold lL;refine(aB (e:=xP N F a2 (Zf (.lst (F.map .str))) a4 a5 a6) rfl).trans ?_;refine(aB ((dh (qU.tY (aH (aa6 N F _ _ _ _ _) bw) (MP _ hN))).trans g)).trans ?_;have ht:dD (au pP 1 (aO 3)) (xP N (nR N F) a2 (Zf (.lst (F.map .str))) b4 b5 b6) = .ok (nR N F == F) (xP N (nR N F) a2 (Zf (.lst (F.map .str))) b4 b5 b6):=
  d8 (vI (i:=1) (b:=aO 3) (x:=.lst ((nR N F).map .str)) (y:=.lst (F.map .str)) rfl rfl rfl (Ko _ _))
 by_cases e:nR N F=F
 ·rw[if_pos e];rw[e,Qj0] at ht;show gr _ _ _ (xP N (nR N F) a2 (Zf (.lst (F.map .str))) b4 b5 b6)=_;rw[e];exact(lz ht).trans rfl
 ·rw[if_neg e];rw[Qx7.mpr e] at ht;exact(fK ht).trans rfl
theorem Qt{g:GV}{b:bO}{d:D}{ds:List D}{env e1 e2:Ev.Env}(h1:g d env=some e1)(h2:b e1 = .bk e2):ir g b (d::ds) env = .nx e2:=by
 conv=>lhs;unfold ir
 rw[h1];simp only;rw[h2]
theorem Qz{N:List cG}(hN:N.length<=600)(hb:∀st∈N,∀pt∈st.2,pt.2<N.length/\pt.1.length<=300)(hO:rT N):∀(ds:List D) (F:List (List Nat)) (a2 a3 a4 a5 a6:OD),Ij N F->full F<=ds.length->
  ∃F' b2 b3 b4 b5 b6,ir (ak 2) lL ds (xP N F a2 a3 a4 a5 a6) = .nx (xP N F' b2 b3 b4 b5 b6)/\(∀i,F'.getD i []=[])/\F'.length=N.length
 | [],F,a2,a3,a4,a5,a6,h,hl=>⟨F,a2,a3,a4,a5,a6,rfl,Fy F (Nat.le_zero.mp hl),h.len⟩
 | d::ds,F,a2,a3,a4,a5,a6,h,hl=>by
  rw[Qqv] at hl;obtain⟨b4,b5,b6,g⟩:=adI hN hb h (Zf d) a3 a4 a5 a6;obtain⟨f1,f2⟩:=FJ (Qv N) F;by_cases e:nR N F=F
  ·rw[if_pos e] at g;obtain⟨_,q2⟩:=f2 (by show full F<=full (nR N F);rw[e];exact Qqw _);exact⟨F,_,_,_,_,_,Qt rfl g,stable h q2 hO,h.len⟩
  ·rw[if_neg e] at g;have hlt:full (nR N F)<full F:=Nat.lt_of_not_le λz=>e (f2 z).1;obtain⟨F',c2,c3,c4,c5,c6,g1,g2,g3⟩:=Qz hN hb hO ds (nR N F) _ _ _ _ _ (h.fold _) (by omega);exact⟨F',c2,c3,c4,c5,c6,(KB.jO rfl g).trans g1,g2,g3⟩
theorem ZG(F:List (List Nat)):full F<=F.length:=List.length_filter_le _ _
theorem R0{N:List cG}(hN:N.length<=600)(hb:∀st∈N,∀pt∈st.2,pt.2<N.length/\pt.1.length<=300)(hO:rT N):tX [lr N]=some (.bl true):=by
 have h0:Ij N (N.map λst=>st.1.take 1):=by
  refine⟨by rw[Qqq],λi st hi=>?_,λi=>?_⟩
  ·rw[KM.getD_map,hi];exact List.take_prefix ..
  ·rw[KM.getD_map];cases N[i]? with
   | none=>exact Qx3 _
   | some st=>show(st.1.take 1).length<=1;rw[Qzv];omega
 obtain⟨F,b2,b3,b4,b5,b6,g1,g2,g3⟩:=Qz hN hb hO ((List.range' 0 N.length).map λ(j:Nat)=>.int (j:Int)) (N.map λst=>st.1.take 1) none none none none none h0 (by
  rw[Qqq,List.length_range'];have:=ZG (N.map λst=>st.1.take 1);rw[Qqq] at this;exact this)
 let E0:Ev.Env:=[Zf (lr N),Zf (.lst (F.map .str)),b2,b3,b4,b5,b6]
 refine cR (env:=E0) ?_;unfold zm;refine(aB (e:=xP N (N.map λst=>st.1.take 1) none none none none none) ?_).trans ?_
 ·let E1:Ev.Env:=[Zf (lr N),Zn,Zn,Zn,Zn,Zn,Zn]
  refine(oR (d:=.lst ((N.map λst=>st.1.take 1).map .str)) (e:=E1) ?_).trans rfl;unfold tU;rw[Qw5];refine KM.uw (lo:=7) (n:=9) (env:=E1) N (λst=>.str (st.1.take 1)) rfl rfl rfl (λst u v=>rfl) (λst hst=>?_) hN;show Ev.R.ok (D.str (cutD st.1 none (some ((1:Nat):Int)))) _=_;rw[HD]
 refine(aB ((dh (qU.tY (aH (aa6 N _ _ _ _ _ _) bw) (MP _ hN))).trans g1)).trans ?_;refine bY (aM (ds:=[.lst (F.map λz=>.bl (z == []))]) (aH ?_ bw) ?_)
 ·unfold tR;exact N6 (lo:=7) (n:=8) (aN:=E0) F .str (λz=>.bl (z == [])) rfl rfl rfl (λz _=>rfl) (by rw[g3];exact Qq0 hN (by decide))
 ·rw[aa2];have:(F.all λz=>z == [])=true:=Qxv.mpr λz hz=>by
   obtain⟨i,hi⟩:=List.mem_iff_getElem?.mp hz;have:=g2 i;rw[Qq9,hi] at this;have e:z=[]:=this;rw[e]
   rfl
  rw[this]
open KM (cG aJ aV gq uniq fL nums cu cnt Lq lW Ds)
def Ze(t:cG):NK:=.tup [.txt (strOf t.1),.tup (t.2.map λq=>.tup [.txt (strOf q.1),.num (q.2:Int)])]
theorem KY:∀l:List (List Nat×Nat),NK.jZ (l.map λq=>.tup [.txt (strOf q.1),.num (q.2:Int)])<=1
 | []=>by unfold NK.jZ;simp
 | q::l=>by
  have ih:=KY l;rw[Qq2];unfold NK.jZ;have:NK.dep (.tup [.txt (strOf q.1),.num (q.2:Int)])=1:=by simp[NK.dep,NK.jZ]
  rw[this];omega
theorem J8:Lq aV Ze:=by
 refine⟨λt=>KM.Nm ?_ ?_,λp q h=>?_⟩
 ·have h1:o7 (t.2.map aJ)=some (t.2.map λq=>NK.tup [.txt (strOf q.1),.num (q.2:Int)]):=KM.wN (λq=>by simp[aJ,oM,o7]) t.2;unfold oM o7 o7 o7;unfold oM;rw[h1]
  rfl
 ·unfold Ze;have h:=KY t.2;have e1:NK.dep (.txt (strOf t.1))=0:=by unfold NK.dep;rfl
  have e2:NK.dep (.tup (t.2.map λq=>.tup [.txt (strOf q.1),.num (q.2:Int)]))=1+NK.jZ (t.2.map λq=>.tup [.txt (strOf q.1),.num (q.2:Int)]):=by unfold NK.dep;rfl
  have e3:NK.jZ []=0:=by unfold NK.jZ;rfl
  unfold NK.dep NK.jZ NK.jZ;rw[e1,e2,e3];omega
 ·obtain⟨h1,h2⟩:=Qjq (NK.tup.inj h);obtain⟨h3,_⟩:=Qjq h2;have e1:p.1=q.1:=SX.kE (NK.txt.inj h1);have e2:p.2=q.2:=KM.map_inj (λa b e=>by
   obtain⟨k1,k2⟩:=Qjq (NK.tup.inj e);obtain⟨k3,_⟩:=Qjq k2;exact Prod.ext (SX.kE (NK.txt.inj k1)) (Qvx (NK.num.inj k3))) (NK.tup.inj h3)
  exact Prod.ext e1 e2
def bA(N:List cG)(g:List Nat):List cG:=N.map λst=>(st.1,st.2.map λpt=>(pt.1,g.getD pt.2 0))
section
variable{T:Type}[DecidableEq T]{en:T->D}{key:T->NK}(Y:Lq en key)
include Y
theorem Qd:∀(us:List T) (n:Nat) (t:T) (d:D),t ∉ us->(lW en n us).map (λp=>if oM p.1=some (key t) then (p.1,d) else p)=lW en n us
 | [],n,t,d,_=>rfl
 | u::us,n,t,d,h=>by
  have hu:oM (en u)=some (key u):=(yC (Y.nk u)).1;have hne:¬(oM (en u)=some (key t)):=λe=>by
   rw[hu] at e;exact h (by rw[<-Y.inj u t (Qwv e)];exact Qqk ..)
  show((if oM (en u)=some (key t) then (en u,d) else (en u,D.int (n:Int)))::(lW en (n+1) us).map _)=_;rw[if_neg hne,Qd us (n+1) t d λz=>h (Qqj _ z)]
  rfl
theorem J5:∀(us:List T) (n:Nat) (t:T),us.Nodup->t∈us->(lW en n us).map (λp=>if oM p.1=some (key t) then (p.1,.int ((n+cu us t:Nat):Int)) else p)=lW en n us
 | u::us,n,t,hn,h=>by
  obtain⟨n1,n2⟩:=Qx9.mp hn;have hu:oM (en u)=some (key u):=(yC (Y.nk u)).1;by_cases e:u=t
  ·subst e;have ei:cu (u::us) u=0:=by unfold cu;rw[if_pos rfl]
   rw[ei,Nat.add_zero];show((if oM (en u)=some (key u) then (en u,D.int (n:Int)) else (en u,D.int (n:Int)))::(lW en (n+1) us).map _)=_;rw[if_pos hu,Qd Y us (n+1) u _ n1]
   rfl
  ·have ei:cu (u::us) t=cu us t+1:=by conv=>lhs;unfold cu;rw[if_neg e]
   have hne:¬(oM (en u)=some (key t)):=λz=>by
    rw[hu] at z;exact e (Y.inj u t (Qwv z))
   have ih:=J5 us (n+1) t n2 ((Qq5.mp h).resolve_left λz=>e z.symm);have e2:n+(cu us t+1)=n+1+cu us t:=by omega
   rw[ei,e2];show((if oM (en u)=some (key t) then (en u,_) else (en u,D.int (n:Int)))::(lW en (n+1) us).map _)=_;rw[if_neg hne,ih]
   rfl
theorem R1{us:List T}(hn:us.Nodup)(t:T):uN (lW en 0 us) (en t) (key t) (.int (cu (fL us t) t:Int))=lW en 0 (fL us t):=by
 by_cases h:t∈us
 ·have e:fL us t=us:=if_pos h;rw[e];have hs:=J5 Y us 0 t hn h;rw[Nat.zero_add] at hs;unfold uN;rw[KM.ux Y,if_pos h];exact hs
 ·have e:fL us t=us++[t]:=if_neg h;rw[e];have ei:cu (us++[t]) t=us.length:=KM.rE (by rw[<-e];exact KM.xF t hn) KB.Hs;rw[ei];exact KM.Hl Y us t h
theorem ac7(us:List T)(hn:us.Nodup)(t:T):(lX (lW en 0 us) (key t)).getD (.int (us.length:Int)) = .int (cu (fL us t) t:Int):=by
 rw[KM.ux Y];by_cases h:t∈us
 ·have e:fL us t=us:=if_pos h;rw[if_pos h,e,Nat.zero_add]
  rfl
 ·have e:fL us t=us++[t]:=if_neg h;have ei:cu (us++[t]) t=us.length:=KM.rE (by rw[<-e];exact KM.xF t hn) KB.Hs;rw[if_neg h,e,ei]
  rfl
end
abbrev Dt(N:List cG)(g:List Nat)(us:List cG)(more:List Nat)(a2 a5 a6 a7:OD):Ev.Env:=[Zf (lr N),Zf (.lst (gq g)),a2,Zt (.fG (lW aV 0 us)),Zl (gq more),a5,a6,a7]
theorem aex{N:List cG}{g:List Nat}(hg:g.length=N.length){us:List cG}(hn:us.Nodup)(hu:us.length<=700){more:List Nat}(hm:more.length<=700){st:cG}(hst:st.2.length<=50)(hin:∀pt∈st.2,pt.2<N.length)(a2 a7:OD) :
  ∃b7,iM (Dt N g us more a2 (Zs st.1) (Zf (.tup (st.2.map aJ))) a7) = .nx (Dt N g (fL us (st.1,st.2.map λpt=>(pt.1,g.getD pt.2 0))) (more++[cu (fL us (st.1,st.2.map λpt=>(pt.1,g.getD pt.2 0))) (st.1,st.2.map λpt=>(pt.1,g.getD pt.2 0))]) a2 (Zs st.1) (Zf (.tup (st.2.map aJ))) b7):=by
 have h1:jM (Dt N g us more a2 (Zs st.1) (Zf (.tup (st.2.map aJ))) a7) = .ok (.lst ((st.2.map λpt=>(pt.1,g.getD pt.2 0)).map aJ)) (Dt N g us more a2 (Zs st.1) (Zf (.tup (st.2.map aJ))) a7):=by unfold jM;rw[Qw5];refine KM.tQ (lo:=8) (n:=10) (env:=Dt N g us more a2 (Zs st.1) (Zf (.tup (st.2.map aJ))) a7) st.2 (λpt=>aJ (pt.1,g.getD pt.2 0)) rfl rfl rfl (λpt u v=>rfl) (λpt lY=>?_) hst;refine cB (ds:=[.str pt.1,.int ((g.getD pt.2 0:Nat):Int)]) (aH (e1:=Dt N g us more a2 (Zs st.1) (Zf (.tup (st.2.map aJ))) a7++[Zs pt.1,Zf (.int (pt.2:Int))]) rfl (aH ?_ bw)) Ev.zZ;exact jY (i:=1) (b:=aO 9) (x:=.lst (gq g)) (y:=.int (pt.2:Int)) rfl rfl rfl (KM.Ck (by rw[hg];exact hin pt lY))
 generalize hs:(st.1,st.2.map λpt=>(pt.1,g.getD pt.2 0))=s at *;have hse:aV s = .tup [.str st.1,.tup ((st.2.map λpt=>(pt.1,g.getD pt.2 0)).map aJ)]:=by rw[<-hs];rfl
 refine⟨Zf (aV s),?_⟩;unfold iM
 let E0:Ev.Env:=Dt N g us more a2 (Zs st.1) (Zf (.tup (st.2.map aJ))) (Zf (aV s))
 let E1:Ev.Env:=Dt N g us more a2 (Zs st.1) (Zf (.tup (st.2.map aJ))) a7
 refine(aB (e:=E0) (bQ (d:=aV s) (e:=E1) ?_ rfl)).trans ?_
 ·rw[hse];have h2:ao bZ (aa (jM) aj) (Dt N g us more a2 (Zs st.1) (Zf (.tup (st.2.map aJ))) a7) = .ok (.tup ((st.2.map λpt=>(pt.1,g.getD pt.2 0)).map aJ)) (Dt N g us more a2 (Zs st.1) (Zf (.tup (st.2.map aJ))) a7):=aM (aH h1 bw) rfl;exact cB (ds:=[.str st.1,.tup ((st.2.map λpt=>(pt.1,g.getD pt.2 0)).map aJ)]) (aH (e1:=E1) rfl (aH h2 bw)) Ev.zZ
 have hget:nA 3 (aL 7) (ao xg (aa (aO 3) aj)) (Dt N g us more a2 (Zs st.1) (Zf (.tup (st.2.map aJ))) (Zf (aV s))) = .ok (.int (cu (fL us s) s:Int)) (Dt N g us more a2 (Zs st.1) (Zf (.tup (st.2.map aJ))) (Zf (aV s))):=by rw[<-ac7 J8 us hn s];refine K17.Wu (i:=3) (o:=true) (o':=true) (z:=lW aV 0 us) (kvs:=lW aV 0 us) (k:=aV s) (q:=Ze s) (e2:=E0) rfl rfl ?_ rfl (J8.nk s);refine aM (ds:=[.fG (lW aV 0 us)]) rfl ?_;show some (D.int ((lW aV 0 us).length:Int))=_;rw[KM.uy]
 have afT:=K17.qM (i:=3) (k:=aL 7) (a:=nA 3 (aL 7) (ao xg (aa (aO 3) aj))) (e2:=E0) (kd:=aV s) (z:=.fG (lW aV 0 us)) (o:=true) (q:=Ze s) (kvs:=lW aV 0 us) hget rfl rfl rfl (J8.nk s) (by rw[KM.uy];exact Qw4 hu (by decide));rw[R1 J8 hn s] at afT;rw[aB afT];refine(Ev.pH (i:=4) (xs:=gq more) (d:=.int (cu (fL us s) s:Int)) (e:=Dt N g (fL us s) more a2 (Zs st.1) (Zf (.tup (st.2.map aJ))) (Zf (aV s))) rfl ?_ rfl (by unfold gq;rw[Qqq];exact Qw4 hm (by decide))).trans ?_
 ·exact vI (i:=3) (b:=aO 7) (x:=.fG (lW aV 0 (fL us s))) (y:=aV s) rfl rfl rfl (KM.Hm J8 (fL us s) s (KM.uE us s))
 ·have e:gq more++[.int (cu (fL us s) s:Int)]=gq (more++[cu (fL us s) s]):=by unfold gq;rw[Qxz];rfl
  rw[e]
  rfl
theorem aaD{N:List cG}{g:List Nat}(hg:g.length=N.length)(hN:N.length<=600)(hst:∀st∈N,st.2.length<=50/\∀pt∈st.2,pt.2<N.length)(a2:OD):∀(S done:List cG) (a5 a6 a7:OD),N=done++S->
  ∃b5 b6 b7,ir (bB 2 (aA (ak 5) (aA (ak 6) bF))) iM (S.map aV) (Dt N g (uniq (bA done g)) (nums (bA done g)) a2 a5 a6 a7) = .nx (Dt N g (uniq (bA N g)) (nums (bA N g)) a2 b5 b6 b7)
 | [],done,a5,a6,a7,h=>by
  rw[Qw8] at h;subst h;exact⟨a5,a6,a7,rfl⟩
 | st::S,done,a5,a6,a7,h=>by
  have hm:st∈N:=by rw[h];simp
  have hdl:done.length<=600:=by have:=Qxy List.length h;rw[Qqy] at this;omega
  have hl3:(bA done g).length=done.length:=by unfold bA;rw[Qqq]
  obtain⟨q1,q2⟩:=hst st hm;obtain⟨b7,g1⟩:=aex hg (us:=uniq (bA done g)) (KM.Gj _) (Qq0 (KM.qy _) (by omega)) (more:=nums (bA done g)) (by rw[KM.qF];omega) (st:=st) q1 q2 a2 a7;have e1:bA (done++[st]) g=bA done g++[(st.1,st.2.map λpt=>(pt.1,g.getD pt.2 0))]:=by unfold bA;rw[Qxz];rfl
  have e2:uniq (bA (done++[st]) g)=fL (uniq (bA done g)) (st.1,st.2.map λpt=>(pt.1,g.getD pt.2 0)):=by
   rw[e1];unfold uniq;rw[List.foldl_append]
   rfl
  have e3:nums (bA (done++[st]) g)=nums (bA done g)++[cu (fL (uniq (bA done g)) (st.1,st.2.map λpt=>(pt.1,g.getD pt.2 0))) (st.1,st.2.map λpt=>(pt.1,g.getD pt.2 0))]:=by
   unfold nums;rw[e2,e1,Qxz]
   congr 1
   exact Qx4 λt ht=>KM.Lf (KM.iI.mpr ht)
  rw[<-e2] at g1;have g1':iM (Dt N g (uniq (bA done g)) (nums (bA done g)) a2 (Zs st.1) (Zf (.tup (st.2.map aJ))) a7) = .nx (Dt N g (uniq (bA (done++[st]) g)) (nums (bA (done++[st]) g)) a2 (Zs st.1) (Zf (.tup (st.2.map aJ))) b7):=by rw[e3,<-e2];exact g1
  obtain⟨c5,c6,c7,g2⟩:=aaD hg hN hst a2 S (done++[st]) (Zs st.1) (Zf (.tup (st.2.map aJ))) b7 (by rw[h];simp);exact⟨c5,c6,c7,by rw[Qq2];exact(KB.jO rfl g1').trans g2⟩
theorem ZL(a b:List Nat):pP (.lst (gq a)) (.lst (gq b))=some (.bl (a == b)):=by
 unfold pP;show(uQ (bC 59) (gq a) (gq b)).map D.bl=_;unfold gq;rw[Kz 58 a b]
 rfl
theorem abt{N:List cG}{g:List Nat}(hg:g.length=N.length)(hN:N.length<=600)(hst:∀st∈N,st.2.length<=50/\∀pt∈st.2,pt.2<N.length)(a2 a3 a4 a5 a6 a7:OD) :
  ∃b3 b4 b5 b6 b7,iK [Zf (lr N),Zf (.lst (gq g)),a2,a3,a4,a5,a6,a7]=(if nums (bA N g)=g then .bk [Zf (lr N),Zf (.lst (gq g)),a2,b3,b4,b5,b6,b7] else .nx [Zf (lr N),Zf (.lst (gq (nums (bA N g)))),a2,b3,b4,b5,b6,b7]):=by
 obtain⟨b5,b6,b7,g1⟩:=aaD hg hN hst a2 N [] a5 a6 a7 rfl;have ht:dD (au pP 4 (aO 1)) (Dt N g (uniq (bA N g)) (nums (bA N g)) a2 b5 b6 b7) = .ok (nums (bA N g) == g) (Dt N g (uniq (bA N g)) (nums (bA N g)) a2 b5 b6 b7):=
  d8 (vI (i:=4) (b:=aO 1) (x:=.lst (gq (nums (bA N g)))) (y:=.lst (gq g)) rfl rfl rfl (ZL _ _))
 by_cases e:nums (bA N g)=g
 ·refine⟨Zt (.fG (lW aV 0 (uniq (bA N g)))),Zl (gq (nums (bA N g))),b5,b6,b7,?_⟩;rw[if_pos e];have hb:(nums (bA N g) == g)=true:=by rw[e];exact Qj0 _
  rw[hb] at ht;unfold iK;refine(aB (e:=[Zf (lr N),Zf (.lst (gq g)),a2,Zt (.fG []),a4,a5,a6,a7]) rfl).trans ?_;refine(aB (e:=Dt N g [] [] a2 a5 a6 a7) rfl).trans ?_;refine(aB ((dh (ds:=N.map aV) (e:=Dt N g [] [] a2 a5 a6 a7) rfl).trans g1)).trans ?_;unfold aF;rw[lz ht]
 ·refine⟨Zt (.fG (lW aV 0 (uniq (bA N g)))),Zf (.lst (gq (nums (bA N g)))),b5,b6,b7,?_⟩;rw[if_neg e];rw[Qx7.mpr e] at ht;unfold iK;refine(aB (e:=[Zf (lr N),Zf (.lst (gq g)),a2,Zt (.fG []),a4,a5,a6,a7]) rfl).trans ?_;refine(aB (e:=Dt N g [] [] a2 a5 a6 a7) rfl).trans ?_;refine(aB ((dh (ds:=N.map aV) (e:=Dt N g [] [] a2 a5 a6 a7) rfl).trans g1)).trans ?_;exact(aB (fK ht)).trans rfl
theorem Gq{N:List cG}{g:List Nat}{i:Nat}{st:cG}(h:N[i]? = some st):(bA N g)[i]? = some (st.1,st.2.map λpt=>(pt.1,g.getD pt.2 0)):=by unfold bA;rw[Qwx,h];rfl
theorem t3_eq{N:List cG}{g:List Nat}{i j:Nat}{s t:cG}(hs:N[i]? = some s)(ht:N[j]? = some t)(h:(nums (bA N g)).getD i 0=(nums (bA N g)).getD j 0):s.1=t.1/\s.2.map (·.1)=t.2.map (·.1)/\s.2.map (λpt=>g.getD pt.2 0)=t.2.map λpt=>g.getD pt.2 0:=by
 obtain⟨e1,e2⟩:=Prod.mk.inj (KM.tH (Gq hs) (Gq ht) h);refine⟨e1,?_,?_⟩
 ·have:=Qxy (List.map Prod.fst) e2;rw[Qw5,Qw5] at this;exact this
 ·have:=Qxy (List.map Prod.snd) e2;rw[Qw5,Qw5] at this;exact this
theorem Zj{g:List Nat}(h:∀i j,i<g.length->j<g.length->g.getD i 0=g.getD j 0->i=j):cnt g=g.length:=by
 refine Nat.le_antisymm (KM.Oa g) ?_;unfold cnt;have hl:(g.map λ(k:Nat)=>(k:Int)).length=g.length:=Qqq ..;rw[<-hl];refine KB.qG _ _ ?_ λv hv=>KM.iI.mpr hv;refine List.pairwise_map.mpr ?_;refine List.pairwise_iff_getElem.mpr λi j hi hj hij e=>?_;have:=h i j hi hj (by
  rw[Qq9,Qq9,Qq7 hi,Qq7 hj];exact Qvx e)
 omega
structure Tu(N:List cG)(g:List Nat):Prop where
 len:g.length=N.length
 fin:∀i j,i<N.length->j<N.length->(nums (bA N g)).getD i 0=(nums (bA N g)).getD j 0->g.getD i 0=g.getD j 0
theorem BL(N:List cG)(g:List Nat):(nums (bA N g)).length=N.length:=by rw[KM.qF];unfold bA;rw[Qqq]
theorem ZC{N:List cG}{i:Nat}(h:i<N.length):N[i]? = some N[i]:=Qq7 h
theorem PK{s t:cG}{f g:Nat->Nat}(h1:s.2.map (λpt=>f pt.2)=t.2.map λpt=>f pt.2)(h:∀p∈s.2,∀q∈t.2,f p.2=f q.2->g p.2=g q.2):s.2.map (λpt=>g pt.2)=t.2.map λpt=>g pt.2:=by
 refine List.ext_getElem? λk=>?_;have h3:=Qxy (λl:List Nat=>l[k]?) h1;simp only[Qwx] at h3 ⊢;cases p:s.2[k]? with
 | none=>
  rw[p] at h3;cases q:t.2[k]? with
  | none=>rfl
  | some u=>rw[q] at h3;cases h3
 | some v=>
  rw[p] at h3;cases q:t.2[k]? with
  | none=>rw[q] at h3;cases h3
  | some u=>
   rw[q] at h3;show some (g v.2)=some (g u.2);rw[h v (Qq8 p) u (Qq8 q) (Qwv h3)]
theorem Tu.next{N:List cG}{g:List Nat}(hin:∀st∈N,∀pt∈st.2,pt.2<N.length)(F:Tu N g):Tu N (nums (bA N g)):=by
 refine⟨BL N g,λi j hi hj h=>?_⟩;obtain⟨e1,e2,e3⟩:=t3_eq (ZC hi) (ZC hj) h;have e4:=PK (f:=λk=>(nums (bA N g)).getD k 0) (g:=λk=>g.getD k 0) e3 λp hp q hq=>F.fin p.2 q.2 (hin _ (Qx2 hi) p hp) (hin _ (Qx2 hj) q hq);rw[KM.m8 (Gq (ZC hi)),KM.m8 (Gq (ZC hj))]
 congr 1
 refine Prod.ext e1 ?_;show N[i].2.map (λpt=>(pt.1,g.getD pt.2 0))=N[j].2.map λpt=>(pt.1,g.getD pt.2 0);refine List.ext_getElem? λk=>?_;have h2:=Qxy (λl:List (List Nat)=>l[k]?) e2;have h3:=Qxy (λl:List Nat=>l[k]?) e4;simp only[Qwx] at h2 h3 ⊢;cases p:N[i].2[k]? with
 | none=>
  rw[p] at h2;cases q:N[j].2[k]? with
  | none=>rfl
  | some u=>rw[q] at h2;cases h2
 | some v=>
  rw[p] at h2 h3;cases q:N[j].2[k]? with
  | none=>rw[q] at h2;cases h2
  | some u=>
   rw[q] at h2 h3;exact Qxy some (Prod.ext (Qwv h2) (Qwv h3))
theorem Er{N:List cG}(L:Ds N)(hin:∀st∈N,∀pt∈st.2,pt.2<N.length){g:List Nat}(F:Tu N g)(hc:cnt (nums (bA N g))<=cnt g):cnt (nums (bA N g))=N.length:=by
 have hl:(nums (bA N g)).length=g.length:=by rw[BL,F.len]
 have hs:=KM.yR hl (λi j hi hj h=>F.fin i j (by rw[<-F.len];exact hi) (by rw[<-F.len];exact hj) h) hc;rw[F.len] at hs;have:=Zj (g:=nums (bA N g)) (λi j hi hj h=>L.dis (λk=>(nums (bA N g)).getD k 0) (λi j s t hi hj h=>by
  obtain⟨e1,e2,e3⟩:=t3_eq hi hj h;exact⟨e1,e2,PK (f:=λk=>g.getD k 0) (g:=λk=>(nums (bA N g)).getD k 0) e3 λp hp q hq=>hs p.2 q.2 (hin _ (Qq8 hi) p hp) (hin _ (Qq8 hj) q hq)⟩) i j (by rw[BL] at hi;exact hi) (by rw[BL] at hj;exact hj) h)
 rw[this,BL]
theorem Oz{N:List cG}(L:Ds N)(hN:N.length<=600)(hst:∀st∈N,st.2.length<=50/\∀pt∈st.2,pt.2<N.length):∀(ds:List D) (g:List Nat) (a2 a3 a4 a5 a6 a7:OD),Tu N g->N.length<=cnt g+ds.length->
  ∃g' b2 b3 b4 b5 b6 b7,ir (ak 2) iK ds [Zf (lr N),Zf (.lst (gq g)),a2,a3,a4,a5,a6,a7] = .nx [Zf (lr N),Zf (.lst (gq g')),b2,b3,b4,b5,b6,b7]/\cnt g'=N.length/\g'.length=N.length
 | [],g,a2,a3,a4,a5,a6,a7,F,h=>⟨g,a2,a3,a4,a5,a6,a7,rfl,by
   have:=KM.Oa g;rw[F.len] at this;rw[Qx8] at h;omega,F.len⟩
 | d::ds,g,a2,a3,a4,a5,a6,a7,F,h=>by
  rw[Qqv] at h;have hin:∀st∈N,∀pt∈st.2,pt.2<N.length:=λst h=>(hst st h).2;obtain⟨b3,b4,b5,b6,b7,g1⟩:=abt F.len hN hst (Zf d) a3 a4 a5 a6 a7;by_cases e:nums (bA N g)=g
  ·rw[if_pos e] at g1;refine⟨g,_,_,_,_,_,_,Qt rfl g1,?_,F.len⟩;have:=Er L hin F (by rw[e];exact Qqw _);rw[e] at this;exact this
  ·rw[if_neg e] at g1;have hc:N.length<=cnt (nums (bA N g))+ds.length:=by
    by_cases hlt:cnt g<cnt (nums (bA N g))
    ·omega
    ·have:=Er L hin F (by omega);omega
   obtain⟨g',c2,c3,c4,c5,c6,c7,q1,q2,q3⟩:=Oz L hN hst ds (nums (bA N g)) (Zf d) b3 b4 b5 b6 b7 (F.next hin) hc;exact⟨g',c2,c3,c4,c5,c6,c7,(KB.jO rfl g1).trans q1,q2,q3⟩
theorem unlike{N:List cG}(L:Ds N)(hp:0<N.length)(hN:N.length<=600)(hst:∀st∈N,st.2.length<=50/\∀pt∈st.2,pt.2<N.length):rG [lr N]=some (.bl true):=by
 have hz:∀i,(List.replicate N.length 0).getD i 0=0:=λi=>by
  rw[Qq9,Qz5];split<;>rfl
 have F0:Tu N (List.replicate N.length 0):=⟨Qzz,λi j _ _ _=>by rw[hz,hz]⟩;obtain⟨g,b2,b3,b4,b5,b6,b7,g1,g2,g3⟩:=Oz L hN hst ((List.range' 0 N.length).map λ(j:Nat)=>.int (j:Int)) (List.replicate N.length 0) none none none none none none F0 (by rw[Qqq,List.length_range'];omega);have hl:∀(d1 a2 a3 a4 a5 a6 a7:OD),ao cz (aa (aO 0) aj) [Zf (lr N),d1,a2,a3,a4,a5,a6,a7] = .ok (.int (N.length:Int)) [Zf (lr N),d1,a2,a3,a4,a5,a6,a7]:=λ_ _ _ _ _ _ _=>by
  refine aM (ds:=[lr N]) rfl ?_;show some (D.int ((N.map aV).length:Int))=_;rw[Qqq]
 let E0:Ev.Env:=[Zf (lr N),Zf (.lst (gq g)),b2,b3,b4,b5,b6,b7]
 refine cR (env:=E0) ?_;unfold xD;refine(aB (e:=[Zf (lr N),Zf (.lst (gq (List.replicate N.length 0))),Zn,Zn,Zn,Zn,Zn,Zn]) (bQ (d:=.lst (gq (List.replicate N.length 0))) (e:=[Zf (lr N),Zn,Zn,Zn,Zn,Zn,Zn,Zn]) (cj (x:=.lst [.int 0]) (y:=.int (N.length:Int)) rfl (hl _ _ _ _ _ _ _) ?_) rfl)).trans ?_
 ·show(if 0<=(N.length:Int)/\(N.length:Int)<=100000/\1*(N.length:Int).toNat<=sizeLine then _ else _)=_;rw[if_pos ⟨Int.natCast_nonneg _,by omega,by rw[Qzx,Nat.one_mul];exact Qq0 hN (by decide)⟩,Qzx];unfold gq;rw[List.map_replicate];have fl:∀n:Nat,(List.replicate n [D.int 0]).flatten=List.replicate n (D.int 0):=λn=>by
   induction n with
   | zero=>rfl
   | succ n ih=>rw[List.replicate_succ,List.flatten_cons,ih,List.replicate_succ];rfl
  rw[fl]
  rfl
 refine(aB ((dh (qU.tY (aH (hl _ _ _ _ _ _ _) bw) (MP _ hN))).trans g1)).trans ?_;refine bY (cj (x:=.int (cnt g:Int)) (y:=.int (N.length:Int)) (e1:=E0) ?_ (hl _ _ _ _ _ _ _) ?_)
 ·show gC (iG (.lst (gq g))) _=_;rw[KM.Nv g (by rw[g3];exact hN)]
  rfl
 ·rw[g2];show some (D.bl ((N.length:Int) == (N.length:Int)))=_;rw[Qj0]
open uF (sides)
open Ii (dF)
open KM (cG aJ aV Fl agj)
theorem YF:mH=jJ.mH:=rfl
theorem Uh:kY=jJ.kY:=rfl
theorem Et:dw=jJ.dw:=rfl
theorem VL:kZ=j9.kZ:=rfl
theorem Xz:bh=qU.bh:=rfl
theorem Jk(n:Int)(x:List Nat)(hx:x∈jJ.XS):∃s Rs n',gJ [.lst [.int n],.str x]=some (.tup [s,.tup Rs],.lst [.int n'])/\s∈sides/\(∀R∈Rs,dF x R)/\Rs.length<=4/\(Rs.length<=3\/x.length<=2):=by
 obtain⟨d,hd,e⟩:=dig n 4 (by decide);have ht:=qU.pG n 4 (by decide) (by decide);rw[<-Xz] at ht;obtain⟨m0,hm0,hix⟩:∃m0:Nat,m0<=3/\cU (.lst [.int 1,.int 2,.int 2,.int 3]) (.int (d:Int))=some (.int (m0:Int)):=by
  have hc:d=0\/d=1\/d=2\/d=3:=by omega
  rcases hc with rfl|rfl|rfl|rfl
  ·exact⟨1,by decide,rfl⟩
  ·exact⟨2,by decide,rfl⟩
  ·exact⟨2,by decide,rfl⟩
  ·exact⟨3,by decide,rfl⟩
 let k:Nat:=if x.length<3 then 1 else 0
 have hk:k<=1:=by show(if x.length<3 then 1 else 0)<=1;split<;>omega
 have hk2:k=0\/x.length<=2:=by
  show(if x.length<3 then 1 else 0)=0\/_;split
  ·exact .inr (by omega)
  ·exact .inl rfl
 obtain⟨s,Rs,n',h1,h2,h3,h4⟩:=j9.order (n / ((4:Nat):Int)) x hx (m0+k) (by omega);rw[<-VL] at h1;refine⟨s,Rs,n',jA (env:=[Zl [.int n'],Zs x]) ?_ rfl,h2,h3,by omega,by omega⟩;unfold pX
 let E0:Ev.Env:=[Zl [.int n],Zs x]
 have hio:eU bh 0 (aa (Zi 4) aj) [Zl [.int n],Zs x] = .ok (.int (n % ((4:Nat):Int))) [Zl [.int (n / ((4:Nat):Int))],Zs x]:=Ev.zb (x:=.lst [.int n]) (ds:=[.int ((4:Nat):Int)]) (e1:=E0) rfl rfl rfl ht;have hg:aR cU (bT (aa (Zi 1) (aa (Zi 2) (aa (Zi 2) (aa (Zi 3) aj))))) (eU bh 0 (aa (Zi 4) aj)) [Zl [.int n],Zs x] = .ok (.int (m0:Int)) [Zl [.int (n / ((4:Nat):Int))],Zs x]:=by refine cj (x:=.lst [.int 1,.int 2,.int 2,.int 3]) (y:=.int (n % ((4:Nat):Int))) (e1:=E0) rfl hio ?_;rw[e];exact hix
 have hlt:aR uP (ao cz (aa (aO 1) aj)) (Zi 3) [Zl [.int (n / ((4:Nat):Int))],Zs x] = .ok (.bl (decide (x.length<3))) [Zl [.int (n / ((4:Nat):Int))],Zs x]:=cj (x:=.int (x.length:Int)) (y:=.int ((3:Nat):Int)) rfl rfl (KM.vD x.length 3);have hib:Km [.bl (decide (x.length<3))]=some (.int (k:Int)):=by
  show some (D.int (if decide (x.length<3)=true then 1 else 0))=some (.int (((if x.length<3 then 1 else 0:Nat)):Int));by_cases h:x.length<3
  ·rw[Qw2 h,if_pos h];rfl
  ·rw[Qwk h,if_neg h];rfl
 refine bY (xq (x:=.lst [.int (n / ((4:Nat):Int))]) (x0:=.lst [.int n]) (ds:=[.str x,.int ((m0+k:Nat):Int)]) (e1:=[Zl [.int (n / ((4:Nat):Int))],Zs x]) rfl ?_ rfl h1);refine aH (e1:=E0) rfl (aH (cj (x:=.int (m0:Int)) (y:=.int (k:Int)) hg (aM (aH hlt bw) hib) ?_) bw);show some (D.int ((m0:Int)+(k:Int)))=_;rw[Int.natCast_add]
section
variable{x:List Nat}{s:D}{Rs rs:List D}(hx:x∈jJ.XS)(hs:s∈sides)(hR:∀R∈Rs,dF x R)(h4:Rs.length<=4)(h3:Rs.length<=3\/x.length<=2)(hr:jJ.Rows (sG x) rs)
include hx hs hR h4 h3 hr
theorem right:pR [.tup rs,.tup [s,.tup Rs]]=some (.bl true):=by
 obtain⟨first,N,e1,K⟩:=Fl hx hs hR h4 h3 hr;rw[<-Wd] at e1;have hx4:=jJ.qm x hx;have hl:dw [.tup rs]=some (.str x):=by rw[Et];exact jJ.Ca hx hr
 have hm:=Nz K.mx K.mo K.fx;have hc:=W9 K.few K.lst.num;have he:=R0 K.few (λst hst pt lY=>by obtain⟨q1,q2⟩:=(K.mo.sts st hst).stp pt lY;exact⟨q2,q1⟩) K.lst.onw;have hu:=unlike K.lst K.mo.pos K.few (λst hst=>⟨by rw[(K.mo.sts st hst).len];omega,λpt lY=>((K.mo.sts st hst).stp pt lY).2⟩);generalize D.tup [s,.tup Rs]=O at *
 let E0:Ev.Env:=[Zf (.tup rs),Zf O,Zf (qU.encM first N),Zf (lr N)]
 refine cR (env:=E0) ?_;unfold zj
 let E1:Ev.Env:=[Zf (.tup rs),Zf O,Zf (qU.encM first N),Zn]
 refine(aB (e:=E1) (bQ (d:=qU.encM first N) (e:=[Zf (.tup rs),Zf O,Zn,Zn]) (aM (ds:=[.tup rs,O]) rfl e1) rfl)).trans ?_;have t1:dD (ao jr (Zv 2 (aa (ao dw (Zv 0 aj)) aj))) [Zf (.tup rs),Zf O,Zf (qU.encM first N),Zn] = .ok true [Zf (.tup rs),Zf O,Zf (qU.encM first N),Zn]:=
  d8 (aM (ds:=[qU.encM first N,.str x]) (aH (e1:=E1) rfl (aH (aM (ds:=[.tup rs]) rfl hl) bw)) hm)
 refine(aB (fK (oO t1))).trans ?_;refine(aB (e:=E0) rfl).trans (bY ?_);refine(Hy (e:=E0) (aM (ds:=[lr N]) rfl hc)).trans ?_;refine(Hy (e:=E0) (aM (ds:=[lr N]) rfl he)).trans ?_;exact aM (ds:=[lr N]) rfl hu
end
theorem afD(ns:List Int)(hl:ns.length<=63)(hb:Oq ns)(k:Int)(h0:0<=k)(h1:k<=400)(a2 a3:OD):∃b2 b3,wQ [Zf (.arr (ns.map .int)),Zf (.int k),a2,a3] = .nx [Zf (.arr (ns.map .int)),Zf (.int k),b2,b3]:=by
 obtain⟨p,hp⟩:=jJ.pack ns hl hb k h0 (by omega);obtain⟨x,rs,n1,hx,e1,hr⟩:=jJ.stock p;obtain⟨s,Rs,n2,e2,hs,hR,h4,h3⟩:=Jk n1 x hx;have hsn:dw [.tup rs]=some (.str x):=by rw[Et];exact jJ.Ca hx hr
 have e4:=right hx hs hR h4 h3 hr;rw[<-YF] at hp;rw[<-Uh] at e1;refine⟨Zl [.int n2],Zf (.tup rs),?_⟩;generalize D.arr (ns.map .int)=AR at *;unfold wQ
 let E1:Ev.Env:=[Zf AR,Zf (.int k),Zl [.int p],a3]
 refine(aB (e:=E1) ((oR (d:=.lst [.int p]) (e:=[Zf AR,Zf (.int k),a2,a3]) (aM (ds:=[AR,.int k]) rfl hp)).trans rfl)).trans ?_
 let E0:Ev.Env:=[Zf AR,Zf (.int k),Zl [.int n1],Zf (.tup rs)]
 refine(aB (e:=E0) (bQ (d:=.tup rs) (e:=[Zf AR,Zf (.int k),Zl [.int n1],a3]) (xq (i:=2) (a:=aj) (x:=.lst [.int p]) (x0:=.lst [.int p]) (ds:=[]) (e1:=E1) rfl rfl rfl e1) rfl)).trans ?_;have hio:eU gJ 2 (aa (ao dw (Zv 3 aj)) aj) [Zf AR,Zf (.int k),Zl [.int n1],Zf (.tup rs)] = .ok (.tup [s,.tup Rs]) [Zf AR,Zf (.int k),Zl [.int n2],Zf (.tup rs)]:=
  Ev.zb (x:=.lst [.int n1]) (ds:=[.str x]) (e1:=E0) rfl (aH (aM (ds:=[.tup rs]) rfl hsn) bw) rfl e2
 have hr0:ao pR (Zv 3 (aa (eU gJ 2 (aa (ao dw (Zv 3 aj)) aj)) aj)) [Zf AR,Zf (.int k),Zl [.int n1],Zf (.tup rs)] = .ok (.bl true) [Zf AR,Zf (.int k),Zl [.int n2],Zf (.tup rs)]:=
  aM (ds:=[.tup rs,.tup [s,.tup Rs]]) (aH (e1:=E0) rfl (aH hio bw)) e4
 exact(fK (e:=[Zf AR,Zf (.int k),Zl [.int n2],Zf (.tup rs)]) (oO (d8 hr0))).trans rfl
theorem T8(ns:List Int)(hl:ns.length<=63)(hb:Oq ns):Qx [.arr (ns.map .int)]=some (.bl true):=by
 have hlen:ao cz (aa (aO 0) aj) [Zf (D.arr (ns.map .int)),Zn,Zn,Zn] = .ok (.int (ns.length:Int)) [Zf (D.arr (ns.map .int)),Zn,Zn,Zn]:=by show R.ok (D.int ((ns.map D.int).length:Int)) _=_;rw[Qqq]
 obtain⟨ds,hds,hk⟩:∃ds,ju (aa (Zi 0) (aa (ao Sx (aa (Zi 1) (aa (ao Sw (aa (ao cz (aa (aO 0) aj)) (aa (Zi 12) aj))) aj))) (aa (Zi 2) aj))) [Zf (D.arr (ns.map .int)),Zn,Zn,Zn] = .ok ds [Zf (D.arr (ns.map .int)),Zn,Zn,Zn]/\∀d∈ds,∃k:Int,d = .int k/\0<=k/\k<=400:=by
  generalize hE:([Zf (D.arr (ns.map .int)),Zn,Zn,Zn]:Ev.Env)=env at hlen ⊢;have a1:aa (Zi 0) (aa (ao Sx (aa (Zi 1) (aa (ao Sw (aa (ao cz (aa (aO 0) aj)) (aa (Zi 12) aj))) aj))) (aa (Zi 2) aj)) env = .ok [.int 0,.int (if (if (12:Int)<ns.length then 12 else (ns.length:Int)) > 1 then (if (12:Int)<ns.length then 12 else (ns.length:Int)) else 1),.int 2] env:=
   aH (d:=.int 0) rfl (aH (aM (ds:=[.int 1,.int (if (12:Int)<ns.length then 12 else (ns.length:Int))]) (aH (d:=.int 1) rfl (aH (aM (ds:=[.int (ns.length:Int),.int 12]) (aH hlen rfl) rfl) bw)) rfl) rfl)
  generalize hm:(if (if (12:Int)<ns.length then 12 else (ns.length:Int)) > 1 then (if (12:Int)<ns.length then 12 else (ns.length:Int)) else 1)=m at a1;have hm1:1<=m/\m<=12:=by rw[<-hm];split<;>split<;>omega
  obtain⟨j,rfl⟩:∃j:Nat,m=(j:Int):=⟨m.toNat,by omega⟩;have hsm:(2:Int)≠0/\(2:Int).natAbs<1073741824/\Builtin.Range.small 0 (j:Int) 2=true:=by
   refine⟨by decide,by decide,?_⟩;have hall:((List.range 21).all λj=>Builtin.Range.small 0 (j:Int) 2)=true:=by decide +kernel
   exact Qxv.mp hall j (Qj3.mpr (by omega))
  have hsz:(Builtin.Range.rangeSize 0 (j:Int) 2).toNat<=20:=by
   have hall:((List.range 21).all λj=>decide ((Builtin.Range.rangeSize 0 (j:Int) 2).toNat<=20))=true:=by decide +kernel
   exact Qxw (Qxv.mp hall j (Qj3.mpr (by omega)))
  refine⟨jb 0 2 (Builtin.Range.rangeSize 0 (j:Int) 2).toNat,qU.tY a1 (qU.aeL hsm),λd hd=>?_⟩;unfold jb at hd;obtain⟨i,hi,rfl⟩:=Qwz.mp hd;have:=Qj3.mp hi;exact⟨0+(i:Int)*2,rfl,by omega,by omega⟩
 obtain⟨e',f1,b1,b2,b3,rfl⟩:=xm (g:=ak 1) (b:=wQ) (λenv=>∃b1 b2 b3,env=[Zf (.arr (ns.map .int)),b1,b2,b3]) ds
  (λd hd env ⟨b1,b2,b3,he⟩=>by
   subst he;obtain⟨k,rfl,h0,h1⟩:=hk d hd;obtain⟨c2,c3,hb⟩:=afD ns hl hb k h0 h1 b2 b3;exact⟨_,_,rfl,hb,_,_,_,rfl⟩)
  [Zf (.arr (ns.map .int)),Zn,Zn,Zn] ⟨_,_,_,rfl⟩
 let E0:Ev.Env:=[Zf (.arr (ns.map .int)),b1,b2,b3]
 refine cR (env:=E0) ?_;unfold abe;refine(aB (e:=E0) ?_).trans rfl;exact(dh hds).trans f1
open PySem PySem.Spec PyProof.Rows L2 Ev
theorem all_mk{P:Program}{w:World}{K:Fg}{h:Heap}{mg:Str->Option Value}{fa:Addr}(X:K.In h)(G:h.Ns mainGlobals mg)(hfa:mg "law" = some (.ref fa))
  {abA:Tok} {yc:Tok}
  (aaz:PySem.W.nsIn K mainGlobals "all" = some none) (T3:PySem.W.nsIn K mainGlobals "bool" = some none) (TY:PySem.W.nsIn K mainGlobals "dict" = some none) (Il:PySem.W.nsIn K mainGlobals "divmod" = some none) (yP:PySem.W.nsIn K mainGlobals "enumerate" = some none) (aay:PySem.W.nsIn K mainGlobals "int" = some none) (vM:PySem.W.nsIn K mainGlobals "isinstance" = some none) (aax:PySem.W.nsIn K mainGlobals "len" = some none) (TX:PySem.W.nsIn K mainGlobals "list" = some none) (aaw:PySem.W.nsIn K mainGlobals "max" = some none) (aav:PySem.W.nsIn K mainGlobals "min" = some none) (Ou:PySem.W.nsIn K mainGlobals "range" = some none) (aau:PySem.W.nsIn K mainGlobals "set" = some none) (Ik:PySem.W.nsIn K mainGlobals "sorted" = some none) (aat:PySem.W.nsIn K mainGlobals "str" = some none) (Ot:PySem.W.nsIn K mainGlobals "tuple" = some none) (aas:PySem.W.nsIn K mainGlobals "zip" = some none) (tW:∀d:D,PySem.W.kitOne K (.type (OJ d)) (.type "bool")=some (pO d "bool")) (wY:∀d:D,PySem.W.kitOne K (.type (OJ d)) (.type "int")=some (pO d "int")) (wX:∀d:D,PySem.W.kitOne K (.type (OJ d)) (.type "str")=some (pO d "str")) (jm:∀d:D,PySem.W.kitOne K (.type (OJ d)) (.type "tuple")=some (pO d "tuple")) (NQ:PySem.W.nsIn K mainGlobals "EDGE" = some (some (.str "#" abA))) (mF:PySem.W.nsIn K mainGlobals "MOST_STANDINGS" = some (some (.int 600 yc))) (zq:FA K "sounds_of" sS) (Xe:FA K "fits" MF) (Lh:FA K "turned" Bj) (Gh:FA K "puts_in" yo) (rZ:FA K "reading_rules" nJ) (qQ:FA K "first_standing" mq) (p7:FA K "read_putting_in" lB) (sr:FA K "read_changing" nM) (xG:FA K "read_signs" qY) (Dl:FA K "watch_on" vf) (zp:FA K "watch_end" sO) (Gg:FA K "read_on" ym) (Lj:FA K "end_of" Bl) (Dm:FA K "readings" vg) (p6:FA K "standing_states" lA) (ug:FA K "shared_start" oW) (qR:FA K "certain_starts" my) (su:FA K "put_out_early" nO) (Dn:FA K "numbered" vh) (uT:FA K "like_states" qd) (Li:FA K "joined" Bk) (sE:FA K "least_machine" nQ) (zA:FA K "_law_mixed" sY) (Dr:FA K "_law_pack" vp) (Dp:FA K "_law_take" vm) (zr:FA K "_law_stock" sU) (xJ:FA K "_law_sounds" rm) (zx:FA K "_law_signs" sV) (uV:FA K "_law_changes" qg) (Dq:FA K "_law_rule" vo) (zz:FA K "_law_order" sX) (p8:FA K "_law_small_order" lC) (uU:FA K "_law_is_text" qe) (qP:FA K "_law_is_machine" mj) (uh:FA K "_law_all_come" oX) (zB:FA K "_law_early" sZ) (xH:FA K "_law_unlike" qZ) (zy:FA K "_law_right" sW) (abg:FA K "law" Uo) :
  ∃fd:FuncData,(∀(s:Shared) (v:Value),BindsTo s fd ⟨[v],[]⟩ [("_law_script",v)])/\∀base:Heap,K.In base->base.Ns mainGlobals mg->qT P w K mg base Ie 10 fa fd ["_law_script"] (qu K 1 Qx):=
 abg.law X G hfa (λs v=>.of_eq rfl) λbase F=>adE ⟨tK X G aaz,
  tK X G T3,
  tK X G TY,
  tK X G Il,
  tK X G yP,
  tK X G aay,
  tK X G vM,
  tK X G aax,
  tK X G TX,
  tK X G aaw,
  tK X G aav,
  tK X G Ou,
  tK X G aau,
  tK X G Ik,
  tK X G aat,
  tK X G Ot,
  tK X G aas,
  tW,
  wY,
  wX,
  jm,
  Zy X G NQ (by decide +kernel) (by decide),
  Zz X G mF,
  zq.at X G (fun|[_],_=>rfl),
  Xe.at X G (fun|[_,_],_=>rfl),
  Lh.at X G (fun|[_],_=>rfl),
  Gh.at X G (fun|[_],_=>rfl),
  rZ.at X G (fun|[_],_=>rfl),
  qQ.at X G (fun|[_],_=>rfl),
  p7.at X G (fun|[_,_,_],_=>rfl),
  sr.at X G (fun|[_,_,_],_=>rfl),
  xG.at X G (fun|[_,_,_],_=>rfl),
  Dl.at X G (fun|[_,_,_],_=>rfl),
  zp.at X G (fun|[_,_],_=>rfl),
  Gg.at X G (fun|[_,_,_],_=>rfl),
  Lj.at X G (fun|[_,_],_=>rfl),
  Dm.at X G (fun|[_,_],_=>rfl),
  p6.at X G (fun|[_,_],_=>rfl),
  ug.at X G (fun|[_],_=>rfl),
  qR.at X G (fun|[_],_=>rfl),
  su.at X G (fun|[_],_=>rfl),
  Dn.at X G (fun|[_],_=>rfl),
  uT.at X G (fun|[_],_=>rfl),
  Li.at X G (fun|[_],_=>rfl),
  sE.at X G (fun|[_,_],_=>rfl),
  zA.at X G (fun|[_],_=>rfl),
  Dr.at X G (fun|[_,_],_=>rfl),
  Dp.at X G (fun|[_,_],_=>rfl),
  zr.at X G (fun|[_],_=>rfl),
  xJ.at X G (fun|[_],_=>rfl),
  zx.at X G (fun|[_,_],_=>rfl),
  uV.at X G (fun|[_,_],_=>rfl),
  Dq.at X G (fun|[_,_],_=>rfl),
  zz.at X G (fun|[_,_,_],_=>rfl),
  p8.at X G (fun|[_,_],_=>rfl),
  uU.at X G (fun|[_,_],_=>rfl),
  qP.at X G (fun|[_,_],_=>rfl),
  uh.at X G (fun|[_],_=>rfl),
  zB.at X G (fun|[_],_=>rfl),
  xH.at X G (fun|[_],_=>rfl),
  zy.at X G (fun|[_,_],_=>rfl)⟩ F
end nG
theorem PySem.W.Fast.tw13032819277298864665:True:=trivial
theorem PySem.W.Fast.tw15547740090063508205:True:=trivial
theorem PySem.W.Fast.tw8121786995854982548:True:=trivial
theorem PySem.W.Fast.tw14986085460884219144:True:=trivial
theorem PySem.W.Fast.tw16550784345030565438:True:=trivial
theorem PySem.W.Fast.tw4450814795833357507:True:=trivial
theorem PySem.W.Fast.tw13842470910082209329:True:=trivial
theorem PySem.W.Fast.tw4669940112726746665:True:=trivial
theorem PySem.W.Fast.tw4019620340683922808:True:=trivial
theorem PySem.W.Fast.tw13603247121760451549:True:=trivial
theorem PySem.W.Fast.tw14892007475001054352:True:=trivial
theorem PySem.W.Fast.tw3100860180339863186:True:=trivial
theorem PySem.W.Fast.tw10353281512870914573:True:=trivial
theorem PySem.W.Fast.tw11348853170077620887:True:=trivial
theorem PySem.W.Fast.tw11458209814269721509:True:=trivial
theorem PySem.W.Fast.tw2255095737870627835:True:=trivial
theorem PySem.W.Fast.tw3581025074520712734:True:=trivial
theorem PySem.W.Fast.tw12763225178078396451:True:=trivial
theorem PySem.W.Fast.tw9394870669501518295:True:=trivial
theorem PySem.W.Fast.tw17303629878073141636:True:=trivial
theorem PySem.W.Fast.tw2088253140040646308:True:=trivial
theorem PySem.W.Fast.tw1865630146536849393:True:=trivial
theorem PySem.W.Fast.tw6875243269441648740:True:=trivial
theorem PySem.W.Fast.tw2368410483512070230:True:=trivial
theorem PySem.W.Fast.tw10155719729810222986:True:=trivial
theorem PySem.W.Fast.tw7900726384936950427:True:=trivial
theorem PySem.W.Fast.tw5408035939017999154:True:=trivial
theorem PySem.W.Fast.tw6499605433735232105:True:=trivial
theorem PySem.W.Fast.tw11375945664560007031:True:=trivial
theorem PySem.W.Fast.tw17630133620315782838:True:=trivial
theorem PySem.W.Fast.tw970646685535699130:True:=trivial
theorem PySem.W.Fast.tw8109468473856704292:True:=trivial
theorem PySem.W.Fast.tw14829996196198256907:True:=trivial
theorem PySem.W.Fast.tw13120453264331852921:True:=trivial
theorem PySem.W.Fast.tw4931934177718475641:True:=trivial
theorem PySem.W.Fast.tw4744359823338957094:True:=trivial
theorem PySem.W.Fast.tw9026268907063414191:True:=trivial
theorem PySem.W.Fast.tw6975457661666615700:True:=trivial
theorem PySem.W.Fast.tw18194698763519697193:True:=trivial
theorem PySem.W.Fast.tw8053972334923215809:True:=trivial
theorem PySem.W.Fast.tw11250041267875302542:True:=trivial
theorem PySem.W.Fast.tw8937703760955852621:True:=trivial
theorem PySem.W.Fast.tw1173792440427093162:True:=trivial
theorem PySem.W.Fast.tw4482382810194912689:True:=trivial
theorem PySem.W.Fast.tw12569090307153950895:True:=trivial
theorem PySem.W.Fast.tw5745607596208096801:True:=trivial
theorem PySem.W.Fast.tw13230027749682203405:True:=trivial
theorem PySem.W.Fast.tw10144219363712965205:True:=trivial
theorem PySem.W.Fast.tw15025666703696339258:True:=trivial
theorem PySem.W.Fast.tw3341283875382601338:True:=trivial
theorem PySem.W.Fast.tw5491192635390701182:True:=trivial
theorem PySem.W.Fast.tw5937019523140786854:True:=trivial
theorem PySem.W.Fast.tw12619200536012133033:True:=trivial
open PySem PySem.W PyProof.Rows
set_option maxRecDepth 100000 in
set_option maxHeartbeats 0 in
theorem PySem.Challenge.cw_soundrules_k22_least_machines_holds : PySem.Challenge.rw_soundrules_k22_least_machines.Holds := by
 w_on;o_law;k_head;(case hw=>w_witness2)
 k_fill
 refine Ev.aew (l:=PySem.Challenge.rw_soundrules_k22_least_machines) (k:=10) (x:="_law_script") (f:=nG.Qx) rfl (by decide) rfl ⟨rfl,by decide,by decide⟩ (λw h Y=>PySem.W.kIn_of Y) nG.T8 ?F
 case F=>
  intro w mg fa h KX G hmg
  refine' nG.all_mk KX G hmg ?aaz ?T3 ?TY ?Il ?yP ?aay ?vM ?aax ?TX ?aaw ?aav ?Ou ?aau ?Ik ?aat ?Ot ?aas ?tW ?wY ?wX ?jm ?NQ ?mF ?zq ?Xe ?Lh ?Gh ?rZ ?qQ ?p7 ?sr ?xG ?Dl ?zp ?Gg ?Lj ?Dm ?p6 ?ug ?qR ?su ?Dn ?uT ?Li ?sE ?zA ?Dr ?Dp ?zr ?xJ ?zx ?uV ?Dq ?zz ?p8 ?uU ?qP ?uh ?zB ?xH ?zy ?abg
  (case tW=>(intro d;cases d with|clo=>(show PySem.W.kitOne _ (.type "NoneType") (.type "bool")=some false;kit_is)|non=>(show PySem.W.kitOne _ (.type "NoneType") (.type "bool")=some false;kit_is)|bl=>(show PySem.W.kitOne _ (.type "bool") (.type "bool")=some true;kit_is)|int=>(show PySem.W.kitOne _ (.type "int") (.type "bool")=some false;kit_is)|str=>(show PySem.W.kitOne _ (.type "str") (.type "bool")=some false;kit_is)|tup=>(show PySem.W.kitOne _ (.type "tuple") (.type "bool")=some false;kit_is)|lst=>(show PySem.W.kitOne _ (.type "list") (.type "bool")=some false;kit_is)|arr=>(show PySem.W.kitOne _ (.type "list") (.type "bool")=some false;kit_is)|dct=>(show PySem.W.kitOne _ (.type "dict") (.type "bool")=some false;kit_is)|fG=>(show PySem.W.kitOne _ (.type "dict") (.type "bool")=some false;kit_is)))
  (case wY=>(intro d;cases d with|clo=>(show PySem.W.kitOne _ (.type "NoneType") (.type "int")=some false;kit_is)|non=>(show PySem.W.kitOne _ (.type "NoneType") (.type "int")=some false;kit_is)|bl=>(show PySem.W.kitOne _ (.type "bool") (.type "int")=some true;kit_is)|int=>(show PySem.W.kitOne _ (.type "int") (.type "int")=some true;kit_is)|str=>(show PySem.W.kitOne _ (.type "str") (.type "int")=some false;kit_is)|tup=>(show PySem.W.kitOne _ (.type "tuple") (.type "int")=some false;kit_is)|lst=>(show PySem.W.kitOne _ (.type "list") (.type "int")=some false;kit_is)|arr=>(show PySem.W.kitOne _ (.type "list") (.type "int")=some false;kit_is)|dct=>(show PySem.W.kitOne _ (.type "dict") (.type "int")=some false;kit_is)|fG=>(show PySem.W.kitOne _ (.type "dict") (.type "int")=some false;kit_is)))
  (case wX=>(intro d;cases d with|clo=>(show PySem.W.kitOne _ (.type "NoneType") (.type "str")=some false;kit_is)|non=>(show PySem.W.kitOne _ (.type "NoneType") (.type "str")=some false;kit_is)|bl=>(show PySem.W.kitOne _ (.type "bool") (.type "str")=some false;kit_is)|int=>(show PySem.W.kitOne _ (.type "int") (.type "str")=some false;kit_is)|str=>(show PySem.W.kitOne _ (.type "str") (.type "str")=some true;kit_is)|tup=>(show PySem.W.kitOne _ (.type "tuple") (.type "str")=some false;kit_is)|lst=>(show PySem.W.kitOne _ (.type "list") (.type "str")=some false;kit_is)|arr=>(show PySem.W.kitOne _ (.type "list") (.type "str")=some false;kit_is)|dct=>(show PySem.W.kitOne _ (.type "dict") (.type "str")=some false;kit_is)|fG=>(show PySem.W.kitOne _ (.type "dict") (.type "str")=some false;kit_is)))
  (case jm=>(intro d;cases d with|clo=>(show PySem.W.kitOne _ (.type "NoneType") (.type "tuple")=some false;kit_is)|non=>(show PySem.W.kitOne _ (.type "NoneType") (.type "tuple")=some false;kit_is)|bl=>(show PySem.W.kitOne _ (.type "bool") (.type "tuple")=some false;kit_is)|int=>(show PySem.W.kitOne _ (.type "int") (.type "tuple")=some false;kit_is)|str=>(show PySem.W.kitOne _ (.type "str") (.type "tuple")=some false;kit_is)|tup=>(show PySem.W.kitOne _ (.type "tuple") (.type "tuple")=some true;kit_is)|lst=>(show PySem.W.kitOne _ (.type "list") (.type "tuple")=some false;kit_is)|arr=>(show PySem.W.kitOne _ (.type "list") (.type "tuple")=some false;kit_is)|dct=>(show PySem.W.kitOne _ (.type "dict") (.type "tuple")=some false;kit_is)|fG=>(show PySem.W.kitOne _ (.type "dict") (.type "tuple")=some false;kit_is)))
  (case NQ=>k_is)
  (case mF=>k_is)
  all_goals first|k_is|(refine' Ev.FA.mk ?a ?l ?c ?k;(case a=>k_is);(case l=>k_is);(case c=>k_is);(case k=>k_is))|(refine' Ev.FC.mk ?a ?l ?c ?k ?lc ?v;(case a=>k_is);(case l=>k_is);(case c=>k_is);(case k=>k_is);(case lc=>k_is);(case v=>exact rfl))
