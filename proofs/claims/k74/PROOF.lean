import PyProof.Rows.All
import Wide.All
import OpenK.AllK
import Wide.FinOn
import Lean
import PyProof.EqAt
import PyProof.EqKinds
import PyProof.TupleCall
import PyProof.TupleKey
import PyProof.DictRoadsH
import PyProof.FactsAll.bool_1
import PyProof.AttrMissHeap
import KE.KDictOf
import PyProof.ListMulRoad
import PyProof.FactsAll.tuple_2
import KE.KSortTup
import PyProof.TupleOfSeq
import PyProof.Rows.SortRuns
import PyProof.ListRange
import PyProof.DictTable
import PyProof.Rows.TupTab
import PyProof.FactsAll.range_1
import KE.KDictList
import PyProof.SetRoads
import PyProof.DictTruth
import PyProof.RulesTry
import KE.KIsAll
import KE.KTryDeep
import PyProof.ExcArgsOwn
import PyProof.ExcAttrAll.ValueError
import PyProof.InstStoreFacts
import PyProof.ExcInit
import PyProof.SumAnyB
import PyProof.ToksMono
import PyProof.StrReplace2
import PySem.Challenge.RW_soundrules_k74_orders_written
noncomputable section
set_option Elab.async false
set_option linter.all false
set_option maxRecDepth 100000
set_option maxHeartbeats 4000000
def Qqq:type_of% @List.length_append:=@List.length_append
theorem Qqx:type_of% @PySem.wpAny_bind:=@PySem.wpAny_bind
def Qqz:type_of% @List.length_map:=@List.length_map
theorem Qqj:type_of% @PySem.Heap.get?_push_of_some:=@PySem.Heap.get?_push_of_some
def Qqk:type_of% @List.length_cons:=@List.length_cons
def Qqv:type_of% @List.mem_cons_self:=@List.mem_cons_self
def Qqw:type_of% @List.mem_cons:=@List.mem_cons
def Qqy:type_of% @Nat.le_trans:=@Nat.le_trans
def Qq0:type_of% @List.mem_cons_of_mem:=@List.mem_cons_of_mem
theorem Qq1:type_of% @PySem.wpAny_pure:=@PySem.wpAny_pure
def Qq2:type_of% @Nat.le_refl:=@Nat.le_refl
def Qq3:type_of% @List.getElem?_set_ne:=@List.getElem?_set_ne
def Qq4:type_of% @List.size_toArray:=@List.size_toArray
def Qq5:type_of% @List.all_eq_true:=@List.all_eq_true
def Qq6:type_of% @List.getElem?_eq_some_iff:=@List.getElem?_eq_some_iff
theorem Qq7:type_of% @PySem.Heap.get?_push_size:=@PySem.Heap.get?_push_size
def Qq8:type_of% @List.map_cons:=@List.map_cons
theorem Qq9:type_of% @PySem.Heap.lt_size:=@PySem.Heap.lt_size
def Qwq:type_of% @List.getElem?_set_self:=@List.getElem?_set_self
def Qwx:type_of% @Bool.and_eq_true:=@Bool.and_eq_true
def Qwz:type_of% @List.mem_singleton:=@List.mem_singleton
def Qwj:type_of% @beq_eq_false_iff_ne:=@beq_eq_false_iff_ne
def Qwk:type_of% @List.mem_map:=@List.mem_map
def Qwv:type_of% @List.not_mem_nil:=@List.not_mem_nil
def Qww:type_of% @List.append_assoc:=@List.append_assoc
def Qwy:type_of% @Nat.lt_of_lt_of_le:=@Nat.lt_of_lt_of_le
def Qw0:type_of% @Nat.ne_of_lt:=@Nat.ne_of_lt
def Qw1:type_of% @Option.map_eq_some_iff:=@Option.map_eq_some_iff
def Qw2:type_of% @decide_eq_true:=@decide_eq_true
def Qw3:type_of% @Bool.false_ne_true:=@Bool.false_ne_true
def Qw4:type_of% @Option.some.injEq:=@Option.some.injEq
def Qw5:type_of% @of_decide_eq_true:=@of_decide_eq_true
def Qw6:type_of% @decide_eq_false:=@decide_eq_false
def Qw7:type_of% @List.length_set:=@List.length_set
def Qw8:type_of% @List.length_take:=@List.length_take
theorem Qw9:type_of% @PySem.wpAny_mono:=@PySem.wpAny_mono
def Qxq:type_of% @List.getElem?_append_left:=@List.getElem?_append_left
def Qxx:type_of% @List.mem_append:=@List.mem_append
def Qxz:type_of% @List.mem_range:=@List.mem_range
def Qxj:type_of% @Option.some.inj:=@Option.some.inj
def Qxk:type_of% @List.map_map:=@List.map_map
def Qxv:type_of% @List.length_drop:=@List.length_drop
def Qxw:type_of% @Bool.or_eq_true:=@Bool.or_eq_true
def Qxy:type_of% @Option.bind_eq_some_iff:=@Option.bind_eq_some_iff
def Qx0:type_of% @List.mem_append_right:=@List.mem_append_right
def Qx1:type_of% @List.map_append:=@List.map_append
def Qx2:type_of% @List.append_nil:=@List.append_nil
def Qx3:type_of% @List.foldl_cons:=@List.foldl_cons
def Qx4:type_of% @List.getElem?_eq_getElem:=@List.getElem?_eq_getElem
def Qx5:type_of% @List.getElem?_append_right:=@List.getElem?_append_right
def Qx6:type_of% @List.getElem?_map:=@List.getElem?_map
theorem Qx7:type_of% @PySem.wpAny_newObj_type:=@PySem.wpAny_newObj_type
def Qx8:type_of% @List.length_singleton:=@List.length_singleton
def Qx9:type_of% @List.lookup_cons:=@List.lookup_cons
def Qzq:type_of% @List.pairwise_cons:=@List.pairwise_cons
def Qzx:type_of% @List.length_replicate:=@List.length_replicate
theorem Qzz:type_of% @PySem.wpAny_holding:=@PySem.wpAny_holding
def Qzj:type_of% @List.getD_eq_getElem?_getD:=@List.getD_eq_getElem?_getD
def Qzk:type_of% @Nat.zero_le:=@Nat.zero_le
def Qzv:type_of% @Nat.lt_of_le_of_lt:=@Nat.lt_of_le_of_lt
def Qzw:type_of% @congrArg:=@congrArg
def Qzy:type_of% @List.eq_nil_of_length_eq_zero:=@List.eq_nil_of_length_eq_zero
def Qz0:type_of% @List.filterMap_cons:=@List.filterMap_cons
def Qz1:type_of% @Option.isSome_iff_exists:=@Option.isSome_iff_exists
def Qz2:type_of% @Nat.lt_irrefl:=@Nat.lt_irrefl
def Qz3:type_of% @List.getElem?_replicate:=@List.getElem?_replicate
def Qz4:type_of% @List.nil_append:=@List.nil_append
theorem Qz5:type_of% @PySem.wpAny_call_entry:=@PySem.wpAny_call_entry
def Qz6:type_of% @List.map_congr_left:=@List.map_congr_left
def Qz7:type_of% @Array.length_toList:=@Array.length_toList
def Qz8:type_of% @PyProof.Rows.slot_tuple_getitem:=@PyProof.Rows.slot_tuple_getitem
def Qz9:type_of% @Int.toNat_natCast:=@Int.toNat_natCast
def Qjq:type_of% @Nat.le_of_ble_eq_true:=@Nat.le_of_ble_eq_true
def Qjx:type_of% @List.getElem?_eq_none:=@List.getElem?_eq_none
def Qjz:type_of% @or_false:=@or_false
def Qjj:type_of% @List.getElem?_take_of_lt:=@List.getElem?_take_of_lt
def Qjk:type_of% @List.sum_cons:=@List.sum_cons
theorem Qjv:type_of% @PySem.Heap.size_push:=@PySem.Heap.size_push
def Qjw:type_of% @Nat.lt_succ_of_lt:=@Nat.lt_succ_of_lt
theorem Qjy:type_of% @PySem.wpAny_truthy_bool:=@PySem.wpAny_truthy_bool
def Qj0:type_of% @List.length_nil:=@List.length_nil
def Qj1:type_of% @PyProof.Rows.callWith_type1:=@PyProof.Rows.callWith_type1
def Qj2:type_of% @List.take_of_length_le:=@List.take_of_length_le
def Qj3:type_of% @List.cons_append:=@List.cons_append
theorem Qj4:type_of% @PySem.wpAny_setField_rec:=@PySem.wpAny_setField_rec
def Qj5:type_of% @Nat.le_of_lt:=@Nat.le_of_lt
def Qj6:type_of% @List.drop_eq_getElem_cons:=@List.drop_eq_getElem_cons
def Qj7:type_of% @List.mem_of_getElem?:=@List.mem_of_getElem?
def Qj8:type_of% @List.mem_append_left:=@List.mem_append_left
def Qj9:type_of% @Bool.and_eq_true_iff:=@Bool.and_eq_true_iff
def Qkq:type_of% @List.nodup_cons:=@List.nodup_cons
theorem Qkx:type_of% @PySem.wpAny_specialOf:=@PySem.wpAny_specialOf
theorem Qkz:type_of% @PySem.codeAny_builtin:=@PySem.codeAny_builtin
def Qkj:type_of% @Bool.eq_iff_iff:=@Bool.eq_iff_iff
def Qkk:type_of% @Nat.le_of_succ_le:=@Nat.le_of_succ_le
theorem Qkv:type_of% @PySem.typeIs_str:=@PySem.typeIs_str
theorem Qkw:type_of% @PySem.mem_of_lookup:=@PySem.mem_of_lookup
theorem Qky:type_of% @PySem.sizeLine_eq:=@PySem.sizeLine_eq
theorem Qk0:type_of% @PySem.W.mg_of:=@PySem.W.mg_of
def Qk1:type_of% @beq_self_eq_true:=@beq_self_eq_true
def Qk2:type_of% @List.find?_cons:=@List.find?_cons
def Qk3:type_of% @Option.map_some:=@Option.map_some
theorem Qk4:type_of% @PySem.codeAny_mono:=@PySem.codeAny_mono
abbrev jN(x:PySem.Str):Prop:=(x == ("__debug__" : PySem.Str))=false
abbrev t7(x:PySem.Str):Prop:=(x == ("__classdict__" : PySem.Str))=false
open PySem PySem.Spec PyProof.Rows in
abbrev BJ(e:Expr)(E:PySem.Env):Prop:=starEach [e] E=(false,eval e E)::starEach [] E
namespace L2
open PySem PySem.Spec PyProof.Rows
inductive NK where
 | num (i:Int)
 | txt (x:Str)
 | tup (xs:List NK)
noncomputable instance:DecidableEq NK:=λ_ _=>Classical.propDecidable _
mutual
def Kg(h:Heap):NK->Value->Prop
 | .num i,v=>(∃t,v = .int i t)\/∃b:Bool,v = .bool b/\i=if b then 1 else 0
 | .txt x,v=>∃t,v = .str x t
 | .tup ks,v=>∃a o items n,v = .ref a/\h.get? a=some o/\o.cls = .type "tuple"/\o.data = .seq items n/\qT h ks items.toList
def qT(h:Heap):List NK->List Value->Prop
 | [],vs=>vs=[]
 | k::ks,vs=>∃v r,vs=v::r/\Kg h k v/\qT h ks r
end
mutual
def NK.dep:NK->Nat
 | .num _=>0
 | .txt _=>0
 | .tup ks=>1+NK.Bj ks
def NK.Bj:List NK->Nat
 | []=>0
 | k::ks=>max (NK.dep k) (NK.Bj ks)
end
mutual
def NK.draws:NK->Nat
 | .num _=>1
 | .txt _=>1
 | .tup ks=>NK.qz ks+1
def NK.qz:List NK->Nat
 | []=>0
 | k::ks=>NK.draws k+NK.qz ks
end
section
variable(P:Program)(w:World)
mutual
def NK.hash:NK->Int
 | .num i=>hashInt i
 | .txt x=>(strKind P w).hash x
 | .tup ks=>reduceHash (Builtin.Tuple.tupleHashOf (NK.hashes ks))
def NK.hashes:List NK->List Int
 | []=>[]
 | k::ks=>NK.hash k::NK.hashes ks
end
end
theorem qT.length:∀{ks} {vs},qT h ks vs->vs.length=ks.length
 | [],_,e=>by cases e;rfl
 | k::ks,_,e=>by obtain⟨v,r,rfl,_,q⟩:=e;rw[Qqk,Qqk,q.length]
theorem qT.get:∀{ks} {vs} {j:Nat} {v},qT h ks vs->vs[j]? = some v->∃k,ks[j]? = some k/\Kg h k v
 | [],_,_,_,e,g=>by cases e;simp at g
 | k::ks,_,j,v,e,g=>by
  obtain⟨u,r,rfl,h1,h2⟩:=e;cases j with
  | zero=>simp at g;subst g;exact⟨k,rfl,h1⟩
  | succ j=>obtain⟨k',e1,e2⟩:=qT.get h2 (j:=j) (by simpa using g);exact⟨k',by simpa using e1,e2⟩
theorem NK.Bh:∀{ks} {j:Nat} {k},ks[j]? = some k->k.dep<=NK.Bj ks
 | [],_,_,e=>by simp at e
 | c::ks,j,k,e=>by
  unfold NK.Bj;cases j with
  | zero=>simp at e;subst e;exact Nat.le_max_left _ _
  | succ j=>exact Qqy (NK.Bh (j:=j) (by simpa using e)) (Nat.le_max_right _ _)
mutual
theorem Kg.inj{h:Heap}:∀{x y:NK} {v:Value},Kg h x v->Kg h y v->x=y
 | .num i,.num j,v,a,b=>by
  rcases a with ⟨t,rfl⟩|⟨c,rfl,rfl⟩
  ·rcases b with ⟨t',e⟩|⟨c,e,_⟩
   ·cases e;rfl
   ·cases e
  ·rcases b with ⟨t',e⟩|⟨c,e,rfl⟩
   ·cases e
   ·cases e;rfl
 | .num i,.txt x,v,a,b=>by obtain⟨t,rfl⟩:=b;rcases a with ⟨t',e⟩|⟨c,e,_⟩<;>cases e
 | .num i,.tup ks,v,a,b=>by obtain⟨_,_,_,_,rfl,_⟩:=b;rcases a with ⟨t',e⟩|⟨c,e,_⟩<;>cases e
 | .txt x,.num i,v,a,b=>by obtain⟨t,rfl⟩:=a;rcases b with ⟨t',e⟩|⟨c,e,_⟩<;>cases e
 | .txt x,.txt y,v,a,b=>by obtain⟨t,rfl⟩:=a;obtain⟨t',e⟩:=b;cases e;rfl
 | .txt x,.tup ks,v,a,b=>by obtain⟨t,rfl⟩:=a;obtain⟨_,_,_,_,e,_⟩:=b;cases e
 | .tup ks,.num i,v,a,b=>by obtain⟨_,_,_,_,rfl,_⟩:=a;rcases b with ⟨t',e⟩|⟨c,e,_⟩<;>cases e
 | .tup ks,.txt y,v,a,b=>by obtain⟨_,_,_,_,rfl,_⟩:=a;obtain⟨t',e⟩:=b;cases e
 | .tup ks,.tup ls,v,a,b=>by
  obtain⟨p,o,items,n,rfl,h1,_,h3,h4⟩:=a;obtain⟨p',o',items',n',e,h1',_,h3',h4'⟩:=b;cases e;rw[h1] at h1';cases h1';rw[h3] at h3';cases h3';rw[qT.inj h4 h4']
theorem qT.inj{h:Heap}:∀{x y:List NK} {v:List Value},qT h x v->qT h y v->x=y
 | [],[],_,_,_=>rfl
 | [],k::ks,_,a,b=>by cases a;obtain⟨_,_,e,_⟩:=b;cases e
 | k::ks,[],_,a,b=>by cases b;obtain⟨_,_,e,_⟩:=a;cases e
 | k::ks,l::ls,_,a,b=>by
  obtain⟨v,r,rfl,h1,h2⟩:=a;obtain⟨v',r',e,h1',h2'⟩:=b;cases e;rw[Kg.inj h1 h1',qT.inj h2 h2']
end
mutual
theorem Kg.keeps{h h':Heap}{d:Addr}{o:Obj}{es ep}(ho:h.get? d=some o)(hd:o.data = .dict es ep)(hs:Heap.SameBut d h h'):∀{k:NK} {v:Value},Kg h k v->Kg h' k v
 | .num _,_,e=>e
 | .txt _,_,e=>e
 | .tup ks,_,e=>by
  obtain⟨a,o',items,n,rfl,h1,h2,h3,h4⟩:=e;have hne:a≠d:=by rintro rfl;rw[h1] at ho;cases ho;rw[h3] at hd;cases hd
  exact⟨a,o',items,n,rfl,(hs.2 a hne).trans h1,h2,h3,qT.keeps ho hd hs h4⟩
theorem qT.keeps{h h':Heap}{d:Addr}{o:Obj}{es ep}(ho:h.get? d=some o)(hd:o.data = .dict es ep)(hs:Heap.SameBut d h h'):∀{ks:List NK} {vs:List Value},qT h ks vs->qT h' ks vs
 | [],_,e=>e
 | k::ks,_,e=>by obtain⟨v,r,rfl,h1,h2⟩:=e;exact⟨v,r,rfl,Kg.keeps ho hd hs h1,qT.keeps ho hd hs h2⟩
end
section
variable{P:Program}{w:World}
def RZ(h:Q (hashInt (if b then 1 else 0)) { s with toks:=s.toks+1 }):wpAny (model P w) A (pyHash (.bool b)) Q E s:=by
 have hT:s.TypeIs (.bool b) "bool":=rfl;have hr:=rawHash_range (if b then 1 else 0);unfold pyHash;have hv:[Value.bool b].any Value.onHeap=false:=rfl;refine Qqx ?_;rw[cRoomFor,if_neg (by rw[hv];exact Qw3)];refine Qq1 ?_;refine Qqx (Qkx hT F.slot_bool_hash.lookup ?_);show wpAny _ _ (if (some (Value.builtin "int.__hash__") == some Value.none)=true then _ else _) Q E s;rw[if_neg (by rw[beq_builtin_none];exact Qw3)];refine Qqx (Qkx hT F.slot_bool_hash.lookup ?_);show wpAny _ _ (callSpecialIfBoundUnlessNone? (.bool b) "__hash__" _ >>= _) Q E s;refine Qqx (wpAny_callSpecialIfBoundUnlessNone?_slot hT F.slot_bool_hash
  (Qz5 F.slot_bool_hash hT entry_int_hash
   (show wpAny _ _ (do ret (<-mkInt (rawHash (if b then 1 else 0)))) _ _ s from wpAny_ret_mkInt ?_) (args_int_hash _)))
 show wpAny _ _ (if (decide (-(2:Int)^63<=rawHash (if b then 1 else 0))&&decide (rawHash (if b then 1 else 0)<2^63))=true then _ else _) Q E _;rw[if_pos (by rw[Qw2 hr.1,Qw2 hr.2];rfl)];exact Qq1 h
mutual
theorem VM:∀(k:NK) (v:Value) (A:Around) (E:Value->Shared->Prop) (s:Shared) (Q:Int->Shared->Prop),A.units+k.dep<cLine->Kg s.heap k v->Q (k.hash P w) { s with toks:=s.toks+k.draws }->wpAny (model P w) A (pyHash v) Q E s
 | .num i,v,A,E,s,Q,hu,e,h=>by
  rcases e with ⟨t,rfl⟩|⟨b,rfl,rfl⟩
  ·exact wpAny_pyHash_int h
  ·exact RZ h
 | .txt x,v,A,E,s,Q,hu,e,h=>by
  obtain⟨t,rfl⟩:=e;exact wpAny_pyHash_str h
 | .tup ks,v,A,E,s,Q,hu,e,h=>by
  obtain⟨a,o,items,n,rfl,ho,hc,hd,hi⟩:=e;have hT:s.TypeIs (.ref a) "tuple":=⟨o,ho,hc⟩;have aeX:(NK.tup ks).dep=1+NK.Bj ks:=by rw[NK.dep]
  rw[aeX] at hu;have hu0:A.units<cLine:=by omega
  have hin:A.in1.units+NK.Bj ks<cLine:=by show A.units+1+NK.Bj ks<cLine;omega
  unfold pyHash
  first|unfold pyHashByItsType|skip
  first|refine Qqx (wpAny_cRoomFor_or (.inr hu0) ?_)|skip
  refine Qqx (Qkx hT F.slot_tuple_hash.lookup ?_);show wpAny _ _ (if (some (Value.builtin "tuple.__hash__") == some Value.none)=true then _ else _) Q E s;rw[if_neg (by rw[beq_builtin_none];exact Qw3)];refine Qqx (Qkx hT F.slot_tuple_hash.lookup ?_);show wpAny _ _ (callSpecialIfBoundUnlessNone? (.ref a) "__hash__" _ >>= _) Q E s;refine Qqx (wpAny_callSpecialIfBoundUnlessNone?_slot hT F.slot_tuple_hash (Qz5 F.slot_tuple_hash hT F.entry_tuple_hash ?_ (F.args_tuple_hash_1 _)));show wpAny _ _ (Builtin.Tuple.tupleItemsOf (.ref a) >>= _) _ _ s;refine Qqx (wpAny_tupleItemsOf ho hd ?_);refine Qqx ?_;rw[<-Array.forIn_toList];refine Je ks items.toList A.in1 _ s _ _ #[] hin hi (λx b s' R q=>?_) ?_
  ·first
    | exact Qqx (Qw9 q (λz s2 hz=>Qq1 hz) λ_ _ z=>z)
    | exact Qqx (Qw9 q (λz s2 hz=>Qqx (Qq1 (Qq1 hz))) λ_ _ z=>z)
  ·show wpAny _ _ (retInt (Builtin.Tuple.tupleHashOf ((#[]:Array Int).toList++NK.hashes P w ks))) _ _ _;have hh:(NK.tup ks).hash P w=reduceHash (Builtin.Tuple.tupleHashOf (NK.hashes P w ks)):=by rw[NK.hash]
   have hdr:(NK.tup ks).draws=NK.qz ks+1:=by rw[NK.draws]
   rw[hh,hdr] at h;rw[show(#[]:Array Int).toList++NK.hashes P w ks=NK.hashes P w ks from rfl];refine wpAny_ret_mkInt ?_;show wpAny _ _ (if (decide (-(2:Int)^63<=Builtin.Tuple.tupleHashOf (NK.hashes P w ks))&&decide (Builtin.Tuple.tupleHashOf (NK.hashes P w ks)<2^63))=true then _ else _) Q E _;unfold reduceHash at h;by_cases hr:(decide (-(2:Int)^63<=Builtin.Tuple.tupleHashOf (NK.hashes P w ks))&&decide (Builtin.Tuple.tupleHashOf (NK.hashes P w ks)<2^63))=true
   ·rw[if_pos hr];rw[if_pos hr] at h;exact Qq1 (by simpa[Nat.add_assoc] using h)
   ·rw[if_neg hr];rw[if_neg hr] at h;exact Qqx (wpAny_rule (Qq1 (by simpa[Nat.add_assoc] using h)))
theorem Je:∀(ks:List NK) (vs:List Value) (A:Around) (E:Value->Shared->Prop) (s:Shared) (body:Value->Array Int->Sem (ForInStep (Array Int))) (Q:Array Int->Shared->Prop) (acc:Array Int),A.units+NK.Bj ks<cLine->qT s.heap ks vs->
  (∀x b s' (R:ForInStep (Array Int)->Shared->Prop),wpAny (model P w) A (pyHash x) (λz s2=>R (.yield (b.push z)) s2) E s'->wpAny (model P w) A (body x b) R E s')->
  Q (acc.toList++NK.hashes P w ks).toArray { s with toks:=s.toks+NK.qz ks }->wpAny (model P w) A (forIn vs acc body) Q E s
 | [],vs,A,E,s,body,Q,acc,hu,e,hb,q=>by
  cases e;rw[List.forIn_nil];refine Qq1 ?_;have:(acc.toList++NK.hashes P w []).toArray=acc:=by rw[NK.hashes];simp
  rw[this] at q;have e0:NK.qz []=0:=by rw[NK.qz]
  rw[e0] at q;exact q
 | k::ks,vs,A,E,s,body,Q,acc,hu,e,hb,q=>by
  obtain⟨v,r,rfl,h1,h2⟩:=e;have aeX:NK.Bj (k::ks)=max k.dep (NK.Bj ks):=by rw[NK.Bj]
  rw[aeX] at hu;rw[List.forIn_cons];refine Qqx (hb v acc s _ (VM k v A E s _ (by omega) h1 ?_));refine Je ks r A E { s with toks:=s.toks+k.draws } body Q (acc.push (k.hash P w)) (by omega) h2 hb ?_;have e1:NK.hashes P w (k::ks)=k.hash P w::NK.hashes P w ks:=by rw[NK.hashes]
  have e2:NK.qz (k::ks)=k.draws+NK.qz ks:=by rw[NK.qz]
  rw[e1,e2] at q
  simpa[Nat.add_assoc] using q
end
theorem ahq:∀n x y u v A s,x.dep<=n->A.units+n+1<cLine->Kg s.heap x u->Kg s.heap y v->SeqAt.EqAt A s u v (decide (x=y))
 | n,.num i,.num j,u,v,A,s,hn,hu,hx,hy=>by
  have e:decide (NK.num i=NK.num j)=(i == j):=by rw[Qkj];simp
  rw[e];rcases hx with ⟨t,rfl⟩|⟨b,rfl,rfl⟩
  ·rcases hy with ⟨t',rfl⟩|⟨c,rfl,rfl⟩
   ·exact SeqAt.EqAt.int_int i t j t'
   ·exact SeqAt.EqAt.int_bool i t c
  ·rcases hy with ⟨t',rfl⟩|⟨c,rfl,rfl⟩
   ·exact SeqAt.EqAt.bool_int b j t'
   ·have:((if b then (1:Int) else 0) == (if c then 1 else 0))=(b == c):=by cases b<;>cases c<;>rfl
    rw[this];exact SeqAt.EqAt.bool_bool b c
 | n,.num i,.txt z,u,v,A,s,hn,hu,hx,hy=>by
  rw[Qw6 (λe=>by cases e)];obtain⟨t,rfl⟩:=hy;rcases hx with ⟨t',rfl⟩|⟨b,rfl,rfl⟩
  ·exact SeqAt.EqAt.int_str i t' _ t
  ·exact SeqAt.EqAt.bool_str b _ t
 | n,.num i,.tup ks,u,v,A,s,hn,hu,hx,hy=>by
  rw[Qw6 (λe=>by cases e)];obtain⟨a,o,items,m,rfl,h1,h2,h3,_⟩:=hy;have p:s.heap.IsTuple a items:=⟨o,h1,h2,m,h3⟩;rcases hx with ⟨t',rfl⟩|⟨b,rfl,rfl⟩
  ·exact SeqAt.EqAt.int_tuple i t' p (by omega)
  ·exact SeqAt.EqAt.bool_tuple b p (by omega)
 | n,.txt z,.num i,u,v,A,s,hn,hu,hx,hy=>by
  rw[Qw6 (λe=>by cases e)];obtain⟨t,rfl⟩:=hx;rcases hy with ⟨t',rfl⟩|⟨b,rfl,rfl⟩
  ·exact SeqAt.EqAt.str_int _ t i t'
  ·exact SeqAt.EqAt.str_bool _ t b
 | n,.txt z,.txt z',u,v,A,s,hn,hu,hx,hy=>by
  have e:decide (NK.txt z=NK.txt z')=(z == z'):=by rw[Qkj];simp
  rw[e];obtain⟨t,rfl⟩:=hx;obtain⟨t',rfl⟩:=hy;exact SeqAt.EqAt.str_str _ t _ t'
 | n,.txt z,.tup ks,u,v,A,s,hn,hu,hx,hy=>by
  rw[Qw6 (λe=>by cases e)];obtain⟨t,rfl⟩:=hx;obtain⟨a,o,items,m,rfl,h1,h2,h3,_⟩:=hy;have p:s.heap.IsTuple a items:=⟨o,h1,h2,m,h3⟩;exact SeqAt.EqAt.str_tuple _ t p (by omega)
 | n,.tup ks,.num i,u,v,A,s,hn,hu,hx,hy=>by
  rw[Qw6 (λe=>by cases e)];obtain⟨a,o,items,m,rfl,h1,h2,h3,_⟩:=hx;have p:s.heap.IsTuple a items:=⟨o,h1,h2,m,h3⟩;rcases hy with ⟨t',rfl⟩|⟨b,rfl,rfl⟩
  ·exact SeqAt.EqAt.tuple_int i t' p (by omega)
  ·exact SeqAt.EqAt.tuple_bool b p (by omega)
 | n,.tup ks,.txt z,u,v,A,s,hn,hu,hx,hy=>by
  rw[Qw6 (λe=>by cases e)];obtain⟨a,o,items,m,rfl,h1,h2,h3,_⟩:=hx;have p:s.heap.IsTuple a items:=⟨o,h1,h2,m,h3⟩;obtain⟨t,rfl⟩:=hy;exact SeqAt.EqAt.tuple_str _ t p (by omega)
 | 0,.tup ks,.tup ls,u,v,A,s,hn,hu,hx,hy=>by
  rw[NK.dep] at hn;omega
 | n+1,.tup ks,.tup ls,u,v,A,s,hn,hu,hx,hy=>by
  have hx0:=hx;have hy0:=hy;obtain⟨a,o,items,m,rfl,h1,h2,h3,h4⟩:=hx;obtain⟨a',o',items',m',rfl,h1',h2',h3',h4'⟩:=hy;have p:s.heap.IsTuple a items:=⟨o,h1,h2,m,h3⟩;have p':s.heap.IsTuple a' items':=⟨o',h1',h2',m',h3'⟩;rw[NK.dep] at hn;by_cases haa:a=a'
  ·subst haa;rw[Qw2 (Kg.inj hx0 hy0)];exact SeqAt.EqAt.same _
  ·refine SeqAt.EqAt.of_refs haa ?_;have l1:=h4.length;have l2:=h4'.length;rw[Qz7] at l1 l2;have hu0:A.units<cLine:=by omega
   have:=SeqAt.RcAt.tuples (e:=λj=>decide (ks[j]? = ls[j]?)) p p' hu0 λj q1 q2=>?_
   ·have e:((List.range (min items.size items'.size)).all (λj=>decide (ks[j]? = ls[j]?))&&items.size == items'.size)=decide (NK.tup ks=NK.tup ls):=by
     rw[Qkj];simp only[Qwx,Qq5,Qxz,decide_eq_true_eq,beq_iff_eq,NK.tup.injEq];constructor
     ·rintro⟨g1,g2⟩;apply List.ext_getElem?;intro j;by_cases hj:j<min items.size items'.size
      ·exact g1 j hj
      ·rw[Qjx (by omega),Qjx (by omega)]
     ·rintro rfl;exact⟨λ_ _=>rfl,by omega⟩
    rw[<-e];exact this
   ·have g1:items.toList[j]? = some items[j]:=by simp
    have g2:items'.toList[j]? = some items'[j]:=by simp
    obtain⟨k,r1,r2⟩:=h4.get g1;obtain⟨l,r3,r4⟩:=h4'.get g2;have e:decide (ks[j]? = ls[j]?)=decide (k=l):=by rw[r1,r3];simp
    rw[e];exact ahq n k l _ _ A.in1 s (Qqy (NK.Bh r1) (by omega)) (by show A.units+1+n+1<cLine;omega) r2 r4
theorem O2:∀n k v A E s Q,k.dep<=n->Kg s.heap k v->Q true s->wpAny (model P w) A (eqIsQuiet n v) Q E s
 | n,.num i,v,A,E,s,Q,hn,e,h=>by
  rcases e with ⟨t,rfl⟩|⟨b,rfl,rfl⟩
  ·rw[eqIsQuiet_byValue n rfl];exact Qq1 h
  ·rw[eqIsQuiet_byValue n rfl];exact Qq1 h
 | n,.txt x,v,A,E,s,Q,hn,e,h=>by
  obtain⟨t,rfl⟩:=e;rw[eqIsQuiet_byValue n rfl];exact Qq1 h
 | 0,.tup ks,v,A,E,s,Q,hn,e,h=>by
  rw[NK.dep] at hn;omega
 | n+1,.tup ks,v,A,E,s,Q,hn,e,h=>by
  obtain⟨a,o,items,m,rfl,ho,hc,hd,hi⟩:=e;rw[NK.dep] at hn;have hT:s.TypeIs (.ref a) "tuple":=⟨o,ho,hc⟩;unfold eqIsQuiet;refine Qqx (Qkx hT F.slot_tuple_eq.lookup ?_);show wpAny _ _ (isInstance (.ref a) (.type "tuple") >>= _) _ _ s;refine Qqx (wpAny_isInstance hT isSubtype_tuple_tuple ?_);simp only[Bool.not_true,Bool.false_eq_true,if_false];refine Qqx (wpAny_seqItems ho hd ?_);refine Qqx ?_;show wpAny _ _ (forIn items _ _) _ _ s;rw[<-Array.forIn_toList];refine wpAny_forIn_list _ (λrest r s'=>r.1=none/\s'=s/\∀v∈rest,∃k:NK,k.dep<=n/\Kg s.heap k v) _ ?_ ?_ _ _ ⟨rfl,rfl,λv hv=>?_⟩
  ·rintro v rest r s' ⟨hr,rfl,hall⟩;obtain⟨k,hk1,hk2⟩:=hall v Qqv;refine Qqx (O2 n k v A E _ _ hk1 hk2 ?_);simp only[Bool.not_true,Bool.false_eq_true,if_false];exact Qq1 ⟨rfl,rfl,λu hu'=>hall u (Qq0 _ hu')⟩
  ·rintro⟨r1,r2⟩ s' ⟨hr,rfl,_⟩;simp only at hr;subst hr;exact Qq1 h
  ·obtain⟨j,hj,rfl⟩:=List.mem_iff_getElem.mp hv;obtain⟨k,r1,r2⟩:=hi.get (Qx4 hj);exact⟨k,Qqy (NK.Bh r1) (by omega),r2⟩
noncomputable def VH(P:Program)(w:World):HeapKind P w NK where
 is:=λh k a=>Kg h k (.ref a)/\k.dep<=8
 hash:=NK.hash P w
 draws:=NK.draws
 room:=λA=>A.units+10<cLine
 inj:=λhx hy=>hx.1.inj hy.1
 keeps:=λx ho hd hs=>⟨x.1.keeps ho hd hs,x.2⟩
 pyHash:=λhu hk h=>VM _ _ _ _ _ _ (by have:=hk.2;omega) hk.1 h
 eqBool:=λhu hx hy h=>ahq 8 _ _ _ _ _ _ hx.2 (by omega) hx.1 hy.1 P w _ _ h
 quiet:=λhk h=>O2 8 _ _ _ _ _ _ hk.2 hk.1 h
end
abbrev Key:=Sum Int Str
def DG:Key->Value->Bool
 | .inl k,v=>Value.isInt k v
 | .inr x,v=>Value.isStrOf x v
def ajo(w:World):Key->Int
 | .inl k=>hashInt k
 | .inr x=>hashStr w x
theorem eN:∀{k} {v},DG k v=true->(∃i t,k=Sum.inl i/\v=Value.int i t)\/(∃x t,k=Sum.inr x/\v=Value.str x t)
 | .inl i,v,h=>by
  obtain⟨t,e⟩:=Value.isInt_shape (k:=i) (v:=v) h;exact .inl ⟨i,t,rfl,e⟩
 | .inr x,v,h=>by
  obtain⟨t,e⟩:=Value.isStrOf_shape (x:=x) (v:=v) h;exact .inr ⟨x,t,rfl,e⟩
def RG(i)(t):DG (.inl i) (.int i t)=true:=by simp[DG,Value.isInt]
def RD(x)(t):DG (.inr x) (.str x t)=true:=by simp[DG,Value.isStrOf]
def aeI(a b):decide ((Sum.inl a:Key)=Sum.inl b)=(a == b):=by
 by_cases e:a=b
 ·subst e;simp
 ·have h:¬(Sum.inl a:Key)=Sum.inl b:=λq=>e (Sum.inl.inj q);rw[Qw6 h];exact(Qwj.mpr e).symm
def aeF(a b):decide ((Sum.inr a:Key)=Sum.inr b)=decide (a=b):=by
 by_cases e:a=b
 ·subst e;simp
 ·have h:¬(Sum.inr a:Key)=Sum.inr b:=λq=>e (Sum.inr.inj q);rw[Qw6 h,Qw6 e]
def aeH(a)(b):decide ((Sum.inl a:Key)=Sum.inr b)=false:=Qw6<|λq=>nomatch q
def aeG(a)(b):decide ((Sum.inr a:Key)=Sum.inl b)=false:=Qw6<|λq=>nomatch q
def ir(prog:Program)(w:World):PySem.KeyKind prog w Key where
 is:=DG
 hash:=ajo w
 inj:=λv a b ha hb=>by
  rcases eN ha with ⟨i,t,rfl,rfl⟩|⟨x,t,rfl,rfl⟩
  ·rcases eN hb with ⟨j,u,rfl,e⟩|⟨y,u,rfl,e⟩
   ·injection e with e1 _;rw[e1]
   ·exact nomatch e
  ·rcases eN hb with ⟨j,u,rfl,e⟩|⟨y,u,rfl,e⟩
   ·exact nomatch e
   ·injection e with e1 _;rw[e1]
 byValue:=λk v h=>by
  rcases eN h with ⟨i,t,rfl,rfl⟩|⟨x,t,rfl,rfl⟩<;>rfl
 pyHash:=λhv h=>by
  rcases eN hv with ⟨i,t,rfl,rfl⟩|⟨x,t,rfl,rfl⟩
  ·exact wpAny_pyHash_int h
  ·exact wpAny_pyHash_str h
 eqBool:=λhu hv h=>by
  rcases eN hu with ⟨i,t,rfl,rfl⟩|⟨x,t,rfl,rfl⟩
  ·rcases eN hv with ⟨j,u,rfl,rfl⟩|⟨y,u,rfl,rfl⟩
   ·rw[aeI] at h;exact wpAny_eqBool_int h
   ·rw[aeH] at h;exact SeqAt.EqAt.int_str i t y u _ _ _ _ h
  ·rcases eN hv with ⟨j,u,rfl,rfl⟩|⟨y,u,rfl,rfl⟩
   ·rw[aeG] at h;exact SeqAt.EqAt.str_int x t j u _ _ _ _ h
   ·rw[aeF] at h;exact wpAny_eqBool_str h
 «strs»:=λk x t v h=>by
  rcases eN h with ⟨i,u,rfl,e⟩|⟨y,u,rfl,e⟩
  ·exact nomatch e
  ·injection e with e1 _
   subst e1;cases v<;>rfl
def Ji(prog)(w)(i)(t):(ir prog w).is (.inl i) (.int i t)=true:=RG i t
def Jh(prog)(w)(x)(t):(ir prog w).is (.inr x) (.str x t)=true:=RD x t
inductive V where
 | non|bl (b:Bool)|int (i:Int)|str (x:Str)|byt (b:Array UInt8)|flt (b:UInt64)|ref (a:Addr)|ty (n:String)
 deriving DecidableEq
def RelV:V->Value->Prop
 | .non,u=>u=Value.none
 | .bl b,u=>u=Value.bool b
 | .int i,u=>∃t,u=Value.int i t
 | .str x,u=>∃t,u=Value.str x t
 | .byt b,u=>∃t,u=Value.bytes b t
 | .flt b,u=>∃t,u=Value.float b t
 | .ref a,u=>u=Value.ref a
 | .ty n,u=>u=Value.type n
abbrev Vals:List V->List Value->Prop:=Paired RelV
def Vals.length(r:Vals xs us):xs.length=us.length:=Paired.length r
theorem Vals.get:∀{xs} {us} {i:Nat} {x},Vals xs us->xs[i]? = some x->∃u,us[i]? = some u/\RelV x u
 | _,_,_,_,.nil,e=>by simp at e
 | _,_,0,_,.cons r _,e=>by simp at e;subst e;exact⟨_,rfl,r⟩
 | _,_,i+1,x,.cons _ t,e=>by
  obtain⟨u,h1,h2⟩:=Vals.get t (by simpa using e);exact⟨u,by simpa using h1,h2⟩
theorem Vals.set(r:RelV x u):∀{xs} {us} i,Vals xs us->Vals (xs.set i x) (us.set i u)
 | _,_,_,.nil=>.nil
 | _,_,0,.cons _ t=>.cons r t
 | _,_,i+1,.cons q t=>.cons q<|Vals.set r i t
theorem Vals.append:∀{xs ys} {us ws},Vals xs us->Vals ys ws->Vals (xs++ys) (us++ws)
 | _,_,_,_,.nil,s=>s
 | _,_,_,_,.cons r t,s=>.cons r<|Vals.append t s
theorem Vals.take:∀{xs} {us} n,Vals xs us->Vals (xs.take n) (us.take n)
 | _,_,0,_=>.nil
 | _,_,_+1,.nil=>.nil
 | _,_,n+1,.cons r t=>.cons r<|Vals.take n t
theorem Vals.drop:∀{xs} {us} n,Vals xs us->Vals (xs.drop n) (us.drop n)
 | _,_,0,r=>r
 | _,_,_+1,.nil=>.nil
 | _,_,n+1,.cons _ t=>Vals.drop n t
def Dc:Option V->Option Value->Prop
 | some v,some u=>RelV v u
 | none,none=>True
 | _,_=>False
def KV{κ:Type}:List (κ×V)->List (κ×Value)->Prop:=Paired λ(p:κ×V) (q:κ×Value)=>p.1=q.1/\RelV p.2 q.2
def kV:Key->V
 | .inl i=>.int i
 | .inr x=>.str x
inductive HO where
 /-- a list -/
 | lst (xs:List V)
 /-- a tuple (never changes) -/
 | tup (xs:List V)
 /-- a dict whose keys are ints and texts;one whose keys are tuples of ints and texts (the empty one is both) -/
 | dK (kvs:List (Key×V))|dT (kvs:List (List Key×V))|dN (kvs:List (NK×V×V))
 /-- a set of ints: its members,its size -/
 | set (S:Int->Bool) (n:Nat)
 /-- an instance of the class at C,its dict at dx,its attributes -/
 | ins (C dx:Addr) (fs:List (Str×V))
 /-- the dict of the instance at x -/
 | own (x:Addr)
 /-- the dict of an exception -/
 | xd (fs:List (Str×V))
 /-- a bound method,f of x -/
 | met (f x:Addr)
 /-- a range object lo,lo+1,.. below hi -/
 | rng (lo hi:Int)
 /-- a thing that is known to the object (the script;a dict while a loop walks it): read,never written while it is so -/
 | rZ (o:Obj) (u:HO)
 /-- a code object's table -/
 | tbl (ps:Array Value)
 /-- a code object's table: whatever it holds,the codes made at these places are known and bear these names -/
 | tab (qs:List (Pos×Str))
 /-- any other thing,by what is true of its one object (a def of one's own: Xm a S n:=HO.ext λh=>..) -/
 | ext (φ:Heap->Prop)
abbrev Hp:=Addr->Option HO
def upd(H:Hp)(a:Addr)(o:HO):Hp:=λb=>if b=a then some o else H b
def aZ:upd H a o a=some o:=by unfold upd;rw[if_pos rfl]
def bH(h:b≠a):upd H a o b=H b:=by unfold upd;rw[if_neg h]
def Yj:upd (upd H a o) a u=upd H a u:=by funext b;unfold upd;split<;>rfl
def aho{H:Hp}(h:H a=some o)(h':H b=some u)(d:o≠u):a≠b:=by intro e;subst e;rw[h] at h';exact d<|Qxj h'
def dm{H:Hp}(h:H a=some o)(h':H b=none):a≠b:=by intro e;subst e;rw[h] at h';cases h'
def CV(h:Heap)(a:Addr)(items:Array Value):Prop:=∃o,h.get? a=some o/\o.cls = .type "tuple"/\(∃n,o.data = .seq items n)/\o.dict=none
def CV.is(x:CV h a items):IsTup h a items:=let ⟨o,h1,h2,h3,_⟩:=x;⟨o,h1,h2,h3⟩
def CV.new(h:Heap)(items):CV (h.push { cls:=.type "tuple",data:=.seq items }) h.objs.size items:=⟨_,Qq7 _ rfl,rfl,⟨_,rfl⟩,rfl⟩
section
variable(P:Program)(w:World)
def gK(H:Hp)(h:Heap)(a:Addr):HO->Prop
 | .lst xs=>xs.length<=sizeLine/\∃(its:List Value) (n:Nat),Vals xs its/\h.get? a=some { cls:=.type "list",data:=.seq its.toArray n }
 | .tup xs=>xs.length<=sizeLine/\∃its:List Value,Vals xs its/\CV h a its.toArray
 | .dK kvs=>kvs.length<=sizeLine/\(a == sysModules)=false/\∃vs,KV kvs vs/\h.DictOf (ir P w) a vs
 | .dT kvs=>kvs.length<=sizeLine/\(a == sysModules)=false/\∃xs:List (List Key×Addr×Value),
   Paired (λ(p:List Key×V) (q:List Key×Addr×Value)=>p.1=q.1/\H q.2.1=some (.tup (p.1.map kV))/\RelV p.2 q.2.2) kvs xs/\
   ∃o es ep,h.get? a=some o/\o.ExactDict/\o.data = .dict es ep/\es.toList=xs.map (entryOfKey (tupleKind (ir P w)))/\(xs.map (·.1)).Nodup
 | .dN kvs=>kvs.length<=sizeLine/\(a == sysModules)=false/\∃xs:List (NK×Addr×Value),
   Paired (λ(p:NK×V×V) (q:NK×Addr×Value)=>p.1=q.1/\p.2.1 = .ref q.2.1/\RelV p.2.2 q.2.2) kvs xs/\
   ∃o es ep,h.get? a=some o/\o.ExactDict/\o.data = .dict es ep/\es.toList=xs.map (entryOfKey (VH P w))/\(xs.map (·.1)).Nodup
 | .set S n=>h.SetOf (intKind P w) a S n
 | .ins C dx fs=>H dx=some (.own a)/\fs.length<=1000/\dx≠a/\h.get? a=some (PySem.W.instObj C dx)/\
   ∃mA,h.Ns1 dx mA/\(∀f,Dc (fs.lookup f) (mA f))/\PySem.Within mA (fs.map (·.1))
 | .own _=>∃o,h.get? a=some o
 | .xd fs=>∃mA,h.Ns1 a mA/\∀f,Dc (fs.lookup f) (mA f)
 | .rng lo hi=>∃t u v,h.get? a=some { cls:=.type "range",data:=.fields #[.int lo t,.int hi u,.int 1 v] }
 | .rZ o u=>h.get? a=some o/\gK H h a u
 | .tbl ps=>h.get? a=some { cls:=.none,data:=.fields ps }
 | .tab qs=>∃ps:Array Value,h.get? a=some { cls:=.none,data:=.fields ps }/\TriplesOk ps.toList/\∀q∈qs,codeAmong q.1 ps.toList=none\/∃(c:Addr) (o:Obj) (u:HO) (vs:Array Value) (t:Tok),codeAmong q.1 ps.toList=some (.ref c)/\H c=some (.rZ o u)/\o.data = .fields vs/\vs[1]? = some (.str q.2 t)
 | .met f x=>h.get? a=some (PySem.W.methodObj (.ref f) (.ref x))
 | .ext φ=>φ h/\(∃o,h.get? a=some o)/\∀h1 h2:Heap,φ h1->(∀o,h1.get? a=some o->h2.get? a=some o)->φ h2
def qJ(H:Hp)(h:Heap):Prop:=∀a o,H a=some o->gK P w H h a o
end
section
variable{P:Program}{w:World}{H H':Hp}{h h':Heap}{a:Addr}{o:HO}
def gK.lt(x:gK P w H h a o):a<h.objs.size:=by
 cases o with
 | lst xs=>obtain⟨_,_,_,_,e⟩:=x;exact Qq9 e
 | tup xs=>obtain⟨_,_,_,p⟩:=x;exact p.is.lt
 | dK kvs=>obtain⟨_,_,_,_,o,_,_,e,_⟩:=x;exact Qq9 e
 | dT kvs=>obtain⟨_,_,_,_,o,_,_,e,_⟩:=x;exact Qq9 e
 | dN kvs=>obtain⟨_,_,_,_,o,_,_,e,_⟩:=x;exact Qq9 e
 | set S n=>obtain⟨o,_,_,_,e,_⟩:=x;exact Qq9 e
 | ins C dx fs=>obtain⟨_,_,_,e,_⟩:=x;exact Qq9 e
 | own y=>obtain⟨_,e⟩:=x;exact Qq9 e
 | xd fs=>obtain⟨_,⟨_,_,_,e,_⟩,_⟩:=x;exact Qq9 e
 | rng lo hi=>obtain⟨_,_,_,e⟩:=x;exact Qq9 e
 | rZ ob u=>obtain⟨e,_⟩:=x;exact Qq9 e
 | tbl ps=>exact Qq9<|show h.get? a=some _ from x
 | tab qs=>obtain⟨_,e,_⟩:=x;exact Qq9 e
 | met f y=>exact Qq9<|show h.get? a=some _ from x
 | ext φ=>obtain⟨_,⟨_,e⟩,_⟩:=x;exact Qq9 e
theorem Paired.aeC{α β:Type}{F G:α->β->Prop}:∀{l₁} {l₂},Paired F l₁ l₂->(∀a b,F a b->G a b)->Paired G l₁ l₂
 | _,_,.nil,_=>.nil
 | _,_,.cons r t,f=>.cons (f _ _ r)<|Paired.aeC t f
def gK.stay(x:gK P w H h a o)(k:∀b u,(b=a\/H b=some (.own a))->h.get? b=some u->h'.get? b=some u)
  (ho:∀b,H b=some (.own a)->H' b=some (.own a)) (ht:∀b xs,H b=some (.tup xs)->H' b=some (.tup xs))
  (hz:∀b o u vs,o.data = .fields vs->H b=some (.rZ o u)->H' b=some (.rZ o u):=by intro _ _ _ _ _ q;exact q):gK P w H' h' a o:=by
 induction o with
 | lst xs=>obtain⟨z,its,n,r,e⟩:=x;exact⟨z,its,n,r,k _ _ (.inl rfl) e⟩
 | tup xs=>obtain⟨z,its,r,ob,e,c⟩:=x;exact⟨z,its,r,ob,k _ _ (.inl rfl) e,c⟩
 | dK kvs=>obtain⟨z,y,vs,r,ob,es,ep,e,c⟩:=x;exact⟨z,y,vs,r,ob,es,ep,k _ _ (.inl rfl) e,c⟩
 | dT kvs=>
  obtain⟨z,y,xs,r,ob,es,ep,e,c⟩:=x;exact⟨z,y,xs,Paired.aeC r λp q z=>⟨z.1,ht _ _ z.2.1,z.2.2⟩,ob,es,ep,k _ _ (.inl rfl) e,c⟩
 | dN kvs=>obtain⟨z,y,xs,r,ob,es,ep,e,c⟩:=x;exact⟨z,y,xs,r,ob,es,ep,k _ _ (.inl rfl) e,c⟩
 | set S n=>obtain⟨ob,es,ep,t,e,c⟩:=x;exact⟨ob,es,ep,t,k _ _ (.inl rfl) e,c⟩
 | ins C dx fs=>
  obtain⟨d,z,ne,e,mA,⟨od,es,ep,e2,c⟩,r⟩:=x;exact⟨ho _ d,z,ne,k _ _ (.inl rfl) e,mA,⟨od,es,ep,k _ _ (.inr d) e2,c⟩,r⟩
 | own y=>obtain⟨ob,e⟩:=x;exact⟨ob,k _ _ (.inl rfl) e⟩
 | xd fs=>obtain⟨mA,⟨od,es,ep,e,c⟩,r⟩:=x;exact⟨mA,⟨od,es,ep,k _ _ (.inl rfl) e,c⟩,r⟩
 | rng lo hi=>obtain⟨t,u,v,e⟩:=x;exact⟨t,u,v,k _ _ (.inl rfl) e⟩
 | rZ ob u ih=>obtain⟨e,q⟩:=x;exact⟨k _ _ (.inl rfl) e,ih q⟩
 | tbl ps=>
  have e:=x;exact k a _ (.inl rfl) e
 | tab qs=>
  obtain⟨ps,e,t,r⟩:=x;refine⟨ps,k a _ (.inl rfl) e,t,λq hq=>?_⟩;rcases r q hq with z|⟨c,o,u,vs,t,h1,h2,h3,h4⟩
  ·exact .inl z
  ·exact .inr ⟨c,o,u,vs,t,h1,hz c o u vs h3 h2,h3,h4⟩
 | met f y=>
  have e:=x;show h'.get? a=some (PySem.W.methodObj (.ref f)<|.ref y);exact k a _ (.inl rfl) e
 | ext φ=>obtain⟨p,⟨o,e⟩,st⟩:=x;exact⟨st _ _ p λo q=>k _ _ (.inl rfl) q,⟨o,k _ _ (.inl rfl) e⟩,st⟩
def qJ.lt(x:qJ P w H h)(e:H a=some o):a<h.objs.size:=(x a o e).lt
def qJ.fresh(x:qJ P w H h)(e:h.objs.size<=a):H a=none:=by
 cases q:H a with
 | none=>rfl
 | some u=>exact absurd (Qwy (x.lt q) e)<|Qz2 _
def qJ.kept(x:qJ P w H h)(k:∀b u,h.get? b=some u->h'.get? b=some u):qJ P w H h':=λa o e=>
 (x a o e).stay (λb u _ q=>k b u q) (λ_ q=>q) λ_ _ q=>q
def qJ.laid(x:qJ P w H h)(k:∀b u,h.get? b=some u->h'.get? b=some u)(hp:h.objs.size<=a)(new:gK P w (upd H a o) h' a o):qJ P w (upd H a o) h':=λb u e=>by
 have hn:=x.fresh hp;by_cases hb:b=a
 ·subst hb;rw[aZ] at e;cases e;exact new
 ·rw[bH hb] at e;exact(x b u e).stay (λc v _ q=>k c v q) (λc q=>by rw[bH (dm q hn)];exact q) (λc xs q=>by rw[bH (dm q hn)];exact q) λc _ _ _ _ q=>by rw[bH (dm q hn)];exact q
end
def Rd(H:Hp)(a:Addr)(u:HO):Prop:=H a=some u\/∃o,H a=some (.rZ o u)
def Rd.ok(r:Rd H a u)(x:qJ P w H h):gK P w H h a u:=by
 rcases r with r|⟨o,r⟩
 ·exact x a u r
 ·obtain⟨_,q⟩:=x a _ r;exact q
def Mut:Option HO->Prop
 | some (.lst _)=>True
 | some (.dK _)=>True
 | some (.dT _)=>True
 | some (.dN _)=>True
 | some (.set _ _)=>True
 | some (.ins _ _ _)=>True
 | some (.ext _)=>True
 | _=>False
section
variable{P:Program}{w:World}{H:Hp}{h h':Heap}{x e:Addr}{o':HO}
def qJ.write(ok:qJ P w H h)(mu:Mut (H x))(he:e=x\/H e=some (.own x))(k:∀b u,b≠e->h.get? b=some u->h'.get? b=some u)(heo:∃u,h'.get? e=some u)
  (new:gK P w (upd H x o') h' x o'):qJ P w (upd H x o') h':=λb u q=>by
 have ahi:∀c y,H c=some (.own y)->c≠x:=λc y r z=>by subst z;rw[r] at mu;exact mu
 have ajg:∀c xs,H c=some (.tup xs)->c≠x:=λc xs r z=>by subst z;rw[r] at mu;exact mu
 by_cases hb:b=x
 ·subst hb;rw[aZ] at q;cases q;exact new
 ·rw[bH hb] at q;by_cases hbe:b=e
  ·have q':H b=some (.own x):=by
    rcases he with z|z
    ·exact absurd (hbe.trans z) hb
    ·rw[hbe];exact z
   rw[q] at q';cases q';obtain⟨v,hv⟩:=heo;exact⟨v,by rw[hbe];exact hv⟩
  ·refine(ok b u q).stay (λc v hc r=>k c v ?_ r) (λc r=>by rw[bH (ahi c b r)];exact r) (λc xs r=>by rw[bH (ajg c xs r)];exact r) λc _ _ _ _ r=>by rw[bH (λz=>by subst z;rw[r] at mu;exact mu)];exact r
   rcases hc with rfl|hc
   ·exact hbe
   ·rintro rfl;rcases he with z|z
    ·exact ahi c b hc z
    ·rw[hc] at z;cases z;exact hb rfl
end
structure Un(fs ex:List Addr)(H H':Hp)(h h':Heap):Prop where
 keep:∀b o,h.get? b=some o->H b=none->b ∉ fs->b ∉ ex->h'.get? b=some o
 slot:∀b o,h.get? b=some o->H b=none->b∈fs->b ∉ ex->∃sl,h'.get? b=some { o with slots:=sl }
 free:∀b o,h.get? b=some o->H b=none->b ∉ ex->H' b=none
 there:∀b o,h.get? b=some o->b ∉ ex->∃o',h'.get? b=some o'
 tups:∀b xs,H b=some (.tup xs)->H' b=some (.tup xs)
 tV:∀b o u,H b=some (.rZ o u)->H' b=some (.rZ o u)
 xx:∀b ps,H b=some (.tbl ps)->∃more,H' b=some (.tbl (ps++more))
 tabs:∀b qs,H b=some (.tab qs)->H' b=some (.tab qs)
section
variable{fs fs' ex ex':List Addr}{H H1 H2:Hp}{h h1 h2 h':Heap}{a x e:Addr}{o:HO}
def Un.any(u:Un fs ex H H1 h h1)(q:h.get? b=some ob)(n:H b=none)(hx:b ∉ ex):∃sl,h1.get? b=some { ob with slots:=sl }:=by
 by_cases hb:b∈fs
 ·exact u.slot b ob q n hb hx
 ·exact⟨ob.slots,u.keep b ob q n hb hx⟩
def Un.kept(k:∀b u,h.get? b=some u->h'.get? b=some u):Un fs ex H H h h':=
 ⟨λb ob q _ _ _=>k b ob q,λb ob q _ _ _=>⟨ob.slots,k b ob q⟩,λ_ _ _ n _=>n,λb ob q _=>⟨ob,k b ob q⟩,λ_ _ q=>q,λ_ _ _ q=>q,λ_ ps q=>⟨#[],by rw[q];simp⟩,λ_ _ q=>q⟩
def Un.refl:Un fs ex H H h h:=Un.kept λ_ _ q=>q
def Un.laid(k:∀b u,h.get? b=some u->h'.get? b=some u)(hp:h.objs.size<=a)(hn:H a=none):Un fs ex H (upd H a o) h h' where
 keep:=λb u q _ _ _=>k b u q
 slot:=λb u q _ _ _=>⟨u.slots,k b u q⟩
 free:=λb u q n _=>by rw[bH (Qw0<|Qwy (Qq9 q) hp)];exact n
 there:=λb u q _=>⟨u,k b u q⟩
 tups:=λb xs q=>by rw[bH (dm q hn)];exact q
 tV:=λb u xs q=>by rw[bH (dm q hn)];exact q
 xx:=λb ps q=>⟨#[],by rw[bH (dm q hn),q];simp⟩
 tabs:=λb qs q=>by rw[bH (dm q hn)];exact q
def Un.write(mu:Mut (H x))(he:e=x\/H e=some (.own x))(k:∀b u,b≠e->h.get? b=some u->h'.get? b=some u)(heo:∃u,h'.get? e=some u):Un fs ex H (upd H x o) h h':=by
 have hx:∀b,H b=none->b≠x:=λb n z=>by subst z;rw[n] at mu;exact mu
 have hb:∀b,H b=none->b≠e:=λb n z=>by
  subst z;rcases he with r|r
  ·exact hx b n r
  ·rw[n] at r;cases r
 have hm:∀b u,H b=some u->¬Mut (some u)->b≠x:=λb u q nm z=>by subst z;rw[q] at mu;exact nm mu
 refine⟨λb u q n _ _=>k b u (hb b n) q,λb u q n _ _=>⟨u.slots,k b u (hb b n) q⟩,λb u q n _=>by rw[bH (hx b n)];exact n,λb u q _=>?_,
  λb xs q=>by rw[bH (hm b _ q λz=>z)];exact q,λb u xs q=>by rw[bH (hm b _ q λz=>z)];exact q,λb ps q=>⟨#[],by rw[bH (hm b _ q λz=>z),q];simp⟩,λb qs q=>by rw[bH (hm b _ q λz=>z)];exact q⟩
 by_cases hbe:b=e
 ·subst hbe;exact heo
 ·exact⟨u,k b u hbe q⟩
end
def trk(h:Heap)(H:Hp):List Addr:=(List.range h.objs.size).filter λa=>(H a).isSome
def Ge(h:Heap)(H:Hp):Heap:=PySem.W.hideAll h (trk h H)
theorem RW(h)(H):(Ge h H).objs.size=h.objs.size:=PySem.W.hideAll_size _ _
def Wj(e:h.get? b=some o)(n:H b=none):(Ge h H).get? b=some o:=
 PySem.W.hideAll_get _ e λhm=>by
  have q:=(List.mem_filter.mp hm).2;rw[n] at q;simp at q
def ZL(e:(Ge h H).get? b=some o):h.get? b=some o/\H b=none:=by
 have e':=PySem.W.of_hideAll (trk h H) e;refine⟨e',?_⟩;cases q:H b with
 | none=>rfl
 | some x=>
  have hm:b∈trk h H:=List.mem_filter.mpr ⟨Qxz.mpr<|Qq9 e',by simp[q]⟩;have z:(Ge h H).get? b=none:=PySem.W.hideAll_none (trk h H) hm;rw[z] at e;cases e
def aa3(g h:Heap)(L:Addr):List (Addr×Obj):=(List.range h.objs.size).filterMap λa=>if a=L\/(g.get? a).isSome=true then none else (h.get? a).map λo=>(a,o)
def rest(g h:Heap)(L d:Addr):List (Addr×Obj):=(aa3 g h L).filter λp=>decide (p.1≠d)
structure Mod(K:PySem.W.Frag)(mg:Str->Option Value)(base:Heap):Prop where
 Jl:K.In base
 glob:base.Ns mainGlobals mg
 blt:∃mb,base.Ns builtinsNs mb/\∀x:Str,x ≠ "__name__"->mb x=bootBuiltins x
 nolimit:base.NoLimit
structure Cx where
 prog:Program
 w:World
 K:PySem.W.Frag
 mg:Str->Option Value
 base:Heap
 A:Around
 N:List Str
 s₀:Shared
 H₀:Hp
 env:Env
 outer:List Env
 stack:List Env
 ex:List Addr
 fn:Str->Bool
 calm:Bool
 pn:List (Addr×Obj)
 xe:Value->Shared->Prop
def frs(l:List Env):List Addr:=l.filterMap (·.frame)
abbrev Cx.fs(X:Cx):List Addr:=frs X.outer
def wW(sc:Scope)(x:Str):Prop:=sc.names.lookup x=some .local\/sc.names.lookup x=some .cell\/sc.names.lookup x=some .free
def Loc(sc:Scope)(x:Str):Prop:=sc.names.lookup x=some .local\/sc.names.lookup x=some .cell
def Look(env:Env)(h:Heap)(m:Str->Option Value)(x:Str)(u:Value):Prop:=
 (env.kindOf x=some .local/\m x=some u)\/((env.kindOf x=some .cell\/env.kindOf x=some .free)/\∃c,env.cells.lookup x=some c/\h.IsCell c (some u))
structure Cx.Ok(X:Cx):Prop where
 mod:Mod X.K X.mg X.base
 kind:X.env.scope.kind = .function
 glob:X.env.globals=mainGlobals
 blt:X.env.builtins=builtinsNs
 above:X.s₀.heap.objs.size<=X.env.locals
 inj:∀x y c,X.env.cells.lookup x=some c->X.env.cells.lookup y=some c->x=y
 has:∀x,(X.env.kindOf x=some .cell\/X.env.kindOf x=some .free)->∃c,X.env.cells.lookup x=some c
 cab:∀x c,X.fn x=true->X.env.cells.lookup x=some c->X.s₀.heap.objs.size<=c
 hd:X.calm=true->X.A.handled=none
 frames:X.A.frames=some X.stack
 stk:X.stack=X.outer\/(X.stack=X.env::X.outer/\X.env.frame=some X.env.locals)
 exf:∀b∈X.ex,b≠X.env.locals/\∀x c,X.env.cells.lookup x=some c->c≠b
 bs:∀b o,X.base.get? b=some o->X.s₀.heap.get? b=some o/\X.H₀ b=none
 XH:X.base.objs.size<=X.s₀.heap.objs.size
 Rz:∀b o,X.base.get? b=some o->b ∉ X.ex
 R8:∀b∈X.ex,b ∉ X.fs
 wA:X.s₀.heap.FunFrames X.base X.outer
 frf:∀b∈X.fs,X.H₀ b=none
structure Inv(X:Cx)(pins:List (Addr×Obj))(σ:List (Option V))(H:Hp)(s:Shared):Prop where
 ok:X.Ok
 os:s.os=X.s₀.os
 bare:AllBare s.gens
 base:Un X.fs X.ex X.H₀ H X.s₀.heap s.heap
 loc:∃m,s.heap.Ns X.env.locals m/\∀(i:Nat) (x:Str) (v:V),X.N[i]? = some x->σ[i]? = some (some v)->wW X.env.scope x->∃u,RelV v u/\Look X.env s.heap m x u
 cell:∀x c,X.env.cells.lookup x=some c->∃v,s.heap.IsCell c v
 free:H X.env.locals=none
 mz:∀x c,X.env.cells.lookup x=some c->H c=none\/(X.fn x=false/\∃o u,H c=some (.rZ o u))
 pin:∀p∈X.pn++pins,s.heap.get? p.1=some p.2/\H p.1=none/\p.1≠X.env.locals/\p.1 ∉ X.fs/\∀v,p.2.data ≠ .cell v
 hok:qJ X.prog X.w H s.heap
 len:σ.length=X.N.length
section
variable{X:Cx}{pins:List (Addr×Obj)}{σ:List (Option V)}{H H':Hp}{s:Shared}{h':Heap}
def Cx.Ok.aeu(ok:X.Ok)(e:X.base.get? b=some o):b ∉ X.fs:=λhb=>by
 have:=(ok.wA.mem hb).1;rw[e] at this;cases this
def Inv.bs(I:Inv X pins σ H s):∀b o,X.base.get? b=some o->s.heap.get? b=some o/\H b=none:=λb o e=>
 ⟨I.base.keep b o (I.ok.bs b o e).1 (I.ok.bs b o e).2 (I.ok.aeu e)<|I.ok.Rz b o e,I.base.free b o (I.ok.bs b o e).1 (I.ok.bs b o e).2<|I.ok.Rz b o e⟩
def Inv.bk(I:Inv X pins σ H s):∀b o,X.base.get? b=some o->s.heap.get? b=some o:=λb o e=>(I.bs b o e).1
def Inv.mod(I:Inv X pins σ H s):Mod X.K X.mg X.base:=I.ok.mod
def Inv.G5(I:Inv X pins σ H s):X.K.In s.heap:=I.ok.mod.Jl.keeps I.bk
def Inv.lt(I:Inv X pins σ H s):X.env.locals<s.heap.objs.size:=let ⟨_,hn,_⟩:=I.loc;hn.lt
def Inv.sz(I:Inv X pins σ H s):X.s₀.heap.objs.size<=s.heap.objs.size:=Qqy I.ok.above<|Qj5 I.lt
def Inv.ajh(I:Inv X pins σ H s){a:Addr}(h:s.heap.objs.size<=a):a ∉ X.fs:=λhb=>by
 obtain⟨_,o,ho,_⟩:=I.ok.wA.mem hb;exact absurd (Qwy (Qq9 ho)<|Qqy I.sz h)<|Qz2 _
def Inv.cne(I:Inv X pins σ H s):∀x c,X.env.cells.lookup x=some c->c≠X.env.locals:=λx c e z=>by
 obtain⟨v,o,ho,hd⟩:=I.cell x c e;obtain⟨m,⟨o',es,ep,ho',hd',_⟩,_⟩:=I.loc;rw[z,ho'] at ho;cases ho;rw[hd'] at hd;cases hd
def Inv.wA(I:Inv X pins σ H s):s.heap.FunFrames X.base X.outer:=by
 have all:∀l,(∀b∈frs l,b∈X.fs)->X.s₀.heap.FunFrames X.base l->s.heap.FunFrames X.base l:=by
  intro l
  induction l with
  | nil=>intro _ _;trivial
  | cons env r ih=>
   intro hs hl;obtain⟨hk,⟨L,o,hf,hn,ho,hd⟩,hr⟩:=hl;have hL:=hs L (by unfold frs;rw[Qz0,hf];exact Qqv);obtain⟨sl,e⟩:=I.base.slot L o ho (I.ok.frf L hL) hL λz=>I.ok.R8 L z hL;exact⟨hk,⟨L,_,hf,hn,e,hd⟩,ih (λb hb=>hs b (by unfold frs;rw[Qz0,hf];exact Qq0 _ hb)) hr⟩
 exact all X.outer (λ_ hb=>hb) I.ok.wA
def Inv.stack(I:Inv X pins σ H s):s.heap.FunFrames X.base X.stack:=by
 rcases I.ok.stk with e|⟨e,hf⟩
 ·rw[e];exact I.wA
 ·rw[e];obtain⟨m,hn,_⟩:=I.loc;refine .cons (by rw[I.ok.kind];decide) hf hn ?_ I.wA;exact Heap.get?_none_of_le<|Qqy I.ok.XH I.ok.above
def Inv.Lf(I:Inv X pins σ H s):∀b∈frs X.stack,b∈X.env.locals::X.fs:=λb hb=>by
 rcases I.ok.stk with e|⟨e,hf⟩
 ·rw[e] at hb;exact Qq0 _ hb
 ·rw[e] at hb;unfold frs at hb;rw[Qz0,hf] at hb;exact hb
def Inv.Eu(I:Inv X pins σ H s):∀b∈frs X.stack,H b=none:=λb hb=>by
 rcases Qqw.mp (I.Lf b hb) with e|hb
 ·rw[e];exact I.free
 ·obtain⟨_,o,ho,_⟩:=I.ok.wA.mem hb;exact I.base.free b o ho (I.ok.frf b hb) λz=>I.ok.R8 b z hb
def Inv.step{ch:List Addr}(I:Inv X pins σ H s)
  (hch:∀b∈ch,(b∈X.ex\/X.s₀.heap.objs.size<=b)/\b≠X.env.locals/\(∀x c,X.env.cells.lookup x=some c->c≠b)/\∀p∈X.pn++pins,p.1≠b)
  (keep:∀b o,b≠X.env.locals->b ∉ X.fs->b ∉ ch->s.heap.get? b=some o->H b=none->h'.get? b=some o)
  (slot:∀b o,b≠X.env.locals->b∈X.fs->b ∉ ch->s.heap.get? b=some o->H b=none->∃sl,h'.get? b=some { o with slots:=sl }) (free:∀b o,b ∉ ch->s.heap.get? b=some o->H b=none->H' b=none)
  (there:∀b o,b ∉ ch->s.heap.get? b=some o->∃o',h'.get? b=some o')
  (tups:∀b xs,H b=some (.tup xs)->H' b=some (.tup xs)) (tV:∀b o u,H b=some (.rZ o u)->H' b=some (.rZ o u)) (xx:∀b ps,H b=some (.tbl ps)->∃more,H' b=some (.tbl (ps++more)))
  (ns:∀m,s.heap.Ns X.env.locals m->h'.Ns X.env.locals m) (hok:qJ X.prog X.w H' h') (hg:AllBare g')
  (tabs:∀b qs,H b=some (.tab qs)->H' b=some (.tab qs):=by intro _ _ q;exact q) :
  Inv X pins σ H' { s with heap:=h',gens:=g',drawn:=d',toks:=t' }:=by
 have neL:∀b o,X.s₀.heap.get? b=some o->b≠X.env.locals:=λb o e=>Qw0<|Qwy (Qq9 e) I.ok.above;have neC:∀b o,X.s₀.heap.get? b=some o->b ∉ X.ex->b ∉ ch:=λb o e hx hb=>by
  rcases(hch b hb).1 with z|z
  ·exact hx z
  ·exact absurd (Qwy (Qq9 e) z)<|Qz2 _
 have cellK:∀x c,X.env.cells.lookup x=some c->∀v,s.heap.IsCell c v->h'.IsCell c v:=λx c e v ⟨o,ho,hd⟩=>by
  have nch:=λz=>(hch c z).2.2.1 x c e rfl;rcases I.mz x c e with hn|⟨_,fo,fu,hz⟩
  ·by_cases hc:c∈X.fs
   ·obtain⟨sl,q⟩:=slot c o (I.cne x c e) hc nch ho hn;exact⟨_,q,hd⟩
   ·exact⟨o,keep c o (I.cne x c e) hc nch ho hn,hd⟩
  ·have e1:=(I.hok c _ hz).1;rw[ho] at e1;cases e1;exact⟨o,(hok c _<|tV c o fu hz).1,hd⟩
 refine⟨I.ok,I.os,hg,⟨λb o e n hb hx=>?_,λb o e n hb hx=>?_,λb o e n hx=>?_,λb o e hx=>?_,λb xs e=>tups b xs<|I.base.tups b xs e,λb o xs e=>tV b o xs<|I.base.tV b o xs e,λb ps e=>?_,λb qs e=>tabs b qs<|I.base.tabs b qs e⟩,?_,λx c e=>?_,?_,λx c e=>?_,λp hp=>?_,hok,I.len⟩
 ·exact keep b o (neL b o e) hb (neC b o e hx) (I.base.keep b o e n hb hx)<|I.base.free b o e n hx
 ·obtain⟨sl,e1⟩:=I.base.slot b o e n hb hx;obtain⟨sl',e2⟩:=slot b _ (neL b o e) hb (neC b o e hx) e1<|I.base.free b o e n hx;exact⟨sl',e2⟩
 ·obtain⟨o',e1⟩:=I.base.there b o e hx;exact free b o' (neC b o e hx) e1<|I.base.free b o e n hx
 ·obtain⟨o',e1⟩:=I.base.there b o e hx;exact there b o' (neC b o e hx) e1
 ·obtain⟨m1,e1⟩:=I.base.xx b ps e;obtain⟨m2,e2⟩:=xx b _ e1;exact⟨m1++m2,by rw[e2,Array.append_assoc]⟩
 ·obtain⟨m,hn,hl⟩:=I.loc;refine⟨m,ns m hn,λi x v e1 e2 e3=>?_⟩;obtain⟨u,r,l⟩:=hl i x v e1 e2 e3;refine⟨u,r,?_⟩;rcases l with l|⟨k,c,e,z⟩
  ·exact .inl l
  ·exact .inr ⟨k,c,e,cellK x c e _ z⟩
 ·obtain⟨v,z⟩:=I.cell x c e;exact⟨v,cellK x c e v z⟩
 ·obtain⟨m,⟨o,_,_,ho,_⟩,_⟩:=I.loc;exact free _ o (λz=>(hch _ z).2.1 rfl) ho I.free
 ·rcases I.mz x c e with hn|⟨h1,fo,fu,hz⟩
  ·obtain⟨v,o,ho,hd⟩:=I.cell x c e;exact .inl<|free c o (λz=>(hch c z).2.2.1 x c e rfl) ho hn
  ·exact .inr ⟨h1,fo,fu,tV c fo fu hz⟩
 ·obtain⟨e,n,ne,nf,d⟩:=I.pin p hp;have nch:=λz=>(hch p.1 z).2.2.2 p hp rfl;exact⟨keep p.1 p.2 ne nf nch e n,free p.1 p.2 nch e n,ne,nf,d⟩
def Inv.un(I:Inv X pins σ H s)(u:Un X.fs [] H H' s.heap h')(hok:qJ X.prog X.w H' h'):Inv X pins σ H' { s with heap:=h',toks:=t' }:=by
 obtain⟨m,⟨o,es,ep,ho,r⟩,_⟩:=id I.loc;obtain⟨sl,hL⟩:=u.any ho I.free (by simp);exact I.step (ch:=[]) (λ_ z=>nomatch z) (λb o _ hb _ e n=>u.keep b o e n hb (by simp)) (λb o _ hb _ e n=>u.slot b o e n hb (by simp)) (λb o _ e n=>u.free b o e n (by simp)) (λb o _ e=>u.there b o e (by simp)) u.tups u.tV u.xx (λm' hm=>by
  obtain⟨o',es',ep',ho',r'⟩:=hm;rw[ho] at ho';cases ho';exact⟨_,es',ep',hL,r'⟩) hok I.bare u.tabs
def Inv.call(I:Inv X pins σ H s)(u:Un (frs X.stack) ch H H' s.heap h')(hok:qJ X.prog X.w H' h')(hg:AllBare g')
  (hch:∀b∈ch,(b∈X.ex\/X.s₀.heap.objs.size<=b)/\b≠X.env.locals/\(∀x c,X.env.cells.lookup x=some c->c≠b)/\∀p∈X.pn++pins,p.1≠b) :
  Inv X pins σ H' { s with heap:=h',gens:=g',drawn:=d',toks:=t' }:=by
 obtain⟨m,⟨o,es,ep,ho,r⟩,_⟩:=id I.loc;obtain⟨sl,hL⟩:=u.any ho I.free λz=>(hch _ z).2.1 rfl;exact I.step hch (λb o hL hb hc e n=>u.keep b o e n (λz=>(Qqw.mp<|I.Lf b z).elim hL hb) hc) (λb o _ _ hc e n=>u.any e n hc) (λb o hc e n=>u.free b o e n hc) (λb o hc e=>u.there b o e hc) u.tups u.tV u.xx (λm' hm=>by
  obtain⟨o',es',ep',ho',r'⟩:=hm;rw[ho] at ho';cases ho';exact⟨_,es',ep',hL,r'⟩) hok hg u.tabs
def Inv.turned(I:Inv X pins σ H s)(k:∀b o,b≠it->s.heap.get? b=some o->h'.get? b=some o)(hn:H it=none)(hL:it≠X.env.locals)
  (h1:it∈X.ex\/X.s₀.heap.objs.size<=it) (h2:∀x c,X.env.cells.lookup x=some c->c≠it) (h3:∀p∈X.pn++pins,p.1≠it):Inv X pins σ H { s with heap:=h',toks:=t' }:=by
 have nit:∀b u,H b=some u->b≠it:=λb u e z=>by rw[z,hn] at e;cases e
 refine I.step (ch:=[it]) (λb hb=>?_) (λb o _ _ hc e _=>k b o (λz=>hc (by simp[z])) e) (λb o _ _ hc e _=>⟨o.slots,k b o (λz=>hc (by simp[z])) e⟩) (λ_ _ _ _ n=>n)
  (λb o hc e=>⟨o,k b o (λz=>hc (by simp[z])) e⟩) (λ_ _ e=>e) (λ_ _ _ e=>e) (λb ps e=>⟨#[],by rw[e];simp⟩) (λm hm=>?_) (λb u e=>?_) I.bare
 ·have e:b=it:=by simpa using hb
  subst e;exact⟨h1,hL,h2,h3⟩
 ·obtain⟨o,es,ep,ho,r⟩:=hm;exact⟨o,es,ep,k _ o (Ne.symm hL) ho,r⟩
 ·refine(I.hok b u e).stay (λc v hc q=>k c v ?_ q) (λ_ q=>q) λ_ _ q=>q;rcases hc with z|z
  ·rw[z];exact nit b u e
  ·exact nit c _ z
def Inv.tok(I:Inv X pins σ H s)(t):Inv X pins σ H { s with toks:=t }:=I.un Un.refl I.hok
def Inv.kept(I:Inv X pins σ H s)(k:∀b u,s.heap.get? b=some u->h'.get? b=some u):Inv X pins σ H { s with heap:=h',toks:=t' }:=I.un (Un.kept k)<|I.hok.kept k
def Inv.laid{a:Addr}(I:Inv X pins σ H s)(k:∀b u,s.heap.get? b=some u->h'.get? b=some u)(hp:s.heap.objs.size<=a)(new:gK X.prog X.w (upd H a o) h' a o) :
  Inv X pins σ (upd H a o) { s with heap:=h',toks:=t' }:=I.un (Un.laid k hp<|I.hok.fresh hp)<|I.hok.laid k hp new
def Inv.write(I:Inv X pins σ H s)(mu:Mut (H x))(he:e=x\/H e=some (.own x))(k:∀b u,b≠e->s.heap.get? b=some u->h'.get? b=some u)(heo:∃u,h'.get? e=some u)
  (new:gK X.prog X.w (upd H x o) h' x o):Inv X pins σ (upd H x o) { s with heap:=h',toks:=t' }:=I.un (Un.write mu he k heo)<|I.hok.write mu he k heo new
def Inv.weak(I:Inv X pins σ H s)(hl:σ'.length=σ.length)(w:∀(i:Nat) v,σ'[i]? = some (some v)->σ[i]? = some (some v)):Inv X pins σ' H s:=
 ⟨I.ok,I.os,I.bare,I.base,let ⟨m,hn,hl'⟩:=I.loc;⟨m,hn,λi x v e1 e2 e3=>hl' i x v e1 (w i v e2) e3⟩,I.cell,I.free,I.mz,I.pin,I.hok,hl.trans I.len⟩
def Inv.Oi(I:Inv X pins σ H s)(h:∀p∈abC,s.heap.get? p.1=some p.2/\H p.1=none/\p.1≠X.env.locals/\p.1 ∉ X.fs/\∀v,p.2.data ≠ .cell v):Inv X abC σ H s:=
 ⟨I.ok,I.os,I.bare,I.base,I.loc,I.cell,I.free,I.mz,λp hp=>(Qxx.mp hp).elim (λz=>I.pin p<|Qj8 _ z)<|h p,I.hok,I.len⟩
def Ai{N:List Str}(hN:N.Nodup){i j:Nat}(a:N[i]? = some x)(b:N[j]? = some x):i=j:=by obtain⟨h1,e1⟩:=Qq6.mp a;obtain⟨h2,e2⟩:=Qq6.mp b;exact(List.getElem_inj hN).mp<|e1.trans e2.symm
def Dk(I:Inv X pins σ H s)(hN:X.N.Nodup)(hi:X.N[i]? = some x)(hx:Loc X.env.scope x)(r:RelV v u)
  (h:∀s',Inv X pins (σ.set i (some v)) H s'->(∃a,Heap.SameBut a s.heap s'.heap/\(a=X.env.locals\/X.env.cells.lookup x=some a))->Q () s') (hf:X.fn x=true\/X.env.scope.names.lookup x=some .local:=by first|exact .inl rfl|exact .inr rfl|assumption):wpAny M A (storeName X.env x u) Q E s:=by
 obtain⟨m,hn,hl⟩:=id I.loc;have hcls:(X.env.scope.kind == .class||(X.env.scope.kind == .module&&X.env.locals != X.env.globals))=false:=by rw[I.ok.kind];rfl
 have hiσ:i<σ.length:=by rw[I.len];exact(Qq6.mp hi).1
 have cne:=I.cne;have tracked:∀{a} {h'},(∃o,s.heap.get? a=some o/\H a=none)->Heap.SameBut a s.heap h'->qJ X.prog X.w H h':=λ{a h'} ha hs b ob e=>by
  obtain⟨_,_,hfree⟩:=ha;refine(I.hok b ob e).stay (λc w' hc q=>(hs.2 c ?_).trans q) (λ_ q=>q) λ_ _ q=>q;rintro rfl;rcases hc with rfl|hc
  ·rw[hfree] at e;cases e
  ·rw[hfree] at hc;cases hc
 rcases hx with hk|hk
 ·refine wpAny_storeName_local hk hn (λh' hn' hs=>?_) hcls;obtain⟨oL,_,_,hoL,_⟩:=id hn;refine h _ ⟨I.ok,I.os,I.bare,⟨λb o e n hb hx=>?_,λb o e n hb hx=>?_,I.base.free,λb o e hx=>?_,I.base.tups,I.base.tV,I.base.xx,I.base.tabs⟩,⟨_,hn',λj y v' e1 e2 e3=>?_⟩,λy c e=>?_,I.free,I.mz,λp hp=>?_,tracked ⟨oL,hoL,I.free⟩ hs,by simpa using I.len⟩ ⟨_,hs,.inl rfl⟩
  ·exact(hs.2 b<|Qw0<|Qwy (Qq9 e) I.ok.above).trans<|I.base.keep b o e n hb hx
  ·obtain⟨sl,e1⟩:=I.base.slot b o e n hb hx;exact⟨sl,(hs.2 b<|Qw0<|Qwy (Qq9 e) I.ok.above).trans e1⟩
  ·obtain⟨o',e1⟩:=I.base.there b o e hx;exact⟨o',(hs.2 b<|Qw0<|Qwy (Qq9 e) I.ok.above).trans e1⟩
  ·by_cases hj:j=i
   ·subst hj;rw[hi] at e1;cases e1;rw[Qwq hiσ] at e2;cases e2;exact⟨u,r,.inl ⟨hk,by simp⟩⟩
   ·rw[Qq3 (Ne.symm hj)] at e2;obtain⟨u',r',q⟩:=hl j y v' e1 e2 e3;refine⟨u',r',?_⟩;rcases q with ⟨k,e⟩|⟨k,c,e,z⟩
    ·refine .inl ⟨k,?_⟩;have:y≠x:=λe=>hj<|Ai hN e1<|e ▸ hi;simp[this,e]
    ·exact .inr ⟨k,c,e,z.sameBut hs<|cne y c e⟩
  ·obtain⟨w',z⟩:=I.cell y c e;exact⟨w',z.sameBut hs<|cne y c e⟩
  ·obtain⟨e,n,ne,nf,d⟩:=I.pin p hp;exact⟨(hs.2 p.1 ne).trans e,n,ne,nf,d⟩
 ·have hfn:X.fn x=true:=by
   rcases hf with z|z
   ·exact z
   ·rw[z] at hk;cases hk
  obtain⟨c,hc⟩:=I.ok.has x<|.inl hk;obtain⟨w',z⟩:=I.cell x c hc;refine wpAny_storeName_cell I.ok.kind hk hc z<|λh' hc' hs=>?_;obtain⟨oc,hoc,ajB⟩:=id z;refine h { s with heap:=h' } ⟨I.ok,I.os,I.bare,⟨λb o e n hb hx=>?_,λb o e n hb hx=>?_,I.base.free,λb o e hx=>?_,I.base.tups,I.base.tV,I.base.xx,I.base.tabs⟩,⟨m,hn.sameBut hs<|Ne.symm<|cne x c hc,λj y v' e1 e2 e3=>?_⟩,λy c' e=>?_,I.free,I.mz,λp hp=>?_,tracked ⟨oc,hoc,(I.mz x c hc).resolve_right λz=>by rw[hfn] at z;cases z.1⟩ hs,by simpa using I.len⟩ ⟨c,hs,.inr hc⟩
  ·exact(hs.2 b<|Qw0<|Qwy (Qq9 e)<|I.ok.cab x c hfn hc).trans<|I.base.keep b o e n hb hx
  ·obtain⟨sl,e1⟩:=I.base.slot b o e n hb hx;exact⟨sl,(hs.2 b<|Qw0<|Qwy (Qq9 e)<|I.ok.cab x c hfn hc).trans e1⟩
  ·obtain⟨o',e1⟩:=I.base.there b o e hx;exact⟨o',(hs.2 b<|Qw0<|Qwy (Qq9 e)<|I.ok.cab x c hfn hc).trans e1⟩
  ·by_cases hj:j=i
   ·subst hj;rw[hi] at e1;cases e1;rw[Qwq hiσ] at e2;cases e2;exact⟨u,r,.inr ⟨.inl hk,c,hc,hc'⟩⟩
   ·rw[Qq3 (Ne.symm hj)] at e2;obtain⟨u',r',q⟩:=hl j y v' e1 e2 e3;refine⟨u',r',?_⟩;rcases q with q|⟨k,c',e,z'⟩
    ·exact .inl q
    ·refine .inr ⟨k,c',e,z'.sameBut hs ?_⟩;rintro rfl;exact hj<|Ai hN e1<|I.ok.inj _ _ _ e hc ▸ hi
  ·by_cases hcc:c'=c
   ·subst hcc;exact⟨_,hc'⟩
   ·obtain⟨w2,z2⟩:=I.cell y c' e;exact⟨w2,z2.sameBut hs hcc⟩
  ·obtain⟨e,n,ne,nf,d⟩:=I.pin p hp;refine⟨(hs.2 p.1 ?_).trans e,n,ne,nf,d⟩;intro q;rw[q,hoc] at e;have q':=Qxj e;exact d w' (by rw[<-q'];exact ajB)
def rm(I:Inv X pins σ H s)(hN:X.N.Nodup)(hi:X.N[i]? = some x)(hx:Loc X.env.scope x)(r:RelV v u)
  (h:∀s',Inv X pins (σ.set i (some v)) H s'->Q () s') (hf:X.fn x=true\/X.env.scope.names.lookup x=some .local:=by first|exact .inl rfl|exact .inr rfl|assumption):wpAny M A (storeName X.env x u) Q E s:=
 Dk I hN hi hx r (λs' I' _=>h s' I') hf
def Inv.call'(I:Inv X pins σ H s)(ho:s'.os=s.os)(u:Un (frs X.stack) ch H H' s.heap s'.heap)(hok:qJ X.prog X.w H' s'.heap)(hg:AllBare s'.gens)
  (hch:∀b∈ch,(b∈X.ex\/X.s₀.heap.objs.size<=b)/\b≠X.env.locals/\(∀x c,X.env.cells.lookup x=some c->c≠b)/\∀p∈X.pn++pins,p.1≠b):Inv X pins σ H' s':=by
 obtain⟨h',g',d',t',o'⟩:=s';have e:=ho;subst e;exact I.call u hok hg hch
end
abbrev XK:=Value->Option Addr->Hp->Prop
abbrev St:=List (Option V)
abbrev VK:=V->Hp->Prop
abbrev TE:=St->Hp->VK->Prop
abbrev TT:=St->Hp->(Bool->Hp->Prop)->Prop
abbrev TA:=St->Hp->(List V->Hp->Prop)->Prop
structure Ends where
 nx:St->Hp->Prop
 rt:VK
 bk:St->Hp->Prop:=λ_ _=>False
 ct:St->Hp->Prop:=λ_ _=>False
abbrev TS:=Ends->St->Hp->Prop
def EP(X:Cx)(pins:List (Addr×Obj))(σ:St)(Q:VK)(u:Value)(s':Shared):Prop:=∃v H',Inv X pins σ H' s'/\RelV v u/\Q v H'
def TP(X:Cx)(pins:List (Addr×Obj))(σ:St)(Q:Bool->Hp->Prop)(b:Bool)(s':Shared):Prop:=∃H',Inv X pins σ H' s'/\Q b H'
def AP(X:Cx)(pins:List (Addr×Obj))(σ:St)(Q:List V->Hp->Prop)(us:List Value)(s':Shared):Prop:=∃vs H',Inv X pins σ H' s'/\Vals vs us/\Q vs H'
def SP(X:Cx)(pins:List (Addr×Obj))(D:Ends)(f:Flow)(s':Shared):Prop:=
 match f with
 | .next=>∃σ' H',Inv X pins σ' H' s'/\D.nx σ' H'
 | .brk=>∃σ' H',Inv X pins σ' H' s'/\D.bk σ' H'
 | .cont=>∃σ' H',Inv X pins σ' H' s'/\D.ct σ' H'
 | .ret u=>∃v σ' H',Inv X pins σ' H' s'/\RelV v u/\D.rt v H'
def PE(X:Cx)(e:Expr)(t:TE):Prop:=
 ∀(pins:List (Addr×Obj)) (s:Shared) (σ:St) (H:Hp) (Q:VK),Inv X pins σ H s->t σ H Q->wpAny (model X.prog X.w) X.A (eval e X.env) (EP X pins σ Q) X.xe s
def PT(X:Cx)(e:Expr)(t:TT):Prop:=
 ∀(pins:List (Addr×Obj)) (s:Shared) (σ:St) (H:Hp) (Q:Bool->Hp->Prop),Inv X pins σ H s->t σ H Q->wpAny (model X.prog X.w) X.A (isTrue e X.env (eval e X.env)) (TP X pins σ Q) X.xe s
def PW(X:Cx)(e:Expr)(t:TT):Prop:=
 ∀(whole:Sem Value) (pins:List (Addr×Obj)) (s:Shared) (σ:St) (H:Hp) (Q:Bool->Hp->Prop),Inv X pins σ H s->t σ H Q->wpAny (model X.prog X.w) X.A (isTrue e X.env whole) (TP X pins σ Q) X.xe s
def PW.pt(h:PW X e t):PT X e t:=h _
def PA(X:Cx)(es:List Expr)(t:TA):Prop:=
 ∀(pos:Pos) (pins:List (Addr×Obj)) (s:Shared) (σ:St) (H:Hp) (Q:List V->Hp->Prop),Inv X pins σ H s->t σ H Q->wpAny (model X.prog X.w) X.A (spliced (backTo pos (starEach es X.env))) (AP X pins σ Q) X.xe s
def PS(X:Cx)(st:Stmt)(t:TS):Prop:=
 ∀(pins:List (Addr×Obj)) (s:Shared) (σ:St) (H:Hp) (D:Ends),Inv X pins σ H s->t D σ H->wpAny (model X.prog X.w) X.A (exec st X.env) (SP X pins D) X.xe s
def zq(X:Cx)(st:List Stmt)(t:TS):Prop:=
 ∀(pins:List (Addr×Obj)) (s:Shared) (σ:St) (H:Hp) (D:Ends),Inv X pins σ H s->t D σ H->wpAny (model X.prog X.w) X.A (execs st X.env) (SP X pins D) X.xe s
def fU{α:Type}{t:Sem α}{Q Q':α->Shared->Prop}(h:wpAny M A t Q E s)(hQ:∀a s,Q a s->Q' a s):wpAny M A t Q' E s:=Qw9 h hQ λ_ _ x=>x
section
variable{X:Cx}
def agb(i:Nat):TE:=λσ H Q=>∃v,σ[i]? = some (some v)/\Q v H
def tC(v:V):TE:=λ_ H Q=>Q v H
def jF{pos:Pos}(hN:X.N[i]? = some x)(hv:wW X.env.scope x)(hd:jN x:=by decide)(hcd:t7 x:=by decide):PE X (.Name x pos) (agb i):=by
 intro pins s σ H Q I h;obtain⟨v,e,h⟩:=h;obtain⟨m,hn,hl⟩:=I.loc;obtain⟨u,r,l⟩:=hl i x v hN e hv;have fin:EP X pins σ Q u s:=⟨v,H,I,r,h⟩;rcases l with ⟨hk,hm⟩|⟨hk,c,hc,hcell⟩
 ·exact wpAny_Name (wpAny_loadName_local I.ok.kind hk hn hm fin) hd
 ·rcases hk with hk|hk
  ·exact wpAny_Name (wpAny_loadName_cell I.ok.kind hk hc hcell fin) hd
  ·exact wpAny_Name (wpAny_loadName_free I.ok.kind hk hc hcell fin hcd) hd
def adM{i j pos}:PE X (.Constant (.int i) j pos) (tC (.int i)):=λ_ _ _ H _ I h=>wpAny_Constant_int ⟨.int i,H,I.tok _,⟨_,rfl⟩,h⟩
def ag3{b j pos}:PE X (.Constant (.bool b) j pos) (tC (.bl b)):=λ_ _ _ H _ I h=>Constant_bool ⟨.bl b,H,I,rfl,h⟩
def adK{j pos}:PE X (.Constant .none j pos) (tC .non):=λ_ _ _ H _ I h=>Constant_none ⟨.non,H,I,rfl,h⟩
def adH{x j pos}:PE X (.Constant (.str x) j pos) (tC (.str x)):=λ_ _ _ H _ I h=>Calls.Constant_str ⟨.str x,H,I.tok _,⟨_,rfl⟩,h⟩
def Gl(X:Cx)(x:Str):Prop:=X.env.kindOf x=some .globalImplicit
def sW{σ:St}(I:Inv X pins σ H s)(hg:Gl X x)(hm:X.mg x=some u)(h:Q u s)
  (hd:jN x:=by decide):wpAny (model X.prog X.w) X.A (eval (.Name x pos) X.env) Q E s:=
 Calls.Name_function_global I.ok.kind hg (Calls.loadGlobal_global (by rw[I.ok.glob];exact I.mod.glob.keeps I.bk) hm h) hd
def yd{E:Value->Shared->Prop}{σ:St}{pos:Pos}(I:Inv X pins σ H s)(hg:Gl X x)(hm:X.mg x=none)(hv:bootBuiltins x=some u)(h:Q u s)
  (hn:x ≠ "__name__":=by decide) (hd:jN x:=by decide):wpAny (model X.prog X.w) X.A (eval (.Name x pos) X.env) Q E s:=by
 obtain⟨mb,h1,h2⟩:=I.mod.blt;exact Calls.Name_function_global I.ok.kind hg (Calls.loadGlobal_builtin (by rw[I.ok.glob];exact I.mod.glob.keeps I.bk) hm (by rw[I.ok.blt];exact h1.keeps I.bk) ((h2 x hn).trans hv) h) hd
def Om(hg:Gl X x)(hm:X.mg x=some u)(r:RelV v u)(hd:jN x:=by decide):PE X (.Name x pos) (tC v):=
 λ_ _ _ H _ I h=>sW I hg hm ⟨v,H,I,r,h⟩ hd
def Oq{pos:Pos}(hg:Gl X x)(hm:X.mg x=none)(hv:bootBuiltins x=some u)(r:RelV v u)(hn:x ≠ "__name__":=by decide)(hd:jN x:=by decide):PE X (.Name x pos) (tC v):=
 λ_ _ _ H _ I h=>yd I hg hm hv ⟨v,H,I,r,h⟩ hn hd
variable{a b:Expr}{ta tb:TE}{pos:Pos}
def tB(t:TE):TT:=λσ H Q=>t σ H λx H1=>∃c,x = .bl c/\Q c H1
def adq(h:PE X e t)(he:∀whole,isTrue e X.env whole=(do let v <-whole;standAt e.pos;holding [v] (truthy v)):=by intro _;rfl):PT X e (tB t):=by intro pins s σ H Q I hw;refine isTrue_plain (fU (h pins s σ H _ I hw) λv s1 ⟨x,H1,I1,r1,q1⟩=>?_)<|he _;obtain⟨d,rfl,q⟩:=q1;cases r1;exact Qjy ⟨H1,I1,q⟩
variable{tA tB':TT}{rest:List Expr}
def ai0(t u:TT):TT:=λσ H Q=>t σ H λc H1=>if c=true then u σ H1 Q else Q false H1
def tOr(t u:TT):TT:=λσ H Q=>t σ H λc H1=>if c=true then Q true H1 else u σ H1 Q
def agh(t:TT):TT:=λσ H Q=>t σ H λc H1=>Q (!c) H1
def pw_and1(ha:PT X a tA):PW X (.BoolOp .And [a] pos) tA:=by
 intro wh pins s σ H Q I h;refine isTrue_and<|fU (ha pins s σ H Q I h) λc s1 e=>?_;cases c with
 | true=>exact isTrue_and_nil e
 | false=>exact e
def pw_or1(ha:PT X a tA):PW X (.BoolOp .Or [a] pos) tA:=by
 intro wh pins s σ H Q I h;refine isTrue_or<|fU (ha pins s σ H Q I h) λc s1 e=>?_;cases c with
 | false=>exact isTrue_or_nil e
 | true=>exact e
def pw_and(ha:PT X a tA)(hb:PW X (.BoolOp .And (b::rest) pos) tB'):PW X (.BoolOp .And (a::b::rest) pos) (ai0 tA tB'):=by
 intro wh pins s σ H Q I h;refine isTrue_and<|fU (ha pins s σ H _ I h) λc s1 ⟨H1,I1,q1⟩=>?_;cases c with
 | true=>exact hb wh pins s1 σ H1 Q I1 q1
 | false=>exact⟨H1,I1,q1⟩
def pw_or(ha:PT X a tA)(hb:PW X (.BoolOp .Or (b::rest) pos) tB'):PW X (.BoolOp .Or (a::b::rest) pos) (tOr tA tB'):=by
 intro wh pins s σ H Q I h;refine isTrue_or<|fU (ha pins s σ H _ I h) λc s1 ⟨H1,I1,q1⟩=>?_;cases c with
 | true=>exact⟨H1,I1,q1⟩
 | false=>exact hb wh pins s1 σ H1 Q I1 q1
def adt(ha:PT X a tA):PT X (.UnaryOp .Not a pos) (agh tA):=by intro pins s σ H Q I h;exact isTrue_not<|ha pins s σ H (λc H1=>Q (!c) H1) I h
def agn(ta tb:TE):TE:=λσ H Q=>ta σ H λx H1=>∃c,x = .bl c/\if c=true then tb σ H1 Q else Q (.bl false) H1
def aiU(ta tb:TE):TE:=λσ H Q=>ta σ H λx H1=>∃c,x = .bl c/\if c=true then Q (.bl true) H1 else tb σ H1 Q
def agg(ta:TE):TE:=λσ H Q=>ta σ H λx H1=>∃c,x = .bl c/\Q (.bl (!c)) H1
def adI{op}(h:PE X a t):PE X (.BoolOp op [a] pos) t:=λpins s σ H Q I hw=>BoolOp_one<|h pins s σ H Q I hw
def adO(ha:PE X a ta)(hb:PE X (.BoolOp .And (b::rest) pos) tb):PE X (.BoolOp .And (a::b::rest) pos) (agn ta tb):=by
 intro pins s σ H Q I h;refine BoolOp_and<|fU (ha pins s σ H _ I h) λv s1 ⟨x,H1,I1,r1,q1⟩=>?_;obtain⟨c,rfl,q1⟩:=q1;cases r1;refine Qjy ?_;cases c with
 | true=>exact hb pins s1 σ H1 Q I1 q1
 | false=>exact⟨.bl false,H1,I1,rfl,q1⟩
def ag1(ha:PE X a ta)(hb:PE X (.BoolOp .Or (b::rest) pos) tb):PE X (.BoolOp .Or (a::b::rest) pos) (aiU ta tb):=by
 intro pins s σ H Q I h;refine BoolOp_or<|fU (ha pins s σ H _ I h) λv s1 ⟨x,H1,I1,r1,q1⟩=>?_;obtain⟨c,rfl,q1⟩:=q1;cases r1;refine Qjy ?_;cases c with
 | false=>exact hb pins s1 σ H1 Q I1 q1
 | true=>exact⟨.bl true,H1,I1,rfl,q1⟩
def adJ(ha:PE X a ta):PE X (.UnaryOp .Not a pos) (agg ta):=by intro pins s σ H Q I h;refine UnaryOp_<|fU (ha pins s σ H _ I h) λv s1 ⟨x,H1,I1,r1,q1⟩=>?_;obtain⟨c,rfl,q1⟩:=q1;cases r1;exact not_of<|Qjy ⟨.bl<|!c,H1,I1,rfl,q1⟩
def tIf(t:TT)(ta tb:TE):TE:=λσ H Q=>t σ H λc H1=>if c=true then ta σ H1 Q else tb σ H1 Q
def Vr(hc:PT X c tA)(ha:PE X a ta)(hb:PE X b tb):PE X (.IfExp c a b pos) (tIf tA ta tb):=by
 intro pins s σ H Q I h;refine wpAny_IfExp<|fU (hc pins s σ H _ I h) λd s1 ⟨H1,I1,q1⟩=>?_;cases d with
 | true=>exact ha pins s1 σ H1 Q I1 q1
 | false=>exact hb pins s1 σ H1 Q I1 q1
end
def lG(K:PySem.W.Frag)(H:Hp)(a:Addr)(xs:List V):Prop:=
 Rd H a (.lst xs)\/
  ∃(o:Obj) (its:Array Value) (n:Nat),K.lookup a=some o/\o.cls = .type "list"/\o.dict=none/\o.data = .seq its n/\its.size<=sizeLine/\Vals xs its.toList
def qO(K:PySem.W.Frag)(H:Hp)(a:Addr)(xs:List V):Prop:=
 Rd H a (.tup xs)\/
  ∃(o:Obj) (its:Array Value) (n:Nat),K.lookup a=some o/\o.cls = .type "tuple"/\o.dict=none/\o.data = .seq its n/\its.size<=sizeLine/\Vals xs its.toList
def ajS:Value->Option V
 | .none=>some .non
 | .bool b=>some (.bl b)
 | .int i _=>some (.int i)
 | .str x _=>some (.str x)
 | .bytes b _=>some (.byt b)
 | .float b _=>some (.flt b)
 | .ref a=>some (.ref a)
 | .type n=>some (.ty n)
 | _=>none
def RelV.abs(r:RelV x u):ajS u=some x:=by
 cases x with
 | non=>cases r;rfl
 | bl _=>cases r;rfl
 | int _=>obtain⟨t,rfl⟩:=r;rfl
 | str _=>obtain⟨t,rfl⟩:=r;rfl
 | byt _=>obtain⟨t,rfl⟩:=r;rfl
 | flt _=>obtain⟨t,rfl⟩:=r;rfl
 | ref _=>cases r;rfl
 | ty _=>cases r;rfl
def RelV.inj(r:RelV x u)(q:RelV y u):x=y:=Qxj<|r.abs.symm.trans q.abs
theorem Vals.inj:∀{xs ys} {us},Vals xs us->Vals ys us->xs=ys
 | _,_,_,.nil,.nil=>rfl
 | _,_,_,.cons r t,.cons r' t'=>by rw[r.inj r',Vals.inj t t']
section
variable{X:Cx}{pins:List (Addr×Obj)}{σ:St}{H:Hp}{s:Shared}{a:Addr}{xs ys:List V}
theorem lG.of{K:PySem.W.Frag}(h:H a=some (.lst xs)):lG K H a xs:=.inl<|.inl h
theorem qO.of{K:PySem.W.Frag}(h:H a=some (.tup xs)):qO K H a xs:=.inl<|.inl h
def Inv.list(I:Inv X pins σ H s)(h:lG X.K H a xs):∃its,Vals xs its/\PlainL s.heap a its.toArray/\xs.length<=sizeLine:=by
 rcases h with h|⟨o,its,n,hk,hc,hd,hs,hz,r⟩
 ·obtain⟨z,its,n,r,e⟩:=h.ok I.hok;exact⟨its,r,⟨_,n,e,rfl,rfl,rfl⟩,z⟩
 ·refine⟨its.toList,r,⟨o,n,I.G5 a o hk,hc,hd,by simpa using hs⟩,?_⟩;have e:=r.length;simp[Qz7] at e;omega
def Inv.tuple(I:Inv X pins σ H s)(h:qO X.K H a xs):∃its,Vals xs its/\IsTup s.heap a its.toArray/\xs.length<=sizeLine:=by
 rcases h with h|⟨o,its,n,hk,hc,hdn,hs,hz,r⟩
 ·obtain⟨z,its,r,p⟩:=h.ok I.hok;exact⟨its,r,p.is,z⟩
 ·refine⟨its.toList,r,⟨o,I.G5 a o hk,hc,n,by simpa using hs⟩,?_⟩;have e:=r.length;simp[Qz7] at e;omega
def Inv.V0(I:Inv X pins σ H s)(h:lG X.K H a xs)(h':lG X.K H a ys):xs=ys:=by
 obtain⟨its,r,⟨o,n,e,_,_,d⟩,_⟩:=I.list h;obtain⟨its',r',⟨o',n',e',_,_,d'⟩,_⟩:=I.list h';rw[e] at e';cases e';rw[d] at d';injection d' with d1 _
 have:its=its':=by simpa using Qzw Array.toList d1
 subst this;exact r.inj r'
def Inv.QC(I:Inv X pins σ H s)(h:qO X.K H a xs)(h':qO X.K H a ys):xs=ys:=by
 obtain⟨its,r,⟨o,e,_,n,d⟩,_⟩:=I.tuple h;obtain⟨its',r',⟨o',e',_,n',d'⟩,_⟩:=I.tuple h';rw[e] at e';cases e';rw[d] at d';injection d' with d1 _
 have:its=its':=by simpa using Qzw Array.toList d1
 subst this;exact r.inj r'
end
abbrev Cx.wish(X:Cx)(E:Value->Shared->Prop):Cx:={ X with xe:=E }
abbrev Cx.uH(X:Cx):Cx:=X.wish λ_ _=>False
def Cx.Ok.wish{X:Cx}(ok:X.Ok)(E):(X.wish E).Ok:=
 ⟨ok.mod,ok.kind,ok.glob,ok.blt,ok.above,ok.inj,ok.has,ok.cab,ok.hd,ok.frames,ok.stk,ok.exf,ok.bs,ok.XH,ok.Rz,ok.R8,ok.wA,ok.frf⟩
def Cx.Ok.fK{X:Cx}(ok:(X.wish E).Ok):X.Ok:=
 ⟨ok.mod,ok.kind,ok.glob,ok.blt,ok.above,ok.inj,ok.has,ok.cab,ok.hd,ok.frames,ok.stk,ok.exf,ok.bs,ok.XH,ok.Rz,ok.R8,ok.wA,ok.frf⟩
section
variable{X:Cx}{pins:List (Addr×Obj)}{σ:St}{H:Hp}{s:Shared}{E:Value->Shared->Prop}
def Inv.wish(I:Inv X pins σ H s)(E):Inv (X.wish E) pins σ H s:=⟨I.ok.wish E,I.os,I.bare,I.base,I.loc,I.cell,I.free,I.mz,I.pin,I.hok,I.len⟩
def Inv.fK(I:Inv (X.wish E) pins σ H s):Inv X pins σ H s:=⟨I.ok.fK,I.os,I.bare,I.base,I.loc,I.cell,I.free,I.mz,I.pin,I.hok,I.len⟩
def SP.fK(h:SP (X.wish E) pins D f s'):SP X pins D f s':=by
 cases f with
 | next=>obtain⟨σ',H',I,q⟩:=h;exact⟨σ',H',I.fK,q⟩
 | brk=>obtain⟨σ',H',I,q⟩:=h;exact⟨σ',H',I.fK,q⟩
 | cont=>obtain⟨σ',H',I,q⟩:=h;exact⟨σ',H',I.fK,q⟩
 | ret u=>obtain⟨v,σ',H',I,r,q⟩:=h;exact⟨v,σ',H',I.fK,r,q⟩
def PT.uH(h:PT X.uH e t):PT X e t:=λpins s σ H Q I hw=>
 Qw9 (h pins s σ H Q (I.wish _) hw) (λ_ _ ⟨H',I',q⟩=>⟨H',I'.fK,q⟩) λ_ _ z=>False.elim z
def zq.uH{st:List Stmt}(h:zq X.uH st t):zq X st t:=λpins s σ H D I hw=>
 Qw9 (h pins s σ H D (I.wish _) hw) (λ_ _ q=>q.fK) λ_ _ z=>False.elim z
end
section
variable{X:Cx}{st:Stmt}{rest:List Stmt}{t u:TS}{e:Expr}{te:TE}{pos:Pos}
def agi:TS:=λD σ H=>D.nx σ H
def acR(t u:TS):TS:=λD σ H=>t { D with nx:=u D } σ H
def Y9:zq X [] agi:=λ_ _ σ H _ I h=>wpAny_execs_nil ⟨σ,H,I,h⟩
def Io(h1:PS X st t)(h2:zq X rest u):zq X (st::rest) (acR t u):=by
 intro pins s σ H D I h;refine wpAny_execs_cons<|fU (h1 pins s σ H { D with nx:=u D } I h) λf s1 q=>?_;cases f with
 | next=>
  obtain⟨σ',H',I',q⟩:=q;exact h2 pins s1 σ' H' D I' q
 | ret v=>exact q
 | brk=>exact q
 | cont=>exact q
def zA(h1:PS X st t):zq X [st] t:=by
 intro pins s σ H D I h;refine wpAny_execs_cons<|fU (h1 pins s σ H D I h) λf s1 q=>?_;cases f with
 | next=>exact wpAny_execs_nil q
 | ret v=>exact q
 | brk=>exact q
 | cont=>exact q
def Inv.quiet{σ:St}(I:Inv X pins σ H s):interactive X.env=false:=by simp[interactive,I.ok.kind]
def agl(te:TE):TS:=λD σ H=>te σ H λ_ H1=>D.nx σ H1
def Fw(he:PE X e te)(hs:swapsWith e none pos.line X.env=pure false:=by rfl):PS X (.Expr e pos) (agl te):=by intro pins s σ H D I h;exact wpAny_Expr_any (fU (he pins s σ H _ I h) λv s1 ⟨x,H1,I1,r1,q1⟩=>⟨σ,H1,I1,q1⟩) I.quiet hs
def aiT(te:TE):TS:=λD σ H=>te σ H D.rt
def Vg(he:PE X e te):PS X (.Return (some e) pos) (aiT te):=by intro pins s σ H D I h;exact wpAny_Return_some<|fU (he pins s σ H _ I h) λv s1 ⟨x,H1,I1,r1,q1⟩=>⟨x,σ,H1,I1,r1,q1⟩
def agk(c:TT)(t u:TS):TS:=λD σ H=>c σ H λb H1=>if b=true then t D σ H1 else u D σ H1
def abB(hc:PT X c tc)(ha:zq X a t)(hb:zq X b u):PS X (.If c a b pos) (agk tc t u):=by
 intro pins s σ H D I h;refine wpAny_If<|fU (hc pins s σ H _ I h) λd s1 ⟨H1,I1,q1⟩=>?_;cases d with
 | true=>exact ha pins s1 σ H1 D I1 q1
 | false=>exact hb pins s1 σ H1 D I1 q1
end
abbrev TG:=V->St->Hp->(St->Hp->Prop)->Prop
abbrev TGs:=List V->St->Hp->(St->Hp->Prop)->Prop
def PG(X:Cx)(target:Expr)(t:TG):Prop:=
 ∀(pins:List (Addr×Obj)) (s:Shared) (σ:St) (H:Hp) (v:V) (u:Value) (Q:St->Hp->Prop),Inv X pins σ H s->RelV v u->t v σ H Q->
  wpAny (model X.prog X.w) X.A (assign target X.env u) (λ_ s'=>∃σ' H',Inv X pins σ' H' s'/\Q σ' H') X.xe s
def PGs(X:Cx)(ts:List Expr)(t:TGs):Prop:=
 ∀(pins:List (Addr×Obj)) (s:Shared) (σ:St) (H:Hp) (vs:List V) (us:List Value) (Q:St->Hp->Prop),Inv X pins σ H s->Vals vs us->t vs σ H Q->
  wpAny (model X.prog X.w) X.A (assignInOrder ((assignEach ts X.env).map (·.2)) us) (λ_ s'=>∃σ' H',Inv X pins σ' H' s'/\Q σ' H') X.xe s
abbrev qI:=V->V->V->Hp->(Hp->Prop)->Prop
def ah7(X:Cx)(t:qI):Prop:=
 ∀(pins:List (Addr×Obj)) (s:Shared) (σ:St) (H:Hp) (o i v:V) (ov iv u:Value) (Q:Hp->Prop),Inv X pins σ H s->RelV o ov->RelV i iv->RelV v u->t o i v H Q->
  wpAny (model X.prog X.w) X.A (setItem ov iv u) (λ_ s'=>∃H',Inv X pins σ H' s'/\Q H') X.xe s
section
variable{X:Cx}{pos:Pos}
def Ba(i:Nat):TG:=λv σ H Q=>Q (σ.set i (some v)) H
def Zm(hN:X.N.Nodup)(hi:X.N[i]? = some x)(hx:Loc X.env.scope x)(hf:X.fn x=true\/X.env.scope.names.lookup x=some .local:=by first|exact .inl rfl|exact .inr rfl|assumption):PG X (.Name x pos) (Ba i):=by intro pins s σ H v u Q I r h;exact wpAny_assign_Name<|rm I hN hi hx r (λs' I'=>⟨_,H,I',h⟩) hf
def ajM:TGs:=λvs σ H Q=>vs=[]/\Q σ H
def ahS(t:TG)(u:TGs):TGs:=λvs σ H Q=>∃v r,vs=v::r/\t v σ H λσ' H'=>u r σ' H' Q
def Zk:PGs X [] ajM:=by intro pins s σ H vs us Q I r h;obtain⟨e,h⟩:=h;subst e;cases r;exact assignInOrder_nil ⟨σ,H,I,h⟩
def Vn(h1:PG X e t)(h2:PGs X es u)
  (hs:(assignEach (e::es) X.env).map (·.2)=assign e X.env::(assignEach es X.env).map (·.2):=by rfl):PGs X (e::es) (ahS t u):=by
 intro pins s σ H vs us Q I r h;obtain⟨v,vr,e1,h⟩:=h;subst e1;cases r with
 | cons r rr=>
  rw[hs];refine assignInOrder_cons<|fU (h1 pins s σ H _ _ _ I r h) λ_ s1 ⟨σ1,H1,I1,q1⟩=>?_;exact h2 pins s1 σ1 H1 _ _ Q I1 rr q1
def ajK(K:PySem.W.Frag)(n:Nat)(t:TGs):TG:=λv σ H Q=>∃a xs,v = .ref a/\qO K H a xs/\xs.length=n/\t xs σ H Q
def adC{k:Nat}(hc:X.calm=true)(h:PGs X es t)
  (hn:(assignEach es X.env).length=n:=by rfl) (hst:(assignEach es X.env).findIdx? (·.1)=none:=by rfl):PG X (.Tuple es k pos) (ajK X.K n t):=by
 intro pins s σ H v u Q I r hw;obtain⟨a,xs,e1,hq,hl,hw⟩:=hw;subst e1;cases r;obtain⟨its,rv,ht,hz⟩:=I.tuple hq;refine assign_Tuple_tuple (I.ok.hd hc) ht (by simp[hn,<-hl,rv.length]) hst λh' hx=>?_;have I1:Inv X pins σ H { s with heap:=h' }:=I.kept λb o e=>hx b o (Qw0<|Qq9 e) e;exact h pins _ σ H xs _ Q I1 (by simpa using rv) hw
def uO(to ti:TE)(t:qI):TG:=λv σ H Q=>to σ H λo H1=>ti σ H1 λi H2=>t o i v H2 λH3=>Q σ H3
def adD(ho:PE X o to)(hi:PE X i ti)(hs:ah7 X t)
  (ha:∀v,assign (.Subscript o i pos) X.env v=(do
   let ov <-holding [v] (eval o X.env)
   let iv <-holding [v,ov] (eval i X.env)
   standAt pos
   holding [v,ov,iv] (setItem ov iv v)
   release [v,ov,iv] []):=by intro _;rfl):PG X (.Subscript o i pos) (uO to ti t):=by
 intro pins s σ H v u Q I r h;rw[ha];refine Qqx<|Qzz<|fU (ho pins s σ H _ I h) λov s1 ⟨x,H1,I1,r1,q1⟩=>?_;refine Qqx<|Qzz<|fU (hi pins s1 σ H1 _ I1 q1) λiv s2 ⟨y,H2,I2,r2,q2⟩=>?_;refine Qqx<|wpAny_standAt<|Qqx<|Qzz<|fU (hs pins s2 σ H2 x y v ov iv u _ I2 r1 r2 r q2) λ_ s3 ⟨H3,I3,q3⟩=>?_;exact wpAny_release ⟨σ,H3,I3,q3⟩
def QH(te:TE)(g:TG):TS:=λD σ H=>te σ H λx H1=>g x σ H1 D.nx
def adx(he:PE X e te)(hg:PG X tg g)(hs:swapsWithSole [tg] e pos.line X.env=pure false:=by rfl)(hw:swappedStores [tg] e X.env=pure none:=by rfl)
  (h1:(assignEach [tg] X.env).map (·.2)=[assign tg X.env]:=by rfl):PS X (.Assign [tg] e pos) (QH te g):=by
 intro pins s σ H D I h;refine wpAny_Assign_stores (fU (he pins s σ H _ I h) λv s1 ⟨x,H1,I1,r1,q1⟩=>?_) hs hw;rw[h1];exact fU (hg pins s1 σ H1 x v _ I1 r1 q1) λ_ s2 q=>q
def Lz(hN:X.N.Nodup)(hi:X.N[i]? = some x)(hx:Loc X.env.scope x)(he:PE X e te)(hs:swapsWith e (some (.Name x pos')) pos.line X.env=pure false:=by rfl)(hf:X.fn x=true\/X.env.scope.names.lookup x=some .local:=by first|exact .inl rfl|exact .inr rfl|assumption) :
  PS X (.Assign [.Name x pos'] e pos) (QH te (Ba i)):=by
 intro pins s σ H D I h;refine wpAny_Assign_Name (fU (he pins s σ H _ I h) λv s1 ⟨y,H1,I1,r1,q1⟩=>?_) hs;exact rm I1 hN hi hx r1 (λs2 I2=>⟨_,H1,I2,q1⟩) hf
end
structure It where
 go:Nat->Hp->Prop
 yld:Nat->Hp->V->Hp->Prop
 stop:Nat->Hp->Prop
def By(X:Cx)(pins:List (Addr×Obj))(H:Hp)(b:Addr):Prop:=
 H b=none/\b≠X.env.locals/\b ∉ X.fs/\(b∈X.ex\/X.s₀.heap.objs.size<=b)/\(∀x c,X.env.cells.lookup x=some c->c≠b)/\∀p∈X.pn++pins,p.1≠b
def Inv.afa{σ:St}{b:Addr}(I:Inv X pins σ H s)(hb:s.heap.objs.size<=b)(hn:H' b=none):By X pins H' b:=by
 refine⟨hn,Nat.ne_of_gt<|Qwy I.lt hb,I.ajh hb,.inr<|Qqy I.sz hb,λx c e z=>?_,λp hp z=>?_⟩
 ·obtain⟨v,q⟩:=I.cell x c e;exact absurd (Qwy q.lt (by rw[z];exact hb))<|Qz2 _
 ·exact absurd (Qwy (Qq9 (I.pin p hp).1) (by rw[z];exact hb))<|Qz2 _
structure Turn(P:Program)(w:World)(K:PySem.W.Frag)(tg:Expr)(J:It)(fp:List Addr)(it:Addr)(tn:Nat->Heap->Prop):Prop where
 mem:it∈fp
 obj:∀i h,tn i h->∀b∈fp,∃o,h.get? b=some o/\∀v,o.data ≠ .cell v
 keep:∀i h h',tn i h->(∀b∈fp,∀o,h.get? b=some o->h'.get? b=some o)->tn i h'
 item:∀(X:Cx),X.prog=P->X.w=w->X.K=K->X.calm=true->∀(i:Nat) (pins:List (Addr×Obj)) (s:Shared) (σ:St) (H:Hp) (E:Value->Shared->Prop),Inv X pins σ H s->(∀b∈fp,By X pins H b)->tn i s.heap->J.go i H->
  wpAny (model P w) X.A (pyNext (.ref it)) (λr s1=>∃u,r=some u/\
   wpAny (model P w) X.A (letOwnedTupleGo tg (.ref it) u) (λ_ s2=>∃x H',Inv X pins σ H' s2/\RelV x u/\J.yld i H x H'/\tn (i+1) s2.heap/\∀b∈fp,H' b=none) E s1) E s
 done:∀(X:Cx),X.prog=P->X.w=w->X.K=K->X.calm=true->∀(i:Nat) (pins:List (Addr×Obj)) (s:Shared) (σ:St) (H:Hp) (E:Value->Shared->Prop),Inv X pins σ H s->(∀b∈fp,By X pins H b)->tn i s.heap->J.stop i H->
  wpAny (model P w) X.A (pyNext (.ref it)) (λr s1=>r=none/\Inv X pins σ H s1) E s
 self:∀(A:Around) (i:Nat) (s:Shared) (Q:Value->Shared->Prop) (E:Value->Shared->Prop),tn i s.heap->Q (.ref it) s->wpAny (model P w) A (pyIter (.ref it)) Q E s
abbrev TI:=St->Hp->(It->Hp->Prop)->Prop
def PIE(X:Cx)(pins:List (Addr×Obj))(σ:St)(tg:Expr)(R:It->Hp->Prop)(itv:Value)(s2:Shared):Prop:=
 ∃(it:Addr) (fp:List Addr) (tn:Nat->Heap->Prop) (J:It) (H':Hp),itv = .ref it/\Inv X pins σ H' s2/\Turn X.prog X.w X.K tg J fp it tn/\tn 0 s2.heap/\(∀b∈fp,By X pins H' b)/\R J H'
def PI(X:Cx)(tg iter:Expr)(wi:TI):Prop:=
 ∀(pins:List (Addr×Obj)) (s:Shared) (σ:St) (H:Hp) (R:It->Hp->Prop),Inv X pins σ H s->wi σ H R->
  wpAny (model X.prog X.w) X.A (eval iter X.env) (λv s1=>wpAny (model X.prog X.w) X.A (pyIter v) (PIE X pins σ tg R) X.xe s1) X.xe s
def DP(ho : s.heap.get? it = some o)(hc : o.cls = .type n)(hd : o.data = .fields vs)
    (hn : ["enumerate", "zip", "dict_itemiterator", "dict_reverseitemiterator", "odict_iterator", "itertools.zip_longest", "itertools.pairwise"].contains n = false) (hQ : Q () s) : wpAny M A (letOwnedTupleGo tg (.ref it) u) Q E s := by
  unfold letOwnedTupleGo;cases tg <;> first
    | exact Qq1 hQ
    | (cases u <;> first
        | exact Qq1 hQ
        | (refine Qqx<|wpAny_load ho ?_
           rw [hc, hd];show wpAny M A (if (["enumerate", "zip", "dict_itemiterator", "dict_reverseitemiterator", "odict_iterator", "itertools.zip_longest", "itertools.pairwise"].contains n && vs[0]? == some (rawInt _)) = true then _ else _) Q E s;rw [if_neg (by intro h; rw [hn, Bool.false_and] at h; cases h)];exact Qq1 hQ))
def Itl(K:PySem.W.Frag)(a:Addr):It:=
 ⟨λi H=>∃xs x,lG K H a xs/\xs[i]? = some x,λi H x H'=>H'=H/\∀xs,lG K H a xs->xs[i]? = some x,λi H=>∃xs,lG K H a xs/\xs.length<=i⟩
def Itt(K:PySem.W.Frag)(a:Addr):It:=
 ⟨λi H=>∃xs x,qO K H a xs/\xs[i]? = some x,λi H x H'=>H'=H/\∀xs,qO K H a xs->xs[i]? = some x,λi H=>∃xs,qO K H a xs/\xs.length<=i⟩
def Itr(lo:Int)(n:Nat):It:=⟨λi _=>i<n,λi H x H'=>H'=H/\x = .int (lo+i),λi _=>n<=i⟩
theorem QB{P:Program}{w:World}{K:PySem.W.Frag}{tg:Expr}(a it:Addr):Turn P w K tg (Itl K a) [it] it (λi h=>h.IsListIter it a i) where
 mem:=by simp
 obj:=λi h st b hb=>by
  have e:b=it:=by simpa using hb
  subst e;obtain⟨o,e,c,d⟩:=st;exact⟨o,e,λv z=>by rw[d] at z;cases z⟩
 keep:=λi h h' st k=>st.at λo e=>k it (by simp) o e
 item:=by intro X hP hw hK hc i pins s σ H E I hf st hg;subst hP hw hK;obtain⟨xs,x,hq,hx⟩:=hg;obtain⟨its,rv,p,hz⟩:=I.list hq;obtain⟨u,hu,ru⟩:=rv.get hx;obtain⟨f0,f1,f2,f3,f4,f5⟩:=hf it (by simp);refine wpAny_pyNext_list_item st p.isList (by simpa using hu) λh' st' sb=>?_;have I1:Inv X pins σ H { s with heap:=h' }:=I.turned (λb o hb e=>(sb.2 b hb).trans e) f0 f1 f3 f4 f5;obtain⟨o,e,c,d⟩:=id st';exact⟨u,rfl,DP e c d (by decide) ⟨x,H,I1,ru,⟨rfl,λys hy=>by rw[I.V0 hy hq];exact hx⟩,st',λb hb=>(hf b hb).1⟩⟩
 done:=by intro X hP hw hK hc i pins s σ H E I hf st hg;subst hP hw hK;obtain⟨xs,hq,hx⟩:=hg;obtain⟨its,rv,p,hz⟩:=I.list hq;obtain⟨f0,f1,f2,f3,f4,f5⟩:=hf it (by simp);have hl:=rv.length;exact wpAny_pyNext_list_end (I.ok.hd hc) st p.isList (by simp;omega) λh' eb=>⟨rfl,I.turned (λb o hb e=>eb b o hb e) f0 f1 f3 f4 f5⟩
 self:=λ_ _ _ _ _ st h=>wpAny_pyIter_listiter st h
theorem K4{P:Program}{w:World}{K:PySem.W.Frag}{tg:Expr}(a it:Addr):Turn P w K tg (Itt K a) [it] it (λi h=>h.IsTupleIter it a i) where
 mem:=by simp
 obj:=λi h st b hb=>by
  have e:b=it:=by simpa using hb
  subst e;obtain⟨o,e,c,d⟩:=st;exact⟨o,e,λv z=>by rw[d] at z;cases z⟩
 keep:=λi h h' st k=>st.at λo e=>k it (by simp) o e
 item:=by intro X hP hw hK hc i pins s σ H E I hf st hg;subst hP hw hK;obtain⟨xs,x,hq,hx⟩:=hg;obtain⟨its,rv,p,hz⟩:=I.tuple hq;obtain⟨u,hu,ru⟩:=rv.get hx;obtain⟨f0,f1,f2,f3,f4,f5⟩:=hf it (by simp);refine wpAny_pyNext_tuple_item st p (by simpa using hu) λh' st' sb=>?_;have I1:Inv X pins σ H { s with heap:=h' }:=I.turned (λb o hb e=>(sb.2 b hb).trans e) f0 f1 f3 f4 f5;obtain⟨o,e,c,d⟩:=id st';exact⟨u,rfl,DP e c d (by decide) ⟨x,H,I1,ru,⟨rfl,λys hy=>by rw[I.QC hy hq];exact hx⟩,st',λb hb=>(hf b hb).1⟩⟩
 done:=by intro X hP hw hK hc i pins s σ H E I hf st hg;subst hP hw hK;obtain⟨xs,hq,hx⟩:=hg;obtain⟨its,rv,p,hz⟩:=I.tuple hq;obtain⟨f0,f1,f2,f3,f4,f5⟩:=hf it (by simp);have hl:=rv.length;exact wpAny_pyNext_tuple_end (I.ok.hd hc) st p (by simp;omega) λh' eb=>⟨rfl,I.turned (λb o hb e=>eb b o hb e) f0 f1 f3 f4 f5⟩
 self:=λ_ _ _ _ _ st h=>wpAny_pyIter_tupleiter st h
theorem K5{P:Program}{w:World}{K:PySem.W.Frag}{tg:Expr}(it:Addr)(lo:Int)(n:Nat):Turn P w K tg (Itr lo n) [it] it (λi h=>IsRangeIter h it (lo+(i:Nat)*1) ((n:Int) - (i:Nat)) 1) where
 mem:=by simp
 obj:=λi h st b hb=>by
  have e:b=it:=by simpa using hb
  subst e;exact⟨_,st,λv z=>by
   have z':=z;cases z'⟩
 keep:=λi h h' st k=>k it (by simp) _ st
 item:=by intro X hP hw hK hc i pins s σ H E I hf st hg;subst hP hw hK;obtain⟨f0,f1,f2,f3,f4,f5⟩:=hf it (by simp);have W:=Walks.range (prog:=X.prog) (w:=X.w) (I.ok.hd hc) it lo 1 n;refine W.item i s _ _ hg st λv h' tk hv st' kk=>?_;obtain⟨t,rfl⟩:=hv;have I1:Inv X pins σ H { s with heap:=h',toks:=tk }:=I.turned (λb o hb e=>kk b o (by simpa using hb) e) f0 f1 f3 f4 f5;refine⟨_,rfl,DP st' rfl rfl (by decide) ⟨.int<|lo+i,H,I1,⟨t,?_⟩,⟨rfl,rfl⟩,st',λb hb=>(hf b hb).1⟩⟩;rw[Int.mul_one]
 done:=by intro X hP hw hK hc i pins s σ H E I hf st hg;subst hP hw hK;obtain⟨f0,f1,f2,f3,f4,f5⟩:=hf it (by simp);exact wpAny_pyNext_range_end (I.ok.hd hc) st (by have:n<=i:=hg;omega) λh' eb=>⟨rfl,I.turned (λb o hb e=>eb b o hb e) f0 f1 f3 f4 f5⟩
 self:=λ_ _ _ _ _ st h=>wpAny_pyIter_rangeiter st h
section
variable{X:Cx}{tg:Expr}
def Ik{σ:St}{lo hi:Int}(I:Inv X pins σ H s)(h1 : -(2^62)<=lo)(h2:lo<2^62)(h3 : -(2^62)<=hi)(h4:hi<2^62)
  (q:R (Itr lo (hi - lo).toNat) H):wpAny (model X.prog X.w) X.A (pyIter (.ref s.heap.objs.size)) (PIE X pins σ tg R) E { s with heap:=s.heap.push { cls:=.type "range",data:=.fields #[.int lo t,.int hi u,.int 1 v] },toks:=tk }:=by
 refine wpAny_pyIter_range (IsRange.new ..) (small_one h1 h2 h3 h4) ?_;have I1:Inv X pins σ H { s with heap:=s.heap.push { cls:=.type "range",data:=.fields #[.int lo t,.int hi u,.int 1 v] },toks:=tk }:=I.kept λb o e=>Qqj _ e;refine⟨(s.heap.push { cls:=.type "range",data:=.fields #[.int lo t,.int hi u,.int 1 v] }).objs.size,[(s.heap.push { cls:=.type "range",data:=.fields #[.int lo t,.int hi u,.int 1 v] }).objs.size],_,_,H,rfl,
  I1.kept λb o e=>Qqj _ e,K5 _ lo (hi - lo).toNat,?_,λb hb=>?_,q⟩
 ·have e1:lo+(0:Nat)*1=lo:=by simp
  have e2:((hi - lo).toNat) - (0:Nat)=Builtin.Range.rangeSize lo hi 1:=by rw[rangeSize_one];split<;>omega
  show IsRangeIter _ _ (lo+(0:Nat)*1) ((((hi - lo).toNat:Nat):Int) - ((0:Nat):Int)) 1;rw[e1,e2];exact Qq7 _ rfl
 ·have e:b=(s.heap.push { cls:=.type "range",data:=.fields #[.int lo t,.int hi u,.int 1 v] }).objs.size:=by simpa using hb
  subst e;exact I1.afa (Qq2 _)<|I1.hok.fresh<|Qq2 _
def ahC(ta:TA):TI:=λσ H R=>ta σ H λvs H1=>∃j:Int,vs=[.int j]/\-(2^62)<=j/\j<2^62/\R (Itr 0 j.toNat) H1
def ahB(ta:TA):TI:=λσ H R=>ta σ H λvs H1=>∃i j:Int,vs=[.int i,.int j]/\(-(2^62)<=i/\i<2^62/\-(2^62)<=j/\j<2^62)/\R (Itr i (j - i).toNat) H1
def Ri(hg:Gl X "range")(hm:X.mg "range" = none)(ha:PA X [a] ta)(hs:starEach [a] X.env=[(false,eval a X.env)]:=by rfl):PI X tg (.Call (.Name "range" p) [a] [] pos) (ahC ta):=by
 intro pins s σ H R I h;refine Call_<|yd I hg hm boot_range<|Qj1 (fU (ha pos pins s σ H _ I h) λus s1 ⟨vs,H1,I1,r1,q1⟩=>?_) hs rfl;obtain⟨j,e,q1,q2,q⟩:=q1;subst e;cases r1 with
 | cons r rr=>
  cases rr;obtain⟨t,rfl⟩:=r;exact call_range_1<|Ik I1 (by omega) (by omega) q1 q2 (by simpa using q)
def Rh{p pos:Pos}(hg:Gl X "range")(hm:X.mg "range" = none)(ha:PA X [a,b] ta)(hs:starEach [a,b] X.env=[(false,eval a X.env),(false,eval b X.env)]:=by rfl)(hs2:starEach [b] X.env=[(false,eval b X.env)]:=by rfl) :
  PI X tg (.Call (.Name "range" p) [a,b] [] pos) (ahB ta):=by
 intro pins s σ H R I h;refine Call_<|yd I hg hm boot_range<|Qj1 (fU (ha pos pins s σ H _ I h) λus s1 ⟨vs,H1,I1,r1,q1⟩=>?_) (by rw[hs,hs2]) (by rw[hs2];rfl);obtain⟨i,j,e,⟨q1,q2,q3,q4⟩,q⟩:=q1;subst e;cases r1 with
 | cons r rr=>
  cases rr with
  | cons r' rr=>
   cases rr;obtain⟨t,rfl⟩:=r;obtain⟨t',rfl⟩:=r';exact call_range_2<|Ik I1 q1 q2 q3 q4 q
def aiY(wi:TI)(g:TG)(tb:TS):TS:=λD σ H=>wi σ H λJ H1=>∃W:Nat->Nat->St->Hp->Prop,(∃m,W 0 m σ H1)/\∀i m σ H,W i m σ H->
 (J.stop i H/\D.nx σ H)\/(J.go i H/\∃N:St->Hp->Prop,(∀σ' H',N σ' H'->∃m',m'<m/\W (i+1) m' σ' H')/\∀x H',J.yld i H x H'->g x σ H' λσ2 H2=>tb { D with nx:=N,ct:=N,bk:=D.nx } σ2 H2)
def Af(fp:List Addr)(h:Heap):List (Addr×Obj):=fp.filterMap λb=>(h.get? b).map λo=>(b,o)
def qm(hb:b∈fp)(e:h.get? b=some o):(b,o)∈Af fp h:=List.mem_filterMap.mpr ⟨b,hb,by rw[e];rfl⟩
def Ru(hp:p∈Af fp h):p.1∈fp/\h.get? p.1=some p.2:=by
 obtain⟨b,hb,e⟩:=List.mem_filterMap.mp hp;cases q:h.get? b with
 | none=>rw[q] at e;cases e
 | some o=>
  rw[q] at e;have e':=Qxj e;subst e';exact⟨hb,q⟩
def Inv.pinned{σ:St}(I:Inv X pins σ H s)(hf:∀b∈fp,By X pins H b)(ho:∀b∈fp,∃o,s.heap.get? b=some o/\∀v,o.data ≠ .cell v):Inv X (pins++Af fp s.heap) σ H s:=
 I.Oi λp hp=>(Qxx.mp hp).elim (λz=>I.pin p<|Qx0 _ z) λz=>by
  obtain⟨hb,e⟩:=Ru z;obtain⟨f0,f1,f2,_⟩:=hf p.1 hb;obtain⟨o,e',d⟩:=ho p.1 hb;rw[e] at e';cases e';exact⟨e,f0,f1,f2,d⟩
def Inv.vh{σ:St}(I:Inv X (pins++pl) σ H s):Inv X pins σ H s:=I.Oi λp hp=>I.pin p<|Qx0 _<|Qj8 _ hp
def Vi(hp:PassesOwn (model X.prog X.w) X.A X.env X.xe)(hc:X.calm=true)(hi:PI X tg iter wi)(hg:PG X tg g)(hb:zq X body tb)
  (hs:∀x,foldedSetIterable iter X.env x=pure x:=by intro _;rfl):PS X (.For tg iter body [] pos) (aiY wi g tb):=by
 intro pins s σ H D I h;refine wpAny_For (fU (hi pins s σ H _ I h) λv s1 h1=>fU h1 λitv s2 h2=>?_) hs;obtain⟨it,fp,tn,J,H2,e,I2,T,st2,f2,W,⟨m0,w0⟩,turn⟩:=h2;subst e
 -- what stays true of the iterator's objects through the loop
 have stat:∀{H'},(∀b∈fp,H' b=none)->∀b∈fp,By X pins H' b:=λhn b hb=>⟨hn b hb,(f2 b hb).2⟩;refine codeAny_forLoop_any (λn s'=>∃i σ' H',Inv X pins σ' H' s'/\tn i s'.heap/\(∀b∈fp,H' b=none)/\W i n σ' H') ?_ m0 ⟨0,σ,H2,I2,st2,λb hb=>(f2 b hb).1,w0⟩;rintro n s3 ⟨i,σ3,H3,I3,st3,fr3,w3⟩;rcases turn i n σ3 H3 w3 with ⟨stop,qn⟩|⟨go,N,hN,step⟩
 ·refine wpAny_passesOwn hp<|fU (T.done X rfl rfl rfl hc i pins s3 σ3 H3 X.xe I3 (stat fr3) st3 stop) λr s4 ⟨hr,I4⟩=>?_;subst hr;exact wpAny_execs_nil ⟨σ3,H3,I4,qn⟩
 ·refine wpAny_passesOwn hp<|fU (T.item X rfl rfl rfl hc i pins s3 σ3 H3 X.xe I3 (stat fr3) st3 go) λr s4 ⟨u,hr,h4⟩=>?_;subst hr;refine wpAny_passesOwn hp<|fU h4 λ_ s5 ⟨x,H5,I5,r5,y5,st5,fr5⟩=>?_;have I5':=I5.pinned (stat fr5)<|T.obj _ _ st5;refine wpAny_passesOwn hp<|fU (hg _ s5 σ3 H5 x u _ I5' r5<|step x H5 y5) λ_ s6 ⟨σ6,H6,I6,q6⟩=>?_;refine wpAny_passesOwn hp<|fU (hb _ s6 σ6 H6 _ I6 q6) λf s7 q7=>?_;have again:∀{σ7} {H7},Inv X (pins++Af fp s5.heap) σ7 H7 s7->N σ7 H7->∃m,m<n/\∃i σ' H',Inv X pins σ' H' s7/\tn i s7.heap/\(∀b∈fp,H' b=none)/\W i m σ' H':=λ{σ7 H7} I7 n7=>by
   obtain⟨m',hm,w7⟩:=hN σ7 H7 n7;refine⟨m',hm,i+1,σ7,H7,I7.vh,T.keep _ _ _ st5 λb hb o e=>(I7.pin (b,o)<|Qx0 _<|Qx0 _<|qm hb e).1,λb hb=>?_,w7⟩;obtain⟨o,e,d⟩:=T.obj _ _ st5 b hb;exact(I7.pin (b,o)<|Qx0 _<|Qx0 _<|qm hb e).2.1
  cases f with
  | next=>obtain⟨σ7,H7,I7,n7⟩:=q7;exact again I7 n7
  | cont=>obtain⟨σ7,H7,I7,n7⟩:=q7;exact again I7 n7
  | brk=>obtain⟨σ7,H7,I7,q7⟩:=q7;exact⟨σ7,H7,I7.vh,q7⟩
  | ret v=>obtain⟨x7,σ7,H7,I7,r7,q7⟩:=q7;exact⟨x7,σ7,H7,I7.vh,r7,q7⟩
end
abbrev R2:=V->V->Hp->VK->Prop
def mX(X:Cx)(f:Value->Value->Sem Value)(r:R2):Prop:=
 ∀(pins:List (Addr×Obj)) (s:Shared) (σ:St) (H:Hp) (x y:V) (v u:Value) (Q:VK),Inv X pins σ H s->RelV x v->RelV y u->r x y H Q->
  wpAny (model X.prog X.w) X.A (f v u) (EP X pins σ Q) X.xe s
def UnR(X:Cx)(f:Value->Sem Value)(r:V->Hp->VK->Prop):Prop:=
 ∀(pins:List (Addr×Obj)) (s:Shared) (σ:St) (H:Hp) (x:V) (v:Value) (Q:VK),Inv X pins σ H s->RelV x v->r x H Q->
  wpAny (model X.prog X.w) X.A (f v) (EP X pins σ Q) X.xe s
def iu(X:Cx)(f:Value)(r:List V->Hp->VK->Prop):Prop:=
 ∀(pins:List (Addr×Obj)) (s:Shared) (σ:St) (H:Hp) (xs:List V) (us:List Value) (Q:VK),Inv X pins σ H s->Vals xs us->r xs H Q->
  wpAny (model X.prog X.w) X.A (call f us) (EP X pins σ Q) X.xe s
def Yn(r:R2)(ta tb:TE):TE:=λσ H Q=>ta σ H λx H1=>tb σ H1 λy H2=>r x y H2 Q
def tUn(r:V->Hp->VK->Prop)(ta:TE):TE:=λσ H Q=>ta σ H λx H1=>r x H1 Q
def rI(C:Int->Int->Prop)(g:Int->Int->V):R2:=λx y H Q=>∃i j,x = .int i/\y = .int j/\C i j/\Q (g i j) H
def Oc(g:Int->Int->V):R2:=λx y H Q=>∃i j,x = .int i/\y = .int j/\Q (g i j) H
def rU(g:Int->V):V->Hp->VK->Prop:=λx H Q=>∃i,x = .int i/\Q (g i) H
section
variable{X:Cx}{a b c:Expr}{ta tb tc:TE}{pos:Pos}
def afv(ha:PE X a ta)(hb:PE X b tb){σ:St}{R:V->V->Hp->Prop}(I:Inv X pins σ H s)
  (h:ta σ H λx H1=>tb σ H1 λy H2=>R x y H2) {Q:Value->Shared->Prop} {f:Value->Value->Sem Value}
  (hf:∀v u s2 x y H2,Inv X pins σ H2 s2->RelV x v->RelV y u->R x y H2->wpAny (model X.prog X.w) X.A (f v u) Q X.xe s2) :
  wpAny (model X.prog X.w) X.A (eval a X.env) (λv s₁=>wpAny (model X.prog X.w) X.A (eval b X.env) (λu s₂=>wpAny (model X.prog X.w) X.A (f v u) Q X.xe s₂) X.xe s₁) X.xe s:=by
 refine fU (ha pins s σ H _ I h) λv s1 ⟨x,H1,I1,r1,q1⟩=>?_;refine fU (hb pins s1 σ H1 _ I1 q1) λu s2 ⟨y,H2,I2,r2,q2⟩=>?_;exact hf v u s2 x y H2 I2 r1 r2 q2
def abD(ho:mX X (binaryOp op) r)(ha:PE X a ta)(hb:PE X b tb):PE X (.BinOp a op b pos) (Yn r ta tb):=by intro pins s σ H Q I h;exact wpAny_BinOp<|afv ha hb I h λv u s2 x y H2 I2 rx ry q=>ho pins s2 σ H2 x y v u Q I2 rx ry q
def ag0(ho:UnR X (unaryOp op) r)(ha:PE X a ta):PE X (.UnaryOp op a pos) (tUn r ta):=by intro pins s σ H Q I h;exact UnaryOp_<|fU (ha pins s σ H _ I h) λv s1 ⟨x,H1,I1,r1,q1⟩=>ho pins s1 σ H1 x v Q I1 r1 q1
def opI{g:Int->Int->Int}
  (rule:∀i j t u s Q E,C i j->Q (.int (g i j) s.toks) { s with toks:=s.toks+1 }->wpAny (model X.prog X.w) X.A (f (.int i t) (.int j u)) Q E s) :
  mX X f (rI C λi j=>.int (g i j)):=by
 intro pins s σ H x y v u Q I rx ry h;obtain⟨i,j,rfl,rfl,hc,q⟩:=h;obtain⟨t,rfl⟩:=rx;obtain⟨t',rfl⟩:=ry;exact rule i j t t' s _ _ hc ⟨.int<|g i j,H,I.tok _,⟨_,rfl⟩,q⟩
def aec{g:Int->Int->Int}
  (rule:∀i j t u s Q E,Q (.int (g i j) s.toks) { s with toks:=s.toks+1 }->wpAny (model X.prog X.w) X.A (f (.int i t) (.int j u)) Q E s) :
  mX X f (Oc λi j=>.int (g i j)):=by
 intro pins s σ H x y v u Q I rx ry h;obtain⟨i,j,rfl,rfl,q⟩:=h;obtain⟨t,rfl⟩:=rx;obtain⟨t',rfl⟩:=ry;exact rule i j t t' s _ _ ⟨.int<|g i j,H,I.tok _,⟨_,rfl⟩,q⟩
def ag9{g:Int->Int->Bool}
  (rule:∀i j t u s Q E,Q (.bool (g i j)) s->wpAny (model X.prog X.w) X.A (f (.int i t) (.int j u)) Q E s) :
  mX X f (Oc λi j=>.bl (g i j)):=by
 intro pins s σ H x y v u Q I rx ry h;obtain⟨i,j,rfl,rfl,q⟩:=h;obtain⟨t,rfl⟩:=rx;obtain⟨t',rfl⟩:=ry;exact rule i j t t' s _ _ ⟨.bl<|g i j,H,I,rfl,q⟩
def aic(i j:Int):Prop:=0<j/\j<1073741824
def abg(i j:Int):Prop:=0<=j/\j<=1000000/\i.natAbs<2^64
def K3(k):(0:Int)<=2^k:=by rw[two_pow_cast];exact Int.natCast_nonneg _
def aeb:mX X (binaryOp .Add) (Oc λi j=>.int (i+j)):=aec λ_ _ _ _ _ _ _ q=>add_int q
def adW:mX X (binaryOp .Sub) (Oc λi j=>.int (i - j)):=aec λ_ _ _ _ _ _ _ q=>sub_int q
def ad2:mX X (binaryOp .Mod) (rI (λ_ j=>0<j) λi j=>.int (i % j)):=opI λi j _ _ _ _ _ hc q=>by
 have h1:=hc;exact mod_int' (by omega) (by rw[Int.fmod_eq_emod_of_nonneg i (by omega)];exact q)
def ad0:mX X (binaryOp .Pow) (rI abg λi j=>.int (i^j.toNat)):=opI λ_ _ _ _ _ _ _ hc q=>pow_int_small hc.1 hc.2.1 hc.2.2 q
def adY:mX X (binaryOp .LShift) (rI abg λi j=>.int (i*2^j.toNat)):=opI λ_ _ _ _ _ _ _ hc q=>lshift_int_small hc.1 hc.2.1 hc.2.2 q
def adX:mX X (binaryOp .RShift) (rI (λ_ j=>0<=j) λi j=>.int (i / 2^j.toNat)):=opI λi j _ _ _ _ _ hc q=>
 rshift_int hc (by rw[Int.fdiv_eq_ediv_of_nonneg i (K3 _)];exact q)
def aea:mX X (binaryOp .BitAnd) (Oc λi j=>.int (Builtin.bitAnd i j)):=aec λ_ _ _ _ _ _ _ q=>and_int q
def unI{g:Int->Int}
  (rule:∀i t s Q E,Q (.int (g i) s.toks) { s with toks:=s.toks+1 }->wpAny (model X.prog X.w) X.A (f (.int i t)) Q E s) :
  UnR X f (rU λi=>.int (g i)):=by
 intro pins s σ H x v Q I rx h;obtain⟨i,rfl,q⟩:=h;obtain⟨t,rfl⟩:=rx;exact rule i t s _ _ ⟨.int<|g i,H,I.tok _,⟨_,rfl⟩,q⟩
def acN:UnR X (unaryOp .USub) (rU λi=>.int (-i)):=unI λ_ _ _ _ _ q=>neg_int q
end
def afj:decide (V.bl i=V.bl j)=(i == j):=by rw[Qkj];simp
section
variable{X:Cx}{a b c:Expr}{ta tb tc:TE}{pos:Pos}
def uR{σ:St}(I:Inv X pins σ H s)(q:Q (.bl k) H)(e:k=k'):EP X pins σ Q (.bool k') s:=by subst e;exact⟨.bl k,H,I,rfl,q⟩
def ag6:mX X (compareOp .Lt) (Oc λi j=>.bl (decide (i<j))):=ag9 λ_ _ _ _ _ _ _ q=>lt_int q
def ag7:mX X (compareOp .Gt) (Oc λi j=>.bl (decide (j<i))):=ag9 λ_ _ _ _ _ _ _ q=>gt_int q
def Rq:mX X (compareOp .Lt) (λx y H Q=>∃i j,x = .str i/\y = .str j/\Q (.bl (decide (i.cps.toList<j.cps.toList))) H):=by intro pins s σ H x y v u Q I rx ry h;obtain⟨i,j,rfl,rfl,q⟩:=h;obtain⟨t,rfl⟩:=rx;obtain⟨t',rfl⟩:=ry;exact lt_str<|uR I q rfl
def Rt:mX X (compareOp .In) (λx y H Q=>∃i j,x = .str i/\y = .str j/\Q (.bl (!(Builtin.Str.occurrences j i 0 j.length 1).isEmpty)) H):=by intro pins s σ H x y v u Q I rx ry h;obtain⟨i,j,rfl,rfl,q⟩:=h;obtain⟨t,rfl⟩:=rx;obtain⟨t',rfl⟩:=ry;exact in_str<|uR I q rfl
def ad4:mX X (compareOp .Is) (λx y H Q=>y = .non/\Q (.bl (decide (x = .non))) H):=by
 intro pins s σ H x y v u Q I rx ry h;obtain⟨rfl,q⟩:=h;cases ry;refine is_none_gen<|uR I q ?_;cases x<;>first
  | (cases rx;rfl)
  | (obtain⟨t,rfl⟩:=rx;rfl)
def ZD:mX X (compareOp .IsNot) (λx y H Q=>y = .non/\Q (.bl (!decide (x = .non))) H):=by
 intro pins s σ H x y v u Q I rx ry h;obtain⟨rfl,q⟩:=h;cases ry;refine isnot_none_gen<|uR I q ?_;cases x<;>first
  | (cases rx;rfl)
  | (obtain⟨t,rfl⟩:=rx;rfl)
def Fz:mX X (compareOp .NotIn) (λx y H Q=>∃i j,x = .str i/\y = .str j/\Q (.bl (!(!(Builtin.Str.occurrences j i 0 j.length 1).isEmpty))) H):=by intro pins s σ H x y v u Q I rx ry h;obtain⟨i,j,rfl,rfl,q⟩:=h;obtain⟨t,rfl⟩:=rx;obtain⟨t',rfl⟩:=ry;exact notIn_str<|uR I q rfl
def mX.or(h:mX X f r)(h':mX X f r'):mX X f (λx y H Q=>r x y H Q\/r' x y H Q):=by
 intro pins s σ H x y v u Q I rx ry q;rcases q with q|q
 ·exact h pins s σ H x y v u Q I rx ry q
 ·exact h' pins s σ H x y v u Q I rx ry q
def Oo(ho:mX X (compareOp op) r)(ha:PE X a ta)(hb:PE X b tb)(hm:behindInMarks op b=false):PE X (.Compare a [op] [b] pos) (Yn r ta tb):=by intro pins s σ H Q I h;exact wpAny_Compare1 (afv ha hb I h λv u s2 x y H2 I2 rx ry q=>ho pins s2 σ H2 x y v u Q I2 rx ry q) hm
def agc(t:TE):TT:=λσ H Q=>t σ H λx H'=>∃k,x = .bl k/\Q k H'
def Og(ho:mX X (compareOp op) r)(ha:PE X a ta)(hb:PE X b tb)(hm:behindInMarks op b=false):PT X (.Compare a [op] [b] pos) (agc (Yn r ta tb)):=by
 intro pins s σ H Q I h;refine wpAny_isTrue_Compare1 (fU (ha pins s σ H _ I h) λv s1 ⟨x,H1,I1,r1,q1⟩=>fU (hb pins s1 σ H1 _ I1 q1) λu s2 ⟨y,H2,I2,r2,q2⟩=>
  fU (ho pins s2 σ H2 x y v u _ I2 r1 r2 q2) λc s3 ⟨z,H3,I3,r3,k,e,q3⟩=>?_) hm
 subst e;cases r3;exact Qjy ⟨H3,I3,q3⟩
def aeS{κ:Type}{kvs:List (κ×V)}{vs:List (κ×Value)}(r:KV kvs vs):(!vs.isEmpty) = !kvs.isEmpty:=by cases r<;>rfl
def aeR(r:Vals xs its):(!its.toArray.isEmpty) = !xs.isEmpty:=by cases r<;>simp
def An:sizeLine<2^63:=by rw[Qky];decide
def LQ:mX X (binaryOp .Add) (λx y H Q=>∃i j,x = .str i/\y = .str j/\i.length+j.length<=sizeLine/\Q (.str (i++j)) H):=by intro pins s σ H x y v u Q I rx ry h;obtain⟨i,j,rfl,rfl,hz,q⟩:=h;obtain⟨t,rfl⟩:=rx;obtain⟨t',rfl⟩:=ry;exact add_str (λt' tk=>⟨.str<|i++j,H,I.tok _,⟨_,rfl⟩,q⟩) hz
def vals1(r:Vals [x] us):∃u,us=[u]/\RelV x u:=by
 cases r with
 | cons r1 r2=>cases r2;exact⟨_,rfl,r1⟩
def vals2(r:Vals [x,y] us):∃u w',us=[u,w']/\RelV x u/\RelV y w':=by
 cases r with
 | cons r1 r2=>
  cases r2 with
  | cons r3 r4=>cases r4;exact⟨_,_,rfl,r1,r3⟩
def SJ(hc:X.calm=true):iu X (.builtin "max") (λxs H Q=>∃i j,xs=[.int i,.int j]/\Q (.int (if j > i then j else i)) H):=by
 intro pins s σ H xs us Q I r h;obtain⟨i,j,rfl,q⟩:=h;obtain⟨u,w',rfl,⟨t,rfl⟩,⟨t',rfl⟩⟩:=vals2 r;refine max_two_ints (I.ok.hd hc) λh' tk k=>⟨_,H,I.kept k,?_,q⟩;by_cases hj:j > i
 ·rw[if_pos hj,if_pos hj];exact⟨_,rfl⟩
 ·rw[if_neg hj,if_neg hj];exact⟨_,rfl⟩
def Sy(hc:X.calm=true):iu X (.builtin "min") (λxs H Q=>∃i j,xs=[.int i,.int j]/\Q (.int (if j<i then j else i)) H):=by
 intro pins s σ H xs us Q I r h;obtain⟨i,j,rfl,q⟩:=h;obtain⟨u,w',rfl,⟨t,rfl⟩,⟨t',rfl⟩⟩:=vals2 r;refine min_two_ints (I.ok.hd hc) λh' tk k=>⟨_,H,I.kept k,?_,q⟩;by_cases hj:j<i
 ·rw[if_pos hj,if_pos hj];exact⟨_,rfl⟩
 ·rw[if_neg hj,if_neg hj];exact⟨_,rfl⟩
def ah9(K:PySem.W.Frag)(x:V)(H:Hp)(n:Nat):Prop:=
 match x with
 | .str y=>y.length<=sizeLine/\n=y.length
 | .byt y=>y.size<=sizeLine/\n=y.size
 | .ref p=>(∃xs,lG K H p xs/\n=xs.length)\/∃xs,qO K H p xs/\n=xs.length
 | _=>False
def W8:iu X (.builtin "len") (λxs H Q=>∃x n,xs=[x]/\ah9 X.K x H n/\Q (.int n) H):=by
 intro pins s σ H xs us Q I r h;obtain⟨x,n,rfl,e,q⟩:=h;obtain⟨u,rfl,rx⟩:=vals1 r;have hl:=An;have hs:=Qky;cases x with
 | str y=>
  obtain⟨t,rfl⟩:=rx;obtain⟨hy,e'⟩:y.length<=sizeLine/\n=y.length:=e;subst e';exact len_str (by omega) ⟨.int _,H,I.tok _,⟨_,rfl⟩,q⟩
 | byt y=>
  obtain⟨t,rfl⟩:=rx;obtain⟨hy,e'⟩:y.size<=sizeLine/\n=y.size:=e;subst e';exact PySem.W.len_bytes (by omega) ⟨.int _,H,I.tok _,⟨_,rfl⟩,q⟩
 | ref p=>
  cases rx;have e':=e;rcases e' with ⟨xs,hx,e'⟩|⟨xs,hx,e'⟩
  ·subst e';obtain⟨its,r',pl,hz⟩:=I.list hx;have hlen:=r'.length;exact Calls.call_len_list pl.isList (by simp[Qq4];omega) ⟨.int xs.length,H,I.tok _,⟨_,by simp only[Qq4];rw[hlen]⟩,q⟩
  ·subst e';obtain⟨its,r',pl,hz⟩:=I.tuple hx;have hlen:=r'.length;exact len_tuple pl (by simp[Qq4];omega) ⟨.int xs.length,H,I.tok _,⟨_,by simp only[Qq4];rw[hlen]⟩,q⟩
 | _=>exact e.elim
def J6:iu X (.builtin "divmod") (λxs H Q=>∃i j,xs=[.int i,.int j]/\aic i j/\∀p,H p=none->Q (.ref p) (upd H p (.tup [.int (i / j),.int (i % j)]))):=by intro pins s σ H xs us Q I r h;obtain⟨i,j,rfl,⟨h1,h2⟩,q⟩:=h;obtain⟨u,w',rfl,⟨t,rfl⟩,⟨t',rfl⟩⟩:=vals2 r;refine divmod_int (by omega) ?_<|.inl<|PyProof.noPylong_small (by omega);rw[Int.fdiv_eq_ediv_of_nonneg i (by omega),Int.fmod_eq_emod_of_nonneg i (by omega)];have hn:=I.hok.fresh<|Qq2 _;refine⟨.ref s.heap.objs.size,_,?_,rfl,q _ hn⟩;refine I.laid (λb o e=>Qqj _ e) (Qq2 _) ⟨by simp[Qqk,Qj0];rw[Qky];decide,[.int (i / j) s.toks,.int (i % j)<|s.toks+1],.cons ⟨_,rfl⟩<|.cons ⟨_,rfl⟩ .nil,?_⟩;exact⟨_,Qq7 s.heap rfl,rfl,⟨0,rfl⟩,rfl⟩
end
def Dc.some_of(r:Dc (some v) o):∃u,o=some u/\RelV v u:=by
 cases o with
 | none=>exact r.elim
 | some u=>exact⟨u,rfl,r⟩
section
variable{X:Cx}{pins:List (Addr×Obj)}{σ:St}{H:Hp}{s:Shared}{a C dx:Addr}{fs:List (Str×V)}{f:Str}{v:V}{A:Around}{E:Value->Shared->Prop}
def aa0(hb:attributeBase e f env (eval e env)=eval e env)
  (h:wpAny (model prog w) A (eval e env) (λo s₁=>wpAny (model prog w) A (getAttr o f true) Q E s₁) E s):wpAny (model prog w) A (eval (.Attribute e f pos) env) Q E s:=
 Attribute_any_ h (by rw[arm_eval_Attribute,hb])
end
structure gJ(k:Nat)(A:Around):Prop where
 hd:A.handled=none
 dp:A.depth+3*k+5<recursionLimit
 un:A.units+16*k+200<cLine
def gJ.mono(r:gJ k A)(h:j<=k):gJ j A:=⟨r.hd,by have:=r.dp;omega,by have:=r.un;omega⟩
def gJ.deeper(r:gJ (k+1) A)(env):gJ k (A.deeper env):=
 ⟨r.hd,by have:=r.dp;show A.depth+1+3*k+5<_;omega,by have:=r.un;show A.units+3+16*k+200<_;omega⟩
def Mj{A:Around}:(A.under (.builtin "type.__call__" ⟨.ref C::us,kw⟩)).depth=A.depth+1:=by first|rfl|simp[Around.under,Code.weight,Code.isCreation,Code.isGuard,Code.isCaller,Code.frames,Code.isFrame,guardIds]
def Mi{A:Around}:(A.under (.builtin "type.__call__" ⟨.ref C::us,kw⟩)).units=A.units+1:=by first|rfl|simp[Around.under,Code.cUnits,Code.frames,Code.isFrame]
def gJ.make(r:gJ (k+1) A)(C)(us)(kw):gJ k (A.under (.builtin "type.__call__" ⟨.ref C::us,kw⟩)):=
 ⟨r.hd,by have:=r.dp;rw[Mj];omega,by have:=r.un;rw[Mi];omega⟩
def gJ.depth(r:gJ k A):A.depth<recursionLimit:=by have:=r.dp;omega
def gJ.units(r:gJ k A):A.units+64<cLine:=by have:=r.un;omega
def aiV:TA:=λ_ H Q=>Q [] H
def abr(ta:TE)(tr:TA):TA:=λσ H Q=>ta σ H λx H1=>tr σ H1 λxs H2=>Q (x::xs) H2
section
variable{X:Cx}{e:Expr}{es:List Expr}{te:TE}{t:TA}{pos:Pos}
def jf:PA X [] aiV:=λ_ _ _ _ H Q I h=>Calls.spliced_nil ⟨[],H,I,.nil,h⟩
def dX(ha:PE X e te)(hr:PA X es t)(hs:starEach (e::es) X.env=(false,eval e X.env)::starEach es X.env:=by rfl):PA X (e::es) (abr te t):=by intro pos pins s σ H Q I h;rw[hs];show wpAny _ _ (spliced ((false,eval e X.env)::backTo pos (starEach es X.env))) _ _ s;refine Calls.spliced_cons<|fU (ha pins s σ H _ I h) λu s1 ⟨x,H1,I1,r1,q1⟩=>?_;exact fU (hr pos pins s1 σ H1 _ I1 q1) λus s2 ⟨xs,H2,I2,r2,q2⟩=>⟨x::xs,H2,I2,.cons r1 r2,q2⟩
def aiS(t:TA):TE:=λσ H Q=>t σ H λxs H1=>xs.length<=sizeLine/\∀p,H1 p=none->Q (.ref p) (upd H1 p (.tup xs))
def agj(t:TA):TE:=λσ H Q=>t σ H λxs H1=>xs.length<=sizeLine/\∀p,H1 p=none->Q (.ref p) (upd H1 p (.lst xs))
def adG{x1}(h:PA X es t):PE X (.Tuple es x1 pos) (aiS t):=by intro pins s σ H Q I hq;refine wpAny_Tuple_spliced<|fU (h pos pins s σ H _ I hq) λus s1 ⟨xs,H1,I1,r,z,q⟩=>⟨by rw[<-r.length];exact z,?_⟩;have hf:=I1.hok.fresh<|Qq2 _;refine⟨.ref s1.heap.objs.size,upd H1 s1.heap.objs.size<|.tup xs,I1.laid (λb u e=>Qqj _ e) (Qq2 _) ?_,rfl,q _ hf⟩;exact⟨z,us,r,CV.new _ _⟩
def adL(h:PA X es t):PE X (.List es pos) (agj t):=by intro pins s σ H Q I hq;refine wpAny_List_spliced<|fU (h pos pins s σ H _ I hq) λus s1 ⟨xs,H1,I1,r,z,q⟩=>⟨by rw[<-r.length];exact z,?_⟩;have hf:=I1.hok.fresh<|Qq2 _;refine⟨.ref s1.heap.objs.size,upd H1 s1.heap.objs.size<|.lst xs,I1.laid (λb u e=>Qqj _ e) (Qq2 _) ?_,rfl,q _ hf⟩;exact⟨z,us,0,r,Qq7 _ rfl⟩
end
abbrev Sp:=List V->Hp->VK->XK->Prop
abbrev X5:=List Env->Hp->Shared->XK->Value->Shared->Prop
structure Nm(P:Program)(w:World)(K:PySem.W.Frag)(mg:Str->Option Value)(base:Heap)(A:Around)(outer:List Env)(s:Shared)(H:Hp):Prop where
 frames:A.frames=some outer
 mod:Mod K mg base
 bs:∀b o,base.get? b=some o->s.heap.get? b=some o/\H b=none
 XH:base.objs.size<=s.heap.objs.size
 wA:s.heap.FunFrames base outer
 frf:∀b∈frs outer,H b=none
 hok:qJ P w H s.heap
 bare:AllBare s.gens
def CE(outer:List Env)(P:Program)(w:World)(H:Hp)(s:Shared)(Q:VK)(u:Value)(s':Shared):Prop:=
 ∃v H',s'.os=s.os/\AllBare s'.gens/\Un (frs outer) [] H H' s.heap s'.heap/\qJ P w H' s'.heap/\RelV v u/\Q v H'
def CR(CX:X5)(outer:List Env)(P:Program)(w:World)(H:Hp)(s:Shared)(Q:VK)(E:XK)(r:Result)(s':Shared):Prop:=
 match r with
 | .ok (.ret u)=>CE outer P w H s Q u s'
 | .ok _=>False
 | .error e=>CX outer H s E e s'
structure mY(P:Program)(w:World)(K:PySem.W.Frag)(mg:Str->Option Value)(base:Heap)(CX:X5)(k:Nat)(f:Addr)(fd:FuncData)(ps:List Str)(sp:Sp):Prop where
 len:∀vs H Q E,sp vs H Q E->vs.length=ps.length
 run:∀(A:Around) (outer:List Env) (s:Shared) (H:Hp) (args:Args) (us:List Value) (vs:List V) (Q:VK) (E:XK),gJ k A->Nm P w K mg base A outer s H->BindsTo s fd args (ps.zip us)->Vals vs us->sp vs H Q E->
  codeAny (model P w) A (.call (.ref f) args) (CR CX outer P w H s Q E) s
theorem Nm.make{K:PySem.W.Frag}(e:Nm P w K mg base A outer s H)(C)(us)(kw) :
  Nm P w K mg base (A.under (.builtin "type.__call__" ⟨.ref C::us,kw⟩)) outer s H:=⟨by first|exact e.frames|(simpa[Around.under,Code.envs,Code.isFrame,pushEnvs] using e.frames),e.mod,e.bs,e.XH,e.wA,e.frf,e.hok,e.bare⟩
section
variable{X:Cx}{pins:List (Addr×Obj)}{σ:St}{H:Hp}{s s':Shared}
def Inv.env0(I:Inv X pins σ H s):Nm X.prog X.w X.K X.mg X.base X.A X.stack s H:=
 ⟨I.ok.frames,I.ok.mod,I.bs,Qqy I.ok.XH I.sz,I.stack,I.Eu,I.hok,I.bare⟩
def Inv.after(I:Inv X pins σ H s)(h:CE X.stack X.prog X.w H s Q u s'):EP X pins σ Q u s':=by obtain⟨v,H',os,bare,un,hok,r,q⟩:=h;obtain⟨hh,g,d,t,os'⟩:=s';obtain rfl:os'=s.os:=os;exact⟨v,H',I.call un hok bare<|λb z=>absurd z (by simp),r,q⟩
end
def abt(sp:Sp)(WW:List V)(E:XK)(t:TA):TE:=λσ H Q=>t σ H λvs H1=>sp (vs++WW) H1 Q E
def Binds(K:PySem.W.Frag)(fd:FuncData)(ps:List Str)(ds:List Value):Prop:=
 ∀(s:Shared) (us:List Value),K.In s.heap->(us++ds).length=ps.length->BindsTo s fd ⟨us,[]⟩ (ps.zip (us++ds))
theorem Binds.all{K:PySem.W.Frag}(h:∀us,us.length=ps.length->bindArgs fd ⟨us,[]⟩=pure (ps.zip us)):Binds K fd ps []:=λs us _ hl=>by
 rw[Qx2] at hl ⊢;exact .of_eq<|h us hl
def Passes(CX:X5)(X:Cx)(E:XK):Prop:=∀(pins:List (Addr×Obj)) (σ:St) (H:Hp) (s:Shared) (e:Value) (s':Shared),Inv X pins σ H s->CX X.stack H s E e s'->X.xe e s'
section
variable{X:Cx}{CX:X5}{k:Nat}{f C:Addr}{fd:FuncData}{ps:List Str}{sp:Sp}{WW:List V}{ds:List Value}{E:XK}{x m:Str}{p pos apos:Pos}{e o:Expr}{es:List Expr}{ta:TE}{t:TA}
def Uq{σ:St}(F:mY X.prog X.w X.K X.mg X.base CX k f fd ps sp)(hr:gJ k X.A)(hb:Binds X.K fd ps ds)(hd:Vals WW ds)(hx:Passes CX X E)
  (I:Inv X pins σ H s) (r:Vals vs us) (h:sp (vs++WW) H Q E):wpAny (model X.prog X.w) X.A (call (.ref f) us) (EP X pins σ Q) X.xe s:=by
 have r2:=r.append hd;have hl:(us++ds).length=ps.length:=by rw[<-r2.length];exact F.len _ _ _ _ h
 refine wpAny_call<|Qk4 (F.run X.A X.stack s H ⟨us,[]⟩ (us++ds) (vs++WW) Q E hr I.env0 (hb s us I.G5 hl) r2 h) λr s' hq=>?_;cases r with
 | error e=>exact hx pins σ H s e s' I hq
 | ok fl=>
  cases fl with
  | ret u=>exact I.after hq
  | next=>exact False.elim hq
  | brk=>exact False.elim hq
  | cont=>exact False.elim hq
def Fx(F:mY X.prog X.w X.K X.mg X.base CX k f fd ps sp)(hr:gJ k X.A)(hg:Gl X x)(hm:X.mg x=some (.ref f))(hk:PySem.W.keepIn X.K (.ref f)=true)(hb:Binds X.K fd ps ds)(hd:Vals WW ds)(hx:Passes CX X E)
  (ha:PA X (e::es) t) (hdb:jN x:=by decide) (he:starEach (e::es) X.env=(false,eval e X.env)::starEach es X.env:=by rfl) (hpl:(backTo pos (starEach es X.env)).any (·.1)=false:=by rfl) :
  PE X (.Call (.Name x p) (e::es) [] pos) (abt sp WW E t):=by
 intro pins s σ H Q I h;refine wpAny_Call_Name_kw<|sW I hg hm ?_ hdb;refine PySem.W.callWith_K I.ok.mod.Jl hk (fU (ha pos pins s σ H _ I h) λus s1 ⟨vs,H1,I1,r,q⟩=>⟨I1.G5,?_⟩) he hpl;exact Uq F hr hb hd hx I1 r q
end
structure bC(N P:List Str)(sc:Scope):Prop where
 kind:sc.kind = .function
 co:sc.isCoroutine=false
 gen:sc.isGenerator=false
 nd:N.Nodup
 pre:N.take P.length=P
 par:∀x∈P,sc.names.lookup x=some .local\/sc.names.lookup x=some .cell
 aet:∀y∈sc.names,y.2 ≠ .free
theorem Ec{kindOf:Str->Option NameKind}:∀{binds} {m},(∀v,(x,v) ∉ binds)->bindL kindOf binds m x=m x
 | [],_,_=>rfl
 | (n,v)::r,m,h=>by
  unfold bindL;rw[Ec λw hw=>h w<|Qq0 _ hw];split
  ·have:x≠n:=by rintro rfl;exact h v Qqv
   simp[this]
  ·rfl
theorem Ef{kindOf:Str->Option NameKind}:∀{binds} {m},(∀v,(x,v) ∉ binds)->bindC kindOf binds m x=m x
 | [],_,_=>rfl
 | (n,v)::r,m,h=>by
  unfold bindC;rw[Ef λw hw=>h w<|Qq0 _ hw];split
  ·rfl
  ·have:x≠n:=by rintro rfl;exact h v Qqv
   simp[this]
theorem Ed{kindOf:Str->Option NameKind}:∀{P:List Str} {vs} {i:Nat} {m},P.Nodup->P[i]? = some x->vs[i]? = some v->kindOf x=some .local->
  bindL kindOf (P.zip vs) m x=some v
 | [],_,_,_,_,h,_,_=>by simp at h
 | _::_,[],_,_,_,_,h,_=>by simp at h
 | p::P,w::vs,0,m,nd,h1,h2,hk=>by
  simp at h1 h2;subst h1;subst h2;show bindL kindOf ((p,w)::P.zip vs) m p=_;unfold bindL;rw[Ec λv hv=>(Qkq.mp nd).1 (List.of_mem_zip hv).1,if_pos hk];simp
 | p::P,w::vs,i+1,m,nd,h1,h2,hk=>by
  show bindL kindOf ((p,w)::P.zip vs) m x=_;unfold bindL;exact Ed (Qkq.mp nd).2 (by simpa using h1) (by simpa using h2) hk
theorem Eg{kindOf:Str->Option NameKind}:∀{P:List Str} {vs} {i:Nat} {m},P.Nodup->P[i]? = some x->vs[i]? = some v->kindOf x≠some .local->
  bindC kindOf (P.zip vs) m x=some v
 | [],_,_,_,_,h,_,_=>by simp at h
 | _::_,[],_,_,_,_,h,_=>by simp at h
 | p::P,w::vs,0,m,nd,h1,h2,hk=>by
  simp at h1 h2;subst h1;subst h2;show bindC kindOf ((p,w)::P.zip vs) m p=_;unfold bindC;rw[Ef λv hv=>(Qkq.mp nd).1 (List.of_mem_zip hv).1,if_neg hk];simp
 | p::P,w::vs,i+1,m,nd,h1,h2,hk=>by
  show bindC kindOf ((p,w)::P.zip vs) m x=_;unfold bindC;exact Eg (Qkq.mp nd).2 (by simpa using h1) (by simpa using h2) hk
def start(N:List Str)(vs:List V):St:=vs.map some++List.replicate (N.length - vs.length) none
def Gv(CX:X5)(P:Program)(w:World)(K:PySem.W.Frag)(mg:Str->Option Value)(base:Heap)(N:List Str)(qual:Str)(scope:Scope)(f:Addr)(cd:Value)(A:Around)(outer:List Env)(s:Shared)(H:Hp)(E:XK):Cx where
 prog:=P
 w:=w
 K:=K
 mg:=mg
 base:=base
 A:=A.deeper (envOfC qual scope s.heap.objs.size f cd)
 N:=N
 s₀:=s
 H₀:=H
 env:=envOfC qual scope s.heap.objs.size f cd
 outer:=outer
 stack:=envOfC qual scope s.heap.objs.size f cd::outer
 ex:=[]
 calm:=true
 fn:=λ_=>true
 pn:=[]
 xe:=λe s'=>wpAny (model P w) (A.deeper (envOfC qual scope s.heap.objs.size f cd)) (leaving (envOfC qual scope s.heap.objs.size f cd) e) (λ_ s''=>CX outer H s E e s'') (λe' s''=>CX outer H s E e' s'') s'
def Bo{sc:Scope}(h:sc.names.lookup x=some .cell):∃c,(cellsFrom n sc.names []).lookup x=some c:=by have q:=PySem.W.cellsFrom_some sc.names n []<|.inl h;exact Qz1.mp q
theorem RM{K:PySem.W.Frag}
  (S:bC N ps scope) (hd:A.handled=none) (e0:Nm P w K mg base A outer s H) (hl:vs.length=ps.length) (r:Vals vs us)
  (x:InCallC s s.heap.objs.size (bindL (envOfC qual scope s.heap.objs.size f cd).kindOf (ps.zip us) λ_=>none) (cellsFrom (s.heap.objs.size+1) scope.names []) (bindC (envOfC qual scope s.heap.objs.size f cd).kindOf (ps.zip us) λ_=>none) s1) :
  Inv (Gv CX P w K mg base N qual scope f cd A outer s H E) [] (start N vs) H s1:=by
 have hpl:ps.length<=N.length:=by have:=Qzw List.length S.pre;rw[Qw8] at this;omega
 obtain⟨h1,tk,rfl,hk⟩:=x.done;have noA:∀b,b ∉ (Gv CX P w K mg base N qual scope f cd A outer s H E).ex:=λb z=>absurd (show b∈([]:List Addr) from z) (by simp);refine⟨⟨e0.mod,S.kind,rfl,rfl,Qq2 _,λy z c h1 h2=>?_,λy hy=>?_,λy c _ h=>?_,λ_=>hd,Around.frames_deeper e0.frames,.inr ⟨rfl,rfl⟩,λb z=>absurd z<|noA b,e0.bs,e0.XH,λb _ _=>noA b,λb z=>absurd z<|noA b,e0.wA,e0.frf⟩,
  rfl,e0.bare,Un.kept hk,⟨_,x.toInCall.ns,λi y v h1 h2 h3=>?_⟩,λy c h=>⟨_,x.cell y c h⟩,e0.hok.fresh<|Qq2 _,λy c h=>?_,λp hp=>absurd (show p∈([]:List (Addr×Obj)) from hp) (by simp),e0.hok.kept hk,?_⟩
 ·exact name_of_addr x.apart (Qkw h1)<|Qkw h2
 ·have hy:scope.names.lookup y=some .cell\/scope.names.lookup y=some .free:=hy;rcases hy with hy|hy
  ·exact Bo hy
  ·exact absurd rfl (S.aet _<|Qkw hy)
 ·exact Qj5<|x.above y c<|Qkw h
 ·have hi:i<vs.length:=by
   unfold start at h2;by_cases hi:i<vs.length
   ·exact hi
   ·rw[Qx5 (by simpa using hi)] at h2;rw[Qz3] at h2;split at h2<;>cases h2
  have ha:vs[i]? = some v:=by
   unfold start at h2;rw[Qxq (by simpa using hi),Qx6] at h2;cases e:vs[i]? with
   | none=>rw[e] at h2;cases h2
   | some a=>rw[e] at h2;cases h2;rfl
  obtain⟨u,hu,rv⟩:=r.get ha;have hp:ps[i]? = some y:=by rw[<-S.pre,Qjj (by omega)];exact h1
  have ndP:ps.Nodup:=by rw[<-S.pre];exact S.nd.sublist<|List.take_sublist _ _
  refine⟨u,rv,?_⟩;rcases S.par y (Qj7 hp) with k|k
  ·exact .inl ⟨k,Ed ndP hp hu k⟩
  ·obtain⟨c,e⟩:=Bo (n:=s.heap.objs.size+1) k;refine .inr ⟨.inl k,c,e,?_⟩;have q:=x.cell y c e;rw[Eg ndP hp hu (by show scope.names.lookup y≠_;rw[k];decide)] at q;exact q
 ·exact .inl<|e0.hok.fresh<|Qj5<|x.above y c<|Qkw h
 ·unfold start;show _=N.length;rw[Qqq,Qqz,Qzx];omega
theorem ab5{K:PySem.W.Frag}{dV kV doc pm cdv ct oc:Value}
  {N ps:List Str} {sp:Sp} (lk:K.lookup f=some ⟨oc,od,.func (PySem.W.fnOf name qual params body scope dV kV doc pm an cdv ct),osl⟩) (hcd:PySem.W.codeIn K cdv qual=true) (S:bC N ps scope)
  (len:∀vs H Q E,sp vs H Q E->vs.length=ps.length)
  (hbody:∀(A:Around) (outer:List Env) (s:Shared) (H:Hp) (vs:List V) (Q:VK) (E:XK),gJ k (A.deeper (envOfC qual scope s.heap.objs.size f cdv))->sp vs H Q E->
   ∃t,zq (Gv CX P w K mg base N qual scope f cdv A outer s H E) body t/\t { nx:=λ_ H'=>Q .non H',rt:=Q } (start N vs) H) :
  mY P w K mg base CX (k+1) f (PySem.W.fnOf name qual params body scope dV kV doc pm an cdv ct) ps sp:=by
 refine⟨len,λA outer s H args us vs Q E hr e0 hb r hsp=>?_⟩;have hl:=len _ _ _ _ hsp;have KX:=e0.mod.Jl.keeps λb o e=>(e0.bs b o e).1;have lim:=e0.mod.nolimit.keeps λb o e=>(e0.bs b o e).1;have hkind:∀y∈ps.zip us,scope.names.lookup y.1=some .local\/(scope.names.lookup y.1=some .cell/\((cellsFrom (s.heap.objs.size+1) scope.names []).lookup y.1).isSome=true):=λ⟨n,v⟩ hy=>by
  rcases S.par n (List.of_mem_zip hy).1 with q|q
  ·exact .inl q
  ·exact .inr ⟨q,PySem.W.cellsFrom_some _ _ _<|.inl q⟩
 refine codeAny_call_function hr.depth (KX _ _ lk) rfl S.co S.gen rfl (PySem.W.codeRec_of KX hcd) (hb _ _ _ _ ?_);refine wpAny_newFunctionEnv_cells S.kind hkind λenv he s1 x=>?_;subst he;refine⟨lim.keeps x.toInCall.keep,codeAny_func ?_⟩;obtain⟨t,ht,hq⟩:=hbody A outer s H vs Q E (hr.deeper _) hsp;have I:Inv (Gv CX P w K mg base N qual scope f cdv A outer s H E) [] (start N vs) H s1:=RM S hr.hd e0 hl r x;refine Qw9 (ht [] s1 (start N vs) H _ I hq) (λfl s' hs=>?_) λe s' hs=>hs;have fin:∀{σ'} {H'} {v} {u},Inv (Gv CX P w K mg base N qual scope f cdv A outer s H E) [] σ' H' s'->RelV v u->Q v H'->CE outer P w H s Q u s':=
  λ{σ' H' v u} J rv q=>⟨v,H',J.os,J.bare,J.base,J.hok,rv,q⟩
 cases fl with
 | ret u=>
  obtain⟨v,σ',H',J,rv,q⟩:=hs;exact fin J rv q
 | next=>
  obtain⟨σ',H',J,q⟩:=hs;exact fin (v:=V.non) J rfl q
 | brk=>
  obtain⟨_,_,_,q⟩:=hs;exact False.elim q
 | cont=>
  obtain⟨_,_,_,q⟩:=hs;exact False.elim q
section
variable{X:Cx}{x:Str}{p pos:Pos}{e:Expr}{es:List Expr}{t:TA}{id T:String}{r:List V->Hp->VK->Prop}
def tCB(r:List V->Hp->VK->Prop)(t:TA):TE:=λσ H Q=>t σ H λvs H1=>r vs H1 Q
def rN(hc:iu X (.builtin id) r)(hg:Gl X x)(hm:X.mg x=none)(hv:bootBuiltins x=some (.builtin id))(ha:PA X (e::es) t)(hn:x ≠ "__name__":=by decide)(hdb:jN x:=by decide)
  (he:starEach (e::es) X.env=(false,eval e X.env)::starEach es X.env:=by rfl) (hpl:(backTo pos (starEach es X.env)).any (·.1)=false:=by rfl):PE X (.Call (.Name x p) (e::es) [] pos) (tCB r t):=by
 intro pins s σ H Q I h;refine wpAny_Call_Name_kw<|yd I hg hm hv ?_ hn hdb;exact PyProof.Rows.callWith_builtin1 (fU (ha pos pins s σ H _ I h) λus s1 ⟨vs,H1,I1,r1,q1⟩=>hc pins s1 σ H1 vs us Q I1 r1 q1) he hpl
def Du(hc:iu X (.type T) r)(hg:Gl X x)(hm:X.mg x=none)(hv:bootBuiltins x=some (.type T))(ha:PA X (e::es) t)(hn:x ≠ "__name__":=by decide)(hdb:jN x:=by decide)
  (he:starEach (e::es) X.env=(false,eval e X.env)::starEach es X.env:=by rfl) (hpl:(backTo pos (starEach es X.env)).any (·.1)=false:=by rfl):PE X (.Call (.Name x p) (e::es) [] pos) (tCB r t):=by
 intro pins s σ H Q I h;refine wpAny_Call_Name_kw<|yd I hg hm hv ?_ hn hdb;exact Qj1 (fU (ha pos pins s σ H _ I h) λus s1 ⟨vs,H1,I1,r1,q1⟩=>hc pins s1 σ H1 vs us Q I1 r1 q1) he hpl
end
end L2
namespace HT
open PySem PyProof.Rows
section
variable{prog:Program}{w:World}{A:Around}{E:Value->Shared->Prop}{s:Shared}
def aaP(ht:IsTup s.heap t vs.toArray)(hb:IsTup s.heap b ws.toArray)(hv:vs≠[])
  (h1:ws=[]->Q (.ref t) s) (h2:ws≠[]->Q (.ref s.heap.objs.size) { s with heap:=s.heap.push { cls:=.type "tuple",data:=.seq (vs++ws).toArray } })
  (hsz:vs.length+ws.length<=sizeLine):wpAny (model prog w) A (binaryOp .Add (.ref t) (.ref b)) Q E s:=by
 obtain⟨⟨cls,dd,data,sl⟩,ho,hc,n,hd⟩:=id ht;obtain⟨⟨cls2,dd2,data2,sl2⟩,ho2,hc2,n2,hd2⟩:=id hb;simp at hc hd hc2 hd2;subst hc hd hc2 hd2;have e:vs.toArray++ws.toArray=(vs++ws).toArray:=by simp
 by_cases hw:ws=[]
 ·exact concat_meets ⟨_,ho,rfl⟩ ⟨_,ho2,rfl⟩ noFill_tuple_add seq_tuple_add PySem.F.slot_tuple_add PySem.F.entry_tuple_add (PySem.F.args_tuple_add_2 _ _)
   (tuple_addW1 t b vs.toArray ws.toArray n n2 dd dd2 sl sl2 (by simpa using hv) (by simp[hw])) ⟨ho,ho2,h1 hw⟩
 ·refine concat_meets ⟨_,ho,rfl⟩ ⟨_,ho2,rfl⟩ noFill_tuple_add seq_tuple_add PySem.F.slot_tuple_add PySem.F.entry_tuple_add (PySem.F.args_tuple_add_2 _ _)
   (tuple_addW2 t b vs.toArray ws.toArray n n2 dd dd2 sl sl2 (by simpa using hv) (by simpa using hw) (by rw[Qq4,Qq4];exact hsz)) ⟨ho,ho2,?_⟩
  rw[e];exact h2 hw
def fL(n d:Nat):Option Int->Nat
 | none=>d
 | some v=>if v<0 then (v+(n:Int)).toNat else min v.toNat n
def vG(n d k:Nat):fL n d (some k)=min k n:=by show(if k<0 then (k+(n:Int)).toNat else min (k:Int).toNat n)=min k n;rw[if_neg (by omega),Qz9]
def Fq(n d)(hd:d<=n)(o):fL n d o<=n:=by
 cases o with
 | none=>exact hd
 | some v=>
  show(if v<0 then (v+n).toNat else min v.toNat n)<=n;by_cases hv:v<0
  ·rw[if_pos hv];omega
  ·rw[if_neg hv];exact Nat.min_le_right _ _
def Qk(v)(n d:Nat):(if v<0 then max (v+(n:Int)) 0 else min v n)=(fL n d (some v)):=by
 show(if v<0 then max (v+n) 0 else min v n)=(if v<0 then (v+n).toNat else min v.toNat n);by_cases hv:v<0
 ·simp only[if_pos hv];omega
 ·simp[if_neg hv];omega
def Nb(lo hi)(n:Nat):Builtin.Slice.sliceAdjust lo hi 1 n=(((fL n 0 lo):Int),((fL n n hi):Int)):=by
 have h1:¬(1<0):=by omega
 unfold Builtin.Slice.sliceAdjust;simp only[h1,if_false];refine Prod.ext ?_ ?_
 ·cases lo with
  | none=>rfl
  | some v=>exact Qk v n 0
 ·cases hi with
  | none=>rfl
  | some v=>exact Qk v n n
def LC(i j:Nat):Builtin.Slice.slicePlaces i j 1=j - i:=by
 unfold Builtin.Slice.slicePlaces;have h1:1 > 0:=by omega
 simp[h1,if_true,Int.ediv_one];split<;>omega
def zX(p:IsPart v o)(h:Q o s):wpAny (model prog w) A (Builtin.Slice.slicePartIndex v) Q E s:=by
 cases p with
 | none=>exact slicePart_none h
 | int i t=>exact slicePart_int h
def pA{lo hi:Option Int}{Q:Int×Int×Nat->Shared->Prop}(hs:s.heap.IsSliceOf sl vl vu .none)(pl:IsPart vl lo)(pu:IsPart vu hi)
  (h:Q ((fL n 0 lo),1,fL n n hi - fL n 0 lo) s):wpAny (model prog w) A (Builtin.Slice.sliceApplied (.ref sl) (pure n)) Q E s:=by
 obtain⟨os,hos,hcs,hds⟩:=id hs;unfold Builtin.Slice.sliceApplied Builtin.Slice.sliceFields;refine Qqx<|Qqx<|wpAny_field hos hds rfl (Qqx<|wpAny_field hos hds rfl (Qqx<|wpAny_field hos hds rfl (Qq1 ?_)));refine Qqx<|slicePart_none ?_;show wpAny _ _ (if (1 == 0)=true then _ else _) _ _ s;rw[if_neg (by decide)];refine Qqx<|zX pl<|Qqx<|zX pu<|Qqx<|Qq1 ?_;show wpAny _ _ (match Builtin.Slice.sliceAdjust lo hi 1 n with|(lo,hi)=>pure (lo,(1:Int),Builtin.Slice.slicePlaces lo hi 1)) _ _ s;rw[Nb lo hi n];show wpAny _ _ (pure (((fL n 0 lo):Int),1,Builtin.Slice.slicePlaces (fL n 0 lo) (fL n n hi) 1)) _ _ s;rw[LC];exact Qq1 h
def Vm(xs:Array Value)(i k:Nat):((List.range k).filterMap λ(m:Nat)=>xs[(i+(m:Int)*1).toNat]?).toArray=((xs.toList.drop i).take k).toArray:=by
 have e:(λ(m:Nat)=>xs[(i+(m:Int)*1).toNat]?)=λm=>xs[i+m]?:=by
  funext m
  have:(i+(m:Int)*1).toNat=i+m:=by omega
  rw[this]
 rw[e];have:=pick_run xs i k;rw[List.filterMap_map] at this;have e2:((λx=>xs[x]?) ∘ λx=>i+x)=λm=>xs[i+m]?:=rfl;rw[e2] at this;rw[this]
def vY{lo hi:Option Int}(ht:IsTup s.heap t items)(hs:s.heap.IsSliceOf sl vl vu .none)(pl:IsPart vl lo)(pu:IsPart vu hi)
  (hw:¬(fL items.size 0 lo=0/\fL items.size items.size hi=items.size))
  (h:Q (.ref s.heap.objs.size) { s with heap:=s.heap.push { cls:=.type "tuple",data:=.seq ((items.toList.drop (fL items.size 0 lo)).take (fL items.size items.size hi - fL items.size 0 lo)).toArray } })
  (hsz:items.size<=sizeLine):wpAny (model prog w) A (getItem (.ref t) (.ref sl)) Q E s:=by
 have Pn:sizeOk (.seq ((items.toList.drop<|fL items.size 0 lo).take<|fL items.size items.size hi - fL items.size 0 lo).toArray):=by show((items.toList.drop<|fL items.size 0 lo).take<|fL items.size items.size hi - fL items.size 0 lo).toArray.size<=sizeLine;rw[Qq4,Qw8,Qxv,Qz7];omega
 have hj:fL items.size items.size hi<=items.size:=Fq _ _ (Qq2 _) hi;obtain⟨os,hos,hcs,hds⟩:=id hs;have hTs:s.TypeIs (.ref sl) "slice":=⟨os,hos,hcs⟩;unfold getItem
 try with_reducible refine Qzz ?_
 first|refine Qqx (Qq1 ?_)|skip
 refine Qqx<|wpAny_sequenceKey ht.typeIs (by decide) ?_;refine Qqx (wpAny_callSpecial?_slot ht.typeIs Qz8
  (Qz5 Qz8 ht.typeIs entry_tuple_getitem ?_<|args_tuple_getitem _ _))
 show wpAny _ _ (Builtin.Tuple.tupleItemsOf (.ref t) >>= _) _ _ s;refine Qqx<|tupleItemsOf_ ht ?_;refine Qqx<|wpAny_typeOf hTs ?_;rw[if_pos (by decide)];refine Qqx<|pA hs pl pu ?_;have hno:¬((((fL items.size 0 lo:Nat):Int) == 0&&(1:Int) == 1&&(fL items.size items.size hi - fL items.size 0 lo) == items.size)=true):=by intro q;rw[Qwx,Qwx] at q;have q1:=eq_of_beq q.1.1;have q2:fL items.size items.size hi - fL items.size 0 lo=items.size:=eq_of_beq q.2;exact hw ⟨by omega,by omega⟩
 show wpAny _ _ (if (((fL items.size 0 lo:Nat):Int) == 0&&(1:Int) == 1&&(fL items.size items.size hi - fL items.size 0 lo) == items.size)=true then _ else _) _ _ s;rw[if_neg hno,Vm]
 first
  | exact Qqx<|Qx7 (Qq1 ⟨_,rfl,Qq1 h⟩) Pn
  | exact Qqx<|Qx7 (Qqx<|Qq1<|Qq1 ⟨_,rfl,Qq1 h⟩) Pn
  | exact Qqx<|Qqx<|Qx7 (Qq1<|Qq1 ⟨_,rfl,Qq1 h⟩) Pn
  | exact Qqx<|Qqx<|Qx7 (Qq1 ⟨_,rfl,Qq1 h⟩) Pn
end
end HT
namespace L2
open PySem PySem.Spec PyProof.Rows
abbrev TO:=St->Hp->(Option Int->Hp->Prop)->Prop
def PO(X:Cx)(e:Option Expr)(t:TO):Prop:=
 ∀(pins:List (Addr×Obj)) (s:Shared) (σ:St) (H:Hp) (Q:Option Int->Hp->Prop),Inv X pins σ H s->t σ H Q->
  wpAny (model X.prog X.w) X.A (evalPart e X.env) (λu s'=>∃o H',Inv X pins σ H' s'/\IsPart u o/\Q o H') X.xe s
def Yo:TO:=λ_ H Q=>Q none H
def agf(t:TE):TO:=λσ H Q=>t σ H λx H1=>∃i,x = .int i/\Q (some i) H1
section
variable{X:Cx}{e:Expr}{te:TE}{lo hi:Option Expr}{tl th:TO}{pos p2:Pos}
def Zg:PO X none Yo:=by intro pins s σ H Q I h;rw[evalPart_none];exact Qq1 ⟨none,H,I,.none,h⟩
def Ze(h:PE X e te):PO X (some e) (agf te):=by intro pins s σ H Q I hw;rw[evalPart_some];refine fU (h pins s σ H _ I hw) λu s1 ⟨x,H1,I1,r1,q1⟩=>?_;obtain⟨i,rfl,q⟩:=q1;obtain⟨t,rfl⟩:=r1;exact⟨some i,H1,I1,.int i t,q⟩
def Qq(X:Cx)(r:V->Option Int->Option Int->Hp->VK->Prop):Prop:=
 ∀(pins:List (Addr×Obj)) (s:Shared) (σ:St) (H:Hp) (x:V) (v vl vu:Value) (lo hi:Option Int) (sl:Addr) (Q:VK),Inv X pins σ H s->RelV x v->s.heap.IsSliceOf sl vl vu .none->IsPart vl lo->IsPart vu hi->r x lo hi H Q->
  ∃T id,typeLookup (.type T) "__getitem__" = pure (some (.builtin id))/\s.TypeIs v T/\wpAny (model X.prog X.w) X.A (getItem v (.ref sl)) (EP X pins σ Q) X.xe s
def Qq.or(h:Qq X r)(h':Qq X r'):Qq X (λx lo hi H Q=>r x lo hi H Q\/r' x lo hi H Q):=by
 intro pins s σ H x v vl vu lo hi sl Q I rx hs pl pu q;rcases q with q|q
 ·exact h pins s σ H x v vl vu lo hi sl Q I rx hs pl pu q
 ·exact h' pins s σ H x v vl vu lo hi sl Q I rx hs pl pu q
def tSl(r:V->Option Int->Option Int->Hp->VK->Prop)(te:TE)(tl th:TO):TE:=λσ H Q=>te σ H λx H1=>tl σ H1 λl H2=>th σ H2 λu H3=>r x l u H3 Q
def Ip(hr:Qq X r)(he:PE X e te)(hl:PO X lo tl)(hu:PO X hi th):PE X (.Subscript e (.Slice lo hi none p2) pos) (tSl r te tl th):=by intro pins s σ H Q I h;refine Subscript_<|fU (he pins s σ H _ I h) λv s1 ⟨x,H1,I1,r1,q1⟩=>?_;refine wpAny_Slice<|fU (hl pins s1 σ H1 _ I1 q1) λvl s2 ⟨l,H2,I2,pl,q2⟩=>fU (hu pins s2 σ H2 _ I2 q2) λvu s3 ⟨u,H3,I3,pu,q3⟩=>?_;rw[evalPart_none];refine Qq1 ?_;have I4:Inv X pins σ H3 { s3 with heap:=s3.heap.push { cls:=.type "slice",data:=.fields #[vl,vu,.none] } }:=I3.kept λb ob q=>Qqj _ q;obtain⟨T,id,hT,ht,hg⟩:=hr pins { s3 with heap:=s3.heap.push { cls:=.type "slice",data:=.fields #[vl,vu,.none] } } σ H3 x v vl vu l u s3.heap.objs.size Q I4 r1 (Heap.IsSliceOf.new ..) pl pu q3;show wpAny (model X.prog X.w) X.A (subscriptTail e (.Slice lo hi none p2) v<|.ref s3.heap.objs.size) (EP X pins σ Q) X.xe { s3 with heap:=s3.heap.push { cls:=.type "slice",data:=.fields #[vl,vu,.none] } };exact tail_any ht hT hg (by with_unfolding_all rfl)
def zp(xs:List V)(lo hi:Option Int):List V:=(xs.drop (HT.fL xs.length 0 lo)).take (HT.fL xs.length xs.length hi - HT.fL xs.length 0 lo)
def yJ(xs)(lo hi):(zp xs lo hi).length<=xs.length:=by unfold zp;rw[Qw8,Qxv];omega
def ac8(K:PySem.W.Frag):V->Option Int->Option Int->Hp->VK->Prop:=λx lo hi H Q=>∃a xs,x = .ref a/\qO K H a xs/\
 ¬(HT.fL xs.length 0 lo=0/\HT.fL xs.length xs.length hi=xs.length)/\∀p,H p=none->Q (.ref p) (upd H p (.tup (zp xs lo hi)))
def Lh:Qq X (ac8 X.K):=by
 intro pins s σ H x v vl vu lo hi sl Q I rx hs pl pu h;obtain⟨a,xs,rfl,hx,hw,q⟩:=h;cases rx;obtain⟨its,r,ht,hz⟩:=I.tuple hx;have hlen:its.toArray.size=xs.length:=by rw[Qq4];exact r.length.symm
 refine⟨"tuple",_,PyProof.Rows.slot_tuple_getitem.lookup,ht.typeIs,?_⟩;refine HT.vY ht hs pl pu (by rw[hlen];exact hw) ?_ (by rw[hlen];exact hz);rw[hlen];refine⟨.ref s.heap.objs.size,_,I.laid (λb ob q=>Qqj _ q) (Qq2 _) ?_,rfl,q _<|I.hok.fresh<|Qq2 _⟩;exact⟨Qqy (yJ xs lo hi) hz,_,(r.drop<|HT.fL xs.length 0 lo).take<|HT.fL xs.length xs.length hi - HT.fL xs.length 0 lo,CV.new _ _⟩
def abz(K:PySem.W.Frag):R2:=λx y H Q=>∃a b xs ys,x = .ref a/\y = .ref b/\qO K H a xs/\qO K H b ys/\xs≠[]/\xs.length+ys.length<=sizeLine/\
 (ys=[]->Q (.ref a) H)/\(ys≠[]->∀p,H p=none->Q (.ref p) (upd H p (.tup (xs++ys))))
def Vals.FQ(r:Vals xs us):us=[]↔xs=[]:=by
 cases r with
 | nil=>simp
 | cons _ _=>simp
def ZG:mX X (binaryOp .Add) (abz X.K):=by intro pins s σ H x y v u Q I rx ry h;obtain⟨a,b,xs,ys,rfl,rfl,ha,hb,hx,hz,q1,q2⟩:=h;cases rx;cases ry;obtain⟨its,r1,p1,_⟩:=I.tuple ha;obtain⟨its2,r2,p2,_⟩:=I.tuple hb;refine HT.aaP p1 p2 (λz=>hx<|r1.FQ.mp z) (λz=>⟨.ref a,H,I,rfl,q1<|r2.FQ.mp z⟩) (λz=>?_) (by rw[<-r1.length,<-r2.length];exact hz);refine⟨.ref s.heap.objs.size,_,I.laid (λb ob q=>Qqj _ q) (Qq2 _) ?_,rfl,q2 (λw=>z<|r2.FQ.mpr w) _<|I.hok.fresh<|Qq2 _⟩;exact⟨by rw[Qqq];exact hz,_,r1.append r2,CV.new _ _⟩
end
def ixN(n:Nat)(i:Int):Option Nat:=if 0<=i then (if i<n then some i.toNat else none) else if -(n:Int)<=i then some (i+n).toNat else none
def ue{α:Type}(xs:List α)(i:Int):Option α:=(ixN xs.length i).bind λj=>xs[j]?
def Pb(h:ixN n i=some j):seqIndex? i n=some j/\j<n/\-n<=i/\i<n:=by
 unfold ixN at h;by_cases h0:0<=i
 ·rw[if_pos h0] at h;by_cases h1:i<n
  ·rw[if_pos h1] at h;have e:=Qxj h;exact⟨by rw[seqIndex_of h0 h1,e],by omega,by omega,h1⟩
  ·rw[if_neg h1] at h;cases h
 ·rw[if_neg h0] at h;by_cases h1 : -n<=i
  ·rw[if_pos h1] at h;have e:=Qxj h;exact⟨by rw[seqIndex_neg (by omega) h1,e],by omega,h1,by omega⟩
  ·rw[if_neg h1] at h;cases h
def GP{α:Type}{xs:List α}{v:α}(h:ue xs i=some v):∃j,seqIndex? i xs.length=some j/\xs[j]? = some v/\j<xs.length/\-xs.length<=i/\i<xs.length:=by
 unfold ue at h;cases e:ixN xs.length i with
 | none=>rw[e] at h;cases h
 | some j=>
  rw[e] at h;obtain⟨h1,h2,h3,h4⟩:=Pb e;exact⟨j,h1,h,h2,h3,h4⟩
def dZ{α:Type}{xs:List α}{j:Nat}{v:α}(h:xs[j]? = some v):ue xs j=some v:=by
 have hj:=(Qq6.mp h).1;have e:ixN xs.length j=some j:=by unfold ixN;rw[if_pos (by omega),if_pos (by omega)];simp
 unfold ue;rw[e];exact h
def wQ(b:Expr):Prop:=∀o i,subscripted b false o i=operate [o,i] (getItem o i)
def IxR(X:Cx)(r:R2):Prop:=
 ∀(value slice:Expr) (pins:List (Addr×Obj)) (s:Shared) (σ:St) (H:Hp) (x y:V) (v u:Value) (Q:VK),Inv X pins σ H s->RelV x v->RelV y u->r x y H Q->
  subscripted slice false v u=operate [v,u] (getItem v u)->wpAny (model X.prog X.w) X.A (subscriptTail value slice v u) (EP X pins σ Q) X.xe s
def MtR(X:Cx)(id:String)(r:V->List V->Hp->VK->Prop):Prop:=
 ∀(pins:List (Addr×Obj)) (s:Shared) (σ:St) (H:Hp) (x:V) (xs:List V) (v:Value) (us:List Value) (Q:VK),Inv X pins σ H s->RelV x v->Vals xs us->r x xs H Q->
  wpAny (model X.prog X.w) X.A (call (.builtin id) (v::us)) (EP X pins σ Q) X.xe s
section
variable{X:Cx}{a b:Expr}{ta tb:TE}{pos:Pos}
def IxR.or(h:IxR X r)(h':IxR X r'):IxR X (λx y H Q=>r x y H Q\/r' x y H Q):=by
 intro value slice pins s σ H x y v u Q I rx ry q hs;rcases q with q|q
 ·exact h value slice pins s σ H x y v u Q I rx ry q hs
 ·exact h' value slice pins s σ H x y v u Q I rx ry q hs
def abE(hr:IxR X r)(ha:PE X a ta)(hb:PE X b tb)(hs:wQ b):PE X (.Subscript a b pos) (Yn r ta tb):=by intro pins s σ H Q I h;exact Subscript_<|afv ha hb I h λv u s2 x y H2 I2 rx ry q=>hr a b pins s2 σ H2 x y v u Q I2 rx ry q<|hs _ _
def agJ(K:PySem.W.Frag):R2:=λx y H Q=>∃p xs i v,x = .ref p/\y = .int i/\lG K H p xs/\ue xs i=some v/\Q v H
def agH(K:PySem.W.Frag):R2:=λx y H Q=>∃p xs i v,x = .ref p/\y = .int i/\qO K H p xs/\ue xs i=some v/\Q v H
def agI:R2:=λx y H Q=>∃z i c,x = .str z/\y = .int i/\z.length<=sizeLine/\ue z.cps.toList i=some c/\Q (.str ⟨#[c]⟩) H
def aab:IxR X (agJ X.K):=by
 intro value slice pins s σ H x y v u Q I rx ry h hs;obtain⟨p,xs,i,z,rfl,rfl,hq,he,q⟩:=h;cases rx;obtain⟨t,rfl⟩:=ry;obtain⟨its,r,pl,hz⟩:=I.list hq;obtain⟨j,h1,h2,h3,h4,h5⟩:=GP he;obtain⟨w,ew,Ck⟩:=r.get h2;have hl:=r.length;have hn:=An;have fin:EP X pins σ Q w s:=⟨z,H,I,Ck,q⟩;by_cases h0:0<=i
 ·have hj:i.toNat=j:=by
   rw[seqIndex_of h0 h5] at h1;exact Qxj h1
  exact item_listR pl.isList h0 (by omega) (by rw[hj];simpa using ew) fin hs
 ·have hj:(i+its.toArray.size).toNat=j:=by
   rw[seqIndex_neg (by omega) h4] at h1;rw[Qq4,<-hl];exact Qxj h1
  exact subscriptTail_builtinR pl.isList.typeIs slot_list_getitem.lookup
   (wpAny_getItem_list_neg pl.isList (by omega) (by rw[Qq4]<;>omega) (by omega) (by rw[hj];simpa using ew) ⟨rfl,fin⟩) hs
def aeN:IxR X (agH X.K):=by
 intro value slice pins s σ H x y v u Q I rx ry h hs;obtain⟨p,xs,i,z,rfl,rfl,hq,he,q⟩:=h;cases rx;obtain⟨t,rfl⟩:=ry;obtain⟨its,r,pl,hz⟩:=I.tuple hq;obtain⟨j,h1,h2,h3,h4,h5⟩:=GP he;obtain⟨w,ew,Ck⟩:=r.get h2;have hl:=r.length;have hn:=An;have fin:EP X pins σ Q w s:=⟨z,H,I,Ck,q⟩;exact subscriptTail_builtinR pl.typeIs slot_tuple_getitem.lookup
  (getItem_tuple pl (by omega) (by omega) (by rw[Qq4,<-hl];exact h1) (by simpa using ew) ⟨rfl,fin⟩) hs
def aeO:IxR X agI:=by
 intro value slice pins s σ H x y v u Q I rx ry h hs;obtain⟨z,i,c,rfl,rfl,hz,he,q⟩:=h;obtain⟨t,rfl⟩:=rx;obtain⟨t',rfl⟩:=ry;obtain⟨j,h1,h2,h3,h4,h5⟩:=GP he;have hl:z.cps.toList.length=z.length:=by simp[Str.length]
 rw[hl] at h1 h4 h5;have hn:=An;exact tail_any (Qkv s z t) slot_str_getitem.lookup (getItem_str (by
  have e1:decide (i < -(2^63))=false:=Qw6 (by omega);have e2:decide (i ≥ 2^63)=false:=Qw6 (by omega);rw[e1,e2,Bool.or_false]) (by rw[h1];simpa using h2) ⟨.str ⟨#[c]⟩,H,I.tok _,⟨_,rfl⟩,q⟩) hs
def rIx(K:PySem.W.Frag):R2:=λx y H Q=>agJ K x y H Q\/agH K x y H Q\/agI x y H Q
def Wd:IxR X (rIx X.K):=aab.or<|aeN.or aeO
def Mh(its:List Value)(n j)(u):Obj.mapSeq (·.setIfInBounds j u) { cls:=.type "list",data:=.seq its.toArray n } = { cls:=.type "list",data:=.seq (its.set j u).toArray n }:=by simp[Obj.mapSeq]
def Inv.lst{σ:St}(I:Inv X pins σ H s)(h:H p=some (.lst xs)) :
  ∃its n,Vals xs its/\s.heap.get? p=some { cls:=.type "list",data:=.seq its.toArray n }/\xs.length<=sizeLine:=by
 obtain⟨z,its,n,r,e⟩:=I.hok p _ h;exact⟨its,n,r,e,z⟩
def Inv.aeD{σ:St}{its its':List Value}(I:Inv X pins σ H s)(h:H p=some (.lst xs))
  (ho:s.heap.get? p=some { cls:=.type "list",data:=.seq its.toArray n }) (hf:f { cls:=.type "list",data:=.seq its.toArray n } = { cls:=.type "list",data:=.seq its'.toArray n' }) (r:Vals ys its') (hz:ys.length<=sizeLine) (t) :
  Inv X pins σ (upd H p (.lst ys)) { s with heap:=s.heap.update p f,toks:=t }:=by
 have e:(s.heap.update p f).get? p=some { cls:=.type "list",data:=.seq its'.toArray n' }:=by rw[Heap.get?_update_self f ho (by rw[hf]<;>rfl),hf]
 refine I.write (by rw[h];trivial) (.inl rfl) (λb u hb q=>(Heap.get?_update_other _ _<|Ne.symm hb).trans q) ⟨_,e⟩ ?_;exact⟨hz,its',n',r,e⟩
def agB:V->V->V->Hp->(Hp->Prop)->Prop:=λo i v H Q=>∃p xs k j,o = .ref p/\i = .int k/\H p=some (.lst xs)/\ixN xs.length k=some j/\Q (upd H p (.lst (xs.set j v)))
def set_list:ah7 X agB:=by
 intro pins s σ H o i v ov iv u Q I ro ri rv h;obtain⟨p,xs,k,j,rfl,rfl,hp,hj,q⟩:=h;cases ro;obtain⟨t,rfl⟩:=ri;obtain⟨its,n,r,ho,hz⟩:=I.lst hp;obtain⟨h1,h2,h3,h4⟩:=Pb hj;have hl:=r.length;have hn:=An;have I':=
  I.aeD hp ho (Mh its n j u) (r.set rv j) (by rw[Qw7];exact hz) s.toks
 by_cases h0:0<=k
 ·have hk:k.toNat=j:=by
   rw[seqIndex_of h0 h4] at h1;exact Qxj h1
  exact PySem.W.ki_setAt ho h0 (by omega) (by rw[Qq4,<-hl];exact h4) (by rw[hk];exact⟨_,I',q⟩)
 ·have hk:(k+its.toArray.size).toNat=j:=by
   rw[seqIndex_neg (by omega) h3] at h1;rw[Qq4,<-hl];exact Qxj h1
  exact PySem.W.ki_setBack ho (by omega) (by rw[Qq4,<-hl];exact h3) (by omega) (by rw[hk];exact⟨_,I',q⟩)
def Ex(lo hi)(n):(sliceBounds lo hi none n).1=(HT.fL n 0 lo)/\(sliceBounds lo hi none n).2.1=(HT.fL n n hi)/\(sliceBounds lo hi none n).2.2=1:=by
 refine⟨?_,?_,rfl⟩
 ·cases lo with
  | none=>simp[sliceBounds,HT.fL]
  | some i=>
   simp[sliceBounds,HT.fL,Option.getD_none,show(1:Int) > 0 by decide,if_true];by_cases h:i<0
   ·simp[h,if_true]<;>omega
   ·simp[h,if_false]<;>omega
 ·cases hi with
  | none=>simp[sliceBounds,HT.fL]
  | some i=>
   simp[sliceBounds,HT.fL,Option.getD_none,show(1:Int) > 0 by decide,if_true];by_cases h:i<0
   ·simp[h,if_true]<;>omega
   ·simp[h,if_false]<;>omega
def BW(its:List Value)(lo hi):slicePick its.toArray lo hi none=((its.drop (HT.fL its.length 0 lo)).take (HT.fL its.length its.length hi - HT.fL its.length 0 lo)).toArray:=by obtain⟨h1,h2,h3⟩:=Ex lo hi its.toArray.size;unfold slicePick;rw[h1,h2,h3];simp only[sliceRange_one,pick_run,Qq4]<;>rfl
def agA(K:PySem.W.Frag):V->Option Int->Option Int->Hp->VK->Prop:=λx lo hi H Q=>∃a xs,x = .ref a/\lG K H a xs/\∀p,H p=none->Q (.ref p) (upd H p (.lst (zp xs lo hi)))
def NT:Qq X (agA X.K):=by intro pins s σ H x v vl vu lo hi sl Q I rx hs pl pu h;obtain⟨a,xs,rfl,hx,q⟩:=h;cases rx;obtain⟨its,r,ht,hz⟩:=I.list hx;have hlen:=r.length;refine⟨"list",_,slot_list_getitem.lookup,ht.isList.typeIs,?_⟩;refine wpAny_getItem_list_slice ht.isList hs pl pu .none (by simp) ?_ (by rw[Qq4]<;>omega);rw[BW,<-hlen];refine⟨.ref s.heap.objs.size,_,I.laid (λb ob q=>Qqj _ q) (Qq2 _) ?_,rfl,q _<|I.hok.fresh<|Qq2 _⟩;exact⟨Qqy (yJ xs lo hi) hz,_,0,(r.drop<|HT.fL xs.length 0 lo).take<|HT.fL xs.length xs.length hi - HT.fL xs.length 0 lo,Qq7 _ rfl⟩
def iu.or(h:iu X f r)(h':iu X f r'):iu X f (λxs H Q=>r xs H Q\/r' xs H Q):=by
 intro pins s σ H xs us Q I rs q;rcases q with q|q
 ·exact h pins s σ H xs us Q I rs q
 ·exact h' pins s σ H xs us Q I rs q
def GC:iu X (.type "list") (λxs H Q=>∃p ys,xs=[.ref p]/\(lG X.K H p ys\/qO X.K H p ys)/\∀l,H l=none->Q (.ref l) (upd H l (.lst ys))):=by
 intro pins s σ H xs us Q I r h;obtain⟨p,ys,rfl,hq,q⟩:=h;obtain⟨u,rfl,rx⟩:=vals1 r;cases rx;have fin:∀its,Vals ys its->ys.length<=sizeLine->∀h' c',(∀b o',s.heap.get? b=some o'->h'.get? b=some o')->
   h'.get? s.heap.objs.size=some { cls:=.type "list",dict:=none,data:=.seq its.toArray c',slots:=#[] }->EP X pins σ Q (.ref s.heap.objs.size) { s with heap:=h' }:=λits r' hz h' c' kp e=>
  ⟨.ref s.heap.objs.size,_,I.laid kp (Qq2 _)<|show gK X.prog X.w _ h' _ (.lst ys) from⟨hz,its,c',r',e⟩,rfl,q _<|I.hok.fresh<|Qq2 _⟩
 rcases hq with hq|hq
 ·obtain⟨its,r',pl,hz⟩:=I.list hq;have hlen:=r'.length;obtain⟨o,ho,hc,n,hd⟩:=pl.isList;exact call_list_seq p (.inl rfl) ho hc hd (λh' c' kp e=>fin its r' hz h' c' kp e) (by simp[Qq4]<;>omega)
 ·obtain⟨its,r',pl,hz⟩:=I.tuple hq;have hlen:=r'.length;obtain⟨o,ho,hc,n,hd⟩:=pl;exact call_list_seq p (.inr rfl) ho hc hd (λh' c' kp e=>fin its r' hz h' c' kp e) (by simp[Qq4]<;>omega)
def CK:iu X (.type "tuple") (λxs H Q=>∃p ys,xs=[.ref p]/\((lG X.K H p ys/\∀l,H l=none->Q (.ref l) (upd H l (.tup ys)))\/(qO X.K H p ys/\Q (.ref p) H))):=by
 intro pins s σ H xs us Q I r h;obtain⟨p,ys,rfl,h⟩:=h;obtain⟨u,rfl,rx⟩:=vals1 r;cases rx;rcases h with ⟨hq,q⟩|⟨hq,q⟩
 ·obtain⟨its,r',pl,hz⟩:=I.list hq;have hlen:=r'.length;refine call_tuple_list pl.isList (λh' kp=>?_) (by simp[Qq4]<;>omega);have I1:Inv X pins σ H { s with heap:=h' }:=I.kept kp;have I2:Inv X pins σ (upd H h'.objs.size<|.tup ys) { s with heap:=h'.push { cls:=.type "tuple",data:=.seq its.toArray } }:=
   I1.laid (λb o e=>Qqj _ e) (Qq2 _) (show gK X.prog X.w _ _ _ (.tup ys) from⟨hz,its,r',CV.new _ _⟩)
  exact⟨.ref h'.objs.size,_,I2,rfl,q _<|I1.hok.fresh<|Qq2 _⟩
 ·obtain⟨its,r',pl,hz⟩:=I.tuple hq;exact call_tuple_same pl ⟨.ref p,H,I,rfl,q⟩
def tyV(K:PySem.W.Frag)(T:String)(x:V)(H:Hp):Prop:=match x with
 | .str _=>T = "str"
 | .int _=>T = "int"
 | .ref p=>(T = "list"/\∃xs,lG K H p xs)\/(T = "tuple"/\∃o,K.lookup p=some o/\o.cls = .type "tuple"/\o.dict=none)\/
   (T = "dict"/\((∃kvs,H p=some (.dK kvs))\/∃kvs,H p=some (.dT kvs)))\/(T = "set"/\∃S n,H p=some (.set S n))
 | _=>False
def Tz{σ:St}(I:Inv X pins σ H s)(r:RelV x v)(ty:tyV X.K T x H) :
  s.TypeIs v T/\∀a,v = .ref a->∃ob,s.heap.get? a=some ob/\ob.dict=none:=by
 cases x with
 | str z=>
  obtain⟨t,rfl⟩:=r;cases ty;exact⟨Qkv s z t,λ_ e=>nomatch e⟩
 | int i=>
  obtain⟨t,rfl⟩:=r;cases ty;exact⟨typeIs_int s i t,λ_ e=>nomatch e⟩
 | ref p=>
  cases r;rcases ty with ⟨rfl,xs,hq⟩|⟨rfl,o,hk,hc,hd⟩|⟨rfl,hk⟩|⟨rfl,S,n,hk⟩
  ·obtain⟨its,_,pl,_⟩:=I.list hq;refine⟨pl.isList.typeIs,λa e=>?_⟩;cases e;obtain⟨o,n,e,c,hd,_⟩:=pl;exact⟨o,e,hd⟩
  ·refine⟨⟨o,I.G5 p o hk,hc⟩,λa e=>?_⟩;cases e;exact⟨o,I.G5 _ o hk,hd⟩
  ·have z:∃o,s.heap.get? p=some o/\o.ExactDict:=by
    rcases hk with ⟨kvs,hk⟩|⟨kvs,hk⟩
    ·obtain⟨_,_,_,_,o,_,_,e,ex,_⟩:=I.hok p _ hk;exact⟨o,e,ex⟩
    ·obtain⟨_,_,_,_,o,_,_,e,ex,_⟩:=I.hok p _ hk;exact⟨o,e,ex⟩
   obtain⟨o,e,ex⟩:=z;refine⟨⟨o,e,ex.1⟩,λa e2=>?_⟩;cases e2;exact⟨o,e,ex.2.1⟩
  ·obtain⟨o,_,_,_,e,ex,_⟩:=I.hok p _ hk;refine⟨⟨o,e,ex.1⟩,λa e2=>?_⟩;cases e2;exact⟨o,e,ex.2.1⟩
 | _=>exact False.elim ty
def tBM(K:PySem.W.Frag)(T:String)(r:V->List V->Hp->VK->Prop)(to:TE)(t:TA):TE:=λσ H Q=>to σ H λx H1=>tyV K T x H1/\t σ H1 λxs H2=>r x xs H2 Q
variable{o e:Expr}{es:List Expr}{to:TE}{t:TA}{name:Str}{apos cpos:Pos}{T id:String}{r:V->List V->Hp->VK->Prop}
def yC(pa:PlainAttrs T)(slot:Slot T name id)(hty:typeOf (.builtin id)=pure (.type "method_descriptor"))(hm:MtR X id r)(ho:PE X o to)(ha:PA X (e::es) t)
  (hbase:attributeBase o name X.env (eval o X.env)=eval o X.env:=by rfl)
  (hfew:((backTo cpos (starEach (e::es) X.env)).all (λx=>!x.1)&&(backToKw cpos (keywordEach [] X.env)).all (λx=>x.1.isSome)
   && decide ((e::es).length+([]:List Keyword).length+(if ([]:List Keyword).isEmpty then 0 else 1)<30))=true:=by rfl)
  (hline:(apos.endLine == cpos.line)=true:=by rfl) (hs:starEach (e::es) X.env=(false,eval e X.env)::starEach es X.env:=by rfl) (hplain:(backTo cpos (starEach es X.env)).any (·.1)=false:=by rfl) :
  PE X (.Call (.Attribute o name apos) (e::es) [] cpos) (tBM X.K T r to t):=by
 intro pins s σ H Q I h;refine wpAny_Call_method_late hbase hfew hline rfl (fU (ho pins s σ H _ I h) λv s1 ⟨x,H1,I1,r1,ty,q1⟩=>?_);obtain⟨h1,h2⟩:=Tz I1 r1 ty;refine⟨T,id,pa,slot,hty,h1,h2,?_⟩;have hA:=ha cpos pins s1 σ H1 _ I1 q1;rw[hs] at hA ⊢;refine Calls.callWith_builtin (by show(false||(backTo cpos<|starEach es X.env).any (·.1))=false;rw[hplain]<;>rfl)<|Calls.evalArgs_plain ?_;exact fU hA λus s2 ⟨vs,H2,I2,r2,q2⟩=>hm pins s2 σ H2 x vs v us Q I2 r1 r2 q2
end
def MtM(X:Cx)(id:String)(r:V->List V->Hp->VK->Prop):Prop:=
 ∀(pins:List (Addr×Obj)) (s:Shared) (σ:St) (H:Hp) (x:V) (xs:List V) (v:Value) (us:List Value) (Q:VK),Inv X pins σ H s->RelV x v->Vals xs us->r x xs H Q->
  wpAny (model X.prog X.w) X.A (call (.builtin id) (v::us)) (EP X pins σ Q) X.xe s
theorem Vals.one:∀{x} {us},Vals [x] us->∃u,us=[u]/\RelV x u
 | _,_,.cons r .nil=>⟨_,rfl,r⟩
theorem Vals.rep(h:Vals xs us):∀k,Vals (List.replicate k xs).flatten (List.replicate k us).flatten
 | 0=>.nil
 | k+1=>by
  rw[List.replicate_succ,List.replicate_succ,List.flatten_cons,List.flatten_cons];exact Vals.append h<|Vals.rep h k
theorem foldl_rep(its):∀k (acc:List Value),
  List.foldl (λx1 x2=>x1++x2) acc.toArray (List.replicate k its.toArray)=(acc++(List.replicate k its).flatten).toArray
 | 0,acc=>by simp
 | k+1,acc=>by
  have e:acc.toArray++its.toArray=(acc++its).toArray:=by simp
  have e2:(acc++its)++(List.replicate k its).flatten=acc++(List.replicate (k+1) its).flatten:=by rw[List.replicate_succ,List.flatten_cons,Qww]
  rw[<-e2,<-foldl_rep its k (acc++its),<-e,List.replicate_succ,Qx3]
section
variable{X:Cx}{pins:List (Addr×Obj)}{σ:St}{H:Hp}{s:Shared}{l b:Addr}{xs ys zs:List V}
def Inv.ajl{its its':List Value}(I:Inv X pins σ H s)(hH:H l=some (.lst xs))
  (e:s.heap.get? l=some { cls:=.type "list",data:=.seq its.toArray n }) (hf:f its.toArray=its'.toArray) (hv:Vals ys its') (hz:ys.length<=sizeLine) :
  Inv X pins σ (upd H l (.lst ys)) { s with heap:=s.heap.update l (Obj.mapSeq f),toks:=t' }:=by
 have q:=PySem.IsL.update e f;rw[hf] at q;refine I.write (by rw[hH];exact trivial) (.inl rfl) (λb' u hb hu=>(Heap.get?_update_other s.heap (Obj.mapSeq f)<|Ne.symm hb).trans hu) ⟨_,q⟩ ?_;exact⟨hz,its',_,hv,q⟩
def Inv.aeE(I:Inv X pins σ H s)(hv:Vals ys its)(hz:ys.length<=sizeLine) :
  Inv X pins σ (upd H s.heap.objs.size (.lst ys)) { s with heap:=s.heap.push { cls:=.type "list",data:=.seq its.toArray },toks:=t' }:=
 I.laid (λ_ _ q=>Qqj _ q) (Qq2 _) ⟨hz,its,0,hv,Qq7 _ rfl⟩
def Inv.fresh(I:Inv X pins σ H s):H s.heap.objs.size=none:=I.hok.fresh<|Qq2 _
def Inv.Z1(I:Inv X pins σ H s)(hH:H l=some (.lst xs)):xs.length<=sizeLine/\∃its n,Vals xs its/\xs.length=its.length/\s.heap.get? l=some { cls:=.type "list",data:=.seq its.toArray n }:=by obtain⟨z,its,n,r,e⟩:=I.hok l _ hH;exact⟨z,its,n,r,r.length,e⟩
def VG(h:n<=sizeLine):Builtin.List.listTooLong n=false:=by unfold Builtin.List.listTooLong;exact Qw6 (by omega)
end
section
variable{X:Cx}{prog:Program}{w:World}{A:Around}{E:Value->Shared->Prop}{s:Shared}
def YH:V->List V->Hp->VK->Prop:=λx vs H Q=>∃l xs y,x = .ref l/\vs=[y]/\H l=some (.lst xs)/\xs.length<sizeLine/\Q .non (upd H l (.lst (xs++[y])))
def Dy:MtM X "list.append" YH:=by intro pins s σ H x vs v us Q I rx rv h;obtain⟨l,xs,y,rfl,rfl,hH,hz,q⟩:=h;cases rx;obtain⟨u,rfl,ru⟩:=rv.one;obtain⟨z,its,n,r,hl,e⟩:=I.Z1 hH;refine call_meets F.slot_list_append ⟨_,e,rfl⟩ F.entry_list_append (F.args_list_append_2 _ _) (PySem.list_append l its.toArray n u (by rw[Qq4];omega)) ⟨e,?_⟩;refine⟨.non,_,I.ajl hH e (by simp) (r.append<|.cons ru .nil) ?_,rfl,q⟩;rw[Qqq,Qx8];omega
def agO:R2:=λx y H Q=>∃l b xs zs,x = .ref l/\y = .ref b/\H l=some (.lst xs)/\H b=some (.lst zs)/\xs.length+zs.length<=sizeLine/\∀p,H p=none->Q (.ref p) (upd H p (.lst (xs++zs)))
def ad9:mX X (binaryOp .Add) agO:=by
 intro pins s σ H x y v u Q I rx ry h;obtain⟨l,b,xs,zs,rfl,rfl,hH,hB,hz,q⟩:=h;cases rx;cases ry;obtain⟨z,its,n,r,hl,e⟩:=I.Z1 hH;obtain⟨z2,its2,n2,r2,hl2,e2⟩:=I.Z1 hB;refine PySem.P.add_list e e2 ?_ (by rw[Qq4,Qq4];omega);have ea:its.toArray++its2.toArray=(its++its2).toArray:=by simp
 rw[ea];exact⟨.ref _,_,I.aeE (r.append r2) (by rw[Qqq];omega),rfl,q _ I.fresh⟩
def agD:R2:=λx y H Q=>∃l k xs,x = .ref l/\y = .int k/\H l=some (.lst xs)/\-(2^63)<=k/\k<2^63/\xs.length*k.toNat<=sizeLine/\
 ∀p,H p=none->Q (.ref p) (upd H p (.lst (List.replicate k.toNat xs).flatten))
def len_rep{α:Type}(xs:List α)(k):(List.replicate k xs).flatten.length=k*xs.length:=by
 induction k with
 | zero=>simp
 | succ k ih=>rw[List.replicate_succ,List.flatten_cons,Qqq,ih,Nat.succ_mul,Nat.add_comm]
def adZ:mX X (binaryOp .Mult) agD:=by
 intro pins s σ H x y v u Q I rx ry h;obtain⟨l,k,xs,rfl,rfl,hH,h1,h2,hz,q⟩:=h;cases rx;obtain⟨t,rfl⟩:=ry;obtain⟨z,its,n,r,hl,e⟩:=I.Z1 hH;have hlen:its.toArray.size*k.toNat<=sizeLine:=by rw[Qq4,<-hl];exact hz
 have ajH:¬its.toArray.size*k.toNat > (2^63 - 1) / 8:=by
  have:sizeLine<=(2^63 - 1) / 8:=by decide
  omega
 have hfit:¬(!Builtin.List.listFitsIndex k)=true:=by rw[fitsIndex_both h1 h2];exact Qw3
 have ahE:¬Builtin.List.listTooLong (its.toArray.size*k.toNat)=true:=by rw[VG hlen];exact Qw3
 have hnew:List.foldl (λx1 x2=>x1++x2) #[] (List.replicate (if its.toArray.isEmpty=true then 0 else k.toNat) its.toArray)=(List.replicate k.toNat its).flatten.toArray:=by
  have f0:=λm=>by
   have:=foldl_rep its m [];rw[Qz4] at this;exact this
  rw[f0];cases its with
  | nil=>simp
  | cons a r'=>rw[if_neg (by simp)]
 refine wpAny_binaryOp_repeat_ref (by decide) ⟨_,e,rfl⟩ (λs'=>typeIs_int s' k t) noFill_list_mul F.fills_int_mul F.slot_int_rmul repeat_list F.slot_int_index.lookup
  (call_meets F.slot_int_rmul (typeIs_int s k t) F.entry_int_rmul (F.args_int_rmul_2 _ _) (int___rmul___int_list k t l its.toArray n)
   ⟨e,rfl,⟨_,e,rfl⟩,call_meets F.slot_list_mul ⟨_,e,rfl⟩ F.entry_list_mul (F.args_list_mul_2 _ _) (AutoListH.list___mul___list_int_3 l its.toArray n k t hfit ajH ahE) ⟨e,?_⟩⟩)
 rw[hnew];exact⟨.ref _,_,I.aeE (r.rep k.toNat) (by rw[len_rep,Nat.mul_comm];exact hz),rfl,q _ I.fresh⟩
set_option maxRecDepth 100000 in
end
end L2
namespace Att
open PySem PySem.W PySem.Calls PyProof.Rows
def zm:∀ns vs,WellAll P h vs (ns.map WData.int)->IntsAre vs ns:=by
 intro ns
 induction ns with
 | nil=>
  intro vs w;rw[List.map_nil] at w;cases w;exact .nil
 | cons n ns ih=>
  intro vs w;rw[Qq8] at w;cases w with
  | cons a b=>
   cases a;exact .cons _ _<|ih _ b
def QZ{l:OpenLaw}(hn:l.most=some n)
  (hpre:l.row.toRowW.claim.pre args=true) (hwl:WellAll P h vals args) :
  ∃a vs ns,vals=[Value.ref a]/\args=[WData.list (ns.map WData.int)]/\h.get? a=some { cls:=.type "list",data:=.seq vs.toArray }/\IntsAre vs ns/\ns.length<=n:=by
 have hsh:=(pre_splitW hpre).1;have hc:l.pre.holds [] { args:=args }=true:=(pre_splitW hpre).2;obtain⟨d,r,rfl,h1,h2⟩:=hasAllW_cons hsh;obtain rfl:=hasAllW_nil h2;obtain⟨xs,rfl,h3⟩:=hasW_list h1;obtain⟨ns,rfl⟩:=items_int h3;have hlen:ns.length<=n:=by
  unfold OpenLaw.pre at hc;have h4:(WTm.not<|.lt (.lit<|.int n)<|.len<|.arg 0).holds [] { args:=[.list (ns.map .int)] }=true:=by have h4:=(holds_andW hc).1;rw[hn] at h4;exact h4
  have h5:=condW_of h4<|w_not<|w_lt w_lit<|w_len_list<|w_arg rfl;rw[Qqz] at h5;refine Nat.le_of_not_lt λq=>?_;have q':n<ns.length:=by omega
  first
   | (rw[Qw2 q'] at h5;exact absurd h5 (by decide))
   | (simp at h5;omega)
 cases hwl with
 | cons w1 w2=>
  cases w2;cases w1 with
  | list ho hall=>exact⟨_,_,ns,rfl,rfl,ho,zm ns _ hall,hlen⟩
def Rc(l:OpenLaw)(args):l.row.toRowW.claim.post args (.bool true) args=true:=
 postW_of
  (show WShape.has [] (.bool true) .bool=true by first|rfl|decide|simp[WShape.has,WShape.arms,WShape.armsAll])
  (show(WTm.eq .res<|.lit<|.bool true).value [] { args:=args,res:=some<|.bool true,after:=args }=some (.bool<|true == true) from w_eq_bool (w_res rfl) w_lit) rfl
end Att
namespace L2
open PySem PySem.Spec PyProof.Rows
theorem Dh:∀{vs} {ns},IntsAre vs ns->Vals (ns.map V.int) vs
 | _,_,.nil=>.nil
 | _,_,.cons n t h=>.cons ⟨t,rfl⟩<|Dh h
def Only(H:Hp):Prop:=∀b,H b=none\/∃o xs,H b=some (.rZ o (.lst xs))
theorem V2{K:PySem.W.Frag}{ns:List Int}
  (KX:K.In s₁.heap) (hns:s₁.heap.Ns mainGlobals mg) (hb:s₁.heap.Ns builtinsNs mb) (hbb:∀x:Str,x ≠ "__name__"->mb x=bootBuiltins x) (hlim:s₁.heap.NoLimit) (hg:s₁.gens = #[])
  (ha:s₁.heap.get? a=some { cls:=.type "list",data:=.seq vs.toArray }) (hi:IntsAre vs ns) (hl:ns.length<=sizeLine) (hr:gJ k callerA)
  (F:∀base:Heap,K.In base->base.Ns mainGlobals mg->mY P w K mg base CX k fa fd [x] sp) (hbind:∀(s:Shared) (u:Value),BindsTo s fd ⟨[u],[]⟩ [(x,u)])
  (hsp:∀H:Hp,Only H->lG K H a (ns.map V.int)->sp [.ref a] H (λv _=>v = .bl true) λ_ _ _=>False)
  (hCX:∀H e s',CX [] H s₁ (λ_ _ _=>False) e s'->False) :
  codeAny (model P w) callerA (.call (.ref fa) ⟨[.ref a],[]⟩) (λr s'=>r = .ok (.ret (.bool true))/\OldK s₁.heap s'.heap/\s'.os=s₁.os/\AllBare s'.gens) s₁:=by
 have rv:=Dh hi;have lenV:=hi.length
 -- from an abstract heap in which nothing but the script may be tracked
 have core:∀H,Only H->lG K H a (ns.map V.int)->qJ P w H s₁.heap->(∀b,H b≠none->b=a)->(H a≠none->K.lookup a=none)->
   codeAny (model P w) callerA (.call (.ref fa) ⟨[.ref a],[]⟩) (λr s'=>r = .ok (.ret<|.bool true)/\OldK s₁.heap s'.heap/\s'.os=s₁.os/\AllBare s'.gens) s₁:=by
  intro H hO hS hok hA hK;have Qm:∀{b} {o},s₁.heap.get? b=some o->H b=none->(Ge s₁.heap H).get? b=some o:=λe n=>Wj e n;have noA:∀{b} {o} {es} {ep},s₁.heap.get? b=some o->o.data = .dict es ep->H b=none:=λ{b o es ep} e d=>by
   cases q:H b with
   | none=>rfl
   | some u=>
    have e':b=a:=hA b (by rw[q];simp);subst e';rw[ha] at e;cases e;have d':Data.seq vs.toArray _=Data.dict es ep:=d;cases d'
  have nsK:∀{b} {m},s₁.heap.Ns b m->(Ge s₁.heap H).Ns b m:=λ{b m} ⟨o,es,ep,e,d,r⟩=>⟨o,es,ep,Qm e<|noA e d,d,r⟩;have hKb:K.In (Ge s₁.heap H):=λb o e=>Qm (KX b o e) (by
   cases q:H b with
   | none=>rfl
   | some u=>
    have e':b=a:=hA b (by rw[q];simp);subst e';rw[hK (by rw[q];simp)] at e;cases e)
  have hM:Mod K mg (Ge s₁.heap H):=⟨hKb,nsK hns,⟨mb,nsK hb,hbb⟩,let ⟨mc,h1,h2⟩:=hlim;⟨mc,nsK h1,h2⟩⟩;have e0:Nm P w K mg (Ge s₁.heap H) callerA [] s₁ H:=⟨rfl,hM,λb o e=>ZL e,Nat.le_of_eq<|RW _ _,trivial,λb hb=>absurd (show b∈([]:List Addr) from hb) (by simp),hok,.of_eq hg⟩;refine Qk4 ((F _ hKb<|nsK hns).run callerA [] s₁ H ⟨[.ref a],[]⟩ [.ref a] [.ref a] _ _ hr e0 (hbind s₁<|.ref a) (.cons rfl .nil) (hsp H hO hS)) λr s' h=>?_;cases r with
  | error e=>exact(hCX H e s' h).elim
  | ok fl=>
   cases fl with
   | next=>exact False.elim h
   | brk=>exact False.elim h
   | cont=>exact False.elim h
   | ret u=>
    obtain⟨v,H',os,bare,un,hok',r',q⟩:=h;have q':v = .bl true:=q;subst q';obtain rfl:u=Value.bool true:=r';refine⟨rfl,OldK.of_keep λb o e=>?_,os,bare⟩;cases q:H b with
    | none=>exact un.keep b o e q (by intro z;exact absurd (show b∈([]:List Addr) from z) (by simp)) (by simp)
    | some u=>
     rcases hO b with z|⟨ob,xs,z⟩
     ·rw[q] at z;cases z
     ·have z2:=un.tV b ob _ z;obtain⟨e1,_⟩:=hok b _ z;obtain⟨e2,_⟩:=hok' b _ z2;rw[e] at e1;cases e1;exact e2
 cases hk:K.lookup a with
 | some o=>
  -- the script is one of the module's own objects
  have e:=KX a o hk;rw[ha] at e;cases e;refine core (λ_=>none) (λ_=>.inl rfl) (.inr ⟨_,vs.toArray,_,hk,rfl,rfl,rfl,by rw[Qq4,lenV];exact hl,by simpa using rv⟩) (λb u z=>by have z':(none:Option HO)=some u:=z;cases z') (λb z=>absurd rfl z) λz=>absurd rfl z
 | none=>
  refine core (λb=>if b=a then some (.rZ { cls:=.type "list",data:=.seq vs.toArray } (.lst (ns.map V.int))) else none) (λb=>?_) (.inl (.inr ⟨{ cls:=.type "list",data:=.seq vs.toArray },if_pos rfl⟩)) (λb u z=>?_) (λb z=>?_) λ_=>hk
  ·by_cases hb:b=a
   ·exact .inr ⟨_,_,if_pos hb⟩
   ·exact .inl (if_neg hb)
  ·by_cases hb:b=a
   ·have z':=(if_pos hb).symm.trans z;cases z';subst hb;exact⟨ha,by rw[Qqz];exact hl,vs,_,rv,ha⟩
   ·have z':=(if_neg hb).symm.trans z;cases z'
  ·by_cases hb:b=a
   ·exact hb
   ·exact absurd (if_neg hb) z
def inClass(s:Stmt)(j:Nat):Stmt:=match s with
 | .ClassDef _ _ _ body _ _ _ _ _ _ _=>body.getD j (.Pass ⟨0,0,0,0⟩)
 | _=>.Pass ⟨0,0,0,0⟩
def gw(s:Stmt):Arguments:=match s with
 | .FunctionDef _ a _ _ _ _ _ _ _ _=>a
 | _=>{ posonlyargs:=[],args:=[],vararg:=none,kwonlyargs:=[],kw_defaults:=[],kwarg:=none,defaults:=[] }
def cO(s:Stmt):List Stmt:=match s with
 | .FunctionDef _ _ b _ _ _ _ _ _ _=>b
 | _=>[]
def aL(s:Stmt):Scope:=match s with
 | .FunctionDef _ _ _ _ _ _ sc _ _ _=>sc
 | _=>{ kind:=.function,names:=[],isGenerator:=false,isCoroutine:=false }
abbrev BK:X5:=λ_ _ _ _ _ _=>False
abbrev E0:XK:=λ_ _ _=>False
def Ot:Passes BK X E0:=λ_ _ _ _ _ _ _ h=>h.elim
structure S8(K:PySem.W.Frag)(x qual:Str)(st:Stmt)(f:Addr)(fd:FuncData):Prop where
 ex:∃(oc:Value) (od:Option Addr) (kV doc pm:Value) (an:Option Addr) (cdv ct:Value) (osl:Array (Option Value)),
  fd=PySem.W.fnOf x qual (gw st) (cO st) (aL st) .none kV doc pm an cdv ct/\K.lookup f=some ⟨oc,od,.func fd,osl⟩/\PySem.W.codeIn K cdv qual=true
 kp:PySem.W.keepIn K (.ref f)=true
section
variable{P:Program}{w:World}{K:PySem.W.Frag}{mg:Str->Option Value}{base:Heap}
def S8.ok{st:Stmt}(F:S8 K x qual st f fd)(S:bC N ps (aL st))(len:∀vs H Q E,sp vs H Q E->vs.length=ps.length)
  (hbody:∀cdv A outer s H vs Q E,gJ k (A.deeper (envOfC qual (aL st) s.heap.objs.size f cdv))->sp vs H Q E->
   ∃t,zq (Gv BK P w K mg base N qual (aL st) f cdv A outer s H E).uH (cO st) t/\t { nx:=λ_ H'=>Q .non H',rt:=Q } (start N vs) H):mY P w K mg base BK (k+1) f fd ps sp:=by
 obtain⟨oc,od,kV,doc,pm,an,cdv,ct,osl,rfl,lk,hcd⟩:=F.ex;refine ab5 lk hcd S len λA outer s H vs Q E hr hsp=>?_;obtain⟨t,h,q⟩:=hbody cdv A outer s H vs Q E hr hsp;exact⟨t,h.uH,q⟩
def S8.binds{st:Stmt}(F:S8 K x qual st f fd)
  (h:∀kV doc pm an cdv ct us,us.length=ps.length->bindArgs (PySem.W.fnOf x qual (gw st) (cO st) (aL st) .none kV doc pm an cdv ct) ⟨us,[]⟩=pure (ps.zip us)):Binds K fd ps []:=by
 obtain⟨oc,od,kV,doc,pm,an,cdv,ct,osl,rfl,lk,hcd⟩:=F.ex;exact .all<|h kV doc pm an cdv ct
def Gq{st:Stmt}{kV doc pm cdv ct:Value}(l:K.lookup f=some ⟨oc,od,.func (PySem.W.fnOf x qual (gw st) (cO st) (aL st) .none kV doc pm an cdv ct),osl⟩)
  (c:PySem.W.codeIn K cdv qual=true) (k:PySem.W.keepIn K (.ref f)=true):S8 K x qual st f (PySem.W.fnOf x qual (gw st) (cO st) (aL st) .none kV doc pm an cdv ct):=⟨⟨oc,od,kV,doc,pm,an,cdv,ct,osl,rfl,l,c⟩,k⟩
end
def ahy{A B:Prop}(h:B):if false=true then A else B:=by rw[if_neg Qw3];exact h
def ahx{A B:Prop}(h:A):if true=true then A else B:=by rw[if_pos rfl];exact h
def aR(H H':Hp):Prop:=∀b o,H b=some o->H' b=some o
def aR.refl(H):aR H H:=λ_ _ h=>h
def aR.trans(a:aR H H1)(b:aR H1 H2):aR H H2:=λc o h=>b c o<|a c o h
def aR.free(e:aR H H')(h:H' l=Option.none):H l=Option.none:=by
 cases q:H l with
 | none=>rfl
 | some o=>
  rw[e l o q] at h;cases h
theorem aR.seq{K:PySem.W.Frag}(e:aR H H')(h:lG K H a xs):lG K H' a xs:=by
 rcases h with (h|⟨o,h⟩)|h
 ·exact .inl<|.inl<|e _ _ h
 ·exact .inl<|.inr ⟨o,e _ _ h⟩
 ·exact .inr h
section
variable{κ:Type}[DecidableEq κ]
def yX(kvs:List (κ×V))(k:κ):Option V:=(kvs.find? λkv=>decide (kv.1=k)).map (·.2)
def putK(kvs:List (κ×V))(k:κ)(v:V):List (κ×V):=
 if (kvs.any λkv=>decide (kv.1=k))=true then kvs.map (λkv=>if kv.1=k then (kv.1,v) else kv) else kvs++[(k,v)]
def vf{k:κ}(e:p.1=k):yX (p::r) k=some p.2:=by simp[yX,Qk2,e]
def vg{k:κ}(e:¬p.1=k):yX (p::r) k=yX r k:=by simp[yX,Qk2,e]
theorem zO(k):∀kvs:List (κ×V),(kvs.any λkv=>decide (kv.1=k))=(yX kvs k).isSome
 | []=>rfl
 | p::r=>by
  rw[List.any_cons];by_cases e:p.1=k
  ·simp[vf e,Qw2 e,Bool.true_or,Option.isSome_some]
  ·rw[vg e,Qw6 e,Bool.false_or];exact zO k r
def yG(kvs)(k:κ)(v):(putK kvs k v).length<=kvs.length+1:=by
 unfold putK;split
 ·rw[Qqz];omega
 ·rw[Qqq,Qqk,Qj0];omega
def Dc.RL(r:Dc o u):o.isSome=u.isSome:=by
 cases o with
 | none=>cases u with
  | none=>rfl
  | some _=>exact r.elim
 | some _=>cases u with
  | none=>exact r.elim
  | some _=>rfl
def KV.val(r:KV kvs vs)(k:κ):Dc (yX kvs k) (valueAt vs k):=by
 unfold KV at r
 induction r with
 | nil=>exact True.intro
 | @cons p q ps qs h t ih=>
  obtain⟨h1,h2⟩:=h;by_cases e:p.1=k
  ·have e':=h1.symm.trans e;have b:valueAt (q::qs) k=some q.2:=by simp[valueAt,Qk2,e']
   rw[vf e,b];exact h2
  ·have e':¬q.1=k:=λz=>e<|h1.trans z;have b:valueAt (q::qs) k=valueAt qs k:=by simp[valueAt,Qk2,e']
   rw[vg e,b];exact ih
def KV.any(r:KV kvs vs)(k:κ):(kvs.any λkv=>decide (kv.1=k))=vs.any λkv=>decide (kv.1=k):=by
 unfold KV at r
 induction r with
 | nil=>rfl
 | cons h t ih=>rw[List.any_cons,List.any_cons,ih,h.1]
def KV.repl(r:KV kvs vs)(k:κ)(ry:RelV y u) :
  KV (kvs.map λkv=>if kv.1=k then (kv.1,y) else kv) (vs.map λkv=>if kv.1=k then (kv.1,u) else kv):=by
 unfold KV at r ⊢
 induction r with
 | nil=>exact .nil
 | @cons p q ps qs h t ih=>
  rw[Qq8,Qq8];refine .cons ?_ ih;obtain⟨h1,h2⟩:=h;by_cases e:p.1=k
  ·rw[if_pos e,if_pos<|h1.symm.trans e];exact⟨h1,ry⟩
  ·rw[if_neg e,if_neg<|λz=>e<|h1.trans z];exact⟨h1,h2⟩
def KV.put(r:KV kvs vs)(k:κ)(ry:RelV y u):KV (putK kvs k y) (stored vs k u):=by
 unfold putK stored;rw[r.any k];by_cases e:(vs.any λkv=>decide (kv.1=k))=true
 ·rw[if_pos e,if_pos e];exact r.repl k ry
 ·rw[if_neg e,if_neg e];exact Paired.snoc r ⟨rfl,ry⟩
def KV.keys{vs:List (κ×Value)}(r:KV kvs vs):kvs.map (·.1)=vs.map (·.1):=by
 unfold KV at r
 induction r with
 | nil=>rfl
 | cons h t ih=>rw[Qq8,Qq8,ih,h.1]
def KV.length{vs:List (κ×Value)}(r:KV kvs vs):kvs.length=vs.length:=Paired.length r
end
def V5(r:RelV (kV k) u):(ir P w).is k u=true:=by
 cases k with
 | inl i=>obtain⟨t,e⟩:=(show ∃t,u=Value.int i t from r);subst e;exact Ji P w i t
 | inr x=>obtain⟨t,e⟩:=(show ∃t,u=Value.str x t from r);subst e;exact Jh P w x t
theorem DN:∀{ks} {us},Vals (ks.map kV) us->ItemsAre (ir P w) ks us
 | [],_,r=>by rw[List.map_nil] at r;cases r;exact .nil
 | k::ks,_,r=>by
  rw[Qq8] at r;cases r with
  | cons h t=>exact .cons (V5 h)<|DN t
abbrev KT(H:Hp):List (List Key×V)->List (List Key×Addr×Value)->Prop:=Paired λp q=>p.1=q.1/\H q.2.1=some (.tup (p.1.map kV))/\RelV p.2 q.2.2
def KT.val(r:KT H kvs xs)(k):Dc (yX kvs k) ((atKey xs k).map (·.2)):=by
 induction r with
 | nil=>exact True.intro
 | @cons p q ps qs h t ih=>
  obtain⟨h1,_,h2⟩:=h;by_cases e:p.1=k
  ·have e':=h1.symm.trans e;have b:atKey (q::qs) k=some q.2:=by simp[atKey,Qk2,e']
   rw[vf e,b];exact h2
  ·have e':¬q.1=k:=λz=>e<|h1.trans z;have b:atKey (q::qs) k=atKey qs k:=by simp[atKey,Qk2,e']
   rw[vg e,b];exact ih
def KT.repl(r:KT H kvs xs)(k)(ry:RelV y u) :
  KT H (kvs.map λkv=>if kv.1=k then (kv.1,y) else kv) (xs.map (putAt k u)):=by
 induction r with
 | nil=>exact .nil
 | @cons p q ps qs h t ih=>
  rw[Qq8,Qq8];refine .cons ?_ ih;obtain⟨h1,h2,h3⟩:=h;unfold putAt;by_cases e:p.1=k
  ·rw[if_pos e,if_pos<|h1.symm.trans e];exact⟨h1,h2,ry⟩
  ·rw[if_neg e,if_neg<|λz=>e<|h1.trans z];exact⟨h1,h2,h3⟩
def KT.put(r:KT H kvs xs)(k)(hb:H b=some (.tup (k.map kV)))(ry:RelV y u) :
  KT H (putK kvs k y) (storedH xs k b u):=by
 have e:(kvs.any λkv=>decide (kv.1=k))=(atKey xs k).isSome:=by rw[zO,(r.val k).RL,Option.isSome_map]
 unfold putK storedH;rw[e];by_cases q:(atKey xs k).isSome=true
 ·rw[if_pos q,if_pos q];exact r.repl k ry
 ·rw[if_neg q,if_neg q];exact Paired.snoc r ⟨rfl,hb,ry⟩
def KT.keeps(r:KT H kvs xs)(ht:∀b ys,H b=some (.tup ys)->H' b=some (.tup ys)):KT H' kvs xs:=
 Paired.aeC r λ_ _ z=>⟨z.1,ht _ _ z.2.1,z.2.2⟩
section
variable{P:Program}{w:World}{H:Hp}{h:Heap}{a:Addr}
def abx(ok:qJ P w H h)(e:Rd H a u):gK P w H h a u:=e.ok ok
def Qg(ok:qJ P w H h)(e:Rd H a (.dK kvs)):kvs.length<=sizeLine/\(a == sysModules)=false/\∃vs,KV kvs vs/\h.DictOf (ir P w) a vs:=
 show gK P w H h a (.dK kvs) from abx ok e
def ahX(ok:qJ P w H h)(e:H a=some (.dK kvs)):kvs.length<=sizeLine/\(a == sysModules)=false/\∃vs,KV kvs vs/\h.DictOf (ir P w) a vs:=Qg ok<|.inl e
def Mm(ok:qJ P w H h)(e:H a=some (.tup (ks.map kV))):(tupleKind (ir P w)).is h ks a:=by obtain⟨_,its,r,o,h1,h2,⟨n,h3⟩,_⟩:=(show gK P w H h a (.tup<|ks.map kV) from ok a _ e);exact⟨o,its.toArray,n,h1,h2,h3,by simpa using DN r⟩
def WX(ok:qJ P w H h)(e:Rd H a (.dT kvs)):kvs.length<=sizeLine/\(a == sysModules)=false/\
  ∃xs,KT H kvs xs/\h.DictOfH (tupleKind (ir P w)) a xs:=by
 obtain⟨z,y,xs,r,o,es,ep,h1,h2,h3,h4,h5⟩:=(show gK P w H h a (.dT kvs) from abx ok e);refine⟨z,y,xs,r,o,es,ep,h1,h2,h3,h4,λx hx=>?_,h5⟩;have all:∀{l} {m},KT H l m->∀x∈m,(tupleKind<|ir P w).is h x.1 x.2.1:=by
  intro l m q
  induction q with
  | nil=>intro x hx;exact nomatch hx
  | @cons p q ps qs hq t ih=>
   intro x hx;rcases Qqw.mp hx with e|hx
   ·subst e;exact Mm ok (by rw[<-hq.1];exact hq.2.1)
   ·exact ih x hx
 exact all r x hx
def ahW(ok:qJ P w H h)(e:H a=some (.dT kvs)):kvs.length<=sizeLine/\(a == sysModules)=false/\
  ∃xs,KT H kvs xs/\h.DictOfH (tupleKind (ir P w)) a xs:=WX ok<|.inl e
end
def abf(H:Hp)(a:Addr)(y:V)(r:Option V):Prop:=
 (∃kvs k,Rd H a (.dK kvs)/\y=kV k/\r=yX kvs k)\/∃kvs k b,Rd H a (.dT kvs)/\y = .ref b/\H b=some (.tup (k.map kV))/\r=yX kvs k
def Xy(H:Hp)(a:Addr)(y v:V)(H':Hp):Prop:=
 (∃kvs k,H a=some (.dK kvs)/\y=kV k/\kvs.length<sizeLine/\H'=upd H a (.dK (putK kvs k v)))\/
 ∃kvs k b,H a=some (.dT kvs)/\y = .ref b/\H b=some (.tup (k.map kV))/\kvs.length<sizeLine/\H'=upd H a (.dT (putK kvs k v))
theorem Xy.k{k:Key}(e:H a=some (.dK kvs))(hl:kvs.length<sizeLine):Xy H a (kV k) v (upd H a (.dK (putK kvs k v))):=.inl ⟨kvs,k,e,rfl,hl,rfl⟩
section
variable{X:Cx}{pins:List (Addr×Obj)}{σ:St}{H:Hp}{s:Shared}{a:Addr}{y v:V}{u r:Value}{o:Option V}{A:Around}{E:Value->Shared->Prop}
def Inv.big(I:Inv X pins σ H s):sysModules<s.heap.objs.size:=by have h:=(I.mod.glob.keeps I.bk).lt;exact Nat.lt_trans (by decide) h
def Sq(hu:A.units+1<cLine)(I:Inv X pins σ H s)(g:abf H a y (some v))(ry:RelV y u)(h:∀w' s',Inv X pins σ H s'->RelV v w'->Q w' s') :
  wpAny (model X.prog X.w) A (getItem (.ref a) u) Q E s:=by
 rcases g with ⟨kvs,k,e,ey,l⟩|⟨kvs,k,b,e,ey,eb,l⟩
 ·subst ey;obtain⟨z,hd,vs,rel,dd⟩:=Qg I.hok e;obtain⟨w',hw,Ck⟩:=Dc.some_of (by rw[l];exact rel.val k);exact wpAny_getItem_of (V5 ry) dd.mapOf hw<|h w' _ (I.tok _) Ck
 ·subst ey;cases ry;obtain⟨z,hd,xs,rel,dd⟩:=WX I.hok e;obtain⟨w',hw,Ck⟩:=Dc.some_of (by rw[l];exact rel.val k);obtain⟨p,hp,hp2⟩:=Qw1.mp hw;refine wpAny_getItem_heap (tupleKind_room_in1 hu) (Mm I.hok eb) dd hp ?_;rw[hp2];exact h w' _ (I.tok _) Ck
def Qi(I:Inv X pins σ H s)(mu:Mut (H a))(hs:Heap.SameBut a s.heap h')(he:∃q,h'.get? a=some q)(new:gK X.prog X.w (upd H a ob) h' a ob) :
  Inv X pins σ (upd H a ob) { s with heap:=h',toks:=t' }:=
 I.write mu (.inl rfl) (λb q hb z=>(hs.2 b hb).trans z) he new
def afh(z:kvs.length<=sizeLine)(hd:(a == sysModules)=false)(rel:KV kvs vs)(dd:h'.DictOf (ir P w) a vs) :
  gK P w H' h' a (.dK kvs):=⟨z,hd,vs,rel,dd⟩
def Sd(hu:A.units+1<cLine)(I:Inv X pins σ H s)(g:Xy H a y v H')(ry:RelV y u)(rv:RelV v r)(h:∀s',Inv X pins σ H' s'->Q () s') :
  wpAny (model X.prog X.w) A (setItem (.ref a) u r) Q E s:=by
 rcases g with ⟨kvs,k,e,ey,l,eH⟩|⟨kvs,k,b,e,ey,eb,l,eH⟩
 ·subst ey eH;obtain⟨z,hd,vs,rel,dd⟩:=ahX I.hok e;have hz:vs.length<=sizeLine:=by rw[<-rel.length];exact z
  have hl:(putK kvs k v).length<=sizeLine:=by have:=yG kvs k v;omega
  refine wpAny_setItem_pairs (V5 ry) dd λh' dd' hs=>h _ ?_;have he:∃q,h'.get? a=some q:=let ⟨q,_,_,hq,_⟩:=dd';⟨q,hq⟩
  exact Qi I (by rw[e];exact True.intro) hs he<|afh hl hd (rel.put k rv) dd'
 ·subst ey eH;cases ry;obtain⟨z,hd,xs,rel,dd⟩:=ahW I.hok e;have hz:xs.length<=sizeLine:=by rw[<-Paired.length rel];exact z
  have hl:(putK kvs k v).length<=sizeLine:=by have:=yG kvs k v;omega
  refine wpAny_setItem_heap (tupleKind_room_in1 hu) (Mm I.hok eb) dd λh' dd' hs=>h _ ?_;obtain⟨q,es,ep,hq,h2,h3,h4,_,h5⟩:=dd';refine Qi I (by rw[e];exact True.intro) hs ⟨q,hq⟩ ⟨hl,hd,_,(rel.put k eb rv).keeps λc ys ec=>?_,q,es,ep,hq,h2,h3,h4,h5⟩;rw[bH (aho ec e<|λz=>nomatch z)];exact ec
end
def abb(i:Expr):Prop:=∀ov iv,subscripted i false ov iv=operate [ov,iv] (getItem ov iv)
def Yp{T id:String}
  (hl:typeLookup (.type T) "__getitem__" = pure (some (.builtin id))) (hs:abb slice)
  (h:wpAny (model prog w) A (eval value env) (λo s₁=>wpAny (model prog w) A (eval slice env) (λi s₂=>s₂.TypeIs o T/\wpAny (model prog w) A (getItem o i) Q E s₂) E s₁) E s) :
  wpAny (model prog w) A (eval (.Subscript value slice pos) env) Q E s:=by
 refine Subscript_<|Qw9 h (λo s₁ h₁=>Qw9 h₁ (λi s₂ h₂=>?_) λ_ _ x=>x) λ_ _ x=>x;obtain⟨hT,h₂⟩:=h₂;unfold subscriptTail;refine Qqx ?_;rw[getitemInPython_of_ne hT.not_modules];refine Qqx<|Qkx hT hl ?_;have fin:wpAny (model prog w) A (subscripted slice false o i) (λr s₃=>wpAny (model prog w) A (letTemporaryGo value o r >>= λ_=>pure r) Q E s₃) E s₂:=by rw[hs o i];exact wpAny_operating<|Qw9 h₂ (λr s₃ h₃=>Qqx<|wpAny_letTemporaryGo<|Qq1 h₃) λ_ _ x=>x
 first
  | exact Qq1<|Qqx fin
  | exact Qqx<|Qq1<|Qqx fin
  | exact Qqx fin
def JZ{σ:St}(I:Inv X pins σ H s)(g:abf H a y o):s.TypeIs (.ref a) "dict":=by
 rcases g with ⟨kvs,k,e,_,_⟩|⟨kvs,k,b,e,_,_,_⟩
 ·obtain⟨_,_,vs,_,dd⟩:=Qg I.hok e;exact dd.typeIs
 ·obtain⟨_,_,xs,_,dd⟩:=WX I.hok e;exact dd.typeIs
def agm(td ty:TE):TE:=λσ H Q=>td σ H λx H1=>ty σ H1 λy H2=>∃a v,x = .ref a/\abf H2 a y (some v)/\Q v H2
def agt(td ty tv:TE):TS:=λD σ H=>tv σ H λv H1=>td σ H1 λx H2=>ty σ H2 λy H3=>∃a H4,x = .ref a/\Xy H3 a y v H4/\D.nx σ H4
section
variable{X:Cx}{o i e value:Expr}{pos pos' tpos:Pos}{td ty tv:TE}
def Zr(hu:X.A.units+1<cLine)(ho:PE X o td)(hi:PE X i ty)(hs:abb i):PE X (.Subscript o i pos) (agm td ty):=by intro pins s σ H Q I h;refine Yp PySem.F.slot_dict_getitem.lookup hs<|fU (ho pins s σ H _ I h) λu s1 ⟨x,H1,I1,rx,q1⟩=>fU (hi pins s1 σ H1 _ I1 q1) λiv s2 ⟨y,H2,I2,ry,a,v,ex,g,q2⟩=>?_;subst ex;obtain rfl:u=Value.ref a:=rx;exact⟨JZ I2 g,Sq hu I2 g ry λw' s3 I3 Ck=>⟨v,H2,I3,Ck,q2⟩⟩
def Zd(hu:X.A.units+1<cLine)(ho:PE X o td)(hi:PE X i ty)(hv:PE X value tv)(hs:swapsWith value (some (.Subscript o i pos')) pos.line X.env=pure false) :
  PS X (.Assign [.Subscript o i pos'] value pos) (agt td ty tv):=by
 intro pins s σ H D I h;refine wpAny_Assign_Subscript (fU (hv pins s σ H _ I h) λr s1 ⟨v,H1,I1,rv,q1⟩=>fU (ho pins s1 σ H1 _ I1 q1) λu s2 ⟨x,H2,I2,rx,q2⟩=>fU (hi pins s2 σ H2 _ I2 q2) λiv s3 ⟨y,H3,I3,ry,a,H4,ex,g,q3⟩=>?_) hs;subst ex;obtain rfl:u=Value.ref a:=rx;exact Sd hu I3 g ry rv λs4 I4=>⟨σ,H4,I4,q3⟩
end
def W0(h:Heap)(hb:sysModules<h.objs.size):gK P w H (h.push { cls:=.type "dict",data:=.dict #[] }) h.objs.size (.dK []):=
 ⟨Qzk _,Qwj.mpr<|Ne.symm<|Qw0 hb,[],.nil,Heap.DictOf.new h⟩
def acU:TE:=λ_ H Q=>∀p,H p=none->Q (.ref p) (upd H p (.dK []))
section
variable{X:Cx}{pos:Pos}
def Vs:PE X (.Dict [] [] pos) acU:=λpins s σ H Q I h=>
 wpAny_Dict_empty ⟨.ref s.heap.objs.size,_,I.laid (λ_ _ q=>Qqj _ q) (Qq2 _)<|W0 s.heap I.big,rfl,h _<|I.hok.fresh<|Qq2 _⟩
end
def nW(env:Env):List (Str×NameKind)->List (Str×Addr)->List (Str×Addr)
 | [],acc=>acc
 | (n,k)::r,acc=>if k == .free then nW env r ((n,(env.cells.lookup n).getD 0)::acc) else nW env r acc
theorem Bl(f)
  (hf:∀n k cs,f (n,k) cs=if k == .free then (do let a <-cellOf env n;pure (.yield ((n,a)::cs))) else pure (.yield cs)) :
  ∀names acc,(∀n,(n,NameKind.free)∈names->∃c,env.cells.lookup n=some c)->forIn names acc f=pure (nW env names acc)
 | [],acc,_=>by rw[List.forIn_nil];rfl
 | (n,k)::r,acc,h=>by
  have ih:=Bl f hf r;have hr:=λm hm=>h m<|Qq0 _ hm;rw[List.forIn_cons,hf];cases hk:k == NameKind.free with
  | true=>
   have hk':k = .free:=by simpa using hk
   obtain⟨c,hc⟩:=h n (by rw[hk'];exact Qqv);rw[if_pos rfl];unfold cellOf;rw[hc];simp[pure_bind];rw[ih _ hr]
   conv=>rhs;unfold nW
   rw[if_pos hk,hc]
   rfl
  | false=>
   rw[if_neg (by simp)];simp[pure_bind];rw[ih _ hr]
   conv=>rhs;unfold nW
   rw[if_neg (by simp[hk])]
def Bm(h:∀n,(n,NameKind.free)∈scope.names->∃c,env.cells.lookup n=some c):closureFor scope env=pure (nW env scope.names []):=by
 simp only[closureFor];rw[Bl _ (λn k cs=>by cases hk:k == NameKind.free<;>simp[hk]) _ _ h]
 rfl
theorem wF:∀names acc x c,(∀n,(n,NameKind.free)∈names->∃c,env.cells.lookup n=some c)->
  (∀y d,acc.lookup y=some d->env.cells.lookup y=some d)->(nW env names acc).lookup x=some c->env.cells.lookup x=some c
 | [],acc,x,c,_,ha,h=>ha x c h
 | (n,k)::r,acc,x,c,hn,ha,h=>by
  have hr:=λm hm=>hn m<|Qq0 _ hm;unfold nW at h;split at h
  ·rename_i hk;have hk':k = .free:=by simpa using hk
   obtain⟨d,hd⟩:=hn n (by rw[hk'];exact Qqv);refine wF r _ x c hr (λy e he=>?_) h;rw[Qx9] at he;cases hy:y == n with
   | true=>
    rw[hy] at he;have e1:y=n:=by simpa using hy
    rw[e1,hd];rw[hd] at he;exact he
   | false=>
    rw[hy] at he;exact ha y e he
  ·exact wF r acc x c hr ha h
theorem yj:∀names acc x,(acc.lookup x).isSome=true->((nW env names acc).lookup x).isSome=true
 | [],acc,x,h=>h
 | (n,k)::r,acc,x,h=>by
  unfold nW;split
  ·refine yj r _ x ?_;rw[Qx9];split
   ·rfl
   ·exact h
  ·exact yj r acc x h
theorem wD:∀names acc x,(x,NameKind.free)∈names->((nW env names acc).lookup x).isSome=true
 | [],acc,x,h=>nomatch h
 | (n,k)::r,acc,x,h=>by
  unfold nW;rcases Qqw.mp h with e|h
  ·obtain⟨e1,e2⟩:=Prod.mk.inj e;subst e1 e2;rw[if_pos (by rfl)];refine yj r _ x ?_;rw[Qx9];simp
  ·split
   ·exact wD r _ x h
   ·exact wD r acc x h
theorem gf:∀names n acc,cellsFrom n names acc=cellsFrom n names []++acc
 | [],n,acc=>rfl
 | (x,k)::r,n,acc=>by
  unfold cellsFrom;split
  ·rw[gf r (n+1) ((x,n)::acc),gf r (n+1) [(x,n)],Qww]
   rfl
  ·exact gf r n acc
theorem oY:∀names n x c,(x,c)∈cellsFrom n names []->(x,NameKind.cell)∈names
 | [],n,x,c,h=>nomatch h
 | (y,k)::r,n,x,c,h=>by
  unfold cellsFrom at h;split at h
  ·rename_i hk;have hk':k = .cell:=by simpa using hk
   rw[gf] at h;rcases Qxx.mp h with h|h
   ·exact Qq0 _<|oY r _ x c h
   ·have e:=Qwz.mp h;cases e;rw[hk'];exact Qqv
  ·exact Qq0 _<|oY r _ x c h
theorem qt{α:Type}:∀(l m:List (Str×α)) x,(l++m).lookup x=match l.lookup x with|some v=>some v|none=>m.lookup x
 | [],m,x=>rfl
 | (k,v)::r,m,x=>by
  rw[Qj3,Qx9,Qx9];cases h:x == k with
  | true=>rfl
  | false=>exact qt r m x
theorem rQ{α:Type}:∀(l:List (Str×α)) x,(∀v,(x,v) ∉ l)->l.lookup x=none
 | [],x,_=>rfl
 | (k,v)::r,x,h=>by
  rw[Qx9];cases e:x == k with
  | true=>
   have e':x=k:=by simpa using e
   exact absurd (by rw[e'];exact Qqv)<|h v
  | false=>exact rQ r x λw hw=>h w<|Qq0 _ hw
theorem lookup_mem{α:Type}:∀(l:List (Str×α)) x v,l.lookup x=some v->(x,v)∈l
 | [],x,v,h=>nomatch h
 | (k,w)::r,x,v,h=>by
  rw[Qx9] at h;cases e:x == k with
  | true=>
   rw[e] at h;cases h;have e':x=k:=by simpa using e
   rw[e'];exact Qqv
  | false=>
   rw[e] at h;exact Qq0 _<|lookup_mem r x v h
theorem jo{α:Type}:∀(l:List (Str×α)) x v,(l.map (·.1)).Nodup->(x,v)∈l->l.lookup x=some v
 | [],x,v,_,h=>nomatch h
 | (k,w)::r,x,v,nd,h=>by
  rw[Qx9];have nd':=Qkq.mp nd;rcases Qqw.mp h with e|h
  ·cases e;simp
  ·have hne:¬x=k:=λe=>nd'.1 (by rw[<-e];exact Qwk.mpr ⟨(x,v),h,rfl⟩);have hb:(x == k)=false:=by simpa using hne
   rw[hb];exact jo r x v nd'.2 h
def Jd
  (hQ:∀h',h'.Ns s.heap.objs.size (λ_=>none)->(∀b o,s.heap.get? b=some o->h'.get? b=some o)->CellsOk h' (s.heap.objs.size+1) (cellsFrom (s.heap.objs.size+1) scope.names [])->
   Q { scope,locals:=s.heap.objs.size,globals,cells:=cellsFrom (s.heap.objs.size+1) scope.names cl,qual,func:=none,code:=outer.code,frame:=outer.frame,builtins:=outer.builtins } { s with heap:=h' }) :
  wpAny M A (newFunctionEnv scope globals cl [] qual none .none (some outer)) Q E s:=by
 simp only[newFunctionEnv,Option.isSome_some,if_true];refine Qqx<|wpAny_alloc ?_;refine Qqx<|wpAny_layCells _ (λname kind cells=>by cases hkc:kind == NameKind.cell<;>simp[hkc]) _ _ _ _ ?_;have ok:=cellsFrom_ok scope.names (s.heap.push { cls:=.type "dict",data:=.dict #[] }) (s.heap.objs.size+1) [] ⟨λ_ _ hm=>(nomatch hm),List.Pairwise.nil⟩ (by rw[Qjv];exact Qq2 _);rw[Qjv] at ok;rw[show({ s with heap:=s.heap.push { cls:=.type "dict",data:=.dict #[] } }:Shared).heap.objs.size=s.heap.objs.size+1 from Qjv ..];refine Qqx ?_;rw[List.forIn_nil];refine Qq1<|Qq1<|hQ _ ?_ ?_ ?_
 ·exact(Heap.Ns.new s.heap<|.type "dict").keeps<|pushCells_keeps _ _
 ·exact λb o e=>pushCells_keeps _ _ b o<|Qqj _ e
 ·exact ok
def cxC(X:Cx)(scope:Scope)(N':List Str)(cells:List (Str×Addr))(C:Addr)(s0:Shared)(H0:Hp)(fp:List Addr):Cx:=
 { X with N:=N',s₀:=s0,H₀:=H0,env:=compEnvC scope cells C X.env,outer:=X.stack,stack:=X.stack,ex:=fp,fn:=λx=>decide (scope.names.lookup x=some .cell),pn:=[],xe:=λ_ _=>False }
theorem rP{env:Env}:∀(names:List (Str×NameKind)) x,
  (names.map λ(n,k)=>if (k == NameKind.free&&env.scope.kind == .function&&env.kindOf n == some .cell) then (n,NameKind.cell) else (n,k)).lookup x =
   (names.lookup x).map λk=>if (k == NameKind.free&&env.scope.kind == .function&&env.kindOf x == some .cell) then NameKind.cell else k
 | [],x=>rfl
 | (n,k)::r,x=>by
  show List.lookup x ((if (k == NameKind.free&&env.scope.kind == .function&&env.kindOf n == some .cell)=true then (n,NameKind.cell) else (n,k))::_)=_;cases hx:x == n with
  | true=>
   have e:x=n:=by simpa using hx
   subst e;simp[Qx9,hx,Qk3];split<;>simp[Qx9]
  | false=>
   simp only[Qx9,hx];rw[<-rP r x];split<;>simp[Qx9,hx]
def W5(names:List (Str×NameKind)):List Str->List Str->Bool
 | _,[]=>true
 | [],_::_=>false
 | x'::N',x::N=>((names.lookup x').isNone||(x' == x&&names.lookup x' == some .free))&&W5 names N' N
theorem J3:∀{N' N},W5 names N' N=true->∀i x,i<N.length->N'[i]? = some x->(names.lookup x).isSome=true->N[i]? = some x/\names.lookup x=some .free
 | _,[],_,i,x,h,_,_=>absurd h<|Nat.not_lt_zero _
 | [],_::_,h,_,_,_,_,_=>by cases h
 | x'::N',y::N,h,i,x,hi,e,hs=>by
  unfold W5 at h;have h1:=(Qj9.mp h).1;have h2:=(Qj9.mp h).2;cases i with
  | zero=>
   have e':x'=x:=by simpa using e
   subst e';rcases Bool.or_eq_true_iff.mp h1 with q|q
   ·cases z:names.lookup x' with
    | none=>rw[z] at hs;cases hs
    | some k=>rw[z] at q;cases q
   ·have q1:=(Qj9.mp q).1;have q2:=(Qj9.mp q).2;have e1:x'=y:=by simpa using q1
    have e2:names.lookup x'=some .free:=by simpa using q2
    exact⟨by rw[e1];rfl,e2⟩
  | succ i=>exact J3 h2 i x (by simpa using hi) (by simpa using e) hs
structure nR(X:Cx)(scope:Scope)(N':List Str):Prop where
 kind:scope.kind = .function
 nd:(scope.names.map (·.1)).Nodup
 free:∀x∈scope.names,x.2 = .free->X.env.kindOf x.1=some .cell\/X.env.kindOf x.1=some .free
 chk:W5 scope.names N' X.N=true
 len:X.N.length<=N'.length
def PIf(X:Cx)(ifs:List Expr)(t:TT):Prop:=
 ∀(pins:List (Addr×Obj)) (s:Shared) (σ:St) (H:Hp) (Q:Bool->Hp->Prop),Inv X pins σ H s->t σ H Q->
  wpAny (model X.prog X.w) X.A (forIn ifs true λc r=>if r=true then do let ok <-isTrue c X.env (eval c X.env);pure (ForInStep.yield ok) else pure (ForInStep.yield r)) (TP X pins σ Q) X.xe s
def Zj:PIf X [] (λ_ H Q=>Q true H):=λpins s σ H Q I h=>by
 rw[List.forIn_nil];exact Qq1 ⟨H,I,h⟩
def Zh(h:PT X c t):PIf X [c] t:=λpins s σ H Q I hw=>by
 rw[List.forIn_cons,if_pos rfl];refine Qqx<|Qqx<|fU (h pins s σ H Q I hw) λb s' q=>?_;refine Qq1 ?_;show wpAny _ _ (forIn [] b _) _ _ _;rw[List.forIn_nil];exact Qq1 q
def vK(n:Nat)(σ:St):St:=σ++List.replicate n none
def tLC(n:Nat)(wi:TI)(g:TG)(tc:TT)(te:TE):TE:=λσ H Q=>wi σ H λJ H1=>∀d,H1 d=none->∃W:Nat->Nat->St->Hp->Prop,(∃m,W 0 m (vK (n - σ.length) σ) (upd H1 d (.lst [])))/\∀i m σ' H',W i m σ' H'->
 (J.stop i H'/\Q (.ref d) H')\/(J.go i H'/\∃N:St->Hp->Prop,(∀σ2 H2,N σ2 H2->∃m',m'<m/\W (i+1) m' σ2 H2)/\∀x H2,J.yld i H' x H2->g x σ' H2 λσ3 H3=>tc σ3 H3 λb H4=>
  if b=true then te σ3 H4 λy H5=>∃ys,H5 d=some (.lst ys)/\ys.length<sizeLine/\N σ3 (upd H5 d (.lst (ys++[y]))) else N σ3 H4)
section
variable{prog:Program}{w:World}{A:Around}{R:Result->Shared->Prop}{s:Shared}
def Gx(I:Nat->Shared->Prop)
  (turn:∀n s,I n s->wpAny (model prog w) A (pyNext it) (λr s₁=>match r with
   | none=>R (.ok .next) s₁
   | some v=>wpAny (model prog w) A (letOwnedTupleGo target it v) (λ_ s₁'=>wpAny (model prog w) A (assign target env v) (λ_ s₂=>
     wpAny (model prog w) A (forIn ifs true λc r=>if r=true then do let ok <-isTrue c env (eval c env);pure (ForInStep.yield ok) else pure (ForInStep.yield r)) (λok s₃=>
      if ok=true then wpAny (model prog w) A (eval elt env) (λx s₄=>
       wpAny (model prog w) A (call (.builtin "list.append") [acc,x]) (λ_ s₅=>∃m,m<n/\I m s₅) (λ_ _=>False) s₄) (λ_ _=>False) s₃
      else ∃m,m<n/\I m s₃) (λ_ _=>False) s₂) (λ_ _=>False) s₁') (λ_ _=>False) s₁) (λ_ _=>False) s)
  (n) (h:I n s) :
  codeAny (model prog w) A (.compLoop (.ListComp elt [⟨target,iter,ifs,0⟩] scope pos) 0 it acc env) R s:=by
 refine codeAny_loop rfl I (λn s hI=>?_) n h;show wpAny _ A ((compTurn (.ListComp elt [⟨target,iter,ifs,0⟩] scope pos) 0 it acc env).onRaise<|λx=>do noteFrame x env;theTreesLotGoes x) _ _ s;refine wpAny_noted ?_;rw[compTurn_list];refine Qqx<|wpAny_standAt<|Qqx<|Qw9 (turn n s hI) (λr s₁ h₁=>?_) λ_ _ h'=>h'.elim;cases r with
 | none=>exact Qq1 h₁
 | some v=>
  refine Qqx<|Qw9 h₁ (λ_ s₁' h₁'=>?_) λ_ _ h'=>h'.elim;refine Qqx<|Qw9 h₁' (λ_ s₂ h₂=>Qqx<|Qw9 h₂ (λok s₃ h₃=>?_) λ_ _ h'=>h'.elim) λ_ _ h'=>h'.elim;cases ok with
  | false=>exact Qq1 ⟨rfl,h₃⟩
  | true=>
   exact Qqx<|Qqx<|Qw9 h₃ (λx s₄ h₄=>Qqx<|Qw9 h₄ (λ_ s₅ h₅=>Qq1<|Qq1 ⟨rfl,h₅⟩) λ_ _ h'=>h'.elim) λ_ _ h'=>h'.elim
end
def Wh{σ:St}{fp:List Addr}(ok:nR X scope N')(I:Inv X pins σ H s)(hf:∀b∈fp,By X pins H b)(hlt:∀b∈fp,b<s.heap.objs.size)
  (hn:h'.Ns s.heap.objs.size (λ_=>none)) (hk:∀b o,s.heap.get? b=some o->h'.get? b=some o) (co:CellsOk h' (s.heap.objs.size+1) (cellsFrom (s.heap.objs.size+1) scope.names [])) :
  Inv (cxC X scope N' (cellsFrom (s.heap.objs.size+1) scope.names (nW X.env scope.names [])) s.heap.objs.size s H fp) [] (vK (N'.length - σ.length) σ) H { s with heap:=h' }:=by
 have hfree:∀n,(n,NameKind.free)∈scope.names->∃c,X.env.cells.lookup n=some c:=λn hm=>I.ok.has n<|ok.free _ hm rfl
 -- the cells by name
 have qC:∀x c,(cellsFrom (s.heap.objs.size+1) scope.names<|nW X.env scope.names []).lookup x=some c->
   ((x,c)∈cellsFrom (s.heap.objs.size+1) scope.names []/\(cellsFrom (s.heap.objs.size+1) scope.names []).lookup x=some c)\/((cellsFrom (s.heap.objs.size+1) scope.names []).lookup x=none/\X.env.cells.lookup x=some c):=λx c e=>by
  rw[gf,qt] at e;cases q:(cellsFrom (s.heap.objs.size+1) scope.names []).lookup x with
  | some d=>rw[q] at e;cases e;exact .inl ⟨lookup_mem _ _ _ q,rfl⟩
  | none=>rw[q] at e;exact .inr ⟨rfl,wF _ _ x c hfree (λy d h=>by simp at h) e⟩
 have Ag:∀x c,(x,c)∈cellsFrom (s.heap.objs.size+1) scope.names []->s.heap.objs.size+1<=c:=λx c h=>(co.empty x c h).2;have Vv:∀x c,X.env.cells.lookup x=some c->c<s.heap.objs.size:=λx c h=>let ⟨v,q⟩:=I.cell x c h;q.lt
 have FZ:∀x,(relabel scope X.env).names.lookup x=(scope.names.lookup x).map λk=>if (k == NameKind.free&&X.env.scope.kind == .function&&X.env.kindOf x == some .cell) then NameKind.cell else k:=λx=>rP _ _
 have Jv:∀x,(x,NameKind.cell)∈scope.names->∃c,(cellsFrom (s.heap.objs.size+1) scope.names []).lookup x=some c:=λx hx=>by
  have q:=PySem.W.cellsFrom_some scope.names (s.heap.objs.size+1) []<|.inl<|jo _ _ _ ok.nd hx;exact Qz1.mp q
 have fpC:∀b∈fp,∀x c,(cellsFrom (s.heap.objs.size+1) scope.names<|nW X.env scope.names []).lookup x=some c->c≠b:=λb hb x c e=>by
  rcases qC x c e with ⟨h1,_⟩|⟨_,h2⟩
  ·have h3:=Ag x c h1;have h4:=hlt b hb;rintro rfl;exact absurd (Qwy h4<|Qkk h3)<|Qz2 _
  ·exact(hf b hb).2.2.2.2.1 x c h2
 refine⟨⟨I.ok.mod,ok.kind,I.ok.glob,I.ok.blt,Qq2 _,λx y c h1 h2=>?_,λx hx=>?_,λx c hx e=>?_,I.ok.hd,I.ok.frames,.inl rfl,λb hb=>⟨Qw0<|hlt b hb,λx c e=>fpC b hb x c e⟩,I.bs,Qqy I.ok.XH I.sz,λb o e hb=>?_,λb hb=>?_,I.stack,I.Eu⟩,
  rfl,I.bare,Un.kept hk,⟨_,hn,λi x v e1 e2 e3=>?_⟩,λx c e=>?_,I.hok.fresh<|Qq2 _,λx c e=>?_,λp hp=>absurd (show p∈([]:List (Addr×Obj)) from hp) (by simp),I.hok.kept hk,?_⟩
 ·-- one name a cell
  rcases qC x c h1 with ⟨p1,_⟩|⟨_,p2⟩
  ·rcases qC y c h2 with ⟨q1,_⟩|⟨_,q2⟩
   ·exact name_of_addr co.apart p1 q1
   ·exact absurd (Qwy (Vv y c q2)<|Qkk<|Ag x c p1)<|Qz2 _
  ·rcases qC y c h2 with ⟨q1,_⟩|⟨_,q2⟩
   ·exact absurd (Qwy (Vv x c p2)<|Qkk<|Ag y c q1)<|Qz2 _
   ·exact I.ok.inj x y c p2 q2
 ·-- each cell name has one
  show ∃c,(cellsFrom (s.heap.objs.size+1) scope.names<|nW X.env scope.names []).lookup x=some c;have hx:(relabel scope X.env).names.lookup x=some .cell\/(relabel scope X.env).names.lookup x=some .free:=hx;rw[FZ] at hx;cases q:scope.names.lookup x with
  | none=>rw[q] at hx;rcases hx with hx|hx<;>cases hx
  | some k=>
   rw[q] at hx;rw[gf,qt];cases z:(cellsFrom (s.heap.objs.size+1) scope.names []).lookup x with
   | some d=>exact⟨d,rfl⟩
   | none=>
    have hkf:k = .free:=by
     cases k with
     | free=>rfl
     | cell=>obtain⟨c,hc⟩:=Jv x<|lookup_mem _ _ _ q;rw[hc] at z;cases z
     | _=>rcases hx with hx|hx<;>simp at hx
    subst hkf;exact Qz1.mp<|wD _ _ x<|lookup_mem _ _ _ q
 ·-- its own cells are new
  have hx':scope.names.lookup x=some .cell:=Qw5 hx;rcases qC x c e with ⟨p1,_⟩|⟨p1,_⟩
  ·exact Qkk<|Ag x c p1
  ·obtain⟨d,hd⟩:=Jv x<|lookup_mem _ _ _ hx';rw[hd] at p1;cases p1
 ·rcases(hf b hb).2.2.2.1 with z|z
  ·exact I.ok.Rz b o e z
  ·have h1:=Qq9 e;have h2:=I.ok.XH;exact absurd (Qwy h1<|Qqy h2 z)<|Qz2 _
 ·intro hm;rcases Qqw.mp (I.Lf b hm) with z|z
  ·exact(hf b hb).2.1 z
  ·exact(hf b hb).2.2.1 z
 ·-- the names
  have hiσ:i<σ.length:=by
   by_cases hi:i<σ.length
   ·exact hi
   ·unfold vK at e2;rw[Qx5 (by omega),Qz3] at e2;split at e2<;>cases e2
  have e2':σ[i]? = some (some v):=by
   unfold vK at e2
   rwa [Qxq hiσ] at e2
  have vis:(scope.names.lookup x).isSome=true:=by
   have e3:(relabel scope X.env).names.lookup x=some .local\/(relabel scope X.env).names.lookup x=some .cell\/(relabel scope X.env).names.lookup x=some .free:=e3;rw[FZ] at e3;cases q:scope.names.lookup x with
   | none=>rw[q] at e3;rcases e3 with z|z|z<;>cases z
   | some k=>rfl
  obtain⟨hN,hfr⟩:=J3 ok.chk i x (by rw[<-I.len];exact hiσ) e1 vis;have hm:=lookup_mem _ _ _ hfr;have hkk:=ok.free _ hm rfl;obtain⟨m,hns,hl⟩:=I.loc;obtain⟨u,ru,lk⟩:=hl i x v hN e2'<|hkk.elim (λz=>.inr<|.inl z) λz=>.inr<|.inr z;refine⟨u,ru,.inr ⟨?_,?_⟩⟩
  ·show(relabel scope X.env).names.lookup x=some .cell\/(relabel scope X.env).names.lookup x=some .free;rw[FZ,hfr];by_cases hc:(NameKind.free == NameKind.free&&X.env.scope.kind == .function&&X.env.kindOf x == some .cell)=true
   ·left;rw[Qk3,if_pos hc]
   ·right;rw[Qk3,if_neg hc]
  ·rcases lk with ⟨hl1,_⟩|⟨_,c,hc,hcell⟩
   ·rcases hkk with z|z<;>(rw[z] at hl1;cases hl1)
   ·refine⟨c,?_,hcell.keeps hk⟩;show(cellsFrom (s.heap.objs.size+1) scope.names<|nW X.env scope.names []).lookup x=some c;rw[gf,qt];have hno:(cellsFrom (s.heap.objs.size+1) scope.names []).lookup x=none:=rQ _ _ λd hd=>by
     have h1:=jo _ _ _ ok.nd<|oY _ _ _ _ hd;rw[hfr] at h1;cases h1
    rw[hno];obtain⟨d,hd⟩:=Qz1.mp<|wD scope.names [] x hm;have h2:=wF _ _ x d hfree (λy d h=>by simp at h) hd;rw[hc] at h2;show(nW X.env scope.names []).lookup x=some c;rw[hd,h2]
 ·rcases qC x c e with ⟨p1,_⟩|⟨_,p2⟩
  ·exact⟨_,(co.empty x c p1).1⟩
  ·obtain⟨v,q⟩:=I.cell x c p2;exact⟨v,q.keeps hk⟩
 ·rcases qC x c e with ⟨p1,_⟩|⟨p0,p2⟩
  ·exact .inl<|I.hok.fresh<|Qkk<|Ag x c p1
  ·rcases I.mz x c p2 with z|⟨_,z⟩
   ·exact .inl z
   ·refine .inr ⟨?_,z⟩;show decide (scope.names.lookup x=some .cell)=false;refine Qw6 λq=>?_;obtain⟨d,hd⟩:=Bo (n:=s.heap.objs.size+1) q;rw[p0] at hd;cases hd
 ·show(vK (N'.length - σ.length) σ).length=N'.length;unfold vK;rw[Qqq,Qzx];have h1:=ok.len;have h2:=I.len;omega
abbrev kj(X:Cx)(scope:Scope)(N':List Str)(X':Cx):Prop:=
 ∃(cells:List (Str×Addr)) (C:Addr) (s0:Shared) (H0:{ H:Hp // ∀b qs,X.H₀ b=some (.tab qs)->H b=some (.tab qs) }) (fp:List Addr),X'=cxC X scope N' cells C s0 H0.1 fp
def Ea
  (ok:nR X scope N') (hc:X.calm=true)
  (bg:∀X',kj X scope N' X'->PG X' tg g) (bc:∀X',kj X scope N' X'->PIf X' ifs tc) (be:∀X',kj X scope N' X'->PE X' elt te)
  {σ:St} {Q:VK} (I2:Inv X pins σ H2 s2) (T:Turn X.prog X.w X.K tg J fp it tn) (st2:tn 0 s2.heap) (f2:∀b∈fp,By X pins H2 b)
  (q:∀d,H2 d=none->∃W:Nat->Nat->St->Hp->Prop,(∃m,W 0 m (vK (N'.length - σ.length) σ) (upd H2 d (.lst [])))/\∀i m σ' H',W i m σ' H'->
   (J.stop i H'/\Q (.ref d) H')\/(J.go i H'/\∃N:St->Hp->Prop,(∀σ2 H2,N σ2 H2->∃m',m'<m/\W (i+1) m' σ2 H2)/\∀x H2,J.yld i H' x H2->g x σ' H2 λσ3 H3=>tc σ3 H3 λb H4=>
    if b=true then te σ3 H4 λy H5=>∃ys,H5 d=some (.lst ys)/\ys.length<sizeLine/\N σ3 (upd H5 d (.lst (ys++[y]))) else N σ3 H4))
  (fin:∀d C m s' H',Inv X pins σ H' s'->Q (.ref d) H'->s'.heap.Ns C m->H' C=none->C≠X.env.locals->X.s₀.heap.objs.size<=C->(∀x c,X.env.cells.lookup x=some c->c≠C)->(∀p∈X.pn++pins,p.1≠C)->
   compPost (model X.prog X.w) X.A X.xe use QQ (.ref d) C (.ok .next) s') :
  wpAny (model X.prog X.w) X.A (newList []) (λacc s₃=>wpAny (model X.prog X.w) X.A (newFunctionEnv scope X.env.globals (nW X.env scope.names []) [] X.env.qual none .none (some X.env)) (λcenv s₄=>
   codeAny (model X.prog X.w) X.A (.compStart (.ListComp elt [⟨tg,iter,ifs,0⟩] scope pos) 0 (.ref it) acc { cenv with scope:=relabel scope X.env }) (compPost (model X.prog X.w) X.A X.xe use QQ acc cenv.locals) s₄) X.xe s₃) X.xe s2:=by
 have hd2:H2 s2.heap.objs.size=none:=I2.fresh;refine Qx7<|Jd λh' hns hkeep hco=>?_
 -- the state behind the list
 obtain⟨W,⟨m0,w0⟩,turn⟩:=q s2.heap.objs.size hd2;have I3:Inv X pins σ (upd H2 s2.heap.objs.size<|.lst []) { s2 with heap:=s2.heap.push { cls:=.type "list",data:=.seq ([]:List Value).toArray } }:=I2.aeE (t':=s2.toks) .nil<|Qzk _;have lt2:∀b∈fp,b<s2.heap.objs.size:=λb hb=>by
  obtain⟨o,e,_⟩:=T.obj _ _ st2 b hb;exact Qq9 e
 have f3:∀b∈fp,By X pins (upd H2 s2.heap.objs.size<|.lst []) b:=λb hb=>by
  refine⟨?_,(f2 b hb).2⟩;rw[bH (Qw0<|lt2 b hb)];exact(f2 b hb).1
 have lt3:∀b∈fp,b<({ s2 with heap:=s2.heap.push { cls:=.type "list",data:=.seq ([]:List Value).toArray } }:Shared).heap.objs.size:=λb hb=>by
  show b<(s2.heap.push _).objs.size;rw[Qjv];exact Qjw<|lt2 b hb
 have st3:tn 0 h':=T.keep _ _ _ st2 λb hb o e=>hkeep b o<|Qqj _ e;have I4:=Wh (fp:=fp) ok I3 f3 lt3 hns hkeep hco;generalize hs3:({ s2 with heap:=s2.heap.push { cls:=.type "list",data:=.seq ([]:List Value).toArray } }:Shared)=s3 at *;have sz3:s3.heap.objs.size=s2.heap.objs.size+1:=by rw[<-hs3];exact Qjv ..
 generalize hX':cxC X scope N' (cellsFrom (s3.heap.objs.size+1) scope.names<|nW X.env scope.names []) s3.heap.objs.size s3 (upd H2 s2.heap.objs.size<|.lst []) fp=X' at I4;have at':kj X scope N' X':=⟨_,_,_,⟨_,I3.base.tabs⟩,_,hX'.symm⟩;have hg:=bg X' at';have hif:=bc X' at';have he:=be X' at';have eP:X'.prog=X.prog:=by rw[<-hX'];rfl
 have eW:X'.w=X.w:=by rw[<-hX'];rfl
 have eK:X'.K=X.K:=by rw[<-hX'];rfl
 have eA:X'.A=X.A:=by rw[<-hX'];rfl
 have eC:X'.calm=true:=by rw[<-hX'];exact hc
 have eX:X'.xe=λ_ _=>False:=by rw[<-hX'];rfl
 have ePn:X'.pn=[]:=by rw[<-hX'];rfl
 have eEx:X'.ex=fp:=by rw[<-hX'];rfl
 have eL:X'.env.locals=s3.heap.objs.size:=by rw[<-hX'];rfl
 have eFs:X'.fs=frs X.stack:=by rw[<-hX'];rfl
 have ajO:compEnvC scope (cellsFrom (s3.heap.objs.size+1) scope.names<|nW X.env scope.names []) s3.heap.objs.size X.env=X'.env:=by rw[<-hX'];rfl
 have eS0:X'.s₀=s3:=by rw[<-hX'];rfl
 have eH0:X'.H₀=upd H2 s2.heap.objs.size (.lst []):=by rw[<-hX'];rfl
 -- what is true of the iterator's objects in the block
 have stat:∀{H'},(∀b∈fp,H' b=none)->∀b∈fp,By X' [] H' b:=λ{H'} hn b hb=>by
  refine⟨hn b hb,?_,?_,.inl (by rw[eEx];exact hb),λx c e=>?_,λp hp=>?_⟩
  ·rw[eL];exact Qw0<|lt3 b hb
  ·have:=I4.ok.R8 b (by rw[eEx];exact hb);exact this
  ·exact(I4.ok.exf b (by rw[eEx];exact hb)).2 x c e
  ·rw[ePn] at hp;exact absurd hp (by simp)
 -- the outer context again
 have back:∀σ' H' s',Inv X' [] σ' H' s'->Inv X pins σ H' s':=λσ' H' s' J'=>by
  have hb:=J'.base;rw[eFs,eEx,eS0,eH0] at hb;have hos:=J'.os;rw[eS0] at hos;have hok:=J'.hok;rw[eP,eW] at hok;exact I3.call' (ch:=fp) hos hb hok J'.bare λb hbm=>⟨(f3 b hbm).2.2.2.1,(f3 b hbm).2.1,(f3 b hbm).2.2.2.2.1,(f3 b hbm).2.2.2.2.2⟩
 have loop:∀s4,s4 = { s3 with heap:=h' }->codeAny (model X.prog X.w) X.A (.compLoop (.ListComp elt [⟨tg,iter,ifs,0⟩] scope pos) 0 (.ref it) (.ref s2.heap.objs.size) X'.env) (compPost (model X.prog X.w) X.A X.xe use QQ (.ref s2.heap.objs.size) s3.heap.objs.size) s4:=by
  rintro s4 rfl;refine Gx (λn s'=>∃i σ' H',Inv X' [] σ' H' s'/\tn i s'.heap/\(∀b∈fp,H' b=none)/\W i n σ' H') ?_ m0 ⟨0,_,_,I4,st3,λb hb=>(f3 b hb).1,w0⟩;rintro n s5 ⟨i,σ5,H5,I5,st5,fr5,w5⟩;rcases turn i n σ5 H5 w5 with ⟨stop,qn⟩|⟨go,N,hN,step⟩
  ·have td:=T.done X' eP eW eK eC i [] s5 σ5 H5 (λ_ _=>False) I5 (stat fr5) st5 stop;rw[eA] at td;refine fU td λr s6 ⟨hr,I6⟩=>?_;subst hr;obtain⟨mC,hnC,_⟩:=id I6.loc;rw[eL] at hnC;have lc:X.env.locals<s3.heap.objs.size:=by
    have:=I3.lt;exact this
   refine fin _ _ mC s6 H5 (back _ _ _ I6) qn hnC ?_ (Nat.ne_of_gt lc) I3.sz (λx c e=>?_) (λp hp=>?_)
   ·have:=I6.free;rw[eL] at this;exact this
   ·obtain⟨v,z⟩:=I3.cell x c e;exact Qw0 z.lt
   ·exact Qw0 (Qq9 (I3.pin p hp).1)
  ·have ti:=T.item X' eP eW eK eC i [] s5 σ5 H5 (λ_ _=>False) I5 (stat fr5) st5 go;rw[eA] at ti;refine fU ti λr s6 ⟨u,hr,h6⟩=>?_;subst hr;refine fU h6 λ_ s7 ⟨x,H7,I7,r7,y7,st7,fr7⟩=>?_;have I7':=I7.pinned (stat fr7) (T.obj _ _ st7);have hg':=hg _ s7 σ5 H7 x u _ I7' r7 (step x H7 y7);rw[eP,eW,eA,eX] at hg';refine fU hg' λ_ s8 ⟨σ8,H8,I8,q8⟩=>?_;have ahF:=hif _ s8 σ8 H8 _ I8 q8;rw[eP,eW,eA,eX] at ahF;refine fU ahF λb s9 ⟨H9,I9,q9⟩=>?_;have again:∀{σz} {Hz} {sz},Inv X' ([]++Af fp s7.heap) σz Hz sz->N σz Hz->∃m,m<n/\∃i σ' H',Inv X' [] σ' H' sz/\tn i sz.heap/\(∀b∈fp,H' b=none)/\W i m σ' H':=λ{σz Hz sz} Iz nz=>by
    obtain⟨m',hm,wz⟩:=hN σz Hz nz;refine⟨m',hm,i+1,σz,Hz,Iz.vh,T.keep _ _ _ st7 λb hb o e=>(Iz.pin (b,o) (Qx0 _ (Qx0 _ (qm hb e)))).1,λb hb=>?_,wz⟩;obtain⟨o,e,d⟩:=T.obj _ _ st7 b hb;exact(Iz.pin (b,o) (Qx0 _ (Qx0 _ (qm hb e)))).2.1
   cases b with
   | false=>
    rw[if_neg Qw3] at q9 ⊢;exact again I9 q9
   | true=>
    rw[if_pos rfl] at q9 ⊢;have he':=he _ s9 σ8 H9 _ I9 q9;rw[eP,eW,eA,eX] at he';refine fU he' λy sa ⟨yv,Ha,Ia,ra,ys,hys,hlen,qa⟩=>?_;have ap:=Dy (X:=X') _ sa σ8 Ha (.ref s2.heap.objs.size) [yv] (.ref s2.heap.objs.size) [y] (λv H'=>v = .non/\N σ8 H') Ia rfl (.cons ra .nil) ⟨_,ys,yv,rfl,rfl,hys,hlen,rfl,qa⟩;rw[eP,eW,eA,eX] at ap;refine fU ap λ_ sb ⟨vb,Hb,Ib,rb,_,nb⟩=>?_;exact again Ib nb
 show codeAny _ _ (.compStart _ 0 (.ref it) (.ref s2.heap.objs.size) (compEnvC scope (cellsFrom (s3.heap.objs.size+1) scope.names (nW X.env scope.names [])) s3.heap.objs.size X.env)) (compPost (model X.prog X.w) X.A X.xe use QQ (.ref s2.heap.objs.size) s3.heap.objs.size) _;rw[ajO];exact codeAny_compStart_list (loop _ rfl) (T.self X.A 0 _ _ _ st3 (loop _ rfl))
def ag2
  (ok:nR X scope N') (hc:X.calm=true) (hi:PI X tg iter wi)
  (bg:∀X',kj X scope N' X'->PG X' tg g) (bc:∀X',kj X scope N' X'->PIf X' ifs tc) (be:∀X',kj X scope N' X'->PE X' elt te)
  (hs:∀x,foldedSetIterable iter X.env x=pure x:=by intro _;rfl) :
  PE X (.ListComp elt [⟨tg,iter,ifs,0⟩] scope pos) (tLC N'.length wi g tc te):=by
 intro pins s σ H Q I h;rw[eval_ListComp];have hfree:∀n,(n,NameKind.free)∈scope.names->∃c,X.env.cells.lookup n=some c:=λn hm=>I.ok.has n<|ok.free _ hm rfl;refine wpAny_comprehension_free rfl hs (Bm hfree) ok.kind (λx hx hl=>jo _ _ _ ok.nd (by rw[<-hl];exact hx)) ?_;refine fU (hi pins s σ H _ I h) λv s1 h1=>fU h1 λitv s2 h2=>?_;obtain⟨it,fp,tn,J,H2,e,I2,T,st2,f2,q⟩:=h2;subst e;refine Ea ok hc bg bc be I2 T st2 f2 q λd C m s' H' I' hq hn hC hL h0 hcell hpin=>?_;refine⟨m,hn,λh' hs'=>?_⟩;have I'':Inv X pins σ H' { s' with heap:=h',toks:=s'.toks }:=I'.turned (λb o hb e=>(hs'.2 b hb).trans e) hC hL (.inr h0) hcell hpin;exact⟨.ref d,H',I'',rfl,hq⟩
def Vf{pos spos py:Pos}
  (ok:nR X scope N') (hc:X.calm=true) (hi:PI X tg iter wi)
  (bg:∀X',kj X scope N' X'->PG X' tg g) (bc:∀X',kj X scope N' X'->PIf X' ifs tc) (be:∀X',kj X scope N' X'->PE X' elt te)
  (hN:X.N.Nodup) (hy:X.N[i]? = some y) (hx:Loc X.env.scope y)
  (hsw:swapsWith (.ListComp elt [⟨tg,iter,ifs,0⟩] scope pos) (some (.Name y py)) spos.line X.env=pure true)
  (hf:X.fn y=true\/X.env.scope.names.lookup y=some .local:=by first|exact .inl rfl|exact .inr rfl|assumption)
  (hs:∀x,foldedSetIterable iter X.env x=pure x:=by intro _;rfl) :
  PS X (.Assign [.Name y py] (.ListComp elt [⟨tg,iter,ifs,0⟩] scope pos) spos) (QH (tLC N'.length wi g tc te) (Ba i)):=by
 intro pins s σ H D I h;rw[exec_Assign_Name_used _ _ _ _ hsw];refine Qqx<|wpAny_standAt<|Qqx ?_;have hfree:∀n,(n,NameKind.free)∈scope.names->∃c,X.env.cells.lookup n=some c:=λn hm=>I.ok.has n<|ok.free _ hm rfl;show wpAny _ X.A (do let _ <-comprehension (.ListComp elt [⟨tg,iter,ifs,0⟩] scope pos) scope X.env _ (newList []) false (eval iter X.env) (some<|assign (.Name y py) X.env)) _ _ s;refine Qqx<|Qw9 (wpAny_comprehension_free (Q:=λ_ s'=>SP X pins D .next s') rfl hs (Bm hfree) ok.kind (λx hx hl=>jo _ _ _ ok.nd (by rw[<-hl];exact hx)) ?_) (λ_ s' hq=>Qq1<|Qq1 hq) λ_ _ e=>e;refine fU (hi pins s σ H _ I h) λv s1 h1=>fU h1 λitv s2 h2=>?_;obtain⟨it,fp,tn,J,H2,e,I2,T,st2,f2,q⟩:=h2;subst e;refine Ea (Q:=λx H1=>Ba i x σ H1 D.nx) ok hc bg bc be I2 T st2 f2 q λd C m s' H' I' hq hn hC hL h0 hcell hpin=>?_;refine wpAny_assign_Name<|Dk (v:=.ref d) I' hN hy hx rfl (λs'' I'' sb=>?_) hf;obtain⟨a,hsb,ha⟩:=sb;have haC:C≠a:=by
  rcases ha with z|z
  ·rw[z];exact hL
  ·exact(hcell y a z).symm
 refine⟨m,hn.sameBut hsb haC,λh' hs'=>?_⟩;have I3:Inv X pins (σ.set i<|some<|.ref d) H' { s'' with heap:=h',toks:=s''.toks }:=I''.turned (it:=C) (λb o hb e=>(hs'.2 b hb).trans e) hC hL (.inr h0) hcell hpin;exact⟨_,H',I3,hq⟩
end L2
namespace Ev
open PySem PySem.Spec PyProof.Rows L2
inductive D where
 | non
 | bl (b:Bool)
 | int (i:Int)
 | str (x:List Nat)
 | tup (xs:List D)
 | lst (xs:List D)
 | arr (xs:List D)
 | dct (kvs:List (D×D))
 | mR (kvs:List (D×D))
 | clo (st:Stmt) (ds:List D)
 deriving Inhabited
abbrev Fg:=PySem.W.Frag
def strOf(x:List Nat):Str:=⟨x.toArray⟩
def zj:D->Option Key
 | .int i=>some (.inl i)
 | .str x=>some (.inr (strOf x))
 | _=>none
mutual
def nkD:D->Option NK
 | .int i=>some (.num i)
 | .bl b=>some (.num (if b then 1 else 0))
 | .str x=>some (.txt (strOf x))
 | .tup xs=>(ahn xs).map .tup
 | _=>none
def ahn:List D->Option (List NK)
 | []=>some []
 | d::ds=>match nkD d,ahn ds with
  | some k,some ks=>some (k::ks)
  | _,_=>none
end
def defName(s:Stmt):Str:=match s with
 | .FunctionDef n _ _ _ _ _ _ _ _ _=>n
 | _=>""
def freeOf(s:Stmt):List Str:=(((aL s).names.filter (·.2 == .free)).map (·.1)).reverse
def afP(F:Hp)(c:Addr)(v:V):Prop:=∃(o:Obj) (u:HO) (w:Value),F c=some (.rZ o u)/\o.data = .cell (some w)/\RelV v w
def zM(F:Hp):List (Str×Addr)->List V->Prop
 | [],vs=>vs=[]
 | (_,c)::r,vs=>∃v vs',vs=v::vs'/\afP F c v/\zM F r vs'
def afO(F:Hp)(c:Addr)(q:Str):Prop:=∃(o:Obj) (u:HO) (vs:Array Value) (t:Tok),F c=some (.rZ o u)/\o.data = .fields vs/\vs[1]? = some (.str q t)
def ajX(F:Hp)(st:Stmt)(a:Addr)(vs:List V):Prop:=∃(u:HO) (q:Str) (cl:List (Str×Addr)) (doc pm ctv:Value) (c:Addr),
 F a=some (.rZ (PySem.W.fnMade (defName st) q (gw st) (cO st) (aL st) cl doc pm c ctv) u)/\afO F c q/\cl.map (·.1)=freeOf st/\(cl.map (·.2)).Nodup/\zM F cl vs
theorem aR.cells(e:aR F F'):∀{cl} {vs},zM F cl vs->zM F' cl vs
 | [],_,h=>h
 | (_,c)::r,_,⟨v,vs',h0,⟨o,u,w,h1,h2⟩,h3⟩=>⟨v,vs',h0,⟨o,u,w,e _ _ h1,h2⟩,aR.cells e h3⟩
def Mark(K:Fg)(st:Stmt)(a:Addr):Prop:=∃(n:Str) (p:Pos) (oc:Value) (od:Option Addr) (fd:FuncData) (sl:Array (Option Value)),st = .Global [n] p/\PySem.W.nsIn K mainGlobals n=some (some (.ref a))/\K.lookup a=some ⟨oc,od,.func fd,sl⟩
def ExcAt(K:Fg)(F:Hp)(st:Stmt)(a:Addr)(vs:List V):Prop:=∃(n:Str) (r:List Str) (p:Pos) (o:Obj) (u:HO) (c:Addr) (fs:Array Value),st = .Nonlocal (n::r) p/\PySem.W.nsIn K mainGlobals n=some (some (.ref c))/\F a=some (.rZ o u)/\o.cls = .ref c/\o.data = .fields fs/\
 (r=[]/\vs=[]\/∃(x:Str) (v:V) (w:Value) (dx:Addr) (od:Obj) (ud:HO) (m:Str->Option Value),r=[x]/\vs=[v]/\RelV v w/\o.dict=some dx/\F dx=some (.rZ od ud)/\(∀h:Heap,h.get? dx=some od->h.Ns dx m)/\m x=some w)
def aR.excAt{K:Fg}{st:Stmt}(e:aR F F')(h:ExcAt K F st a vs):ExcAt K F' st a vs:=by
 obtain⟨n,r,p,o,u,c,fs,h1,h2,h3,h4,h5,h6⟩:=h;refine⟨n,r,p,o,u,c,fs,h1,h2,e _ _ h3,h4,h5,?_⟩;rcases h6 with h6|⟨x,v,w,dx,od,ud,m,q1,q2,q3,q4,q5,q6⟩
 ·exact .inl h6
 ·exact .inr ⟨x,v,w,dx,od,ud,m,q1,q2,q3,q4,e _ _ q5,q6⟩
def ajr(st:Stmt):Bool:=match st with
 | .Global _ _=>true
 | .Nonlocal _ _=>true
 | _=>false
def Clo(K:Fg)(F:Hp)(st:Stmt)(a:Addr)(vs:List V):Prop:=ajX F st a vs/\ajr st=false\/Mark K st a\/ExcAt K F st a vs
def aR.clo{K:Fg}{st:Stmt}(e:aR F F')(h:Clo K F st a vs):Clo K F' st a vs:=by
 rcases h with ⟨h,hg⟩|h|h
 rotate_left
 ·exact .inr<|.inl h
 ·exact .inr<|.inr<|aR.excAt e h
 refine .inl ⟨?_,hg⟩;obtain⟨u,q,cl,doc,pm,ctv,c,h1,⟨o,u2,ws,t,h2,h3⟩,h4,h5,h6⟩:=h;exact⟨u,q,cl,doc,pm,ctv,c,e _ _ h1,⟨o,u2,ws,t,e _ _ h2,h3⟩,h4,h5,aR.cells e h6⟩
mutual
def Rep(K:Fg)(F:Hp):D->V->Prop
 | .non,v=>v = .non
 | .bl b,v=>v = .bl b
 | .int i,v=>v = .int i
 | .str x,v=>v = .str (strOf x)/\x.length<=sizeLine
 | .tup xs,v=>xs.length<=sizeLine/\∃a vs,v = .ref a/\qO K F a vs/\bT K F xs vs
 | .lst xs,v=>xs.length<=sizeLine/\∃a vs,v = .ref a/\F a=some (.lst vs)/\bT K F xs vs
 | .arr xs,v=>xs.length<=sizeLine/\∃a vs,v = .ref a/\lG K F a vs/\bT K F xs vs
 | .dct kvs,v=>kvs.length<=sizeLine/\∃a ks,v = .ref a/\Rd F a (.dK ks)/\dU K F kvs ks
 | .mR kvs,v=>kvs.length<=sizeLine/\∃a ks,v = .ref a/\Rd F a (.dN ks)/\qP K F kvs ks
 | .clo st ds,v=>∃a vs,v = .ref a/\Clo K F st a vs/\bT K F ds vs
def bT(K:Fg)(F:Hp):List D->List V->Prop
 | [],vs=>vs=[]
 | d::ds,vs=>∃v r,vs=v::r/\Rep K F d v/\bT K F ds r
def dU(K:Fg)(F:Hp):List (D×D)->List (Key×V)->Prop
 | [],vs=>vs=[]
 | (k,d)::ds,vs=>∃q v r,vs=(q,v)::r/\zj k=some q/\Rep K F d v/\dU K F ds r
def qP(K:Fg)(F:Hp):List (D×D)->List (NK×V×V)->Prop
 | [],vs=>vs=[]
 | (k,d)::ds,vs=>∃q u v r,vs=(q,u,v)::r/\nkD k=some q/\q.dep<=8/\Rep K F k u/\Rep K F d v/\qP K F ds r
end
def aR.rd(e:aR F F')(h:Rd F a u):Rd F' a u:=by
 rcases h with h|⟨o,h⟩
 ·exact .inl<|e _ _ h
 ·exact .inr ⟨o,e _ _ h⟩
def aR.tupK{K:Fg}(e:aR F F')(h:qO K F a xs):qO K F' a xs:=by
 rcases h with h|h
 ·exact .inl<|aR.rd e h
 ·exact .inr h
mutual
theorem Rep.mono{K:Fg}{F F':Hp}(e:aR F F'):∀(d:D) (v:V),Rep K F d v->Rep K F' d v
 | .non,_,h=>h
 | .bl _,_,h=>h
 | .int _,_,h=>h
 | .str _,_,h=>h
 | .tup xs,v,h=>by
  obtain⟨z,a,vs,rfl,h1,h2⟩:=h;exact⟨z,a,vs,rfl,aR.tupK e h1,bT.mono e xs vs h2⟩
 | .lst xs,v,h=>by
  obtain⟨z,a,vs,rfl,h1,h2⟩:=h;exact⟨z,a,vs,rfl,e _ _ h1,bT.mono e xs vs h2⟩
 | .arr xs,v,h=>by
  obtain⟨z,a,vs,rfl,h1,h2⟩:=h;exact⟨z,a,vs,rfl,e.seq h1,bT.mono e xs vs h2⟩
 | .dct kvs,v,h=>by
  obtain⟨z,a,ks,rfl,h1,h2⟩:=h;exact⟨z,a,ks,rfl,aR.rd e h1,dU.mono e kvs ks h2⟩
 | .mR kvs,v,h=>by
  obtain⟨z,a,ks,rfl,h1,h2⟩:=h;exact⟨z,a,ks,rfl,aR.rd e h1,qP.mono e kvs ks h2⟩
 | .clo st ds,v,h=>by
  obtain⟨a,vs,rfl,h1,h2⟩:=h;exact⟨a,vs,rfl,aR.clo e h1,bT.mono e ds vs h2⟩
theorem bT.mono{K:Fg}{F F':Hp}(e:aR F F'):∀(ds:List D) (vs:List V),bT K F ds vs->bT K F' ds vs
 | [],_,h=>h
 | d::ds,vs,h=>by
  obtain⟨v,r,rfl,h1,h2⟩:=h;exact⟨v,r,rfl,Rep.mono e d v h1,bT.mono e ds r h2⟩
theorem dU.mono{K:Fg}{F F':Hp}(e:aR F F'):∀(ds:List (D×D)) (vs:List (Key×V)),dU K F ds vs->dU K F' ds vs
 | [],_,h=>h
 | (k,d)::ds,vs,h=>by
  obtain⟨q,v,r,rfl,h0,h1,h2⟩:=h;exact⟨q,v,r,rfl,h0,Rep.mono e d v h1,dU.mono e ds r h2⟩
theorem qP.mono{K:Fg}{F F':Hp}(e:aR F F'):∀(ds:List (D×D)) (vs:List (NK×V×V)),qP K F ds vs->qP K F' ds vs
 | [],_,h=>h
 | (k,d)::ds,vs,h=>by
  obtain⟨q,u,v,r,rfl,h0,h3,h4,h1,h2⟩:=h;exact⟨q,u,v,r,rfl,h0,h3,Rep.mono e k u h4,Rep.mono e d v h1,qP.mono e ds r h2⟩
end
theorem bT.length{K:Fg}:∀{ds} {vs},bT K F ds vs->vs.length=ds.length
 | [],_,h=>by cases h;rfl
 | d::ds,vs,h=>by
  obtain⟨v,r,rfl,_,h2⟩:=h;rw[Qqk,Qqk,h2.length]
theorem bT.get{K:Fg}:∀{ds} {vs} {i:Nat} {d},bT K F ds vs->ds[i]? = some d->∃v,vs[i]? = some v/\Rep K F d v
 | [],_,_,_,_,e=>by simp at e
 | c::ds,vs,i,d,h,e=>by
  obtain⟨v,r,rfl,h1,h2⟩:=h;cases i with
  | zero=>simp at e;subst e;exact⟨v,rfl,h1⟩
  | succ i=>obtain⟨u,e1,e2⟩:=bT.get h2 (by simpa using e);exact⟨u,by simpa using e1,e2⟩
theorem bT.append{K:Fg}:∀{ds es} {vs ws},bT K F ds vs->bT K F es ws->bT K F (ds++es) (vs++ws)
 | [],es,vs,ws,h,g=>by cases h;exact g
 | d::ds,es,vs,ws,h,g=>by
  obtain⟨v,r,rfl,h1,h2⟩:=h;exact⟨v,r++ws,rfl,h1,bT.append h2 g⟩
theorem bT.drop{K:Fg}:∀n {ds} {vs},bT K F ds vs->bT K F (ds.drop n) (vs.drop n)
 | 0,_,_,h=>h
 | _+1,[],_,h=>by cases h;exact rfl
 | n+1,d::ds,vs,h=>by
  obtain⟨v,r,rfl,_,h2⟩:=h;exact bT.drop n h2
theorem bT.take{K:Fg}:∀n {ds} {vs},bT K F ds vs->bT K F (ds.take n) (vs.take n)
 | 0,_,_,_=>rfl
 | _+1,[],_,h=>by cases h;exact rfl
 | n+1,d::ds,vs,h=>by
  obtain⟨v,r,rfl,h1,h2⟩:=h;exact⟨v,r.take n,rfl,h1,bT.take n h2⟩
theorem bT.set{K:Fg}(hd:Rep K F d v):∀i {ds} {vs},bT K F ds vs->bT K F (ds.set i d) (vs.set i v)
 | _,[],_,h=>by cases h;exact rfl
 | 0,c::ds,vs,h=>by
  obtain⟨u,r,rfl,_,h2⟩:=h;exact⟨v,r,rfl,hd,h2⟩
 | i+1,c::ds,vs,h=>by
  obtain⟨u,r,rfl,h1,h2⟩:=h;exact⟨u,r.set i v,rfl,h1,bT.set hd i h2⟩
def bT.one{K:Fg}(h:Rep K F d v):bT K F [d] [v]:=⟨v,[],rfl,h,rfl⟩
abbrev Env:=List (Option (Bool×D))
inductive R (α:Type) where
 | ok (a:α) (env:Env)
 | stuck
abbrev Ev:=Env->R D
abbrev gh:=Env->R Bool
abbrev dq:=Env->R (List D)
structure Cfg where
 K:Fg
 fx:Nat->Option Addr
def kh(K:Fg)(F H:Hp):D->Addr->Prop
 | .lst xs,a=>xs.length<=sizeLine/\∃vs,H a=some (.lst vs)/\bT K F xs vs
 | .dct kvs,a=>kvs.length<=sizeLine/\∃ks,H a=some (.dK ks)/\dU K F kvs ks
 | .mR kvs,a=>kvs.length<=sizeLine/\∃ks,H a=some (.dN ks)/\qP K F kvs ks
 | _,_=>False
def kh.mono{K:Fg}(e:aR F F')(k:H' a=H a)(h:kh K F H d a):kh K F' H' d a:=by
 cases d with
 | lst xs=>obtain⟨z,vs,h1,h2⟩:=h;exact⟨z,vs,k.trans h1,bT.mono e _ _ h2⟩
 | dct kvs=>obtain⟨z,ks,h1,h2⟩:=h;exact⟨z,ks,k.trans h1,dU.mono e _ _ h2⟩
 | mR kvs=>obtain⟨z,ks,h1,h2⟩:=h;exact⟨z,ks,k.trans h1,qP.mono e _ _ h2⟩
 | _=>exact h
theorem kh.some{K:Fg}(h:kh K F H d a):∃o,H a=some o:=by
 cases d with
 | lst xs=>obtain⟨z,vs,h1,h2⟩:=h;exact⟨_,h1⟩
 | dct kvs=>obtain⟨z,ks,h1,h2⟩:=h;exact⟨_,h1⟩
 | mR kvs=>obtain⟨z,ks,h1,h2⟩:=h;exact⟨_,h1⟩
 | _=>exact h.elim
def jg(K:Fg)(F H:Hp)(d:D)(v:V):Prop:=Rep K F d v\/∃a,v = .ref a/\kh K F H d a
def jg.rep{K:Fg}(s:aR F H)(h:jg K F H d v):Rep K H d v:=by
 rcases h with h|⟨a,rfl,h⟩
 ·exact Rep.mono s d v h
 ·cases d with
  | lst xs=>obtain⟨z,vs,h1,h2⟩:=h;exact⟨z,a,vs,rfl,h1,bT.mono s _ _ h2⟩
  | dct kvs=>obtain⟨z,ks,h1,h2⟩:=h;exact⟨z,a,ks,rfl,.inl h1,dU.mono s _ _ h2⟩
  | mR kvs=>obtain⟨z,ks,h1,h2⟩:=h;exact⟨z,a,ks,rfl,.inl h1,qP.mono s _ _ h2⟩
  | _=>exact h.elim
def jg.lst{K:Fg}(s:aR F H)(h:jg K F H (.lst xs) v):xs.length<=sizeLine/\∃a vs,v = .ref a/\H a=some (.lst vs)/\bT K F xs vs:=by
 rcases h with ⟨z,a,vs,rfl,h1,h2⟩|⟨a,rfl,z,vs,h1,h2⟩
 ·exact⟨z,a,vs,rfl,s _ _ h1,h2⟩
 ·exact⟨z,a,vs,rfl,h1,h2⟩
def jg.arr{K:Fg}(s:aR F H)(h:jg K F H (.arr xs) v):xs.length<=sizeLine/\∃a vs,v = .ref a/\lG K H a vs/\bT K F xs vs:=by
 rcases h with ⟨z,a,vs,rfl,h1,h2⟩|⟨a,rfl,h⟩
 ·exact⟨z,a,vs,rfl,s.seq h1,h2⟩
 ·exact h.elim
def jg.tup{K:Fg}(s:aR F H)(h:jg K F H (.tup xs) v):xs.length<=sizeLine/\∃a vs,v = .ref a/\qO K H a vs/\qO K F a vs/\bT K F xs vs:=by
 rcases h with ⟨z,a,vs,rfl,h1,h2⟩|⟨a,rfl,h⟩
 ·exact⟨z,a,vs,rfl,aR.tupK s h1,h1,h2⟩
 ·exact h.elim
def jg.int{K:Fg}(h:jg K F H (.int i) v):v = .int i:=by
 rcases h with h|⟨a,rfl,h⟩
 ·exact h
 ·exact h.elim
def jg.bl{K:Fg}(h:jg K F H (.bl i) v):v = .bl i:=by
 rcases h with h|⟨a,rfl,h⟩
 ·exact h
 ·exact h.elim
def jg.non{K:Fg}(h:jg K F H .non v):v = .non:=by
 rcases h with h|⟨a,rfl,h⟩
 ·exact h
 ·exact h.elim
def jg.str{K:Fg}(h:jg K F H (.str x) v):v = .str (strOf x)/\x.length<=sizeLine:=by
 rcases h with h|⟨a,rfl,h⟩
 ·exact h
 ·exact h.elim
structure Rel(C:Cfg)(Pr F:Hp)(env:Env)(σ:L2.St)(H:Hp):Prop where
 pr:aR Pr H
 fr:aR F H
 len:env.length=σ.length
 val:∀(i:Nat) (d:D),env[i]? = some (some (false,d))->∃v,σ[i]? = some (some v)/\Rep C.K F d v
 own:∀(i:Nat) (d:D),env[i]? = some (some (true,d))->∃a,σ[i]? = some (some (V.ref a))/\kh C.K F H d a/\F a=none/\Pr a=none
 apart:∀(i j:Nat) (d e:D) (a:Addr),env[i]? = some (some (true,d))->env[j]? = some (some (true,e))->σ[i]? = some (some (V.ref a))->σ[j]? = some (some (V.ref a))->i=j
 dj:∀b o,F b=some o->Pr b=none
 fix:∀i a,C.fx i=some a->σ[i]? = some (some (V.ref a))
def nu(h:H a=none):aR H (upd H a o):=λb u e=>by
 rw[bH (dm e h)];exact e
def Rel.new(r:Rel C Pr F env σ H)(h:H a=none):Rel C Pr (upd F a o) env σ (upd H a o)/\aR F (upd F a o):=by
 have hF:=r.fr.free h;have s1:aR F (upd F a o):=nu hF;refine⟨⟨r.pr.trans<|nu h,λb u e=>?_,r.len,λi d e1=>?_,λi d e1=>?_,r.apart,λb u e=>?_,r.fix⟩,s1⟩
 ·by_cases hb:b=a
  ·subst hb;rw[aZ] at e ⊢;exact e
  ·rw[bH hb] at e ⊢;exact r.fr b u e
 ·obtain⟨v,h1,h2⟩:=r.val i d e1;exact⟨v,h1,Rep.mono s1 d v h2⟩
 ·obtain⟨b,h1,h2,h3,h4⟩:=r.own i d e1;obtain⟨u,hu⟩:=h2.some;have hb:=dm hu h;exact⟨b,h1,h2.mono s1<|bH hb,by rw[bH hb];exact h3,h4⟩
 ·by_cases hb:b=a
  ·subst hb;exact r.pr.free h
  ·rw[bH hb] at e;exact r.dj b u e
def Rel.fresh(r:Rel C Pr F env σ H)(h:H a=none):Rel C Pr F env σ (upd H a o):=by refine⟨r.pr.trans<|nu h,r.fr.trans<|nu h,r.len,r.val,λi d e1=>?_,r.apart,r.dj,r.fix⟩;obtain⟨b,h1,h2,h3,h4⟩:=r.own i d e1;obtain⟨u,hu⟩:=h2.some;have hb:=dm hu h;exact⟨b,h1,h2.mono (aR.refl F)<|bH hb,h3,h4⟩
def Rel.aside(r:Rel C Pr F env σ H)(h:H a=none):Rel C (upd Pr a o) F env σ (upd H a o):=by
 have r':=r.fresh (o:=o) h;have hF:=r.fr.free h;refine⟨λb u e=>?_,r'.fr,r.len,r.val,λi d e1=>?_,r.apart,λb u e=>?_,r.fix⟩
 ·by_cases hb:b=a
  ·subst hb;rw[aZ] at e ⊢;exact e
  ·rw[bH hb] at e ⊢;exact r.pr b u e
 ·obtain⟨b,h1,h2,h3,h4⟩:=r'.own i d e1;obtain⟨b',h1',h2',_⟩:=r.own i d e1;rw[h1] at h1';cases h1';obtain⟨u,hu⟩:=h2'.some;have hb:=dm hu h;exact⟨b,h1,h2,h3,by rw[bH hb];exact h4⟩
 ·have hb:b≠a:=λz=>by rw[z,hF] at e;cases e
  rw[bH hb];exact r.dj b u e
def Rel.turn(r:Rel C Pr F env σ H)(h:Pr a=some o):Rel C (upd Pr a u) F env σ (upd H a u):=by
 have hF:F a=none:=by
  cases e:F a with
  | none=>rfl
  | some w=>have:=r.dj a w e;rw[h] at this;cases this
 refine⟨λb w e=>?_,λb w e=>?_,r.len,r.val,λi d e1=>?_,r.apart,λb w e=>?_,r.fix⟩
 ·by_cases hb:b=a
  ·subst hb;rw[aZ] at e ⊢;exact e
  ·rw[bH hb] at e ⊢;exact r.pr b w e
 ·have hb:b≠a:=λz=>by rw[z,hF] at e;cases e
  rw[bH hb];exact r.fr b w e
 ·obtain⟨b,h1,h2,h3,h4⟩:=r.own i d e1;have hb:b≠a:=λz=>by rw[z,h] at h4;cases h4
  exact⟨b,h1,h2.mono (aR.refl F)<|bH hb,h3,by rw[bH hb];exact h4⟩
 ·have hb:b≠a:=λz=>by rw[z,hF] at e;cases e
  rw[bH hb];exact r.dj b w e
def Rel.less(r:Rel C Pr F env σ H)(s:aR Pr' Pr):Rel C Pr' F env σ H:=
 ⟨s.trans r.pr,r.fr,r.len,r.val,λi d e=>let ⟨b,h1,h2,h3,h4⟩:=r.own i d e;⟨b,h1,h2,h3,s.free h4⟩,r.apart,λb o e=>s.free<|r.dj b o e,r.fix⟩
def Rel.freeze(r:Rel C Pr F env σ H)(h:env[i]? = some (some (true,d))) :
  ∃F' v,Rel C Pr F' (env.set i (some (false,d))) σ H/\aR F F'/\σ[i]? = some (some v)/\Rep C.K F' d v:=by
 obtain⟨a,h1,h2,h3,h4⟩:=r.own i d h;obtain⟨o,ho⟩:=h2.some;have s1:aR F (upd F a o):=nu h3;have hi:=(Qq6.mp h).1;have rep:Rep C.K (upd F a o) d (.ref a):=by
  cases d with
  | lst xs=>obtain⟨z,vs,g1,g2⟩:=h2;rw[ho] at g1;cases g1;exact⟨z,a,vs,rfl,aZ,bT.mono s1 _ _ g2⟩
  | dct kvs=>obtain⟨z,ks,g1,g2⟩:=h2;rw[ho] at g1;cases g1;exact⟨z,a,ks,rfl,.inl aZ,dU.mono s1 _ _ g2⟩
  | mR kvs=>obtain⟨z,ks,g1,g2⟩:=h2;rw[ho] at g1;cases g1;exact⟨z,a,ks,rfl,.inl aZ,qP.mono s1 _ _ g2⟩
  | _=>exact h2.elim
 refine⟨upd F a o,.ref a,⟨r.pr,λb u e=>?_,by rw[Qw7];exact r.len,λj e he=>?_,λj e he=>?_,λj k e f b hj hk g1 g2=>?_,λb u e=>?_,r.fix⟩,s1,h1,rep⟩
 ·by_cases hb:b=a
  ·subst hb;rw[aZ] at e;cases e;exact ho
  ·rw[bH hb] at e;exact r.fr b u e
 ·by_cases hj:j=i
  ·subst hj;rw[Qwq hi] at he;cases he;exact⟨_,h1,rep⟩
  ·rw[Qq3 (Ne.symm hj)] at he;obtain⟨v,g1,g2⟩:=r.val j e he;exact⟨v,g1,Rep.mono s1 e v g2⟩
 ·by_cases hj:j=i
  ·subst hj;rw[Qwq hi] at he;cases he
  ·rw[Qq3 (Ne.symm hj)] at he;obtain⟨b,g1,g2,g3,g4⟩:=r.own j e he;have hb:b≠a:=λz=>hj<|r.apart j i e d a he h (by rw[<-z];exact g1) h1;exact⟨b,g1,g2.mono s1 rfl,by rw[bH hb];exact g3,g4⟩
 ·have nj:j≠i:=λz=>by subst z;rw[Qwq hi] at hj;cases hj
  have nk:k≠i:=λz=>by subst z;rw[Qwq hi] at hk;cases hk
  rw[Qq3 (Ne.symm nj)] at hj;rw[Qq3 (Ne.symm nk)] at hk;exact r.apart j k e f b hj hk g1 g2
 ·by_cases hb:b=a
  ·subst hb;exact h4
  ·rw[bH hb] at e;exact r.dj b u e
def tE(C:Cfg)(ev:Ev):TE:=λσ H Q=>∃(Pr F:Hp) (env env':Env) (d:D),Rel C Pr F env σ H/\ev env = .ok d env'/\
 ∀v H' F',Rel C Pr F' env' σ H'->aR F F'->Rep C.K F' d v->Q v H'
def tRd(C:Cfg)(ev:Ev):TE:=λσ H Q=>∃(Pr F:Hp) (env env':Env) (d:D),Rel C Pr F env σ H/\ev env = .ok d env'/\
 ∀v H' F',Rel C Pr F' env' σ H'->aR F F'->jg C.K F' H' d v->Q v H'
def tT(C:Cfg)(ev:gh):TT:=λσ H Q=>∃(Pr F:Hp) (env env':Env) (b:Bool),Rel C Pr F env σ H/\ev env = .ok b env'/\
 ∀H' F',Rel C Pr F' env' σ H'->aR F F'->Q b H'
def tA(C:Cfg)(ev:dq):TA:=λσ H Q=>∃(Pr F:Hp) (env env':Env) (ds:List D),Rel C Pr F env σ H/\ev env = .ok ds env'/\
 ∀vs H' F',Rel C Pr F' env' σ H'->aR F F'->bT C.K F' ds vs->Q vs H'
def PX(X:Cx)(C:Cfg)(e:Expr)(ev:Ev):Prop:=PE X e (tE C ev)
def Xr(X:Cx)(C:Cfg)(e:Expr)(ev:Ev):Prop:=PE X e (tRd C ev)
def PXT(X:Cx)(C:Cfg)(e:Expr)(ev:gh):Prop:=PT X e (tT C ev)
def Nj(X:Cx)(C:Cfg)(es:List Expr)(ev:dq):Prop:=PA X es (tA C ev)
def _root_.L2.PE.imp{X:Cx}{e:Expr}{t t':TE}(h:PE X e t)(i:∀σ H Q,t' σ H Q->t σ H Q):PE X e t':=λpins s σ H Q I q=>h pins s σ H Q I<|i σ H Q q
def _root_.L2.PT.imp{X:Cx}{e:Expr}{t t':TT}(h:PT X e t)(i:∀σ H Q,t' σ H Q->t σ H Q):PT X e t':=λpins s σ H Q I q=>h pins s σ H Q I<|i σ H Q q
def _root_.L2.PW.imp{X:Cx}{e:Expr}{t t':TT}(h:PW X e t)(i:∀σ H Q,t' σ H Q->t σ H Q):PW X e t':=λwhole pins s σ H Q I q=>h whole pins s σ H Q I<|i σ H Q q
def _root_.L2.PA.imp{X:Cx}{e:List Expr}{t t':TA}(h:PA X e t)(i:∀σ H Q,t' σ H Q->t σ H Q):PA X e t':=λpos pins s σ H Q I q=>h pos pins s σ H Q I<|i σ H Q q
def _root_.L2.PS.imp{X:Cx}{e:Stmt}{t t':TS}(h:PS X e t)(i:∀D σ H,t' D σ H->t D σ H):PS X e t':=λpins s σ H D I q=>h pins s σ H D I<|i D σ H q
def _root_.L2.zq.imp{X:Cx}{e:List Stmt}{t t':TS}(h:zq X e t)(i:∀D σ H,t' D σ H->t D σ H):zq X e t':=λpins s σ H D I q=>h pins s σ H D I<|i D σ H q
def bindR{α β:Type}(x:R α)(f:α->Env->R β):R β:=match x with
 | .ok a env=>f a env
 | .stuck=>.stuck
def fX{α:Type}(o:Option α)(env:Env):R α:=match o with
 | some a=>.ok a env
 | none=>.stuck
def aO{α β:Type}{x:R α}{f:α->Env->R β}{b:β}(h:bindR x f = .ok b env'):∃a aD,x = .ok a aD/\f a aD = .ok b env':=by
 cases x with
 | ok a aD=>exact⟨a,aD,rfl,h⟩
 | stuck=>cases h
def cA{α:Type}{o:Option α}{a:α}(h:fX o env = .ok a env'):o=some a/\env'=env:=by
 cases o with
 | some b=>cases h;exact⟨rfl,rfl⟩
 | none=>cases h
section
variable{X:Cx}{C:Cfg}{pos:Pos}
def aM(i:Nat):Ev:=λenv=>match env[i]? with
 | some (some (false,d))=>.ok d env
 | some (some (true,d))=>.ok d (env.set i (some (false,d)))
 | _=>.stuck
def ade(i)(hN:X.N[i]? = some x)(hv:wW X.env.scope x)(hd:jN x:=by decide)(hcd:t7 x:=by decide):PX X C (.Name x pos) (aM i):=by
 refine(jF hN hv hd hcd).imp λσ H Q h=>?_;obtain⟨Pr,F,env,env',d,r,e,q⟩:=h;unfold aM at e;split at e
 ·rename_i d' hd';cases e;obtain⟨v,h1,h2⟩:=r.val i d hd';exact⟨v,h1,q v H F r (aR.refl F) h2⟩
 ·rename_i d' hd';cases e;obtain⟨F',v,r',s',h1,h2⟩:=r.freeze hd';exact⟨v,h1,q v H F' r' s' h2⟩
 ·cases e
def PX.b(h:PX X C e ev):Xr X C e ev:=PE.imp h λσ H Q hq=>by
 obtain⟨Pr,F,env,env',d,r,e,q⟩:=hq;exact⟨Pr,F,env,env',d,r,e,λv H' F' r' s' p'=>q v H' F' r' s'<|.inl p'⟩
def bz(i:Nat):Ev:=λenv=>match env[i]? with
 | some (some (_,d))=>.ok d env
 | _=>.stuck
def Rel.rd(r:Rel C Pr F env σ H){i:Nat}(h:env[i]? = some (some (o,d))):∃v,σ[i]? = some (some v)/\jg C.K F H d v:=by
 cases o with
 | true=>obtain⟨a,h1,h2,_⟩:=r.own i d h;exact⟨_,h1,.inr ⟨a,rfl,h2⟩⟩
 | false=>obtain⟨v,h1,h2⟩:=r.val i d h;exact⟨v,h1,.inl h2⟩
def Y0(i)(hN:X.N[i]? = some x)(hv:wW X.env.scope x)(hd:jN x:=by decide)(hcd:t7 x:=by decide):Xr X C (.Name x pos) (bz i):=by
 refine(jF hN hv hd hcd).imp λσ H Q h=>?_;obtain⟨Pr,F,env,env',d,r,e,q⟩:=h;unfold bz at e;split at e
 ·rename_i o' d' hd';cases e;obtain⟨v,h1,h2⟩:=r.rd hd';exact⟨v,h1,q v H F r (aR.refl F) h2⟩
 ·cases e
def jh(d:D):Ev:=λenv=>.ok d env
def adl:PX X C (.Constant (.int i) j pos) (jh (.int i)):=adM.imp λσ H Q h=>by
 obtain⟨Pr,F,env,env',d,r,e,q⟩:=h;cases e;exact q _ _ F r (aR.refl F) rfl
def agZ:PX X C (.Constant (.bool b) j pos) (jh (.bl b)):=ag3.imp λσ H Q h=>by
 obtain⟨Pr,F,env,env',d,r,e,q⟩:=h;cases e;exact q _ _ F r (aR.refl F) rfl
def adh:PX X C (.Constant .none j pos) (jh .non):=adK.imp λσ H Q h=>by
 obtain⟨Pr,F,env,env',d,r,e,q⟩:=h;cases e;exact q _ _ F r (aR.refl F) rfl
def aj:dq:=λenv=>.ok [] env
def aa(a:Ev)(r:dq):dq:=λenv=>bindR (a env) λd aD=>bindR (r aD) λds eG=>.ok (d::ds) eG
def Fv:Nj X C [] aj:=jf.imp λσ H Q h=>by
 obtain⟨Pr,F,env,env',d,r,e,q⟩:=h;cases e;exact q _ _ F r (aR.refl F) rfl
def Ac(ha:PX X C e a)(hr:Nj X C es r)(hs:starEach (e::es) X.env=(false,eval e X.env)::starEach es X.env:=by rfl):Nj X C (e::es) (aa a r):=
 (dX ha hr hs).imp λσ H Q h=>by
  obtain⟨Pr,F,env,env',ds,rl,e,q⟩:=h;obtain⟨d1,aD,e1,e2⟩:=aO e;obtain⟨ds2,eG,e3,e4⟩:=aO e2;cases e4;refine⟨Pr,F,env,aD,d1,rl,e1,λv H1 F1 r1 s1 p1=>?_⟩;refine⟨Pr,F1,aD,env',ds2,r1,e3,λvs H2 F2 r2 s2 p2=>?_⟩;exact q _ H2 F2 r2 (s1.trans s2) ⟨v,vs,rfl,Rep.mono s2 d1 v p1,p2⟩
def cU(r:dq):Ev:=λenv=>bindR (r env) λds aD=>if ds.length<=sizeLine then .ok (.tup ds) aD else .stuck
def cM(r:dq):Ev:=λenv=>bindR (r env) λds aD=>if ds.length<=sizeLine then .ok (.lst ds) aD else .stuck
def az(g:D->D->Option D)(a b:Ev):Ev:=λenv=>bindR (a env) λx aD=>bindR (b aD) λy eG=>fX (g x y) eG
def fj(g:D->Option D)(a:Ev):Ev:=λenv=>bindR (a env) λx aD=>fX (g x) aD
def pN(C:Cfg)(r:R2)(g:D->D->Option D):Prop:=∀(Pr F:Hp) (env:Env) (σ:L2.St) (H:Hp) (x y d:D) (vx vy:V) (Q:VK),Rel C Pr F env σ H->jg C.K F H x vx->jg C.K F H y vy->g x y=some d->
 (∀v H' F',Rel C Pr F' env σ H'->aR F F'->Rep C.K F' d v->Q v H')->r vx vy H Q
def UnD(C:Cfg)(r:V->Hp->VK->Prop)(g:D->Option D):Prop:=∀(Pr F:Hp) (env:Env) (σ:L2.St) (H:Hp) (x d:D) (vx:V) (Q:VK),Rel C Pr F env σ H->jg C.K F H x vx->g x=some d->
 (∀v H' F',Rel C Pr F' env σ H'->aR F F'->Rep C.K F' d v->Q v H')->r vx H Q
def ym(o:pN C r g)(σ)(H)(Q)(h:tE C (az g a b) σ H Q):Yn r (tE C a) (tRd C b) σ H Q:=by obtain⟨Pr,F,env,env',d,rl,e,q⟩:=h;obtain⟨x,aD,e1,e2⟩:=aO e;obtain⟨y,eG,e3,e4⟩:=aO e2;obtain⟨e5,rfl⟩:=cA e4;refine⟨Pr,F,env,aD,x,rl,e1,λvx H1 F1 r1 s1 p1=>⟨Pr,F1,aD,env',y,r1,e3,λvy H2 F2 r2 s2 p2=>?_⟩⟩;exact o Pr F2 env' σ H2 x y d vx vy Q r2 (.inl<|Rep.mono s2 x vx p1) p2 e5 λv H3 F3 r3 s3 p3=>q v H3 F3 r3 ((s1.trans s2).trans s3) p3
def aA(g:D->D->Option D)(i:Nat)(b:Ev):Ev:=λenv=>match env[i]? with
 | some (some (_,_))=>bindR (b env) λy eG=>(match eG[i]? with
  | some (some (_,x))=>fX (g x y) eG
  | _=>.stuck)
 | _=>.stuck
def tM(o:pN C r g)(σ)(H)(Q)(h:tE C (aA g i b) σ H Q):Yn r (agb i) (tRd C b) σ H Q:=by
 obtain⟨Pr,F,env,env',d,rl,e,q⟩:=h;unfold aA at e;split at e
 ·rename_i o0 d0 h0;obtain⟨v,hv,_⟩:=rl.rd h0;obtain⟨y,eG,e1,e2⟩:=aO e;split at e2
  ·rename_i o2 x h2;obtain⟨e5,rfl⟩:=cA e2;refine⟨v,hv,Pr,F,env,env',y,rl,e1,λvy H2 F2 r2 s2 p2=>?_⟩;obtain⟨v',hv',p⟩:=r2.rd h2;rw[hv] at hv';cases hv';exact o Pr F2 env' σ H2 x y d v vy Q r2 p p2 e5 λv H3 F3 r3 s3 p3=>q v H3 F3 r3 (s2.trans s3) p3
  ·cases e2
 ·cases e
def agW(ho:mX X (binaryOp op) r)(o:pN C r g)(ha:PX X C x a)(hb:Xr X C y b):PX X C (.BinOp x op y pos) (az g a b):=
 (abD ho ha hb).imp (ym o)
def adg{px:Pos}(i)(hN:X.N[i]? = some x)(hv:wW X.env.scope x)(ho:mX X (binaryOp op) r)(o:pN C r g)(hb:Xr X C y b)
  (hd:jN x:=by decide) (hcd:t7 x:=by decide):PX X C (.BinOp (.Name x px) op y pos) (aA g i b):=
 (abD ho (jF hN hv hd hcd) hb).imp (tM o)
def adm(ho:mX X (compareOp op) r)(o:pN C r g)(ha:PX X C x a)(hb:Xr X C y b)(hm:behindInMarks op y=false):PX X C (.Compare x [op] [y] pos) (az g a b):=
 (Oo ho ha hb hm).imp (ym o)
def agU(ho:UnR X (unaryOp op) r)(o:UnD C r g)(ha:PX X C x a):PX X C (.UnaryOp op x pos) (fj g a):=
 (ag0 ho ha).imp λσ H Q h=>by
  obtain⟨Pr,F,env,env',d,rl,e,q⟩:=h;obtain⟨x,aD,e1,e2⟩:=aO e;obtain⟨e3,rfl⟩:=cA e2;exact⟨Pr,F,env,env',x,rl,e1,λvx H1 F1 r1 s1 p1=>o Pr F1 env' σ H1 x d vx Q r1 (.inl p1) e3 λv H3 F3 r3 s3 p3=>q v H3 F3 r3 (s1.trans s3) p3⟩
def dw(a:Ev):gh:=λenv=>bindR (a env) λd aD=>match d with
 | .bl b=>.ok b aD
 | _=>.stuck
def TX(h:tT C (dw a) σ H Q):tE C a σ H λx H'=>∃k,x = .bl k/\Q k H':=by
 obtain⟨Pr,F,env,env',b,rl,e,q⟩:=h;obtain⟨d,aD,e1,e2⟩:=aO e;refine⟨Pr,F,env,aD,d,rl,e1,λv H1 F1 r1 s1 p1=>?_⟩;cases d with
 | bl c=>cases e2;exact⟨_,p1,q H1 F1 r1 s1⟩
 | _=>cases e2
def YJ(ho:mX X (compareOp op) r)(o:pN C r g)(ha:PX X C x a)(hb:Xr X C y b)(hm:behindInMarks op y=false):PXT X C (.Compare x [op] [y] pos) (dw (az g a b)):=
 (Og ho ha hb hm).imp λσ H Q h=>by
  have h1:=TX h;exact ym o σ H _ h1
def bV(a:gh):gh:=λenv=>bindR (a env) λb aD=>.ok (!b) aD
def uW(a b:gh):gh:=λenv=>bindR (a env) λc aD=>if c=true then b aD else .ok false aD
def gQ(a b:gh):gh:=λenv=>bindR (a env) λc aD=>if c=true then .ok true aD else b aD
def PXW(X:Cx)(C:Cfg)(e:Expr)(ev:gh):Prop:=PW X e (tT C ev)
def PXW.pt(h:PXW X C e a):PXT X C e a:=PW.pt h
def jd(a b:Ev):Ev:=λenv=>bindR (a env) λc aD=>match c with
 | .bl true=>b aD
 | .bl false=>.ok (.bl false) aD
 | _=>.stuck
def JQ(a b:Ev):Ev:=λenv=>bindR (a env) λc aD=>match c with
 | .bl true=>.ok (.bl true) aD
 | .bl false=>b aD
 | _=>.stuck
def ab7(a:Ev):Ev:=λenv=>bindR (a env) λc aD=>match c with
 | .bl b=>.ok (.bl (!b)) aD
 | _=>.stuck
def My(t:gh)(a b:Ev):Ev:=λenv=>bindR (t env) λc aD=>if c=true then a aD else b aD
end
def yI(f:D->D->Option Bool):List D->List D->Option Bool
 | [],[]=>some true
 | x::xs,y::ys=>match f x y,yI f xs ys with
  | some a,some b=>some (a&&b)
  | _,_=>none
 | [],_::_=>some false
 | _::_,[]=>some false
def bD:Nat->D->D->Option Bool
 | 0,_,_=>none
 | n+1,.tup xs,.tup ys=>yI (bD n) xs ys
 | n+1,.lst xs,.lst ys=>yI (bD n) xs ys
 | _+1,.dct _,_=>none
 | _+1,.mR _,_=>none
 | _+1,.clo _ _,_=>none
 | _+1,_,.dct _=>none
 | _+1,_,.mR _=>none
 | _+1,_,.clo _ _=>none
 | _+1,.arr _,_=>none
 | _+1,_,.arr _=>none
 | _+1,.non,.non=>some true
 | _+1,.bl a,.bl b=>some (a == b)
 | _+1,.bl a,.int b=>some ((if a then 1 else 0) == b)
 | _+1,.int a,.bl b=>some (a == (if b then 1 else 0))
 | _+1,.int a,.int b=>some (a == b)
 | _+1,.str a,.str b=>some (a == b)
 | _+1,_,_=>some false
mutual
def Sh(h:Heap):D->Value->Prop
 | .non,u=>u = .none
 | .bl b,u=>u = .bool b
 | .int i,u=>∃t,u = .int i t
 | .str x,u=>∃t,u = .str (strOf x) t
 | .tup xs,u=>∃a its,u = .ref a/\IsTup h a its.toArray/\Ko h xs its
 | .lst xs,u=>∃a its,u = .ref a/\PlainL h a its.toArray/\Ko h xs its
 | .arr xs,u=>∃a its,u = .ref a/\PlainL h a its.toArray/\Ko h xs its
 | .dct _,u=>∃a o,u = .ref a/\h.get? a=some o/\o.ExactDict
 | .mR _,u=>∃a o,u = .ref a/\h.get? a=some o/\o.ExactDict
 | .clo _ _,u=>∃a,u = .ref a
def Ko(h:Heap):List D->List Value->Prop
 | [],us=>us=[]
 | d::ds,us=>∃u r,us=u::r/\Sh h d u/\Ko h ds r
end
theorem Ko.length:∀{ds} {us},Ko h ds us->us.length=ds.length
 | [],_,e=>by cases e;rfl
 | d::ds,us,e=>by obtain⟨u,r,rfl,_,h2⟩:=e;rw[Qqk,Qqk,h2.length]
section
variable{X:Cx}{pins:List (Addr×Obj)}{σ:L2.St}{H:Hp}{s:Shared}
mutual
theorem Rep.sh(I:Inv X pins σ H s):∀(d:D) (v:V) (u:Value),Rep X.K H d v->RelV v u->Sh s.heap d u
 | .non,_,_,h,r=>by cases h;exact r
 | .bl _,_,_,h,r=>by cases h;exact r
 | .int _,_,_,h,r=>by cases h;exact r
 | .str _,_,_,h,r=>by obtain⟨h,_⟩:=h;cases h;exact r
 | .tup xs,v,u,h,r=>by
  obtain⟨z,a,vs,rfl,h1,h2⟩:=h;cases r;obtain⟨its,rv,p,_⟩:=I.tuple h1;exact⟨a,its,rfl,p,bT.sh I xs vs its h2 rv⟩
 | .lst xs,v,u,h,r=>by
  obtain⟨z,a,vs,rfl,h1,h2⟩:=h;cases r;obtain⟨its,rv,p,_⟩:=I.list (lG.of h1);exact⟨a,its,rfl,p,bT.sh I xs vs its h2 rv⟩
 | .arr xs,v,u,h,r=>by
  obtain⟨z,a,vs,rfl,h1,h2⟩:=h;cases r;obtain⟨its,rv,p,_⟩:=I.list h1;exact⟨a,its,rfl,p,bT.sh I xs vs its h2 rv⟩
 | .dct kvs,v,u,h,r=>by
  obtain⟨z,a,ks,rfl,h1,h2⟩:=h;cases r;obtain⟨_,_,vs,_,o,_,_,e,ex,_⟩:=h1.ok I.hok;exact⟨a,o,rfl,e,ex⟩
 | .mR kvs,v,u,h,r=>by
  obtain⟨z,a,ks,rfl,h1,h2⟩:=h;cases r;obtain⟨_,_,vs,_,o,_,_,e,ex,_⟩:=h1.ok I.hok;exact⟨a,o,rfl,e,ex⟩
 | .clo st ds,v,u,h,r=>by
  obtain⟨a,vs,rfl,h1,h2⟩:=h;cases r;exact⟨a,rfl⟩
theorem bT.sh(I:Inv X pins σ H s):∀(ds:List D) (vs:List V) (us:List Value),bT X.K H ds vs->Vals vs us->Ko s.heap ds us
 | [],_,_,h,r=>by cases h;cases r;exact rfl
 | d::ds,vs,us,h,r=>by
  obtain⟨v,rr,rfl,h1,h2⟩:=h;cases r with
  | cons q qs=>exact⟨_,_,rfl,Rep.sh I d v _ h1 q,bT.sh I ds rr _ h2 qs⟩
end
end
def Nz(p:IsTup h a xs)(q:IsTup h a ys):xs=ys:=by obtain⟨o,e,_,n,d⟩:=p;obtain⟨o',e',_,n',d'⟩:=q;rw[e] at e';cases e';rw[d] at d';cases d';rfl
def O4(p:PlainL h a xs)(q:PlainL h a ys):xs=ys:=by obtain⟨o,e,_,n,d⟩:=p.isList;obtain⟨o',e',_,n',d'⟩:=q.isList;rw[e] at e';cases e';rw[d] at d';cases d';rfl
def zr(p:IsTup h a xs)(q:PlainL h a ys):False:=by obtain⟨o,e,c,n,d⟩:=p;obtain⟨o',e',c',n',d'⟩:=q.isList;rw[e] at e';cases e';rw[c] at c';simp at c'
theorem Be:∀n d e u b,Sh h d u->Sh h e u->bD n d e=some b->b=true
 | 0,_,_,_,_,_,_,hb=>by simp[bD] at hb
 | n+1,d,e,u,b,hd,he,hb=>by
  have all:∀xs ys us (b:Bool),Ko h xs us->Ko h ys us->yI (bD n) xs ys=some b->b=true:=by
   intro xs
   induction xs with
   | nil=>
    intro ys us b h1 h2 hb;cases h1;cases ys with
    | nil=>simp[yI] at hb;exact hb
    | cons y ys=>obtain⟨u,r,q,_⟩:=h2;cases q
   | cons x xs ih=>
    intro ys us b h1 h2 hb;obtain⟨u,r,rfl,h3,h4⟩:=h1;cases ys with
    | nil=>cases h2
    | cons y ys=>
     obtain⟨u',r',q,h5,h6⟩:=h2;cases q;unfold yI at hb;cases q1:bD n x y with
     | none=>rw[q1] at hb;simp at hb
     | some c=>
      cases q2:yI (bD n) xs ys with
      | none=>rw[q1,q2] at hb;simp at hb
      | some c'=>
       rw[q1,q2] at hb;have e1:=Be n x y u c h3 h5 q1;have e2:=ih ys r c' h4 h6 q2;subst e1 e2;simp at hb;exact hb
  cases d with
  | non=>cases hd;cases e<;>simp[Sh] at he;simp[bD] at hb;exact hb
  | bl c=>cases hd;cases e<;>simp[Sh] at he;subst he;simp[bD] at hb;exact hb
  | int i=>obtain⟨t,rfl⟩:=hd;cases e<;>simp[Sh] at he;subst he;simp[bD] at hb;exact hb
  | str x=>
   obtain⟨t,rfl⟩:=hd;cases e with
   | str y=>
    obtain⟨t',q⟩:=he;injection q with q1 _
    unfold strOf at q1;injection q1 with q2
    have q3:=Qzw Array.toList q2;simp at q3;subst q3;simp[bD] at hb;exact hb
   | _=>simp[Sh] at he
  | tup xs=>
   obtain⟨a,its,rfl,p,hs⟩:=hd;cases e with
   | tup ys=>
    obtain⟨a',its',q,p',hs'⟩:=he;cases q;have e2:its=its':=by simpa using Nz p p'
    subst e2;exact all xs ys its b hs hs' (by simpa only[bD] using hb)
   | lst ys=>
    obtain⟨a',its',q,p',hs'⟩:=he;cases q;exact(zr p p').elim
   | dct kvs=>simp[bD] at hb
   | mR kvs=>simp[bD] at hb
   | clo _ _=>simp[bD] at hb
   | arr kvs=>simp[bD] at hb
   | _=>simp[Sh] at he
  | lst xs=>
   obtain⟨a,its,rfl,p,hs⟩:=hd;cases e with
   | lst ys=>
    obtain⟨a',its',q,p',hs'⟩:=he;cases q;have e2:its=its':=by simpa using O4 p p'
    subst e2;exact all xs ys its b hs hs' (by simpa only[bD] using hb)
   | tup ys=>
    obtain⟨a',its',q,p',hs'⟩:=he;cases q;exact(zr p' p).elim
   | dct kvs=>simp[bD] at hb
   | mR kvs=>simp[bD] at hb
   | clo _ _=>simp[bD] at hb
   | arr kvs=>simp[bD] at hb
   | _=>simp[Sh] at he
  | dct kvs=>cases e<;>simp[bD] at hb
  | mR kvs=>cases e<;>simp[bD] at hb
  | clo _ _=>cases e<;>simp[bD] at hb
  | arr kvs=>cases e<;>simp[bD] at hb
theorem Qf:∀n d d' e u b b',Sh h d u->Sh h d' u->bD n d e=some b->bD n d' e=some b'->b=b'
 | 0,_,_,_,_,_,_,_,_,hb,_=>by simp[bD] at hb
 | n+1,d,d',e,u,b,b',hd,hd',hb,hb'=>by
  have all:∀xs xs' ys us (b b':Bool),Ko h xs us->Ko h xs' us->yI (bD n) xs ys=some b->yI (bD n) xs' ys=some b'->b=b':=by
   intro xs
   induction xs with
   | nil=>
    intro xs' ys us b b' h1 h2 hb hb';cases h1;cases xs' with
    | nil=>rw[hb] at hb';exact Qxj hb'
    | cons y ys=>obtain⟨u,r,q,_⟩:=h2;cases q
   | cons x xs ih=>
    intro xs' ys us b b' h1 h2 hb hb';obtain⟨u,r,rfl,h3,h4⟩:=h1;cases xs' with
    | nil=>cases h2
    | cons x' xs'=>
     obtain⟨u',r',q,h5,h6⟩:=h2;cases q;cases ys with
     | nil=>simp[yI] at hb hb';rw[hb,hb']
     | cons y ys=>
      unfold yI at hb hb';cases q1:bD n x y with
      | none=>rw[q1] at hb;simp at hb
      | some c=>
       cases q2:yI (bD n) xs ys with
       | none=>rw[q1,q2] at hb;simp at hb
       | some c2=>
        cases q3:bD n x' y with
        | none=>rw[q3] at hb';simp at hb'
        | some c3=>
         cases q4:yI (bD n) xs' ys with
         | none=>rw[q3,q4] at hb';simp at hb'
         | some c4=>
          rw[q1,q2] at hb;rw[q3,q4] at hb';have e1:=Qf n x x' y u c c3 h3 h5 q1 q3;have e2:=ih xs' ys r c2 c4 h4 h6 q2 q4;subst e1 e2;simp at hb hb';rw[<-hb,<-hb']
  cases d with
  | non=>cases hd;cases d'<;>simp[Sh] at hd';rw[hb] at hb';exact Qxj hb'
  | bl c=>cases hd;cases d'<;>simp[Sh] at hd';subst hd';rw[hb] at hb';exact Qxj hb'
  | int i=>obtain⟨t,rfl⟩:=hd;cases d'<;>simp[Sh] at hd';subst hd';rw[hb] at hb';exact Qxj hb'
  | str x=>
   obtain⟨t,rfl⟩:=hd;cases d' with
   | str y=>
    obtain⟨t',q⟩:=hd';injection q with q1 _
    unfold strOf at q1;injection q1 with q2
    have q3:=Qzw Array.toList q2;simp at q3;subst q3;rw[hb] at hb';exact Qxj hb'
   | _=>simp[Sh] at hd'
  | tup xs=>
   obtain⟨a,its,rfl,p,hs⟩:=hd;cases d' with
   | tup xs'=>
    obtain⟨a',its',q,p',hs'⟩:=hd';cases q;have e2:its=its':=by simpa using Nz p p'
    subst e2;cases e with
    | tup ys=>exact all xs xs' ys its b b' hs hs' (by simpa only[bD] using hb) (by simpa only[bD] using hb')
    | _=>first|(simp[bD] at hb;done)|(simp only[bD,Qw4] at hb hb';rw[<-hb,<-hb'])
   | lst ys=>
    obtain⟨a',its',q,p',hs'⟩:=hd';cases q;exact(zr p p').elim
   | dct kvs=>cases e<;>simp[bD] at hb'
   | mR kvs=>cases e<;>simp[bD] at hb'
   | clo _ _=>cases e<;>simp[bD] at hb'
   | arr kvs=>cases e<;>simp[bD] at hb'
   | _=>simp[Sh] at hd'
  | lst xs=>
   obtain⟨a,its,rfl,p,hs⟩:=hd;cases d' with
   | lst xs'=>
    obtain⟨a',its',q,p',hs'⟩:=hd';cases q;have e2:its=its':=by simpa using O4 p p'
    subst e2;cases e with
    | lst ys=>exact all xs xs' ys its b b' hs hs' (by simpa only[bD] using hb) (by simpa only[bD] using hb')
    | _=>first|(simp[bD] at hb;done)|(simp only[bD,Qw4] at hb hb';rw[<-hb,<-hb'])
   | tup ys=>
    obtain⟨a',its',q,p',hs'⟩:=hd';cases q;exact(zr p' p).elim
   | dct kvs=>cases e<;>simp[bD] at hb'
   | mR kvs=>cases e<;>simp[bD] at hb'
   | clo _ _=>cases e<;>simp[bD] at hb'
   | arr kvs=>cases e<;>simp[bD] at hb'
   | _=>simp[Sh] at hd'
  | dct kvs=>cases e<;>simp[bD] at hb
  | mR kvs=>cases e<;>simp[bD] at hb
  | clo _ _=>cases e<;>simp[bD] at hb
  | arr kvs=>cases e<;>simp[bD] at hb
def xE(x y):(strOf x == strOf y)=(x == y):=by
 rw[Qkj];simp[beq_iff_eq];constructor
 ·intro e;unfold strOf at e;injection e with e
  simpa using Qzw Array.toList e
 ·intro e;rw[e]
theorem zG:∀{f} {xs ys},xs.length≠ys.length->∀b,yI f xs ys=some b->b=false
 | f,[],[],h,b,e=>absurd rfl h
 | f,[],_::_,_,b,e=>by simp[yI] at e;exact e
 | f,_::_,[],_,b,e=>by simp[yI] at e;exact e
 | f,x::xs,y::ys,h,b,e=>by
  unfold yI at e;cases h1:f x y with
  | none=>rw[h1] at e;simp at e
  | some c=>
   cases h2:yI f xs ys with
   | none=>rw[h1,h2] at e;simp at e
   | some d=>
    rw[h1,h2] at e;have:=zG (by simpa using h) d h2;subst this;simp at e;exact e
theorem uY:∀{f} xs ys b,yI f xs ys=some b->∃e,(∀j x y,xs[j]? = some x->ys[j]? = some y->f x y=some (e j))/\b=((List.range (min xs.length ys.length)).all e&&xs.length == ys.length)
 | f,[],ys,b,h=>by
  refine⟨λ_=>true,λj x y hx=>by simp at hx,?_⟩;cases ys with
  | nil=>simp[yI] at h;simp[h.symm]
  | cons y ys=>simp[yI] at h;simp[h.symm]
 | f,x::xs,[],b,h=>by
  refine⟨λ_=>true,λj x y _ hy=>by simp at hy,?_⟩;simp[yI] at h;simp[h.symm]
 | f,x::xs,y::ys,b,h=>by
  unfold yI at h;cases h1:f x y with
  | none=>rw[h1] at h;simp at h
  | some c=>
   cases h2:yI f xs ys with
   | none=>rw[h1,h2] at h;simp at h
   | some d=>
    rw[h1,h2] at h;obtain⟨e,he,hd⟩:=uY xs ys d h2;refine⟨λj=>match j with|0=>c|j+1=>e j,λj x' y' hx hy=>?_,?_⟩
    ·cases j with
     | zero=>simp at hx hy;subst hx hy;exact h1
     | succ j=>exact he j x' y' (by simpa using hx) (by simpa using hy)
    ·have hb:b=(c&&d):=by simpa using h.symm
     have hm:min (x::xs).length (y::ys).length=min xs.length ys.length+1:=by simp only[Qqk];omega
     rw[hb,hd,hm,List.range_succ_eq_map,List.all_cons,List.all_map,Bool.and_assoc];have hl:((x::xs).length == (y::ys).length)=(xs.length == ys.length):=by simp
     rw[hl]
     rfl
theorem nY:∀{ds} {us} {j:Nat} {u},Ko h ds us->us[j]? = some u->∃d,ds[j]? = some d/\Sh h d u
 | [],_,_,_,e,g=>by cases e;simp at g
 | d::ds,us,j,u,e,g=>by
  obtain⟨v,r,rfl,h1,h2⟩:=e;cases j with
  | zero=>simp at g;subst g;exact⟨d,rfl,h1⟩
  | succ j=>obtain⟨c,e1,e2⟩:=nY h2 (by simpa using g);exact⟨c,by simpa using e1,e2⟩
theorem Gu:∀n d e u v b A s,Sh s.heap d u->Sh s.heap e v->bD n d e=some b->A.units+n<cLine->SeqAt.EqAt A s u v b
 | 0,_,_,_,_,_,_,_,_,_,h,_=>by simp[bD] at h
 | n+1,d,e,u,v,b,A,s,hd,he,h,hu=>by
  have hu0:A.units<cLine:=by omega
  have hin:A.in1.units+n<cLine:=by show A.units+1+n<cLine;omega
  cases d with
  | non=>
   cases hd;cases e with
   | non=>cases he;simp[bD] at h;subst h;exact SeqAt.EqAt.same _
   | bl c=>cases he;simp[bD] at h;subst h;exact SeqAt.EqAt.none_bool c
   | int i=>obtain⟨t,rfl⟩:=he;simp[bD] at h;subst h;exact SeqAt.EqAt.none_int i t
   | str x=>obtain⟨t,rfl⟩:=he;simp[bD] at h;subst h;exact SeqAt.EqAt.none_str _ t
   | tup ys=>obtain⟨a,its,rfl,p,_⟩:=he;simp[bD] at h;subst h;exact SeqAt.EqAt.none_tuple p hu0
   | lst ys=>obtain⟨a,its,rfl,p,_⟩:=he;simp[bD] at h;subst h;exact SeqAt.EqAt.none_list p.isList hu0
   | dct kvs=>simp[bD] at h
   | mR kvs=>simp[bD] at h
   | clo _ _=>simp[bD] at h
   | arr kvs=>simp[bD] at h
  | bl c=>
   cases hd;cases e with
   | non=>cases he;simp[bD] at h;subst h;exact SeqAt.EqAt.bool_none c
   | bl c'=>cases he;simp only[bD,Qw4] at h;subst h;exact SeqAt.EqAt.bool_bool c c'
   | int i=>obtain⟨t,rfl⟩:=he;simp only[bD,Qw4] at h;subst h;exact SeqAt.EqAt.bool_int c i t
   | str x=>obtain⟨t,rfl⟩:=he;simp[bD] at h;subst h;exact SeqAt.EqAt.bool_str c _ t
   | tup ys=>obtain⟨a,its,rfl,p,_⟩:=he;simp[bD] at h;subst h;exact SeqAt.EqAt.bool_tuple c p hu0
   | lst ys=>obtain⟨a,its,rfl,p,_⟩:=he;simp[bD] at h;subst h;exact SeqAt.EqAt.bool_list c p.isList hu0
   | dct kvs=>simp[bD] at h
   | mR kvs=>simp[bD] at h
   | clo _ _=>simp[bD] at h
   | arr kvs=>simp[bD] at h
  | int i=>
   obtain⟨t',rfl⟩:=hd;cases e with
   | non=>cases he;simp[bD] at h;subst h;exact SeqAt.EqAt.int_none i t'
   | bl c'=>cases he;simp only[bD,Qw4] at h;subst h;exact SeqAt.EqAt.int_bool i t' c'
   | int j=>obtain⟨t,rfl⟩:=he;simp only[bD,Qw4] at h;subst h;exact SeqAt.EqAt.int_int i t' j t
   | str x=>obtain⟨t,rfl⟩:=he;simp[bD] at h;subst h;exact SeqAt.EqAt.int_str i t' _ t
   | tup ys=>obtain⟨a,its,rfl,p,_⟩:=he;simp[bD] at h;subst h;exact SeqAt.EqAt.int_tuple i t' p hu0
   | lst ys=>obtain⟨a,its,rfl,p,_⟩:=he;simp[bD] at h;subst h;exact SeqAt.EqAt.int_list i t' p.isList hu0
   | dct kvs=>simp[bD] at h
   | mR kvs=>simp[bD] at h
   | clo _ _=>simp[bD] at h
   | arr kvs=>simp[bD] at h
  | str x=>
   obtain⟨t',rfl⟩:=hd;cases e with
   | non=>cases he;simp[bD] at h;subst h;exact SeqAt.EqAt.str_none _ t'
   | bl c'=>cases he;simp[bD] at h;subst h;exact SeqAt.EqAt.str_bool _ t' c'
   | int j=>obtain⟨t,rfl⟩:=he;simp[bD] at h;subst h;exact SeqAt.EqAt.str_int _ t' j t
   | str y=>obtain⟨t,rfl⟩:=he;simp only[bD,Qw4] at h;subst h;rw[<-xE];exact SeqAt.EqAt.str_str _ t' _ t
   | tup ys=>obtain⟨a,its,rfl,p,_⟩:=he;simp[bD] at h;subst h;exact SeqAt.EqAt.str_tuple _ t' p hu0
   | lst ys=>obtain⟨a,its,rfl,p,_⟩:=he;simp[bD] at h;subst h;exact SeqAt.EqAt.str_list _ t' p.isList hu0
   | dct kvs=>simp[bD] at h
   | mR kvs=>simp[bD] at h
   | clo _ _=>simp[bD] at h
   | arr kvs=>simp[bD] at h
  | tup xs=>
   obtain⟨a,its,rfl,p,hs⟩:=hd;cases e with
   | non=>cases he;simp[bD] at h;subst h;exact SeqAt.EqAt.tuple_none p hu0
   | bl c'=>cases he;simp[bD] at h;subst h;exact SeqAt.EqAt.tuple_bool c' p hu0
   | int j=>obtain⟨t,rfl⟩:=he;simp[bD] at h;subst h;exact SeqAt.EqAt.tuple_int j t p hu0
   | str y=>obtain⟨t,rfl⟩:=he;simp[bD] at h;subst h;exact SeqAt.EqAt.tuple_str _ t p hu0
   | tup ys=>
    obtain⟨a',its',rfl,p',hs'⟩:=he;by_cases haa:a=a'
    ·subst haa;have:=Be (n+1) (.tup xs) (.tup ys) (.ref a) b ⟨a,its,rfl,p,hs⟩ ⟨a,its',rfl,p',hs'⟩ h;subst this;exact SeqAt.EqAt.same _
    ·simp only[bD] at h;obtain⟨f,hf,hb⟩:=uY xs ys b h;have l1:=hs.length;have l2:=hs'.length;refine SeqAt.EqAt.of_refs haa ?_;have:=SeqAt.RcAt.tuples (e:=f) p p' hu0 λj h1 h2=>?_
     ·rw[hb];simp only[Qq4] at this;rw[l1,l2] at this;exact this
     ·have g1:its[j]? = some its.toArray[j]:=by simp at h1 ⊢
      have g2:its'[j]? = some its'.toArray[j]:=by simp at h2 ⊢
      obtain⟨x,q1,q2⟩:=nY hs g1;obtain⟨y,q3,q4⟩:=nY hs' g2;exact Gu n x y _ _ _ A.in1 s q2 q4 (hf j x y q1 q3) hin
   | lst ys=>obtain⟨a',its',rfl,p',_⟩:=he;simp[bD] at h;subst h;exact SeqAt.EqAt.tuple_list p p'.isList hu0
   | dct kvs=>simp[bD] at h
   | mR kvs=>simp[bD] at h
   | clo _ _=>simp[bD] at h
   | arr kvs=>simp[bD] at h
  | lst xs=>
   obtain⟨a,its,rfl,p,hs⟩:=hd;cases e with
   | non=>cases he;simp[bD] at h;subst h;exact SeqAt.EqAt.list_none p.isList hu0
   | bl c'=>cases he;simp[bD] at h;subst h;exact SeqAt.EqAt.list_bool c' p.isList hu0
   | int j=>obtain⟨t,rfl⟩:=he;simp[bD] at h;subst h;exact SeqAt.EqAt.list_int j t p.isList hu0
   | str y=>obtain⟨t,rfl⟩:=he;simp[bD] at h;subst h;exact SeqAt.EqAt.list_str _ t p.isList hu0
   | lst ys=>
    obtain⟨a',its',rfl,p',hs'⟩:=he;have l1:=hs.length;have l2:=hs'.length;by_cases haa:a=a'
    ·subst haa;have:=Be (n+1) (.lst xs) (.lst ys) (.ref a) b ⟨a,its,rfl,p,hs⟩ ⟨a,its',rfl,p',hs'⟩ h;subst this;exact SeqAt.EqAt.same _
    ·simp only[bD] at h;refine SeqAt.EqAt.of_refs haa ?_;by_cases hl:xs.length=ys.length
     ·obtain⟨f,hf,hb⟩:=uY xs ys b h;have:=SeqAt.RcAt.lists (e:=f) p.isList p'.isList (by simp only[Qq4];omega) hu0 λj h1 h2=>?_
      ·rw[hb,<-hl,Nat.min_self,Qk1,Bool.and_true,<-l1];simp only[Qq4] at this;exact this
      ·have g1:its[j]? = some its.toArray[j]:=by simp at h1 ⊢
       have g2:its'[j]? = some its'.toArray[j]:=by simp at h2 ⊢
       obtain⟨x,q1,q2⟩:=nY hs g1;obtain⟨y,q3,q4⟩:=nY hs' g2;exact Gu n x y _ _ _ A.in1 s q2 q4 (hf j x y q1 q3) hin
     ·have:=zG hl b h;subst this;exact SeqAt.RcAt.lists_lengths p.isList p'.isList (by simp only[Qq4];rw[l1,l2];simpa using hl) hu0
   | tup ys=>obtain⟨a',its',rfl,p',_⟩:=he;simp[bD] at h;subst h;exact SeqAt.EqAt.list_tuple p.isList p' hu0
   | dct kvs=>simp[bD] at h
   | mR kvs=>simp[bD] at h
   | clo _ _=>simp[bD] at h
   | arr kvs=>simp[bD] at h
  | dct kvs=>cases e<;>simp[bD] at h
  | mR kvs=>cases e<;>simp[bD] at h
  | clo _ _=>cases e<;>simp[bD] at h
  | arr kvs=>cases e<;>simp[bD] at h
def vV(n)(its its')(xs ys)(f:Nat->Bool)(A:Around)(s)(hs:Ko s.heap xs its)(hs':Ko s.heap ys its')(hf:∀j x y,xs[j]? = some x->ys[j]? = some y->bD n x y=some (f j))(hin:A.in1.units+n<cLine)
  (j) (h1:j<its.toArray.size) (h2:j<its'.toArray.size):SeqAt.EqAt A.in1 s its.toArray[j] its'.toArray[j] (f j):=by
 have g1:its[j]? = some its.toArray[j]:=by simp at h1 ⊢
 have g2:its'[j]? = some its'.toArray[j]:=by simp at h2 ⊢
 obtain⟨x,q1,q2⟩:=nY hs g1;obtain⟨y,q3,q4⟩:=nY hs' g2;exact Gu n x y _ _ _ A.in1 s q2 q4 (hf j x y q1 q3) hin
def agx(n)(d e)(u v)(b)(A)(s)(hd:Sh s.heap d u)(he:Sh s.heap e v)(h:bD (n+1) d e=some b)(hu:A.units+(n+1)<cLine):SeqAt.RcAt A s u v b:=by
 have hu0:A.units<cLine:=by omega
 have hin:A.in1.units+n<cLine:=by show A.units+1+n<cLine;omega
 cases d with
 | non=>
  cases hd;cases e with
  | non=>
   cases he;simp[bD] at h;subst h;exact SeqAt.RcAt.none_none
  | bl c'=>
   cases he;simp[bD] at h;subst h;exact SeqAt.RcAt.none_bool c'
  | int j=>
   obtain⟨t,rfl⟩:=he;simp[bD] at h;subst h;exact SeqAt.RcAt.none_int j t
  | str y=>
   obtain⟨t,rfl⟩:=he;simp[bD] at h;subst h;exact SeqAt.RcAt.none_str _ t
  | tup ys=>
   obtain⟨a',its',rfl,p',hs'⟩:=he;simp[bD] at h;subst h;exact SeqAt.RcAt.none_tuple p' hu0
  | lst ys=>
   obtain⟨a',its',rfl,p',hs'⟩:=he;simp[bD] at h;subst h;exact SeqAt.RcAt.none_list p'.isList hu0
  | arr kvs=>
   simp[bD] at h
  | dct kvs=>
   simp[bD] at h
  | mR kvs=>
   simp[bD] at h
  | clo _ _=>
   simp[bD] at h
 | bl c=>
  cases hd;cases e with
  | non=>
   cases he;simp[bD] at h;subst h;exact SeqAt.RcAt.bool_none c
  | bl c'=>
   cases he;simp only[bD,Qw4] at h;subst h;exact SeqAt.RcAt.bool_bool c c'
  | int j=>
   obtain⟨t,rfl⟩:=he;simp only[bD,Qw4] at h;subst h;exact SeqAt.RcAt.bool_int c j t
  | str y=>
   obtain⟨t,rfl⟩:=he;simp[bD] at h;subst h;exact SeqAt.RcAt.bool_str c _ t
  | tup ys=>
   obtain⟨a',its',rfl,p',hs'⟩:=he;simp[bD] at h;subst h;exact SeqAt.RcAt.bool_tuple c p' hu0
  | lst ys=>
   obtain⟨a',its',rfl,p',hs'⟩:=he;simp[bD] at h;subst h;exact SeqAt.RcAt.bool_list c p'.isList hu0
  | arr kvs=>
   simp[bD] at h
  | dct kvs=>
   simp[bD] at h
  | mR kvs=>
   simp[bD] at h
  | clo _ _=>
   simp[bD] at h
 | int i=>
  obtain⟨t',rfl⟩:=hd;cases e with
  | non=>
   cases he;simp[bD] at h;subst h;exact SeqAt.RcAt.int_none i t'
  | bl c'=>
   cases he;simp only[bD,Qw4] at h;subst h;exact SeqAt.RcAt.int_bool i t' c'
  | int j=>
   obtain⟨t,rfl⟩:=he;simp only[bD,Qw4] at h;subst h;exact SeqAt.RcAt.int_int i t' j t
  | str y=>
   obtain⟨t,rfl⟩:=he;simp[bD] at h;subst h;exact SeqAt.RcAt.int_str i t' _ t
  | tup ys=>
   obtain⟨a',its',rfl,p',hs'⟩:=he;simp[bD] at h;subst h;exact SeqAt.RcAt.int_tuple i t' p' hu0
  | lst ys=>
   obtain⟨a',its',rfl,p',hs'⟩:=he;simp[bD] at h;subst h;exact SeqAt.RcAt.int_list i t' p'.isList hu0
  | arr kvs=>
   simp[bD] at h
  | dct kvs=>
   simp[bD] at h
  | mR kvs=>
   simp[bD] at h
  | clo _ _=>
   simp[bD] at h
 | str x=>
  obtain⟨t',rfl⟩:=hd;cases e with
  | non=>
   cases he;simp[bD] at h;subst h;exact SeqAt.RcAt.str_none _ t'
  | bl c'=>
   cases he;simp[bD] at h;subst h;exact SeqAt.RcAt.str_bool _ t' c'
  | int j=>
   obtain⟨t,rfl⟩:=he;simp[bD] at h;subst h;exact SeqAt.RcAt.str_int _ t' j t
  | str y=>
   obtain⟨t,rfl⟩:=he;simp only[bD,Qw4] at h;subst h;rw[<-xE];exact SeqAt.RcAt.str_str _ t' _ t
  | tup ys=>
   obtain⟨a',its',rfl,p',hs'⟩:=he;simp[bD] at h;subst h;exact SeqAt.RcAt.str_tuple _ t' p' hu0
  | lst ys=>
   obtain⟨a',its',rfl,p',hs'⟩:=he;simp[bD] at h;subst h;exact SeqAt.RcAt.str_list _ t' p'.isList hu0
  | arr kvs=>
   simp[bD] at h
  | dct kvs=>
   simp[bD] at h
  | mR kvs=>
   simp[bD] at h
  | clo _ _=>
   simp[bD] at h
 | tup xs=>
  obtain⟨a,its,rfl,p,hs⟩:=hd;cases e with
  | non=>
   cases he;simp[bD] at h;subst h;exact SeqAt.RcAt.tuple_none p hu0
  | bl c'=>
   cases he;simp[bD] at h;subst h;exact SeqAt.RcAt.tuple_bool c' p hu0
  | int j=>
   obtain⟨t,rfl⟩:=he;simp[bD] at h;subst h;exact SeqAt.RcAt.tuple_int j t p hu0
  | str y=>
   obtain⟨t,rfl⟩:=he;simp[bD] at h;subst h;exact SeqAt.RcAt.tuple_str _ t p hu0
  | tup ys=>
   obtain⟨a',its',rfl,p',hs'⟩:=he;simp only[bD] at h;have l1:=hs.length;have l2:=hs'.length;obtain⟨f,hf,hb⟩:=uY xs ys b h;have:=SeqAt.RcAt.tuples (e:=f) p p' hu0 λj h1 h2=>?_
   ·rw[hb];simp only[Qq4] at this;rw[l1,l2] at this;exact this
   ·exact vV n its its' xs ys f A s hs hs' hf hin j h1 h2
  | lst ys=>
   obtain⟨a',its',rfl,p',hs'⟩:=he;simp[bD] at h;subst h;exact SeqAt.RcAt.tuple_list p p'.isList hu0
  | arr kvs=>
   simp[bD] at h
  | dct kvs=>
   simp[bD] at h
  | mR kvs=>
   simp[bD] at h
  | clo _ _=>
   simp[bD] at h
 | lst xs=>
  obtain⟨a,its,rfl,p,hs⟩:=hd;cases e with
  | non=>
   cases he;simp[bD] at h;subst h;exact SeqAt.RcAt.list_none p.isList hu0
  | bl c'=>
   cases he;simp[bD] at h;subst h;exact SeqAt.RcAt.list_bool c' p.isList hu0
  | int j=>
   obtain⟨t,rfl⟩:=he;simp[bD] at h;subst h;exact SeqAt.RcAt.list_int j t p.isList hu0
  | str y=>
   obtain⟨t,rfl⟩:=he;simp[bD] at h;subst h;exact SeqAt.RcAt.list_str _ t p.isList hu0
  | tup ys=>
   obtain⟨a',its',rfl,p',hs'⟩:=he;simp[bD] at h;subst h;exact SeqAt.RcAt.list_tuple p.isList p' hu0
  | lst ys=>
   obtain⟨a',its',rfl,p',hs'⟩:=he;simp only[bD] at h;have l1:=hs.length;have l2:=hs'.length;by_cases hl:xs.length=ys.length
   ·obtain⟨f,hf,hb⟩:=uY xs ys b h;have:=SeqAt.RcAt.lists (e:=f) p.isList p'.isList (by simp only[Qq4];omega) hu0 λj h1 h2=>?_
    ·rw[hb,<-hl,Nat.min_self,Qk1,Bool.and_true,<-l1];simp only[Qq4] at this;exact this
    ·exact vV n its its' xs ys f A s hs hs' hf hin j h1 h2
   ·have:=zG hl b h;subst this;exact SeqAt.RcAt.lists_lengths p.isList p'.isList (by simp only[Qq4];rw[l1,l2];simpa using hl) hu0
  | arr kvs=>
   simp[bD] at h
  | dct kvs=>
   simp[bD] at h
  | mR kvs=>
   simp[bD] at h
  | clo _ _=>
   simp[bD] at h
 | arr kvs=>
  cases e<;>simp[bD] at h
 | dct kvs=>
  cases e<;>simp[bD] at h
 | mR kvs=>
  cases e<;>simp[bD] at h
 | clo _ _=>
  cases e<;>simp[bD] at h
def YC(n)(d e)(u v)(b)(A)(s)(hd:Sh s.heap d u)(he:Sh s.heap e v)(h:bD (n+1) d e=some b)(hu:A.units+(n+1)<cLine):SeqAt.RcNeAt A s u v (!b):=by
 have hu0:A.units<cLine:=by omega
 have hin:A.in1.units+n<cLine:=by show A.units+1+n<cLine;omega
 cases d with
 | non=>
  cases hd;cases e with
  | non=>
   cases he;simp[bD] at h;subst h;exact SeqAt.RcNeAt.none_none
  | bl c'=>
   cases he;simp[bD] at h;subst h;exact SeqAt.RcNeAt.none_bool c'
  | int j=>
   obtain⟨t,rfl⟩:=he;simp[bD] at h;subst h;exact SeqAt.RcNeAt.none_int j t
  | str y=>
   obtain⟨t,rfl⟩:=he;simp[bD] at h;subst h;exact SeqAt.RcNeAt.none_str _ t
  | tup ys=>
   obtain⟨a',its',rfl,p',hs'⟩:=he;simp[bD] at h;subst h;exact SeqAt.RcNeAt.none_tuple p' hu0
  | lst ys=>
   obtain⟨a',its',rfl,p',hs'⟩:=he;simp[bD] at h;subst h;exact SeqAt.RcNeAt.none_list p'.isList hu0
  | arr kvs=>
   simp[bD] at h
  | dct kvs=>
   simp[bD] at h
  | mR kvs=>
   simp[bD] at h
  | clo _ _=>
   simp[bD] at h
 | bl c=>
  cases hd;cases e with
  | non=>
   cases he;simp[bD] at h;subst h;exact SeqAt.RcNeAt.bool_none c
  | bl c'=>
   cases he;simp only[bD,Qw4] at h;subst h;exact SeqAt.RcNeAt.bool_bool c c'
  | int j=>
   obtain⟨t,rfl⟩:=he;simp only[bD,Qw4] at h;subst h;exact SeqAt.RcNeAt.bool_int c j t
  | str y=>
   obtain⟨t,rfl⟩:=he;simp[bD] at h;subst h;exact SeqAt.RcNeAt.bool_str c _ t
  | tup ys=>
   obtain⟨a',its',rfl,p',hs'⟩:=he;simp[bD] at h;subst h;exact SeqAt.RcNeAt.bool_tuple c p' hu0
  | lst ys=>
   obtain⟨a',its',rfl,p',hs'⟩:=he;simp[bD] at h;subst h;exact SeqAt.RcNeAt.bool_list c p'.isList hu0
  | arr kvs=>
   simp[bD] at h
  | dct kvs=>
   simp[bD] at h
  | mR kvs=>
   simp[bD] at h
  | clo _ _=>
   simp[bD] at h
 | int i=>
  obtain⟨t',rfl⟩:=hd;cases e with
  | non=>
   cases he;simp[bD] at h;subst h;exact SeqAt.RcNeAt.int_none i t'
  | bl c'=>
   cases he;simp only[bD,Qw4] at h;subst h;exact SeqAt.RcNeAt.int_bool i t' c'
  | int j=>
   obtain⟨t,rfl⟩:=he;simp only[bD,Qw4] at h;subst h;exact SeqAt.RcNeAt.int_int i t' j t
  | str y=>
   obtain⟨t,rfl⟩:=he;simp[bD] at h;subst h;exact SeqAt.RcNeAt.int_str i t' _ t
  | tup ys=>
   obtain⟨a',its',rfl,p',hs'⟩:=he;simp[bD] at h;subst h;exact SeqAt.RcNeAt.int_tuple i t' p' hu0
  | lst ys=>
   obtain⟨a',its',rfl,p',hs'⟩:=he;simp[bD] at h;subst h;exact SeqAt.RcNeAt.int_list i t' p'.isList hu0
  | arr kvs=>
   simp[bD] at h
  | dct kvs=>
   simp[bD] at h
  | mR kvs=>
   simp[bD] at h
  | clo _ _=>
   simp[bD] at h
 | str x=>
  obtain⟨t',rfl⟩:=hd;cases e with
  | non=>
   cases he;simp[bD] at h;subst h;exact SeqAt.RcNeAt.str_none _ t'
  | bl c'=>
   cases he;simp[bD] at h;subst h;exact SeqAt.RcNeAt.str_bool _ t' c'
  | int j=>
   obtain⟨t,rfl⟩:=he;simp[bD] at h;subst h;exact SeqAt.RcNeAt.str_int _ t' j t
  | str y=>
   obtain⟨t,rfl⟩:=he;simp only[bD,Qw4] at h;subst h;rw[<-xE];exact SeqAt.RcNeAt.str_str _ t' _ t
  | tup ys=>
   obtain⟨a',its',rfl,p',hs'⟩:=he;simp[bD] at h;subst h;exact SeqAt.RcNeAt.str_tuple _ t' p' hu0
  | lst ys=>
   obtain⟨a',its',rfl,p',hs'⟩:=he;simp[bD] at h;subst h;exact SeqAt.RcNeAt.str_list _ t' p'.isList hu0
  | arr kvs=>
   simp[bD] at h
  | dct kvs=>
   simp[bD] at h
  | mR kvs=>
   simp[bD] at h
  | clo _ _=>
   simp[bD] at h
 | tup xs=>
  obtain⟨a,its,rfl,p,hs⟩:=hd;cases e with
  | non=>
   cases he;simp[bD] at h;subst h;exact SeqAt.RcNeAt.tuple_none p hu0
  | bl c'=>
   cases he;simp[bD] at h;subst h;exact SeqAt.RcNeAt.tuple_bool c' p hu0
  | int j=>
   obtain⟨t,rfl⟩:=he;simp[bD] at h;subst h;exact SeqAt.RcNeAt.tuple_int j t p hu0
  | str y=>
   obtain⟨t,rfl⟩:=he;simp[bD] at h;subst h;exact SeqAt.RcNeAt.tuple_str _ t p hu0
  | tup ys=>
   obtain⟨a',its',rfl,p',hs'⟩:=he;simp only[bD] at h;have l1:=hs.length;have l2:=hs'.length;obtain⟨f,hf,hb⟩:=uY xs ys b h;have:=SeqAt.RcNeAt.tuples (e:=f) p p' hu0 λj h1 h2=>?_
   ·rw[hb];simp only[Qq4] at this;rw[l1,l2] at this;exact this
   ·exact vV n its its' xs ys f A s hs hs' hf hin j h1 h2
  | lst ys=>
   obtain⟨a',its',rfl,p',hs'⟩:=he;simp[bD] at h;subst h;exact SeqAt.RcNeAt.tuple_list p p'.isList hu0
  | arr kvs=>
   simp[bD] at h
  | dct kvs=>
   simp[bD] at h
  | mR kvs=>
   simp[bD] at h
  | clo _ _=>
   simp[bD] at h
 | lst xs=>
  obtain⟨a,its,rfl,p,hs⟩:=hd;cases e with
  | non=>
   cases he;simp[bD] at h;subst h;exact SeqAt.RcNeAt.list_none p.isList hu0
  | bl c'=>
   cases he;simp[bD] at h;subst h;exact SeqAt.RcNeAt.list_bool c' p.isList hu0
  | int j=>
   obtain⟨t,rfl⟩:=he;simp[bD] at h;subst h;exact SeqAt.RcNeAt.list_int j t p.isList hu0
  | str y=>
   obtain⟨t,rfl⟩:=he;simp[bD] at h;subst h;exact SeqAt.RcNeAt.list_str _ t p.isList hu0
  | tup ys=>
   obtain⟨a',its',rfl,p',hs'⟩:=he;simp[bD] at h;subst h;exact SeqAt.RcNeAt.list_tuple p.isList p' hu0
  | lst ys=>
   obtain⟨a',its',rfl,p',hs'⟩:=he;simp only[bD] at h;have l1:=hs.length;have l2:=hs'.length;by_cases hl:xs.length=ys.length
   ·obtain⟨f,hf,hb⟩:=uY xs ys b h;have:=SeqAt.RcNeAt.lists (e:=f) p.isList p'.isList (by simp only[Qq4];omega) hu0 λj h1 h2=>?_
    ·rw[hb,<-hl,Nat.min_self,Qk1,Bool.and_true,<-l1];simp only[Qq4] at this;exact this
    ·exact vV n its its' xs ys f A s hs hs' hf hin j h1 h2
   ·have:=zG hl b h;subst this;exact SeqAt.RcNeAt.lists_lengths p.isList p'.isList (by simp only[Qq4];rw[l1,l2];simpa using hl) hu0
  | arr kvs=>
   simp[bD] at h
  | dct kvs=>
   simp[bD] at h
  | mR kvs=>
   simp[bD] at h
  | clo _ _=>
   simp[bD] at h
 | arr kvs=>
  cases e<;>simp[bD] at h
 | dct kvs=>
  cases e<;>simp[bD] at h
 | mR kvs=>
  cases e<;>simp[bD] at h
 | clo _ _=>
  cases e<;>simp[bD] at h
section
variable{X:Cx}{C:Cfg}
def agM(K:Fg):R2:=λx y H Q=>∃dx dy b,Rep K H dx x/\Rep K H dy y/\bD 60 dx dy=some b/\Q (.bl b) H
def agE(K:Fg):R2:=λx y H Q=>∃dx dy b,Rep K H dx x/\Rep K H dy y/\bD 60 dx dy=some b/\Q (.bl (!b)) H
def ad8(hu:X.A.units+60<cLine):mX X (compareOp .Eq) (agM X.K):=by intro pins s σ H x y v u Q I rx ry h;obtain⟨dx,dy,b,h1,h2,h3,q⟩:=h;exact agx 59 dx dy v u b X.A s (Rep.sh I dx x v h1 rx) (Rep.sh I dy y u h2 ry) h3 hu X.prog X.w X.xe _ ⟨.bl b,H,I,rfl,q⟩
def ad1(hu:X.A.units+60<cLine):mX X (compareOp .NotEq) (agE X.K):=by intro pins s σ H x y v u Q I rx ry h;obtain⟨dx,dy,b,h1,h2,h3,q⟩:=h;exact YC 59 dx dy v u b X.A s (Rep.sh I dx x v h1 rx) (Rep.sh I dy y u h2 ry) h3 hu X.prog X.w X.xe _ ⟨.bl<|!b,H,I,rfl,q⟩
def nU(x y:D):Option D:=(bD 60 x y).map .bl
def Gm(x y:D):Option D:=(bD 60 x y).map λb=>.bl (!b)
def ahf:pN C (agM C.K) nU:=by
 intro Pr F env σ H x y d vx vy Q r hx hy h q;unfold nU at h;cases e:bD 60 x y with
 | none=>rw[e] at h;cases h
 | some b=>
  rw[e] at h;cases h;exact⟨x,y,b,hx.rep r.fr,hy.rep r.fr,e,q _ H F r (aR.refl F) rfl⟩
def ahb:pN C (agE C.K) Gm:=by
 intro Pr F env σ H x y d vx vy Q r hx hy h q;unfold Gm at h;cases e:bD 60 x y with
 | none=>rw[e] at h;cases h
 | some b=>
  rw[e] at h;cases h;exact⟨x,y,b,hx.rep r.fr,hy.rep r.fr,e,q _ H F r (aR.refl F) rfl⟩
def G6(x:D):List D->Option Bool
 | []=>some false
 | y::ys=>match bD 59 y x,G6 x ys with
  | some a,some b=>some (a||b)
  | _,_=>none
theorem Pj(x):∀ys b,G6 x ys=some b->(∀y∈ys,∃c,bD 59 y x=some c)/\(b=true ↔ ∃y∈ys,bD 59 y x=some true)
 | [],b,h=>by simp[G6] at h;subst h;simp
 | y::ys,b,h=>by
  unfold G6 at h;cases h1:bD 59 y x with
  | none=>rw[h1] at h;simp at h
  | some c=>
   cases h2:G6 x ys with
   | none=>rw[h1,h2] at h;simp at h
   | some d=>
    rw[h1,h2] at h;obtain⟨i1,i2⟩:=Pj x ys d h2;have hb:b=(c||d):=by simpa using h.symm
    refine⟨λz hz=>?_,?_⟩
    ·rcases Qqw.mp hz with rfl|hz
     ·exact⟨c,h1⟩
     ·exact i1 z hz
    ·rw[hb,Qxw];constructor
     ·rintro(hc|hd)
      ·exact⟨y,Qqv,by rw[h1,hc]⟩
      ·obtain⟨z,hz,e⟩:=i2.mp hd;exact⟨z,Qq0 _ hz,e⟩
     ·rintro⟨z,hz,e⟩;rcases Qqw.mp hz with rfl|hz
      ·rw[h1] at e;left;simpa using e
      ·right;exact i2.mpr ⟨z,hz,e⟩
open Classical in
noncomputable def CP(h:Heap)(x:D)(u:Value):Bool:=decide (∃y,Sh h y u/\bD 59 y x=some true)
open Classical in
def GQ(hy:Sh h y u)(e:bD 59 y x=some c):CP h x u=c:=by
 unfold CP;cases c with
 | true=>exact Qw2 ⟨y,hy,e⟩
 | false=>
  refine Qw6 ?_;rintro⟨z,hz,e'⟩;have:=Qf 59 z y x u true false hz hy e' e;cases this
def yh(hx:Sh s.heap x v)(hs:Ko s.heap ys us)(h:G6 x ys=some b)(hu:A.units+59<cLine) :
  (∀w,w∈us.toArray->SeqAt.EqAt A s w v (CP s.heap x w))/\us.toArray.any (CP s.heap x)=b:=by
 obtain⟨h1,h2⟩:=Pj x ys b h;have item:∀w∈us,∃y∈ys,Sh s.heap y w:=λw hw=>by
  obtain⟨j,hj,e⟩:=List.mem_iff_getElem.mp hw;obtain⟨d,e1,e2⟩:=nY hs (show us[j]? = some w by rw[Qx4 hj,e]);exact⟨d,Qj7 e1,e2⟩
 have back:∀{ys} {us},Ko s.heap ys us->∀y∈ys,∃w∈us,Sh s.heap y w:=by
  intro ys
  induction ys with
  | nil=>intro us _ y hy;cases hy
  | cons z zs ih=>
   intro us hs y hy;obtain⟨w,r,rfl,g1,g2⟩:=hs;rcases Qqw.mp hy with rfl|hy
   ·exact⟨w,Qqv,g1⟩
   ·obtain⟨w',m,g⟩:=ih g2 y hy;exact⟨w',Qq0 _ m,g⟩
 refine⟨λw hw=>?_,?_⟩
 ·obtain⟨y,hy,sy⟩:=item w (by simpa using hw);obtain⟨c,hc⟩:=h1 y hy;rw[GQ sy hc];exact Gu 59 y x w v c A s sy hx hc hu
 ·rw[List.any_toArray,Qkj,h2,List.any_eq_true];constructor
  ·rintro⟨w,hw,e⟩;obtain⟨y,hy,sy⟩:=item w hw;obtain⟨c,hc⟩:=h1 y hy;rw[GQ sy hc] at e;subst e;exact⟨y,hy,hc⟩
  ·rintro⟨y,hy,e⟩;obtain⟨w,hw,sy⟩:=back hs y hy;exact⟨w,hw,GQ sy e⟩
def HR:D->Option (List D)
 | .tup xs=>some xs
 | .lst xs=>some xs
 | .arr xs=>some xs
 | _=>none
def Q5(K:Fg)(neg:Bool):R2:=λx y H Q=>∃dx dy ys b,Rep K H dx x/\Rep K H dy y/\HR dy=some ys/\G6 dx ys=some b/\Q (.bl (if neg then !b else b)) H
def ad6(hu:X.A.units+61<cLine):mX X (compareOp .In) (Q5 X.K false):=by
 intro pins s σ H x y v u Q I rx ry h;obtain⟨dx,dy,ys,b,h1,h2,h3,h4,q⟩:=h;have hx:=Rep.sh I dx x v h1 rx;have hy:=Rep.sh I dy y u h2 ry;have hin:X.A.in1.units+59<cLine:=by show X.A.units+1+59<cLine;omega
 cases dy with
 | tup zs=>
  cases h3;obtain⟨a,its,rfl,p,hs⟩:=hy;obtain⟨g1,g2⟩:=yh hx hs h4 hin;refine SeqAt.in_tupleAt (CP s.heap dx) p g1 ⟨.bl _,H,I,rfl,?_⟩;rw[g2];exact q
 | lst zs=>
  cases h3;obtain⟨a,its,rfl,p,hs⟩:=hy;obtain⟨g1,g2⟩:=yh hx hs h4 hin;refine SeqAt.in_listAt (CP s.heap dx) p.isList g1 ⟨.bl _,H,I,rfl,?_⟩;rw[g2];exact q
 | arr zs=>
  cases h3;obtain⟨a,its,rfl,p,hs⟩:=hy;obtain⟨g1,g2⟩:=yh (A:=X.A.in1) hx hs h4 hin;refine SeqAt.in_listAt (CP s.heap dx) p.isList g1 ⟨.bl _,H,I,rfl,?_⟩;rw[g2];exact q
 | _=>cases h3
def Ro(hu:X.A.units+61<cLine):mX X (compareOp .NotIn) (Q5 X.K true):=by
 intro pins s σ H x y v u Q I rx ry h;obtain⟨dx,dy,ys,b,h1,h2,h3,h4,q⟩:=h;have hx:=Rep.sh I dx x v h1 rx;have hy:=Rep.sh I dy y u h2 ry;have hin:X.A.in1.units+59<cLine:=by show X.A.units+1+59<cLine;omega
 cases dy with
 | tup zs=>
  cases h3;obtain⟨a,its,rfl,p,hs⟩:=hy;obtain⟨g1,g2⟩:=yh hx hs h4 hin;refine SeqAt.notIn_tupleAt (CP s.heap dx) p g1 ⟨.bl _,H,I,rfl,?_⟩;rw[g2];exact q
 | lst zs=>
  cases h3;obtain⟨a,its,rfl,p,hs⟩:=hy;obtain⟨g1,g2⟩:=yh hx hs h4 hin;refine SeqAt.notIn_listAt (CP s.heap dx) p.isList g1 ⟨.bl _,H,I,rfl,?_⟩;rw[g2];exact q
 | arr zs=>
  cases h3;obtain⟨a,its,rfl,p,hs⟩:=hy;obtain⟨g1,g2⟩:=yh (A:=X.A.in1) hx hs h4 hin;refine SeqAt.notIn_listAt (CP s.heap dx) p.isList g1 ⟨.bl _,H,I,rfl,?_⟩;rw[g2];exact q
 | _=>cases h3
end
def pN.or(h:pN C r g)(h':pN C r' g'):pN C (λx y H Q=>r x y H Q\/r' x y H Q) (λx y=>(g x y).or (g' x y)):=by
 intro Pr F env σ H x y d vx vy Q rl hx hy e q;have e:(g x y).or (g' x y)=some d:=e;cases e1:g x y with
 | some c=>
  rw[e1] at e;cases e;exact .inl<|h Pr F env σ H x y d vx vy Q rl hx hy e1 q
 | none=>
  rw[e1] at e;exact .inr<|h' Pr F env σ H x y d vx vy Q rl hx hy e q
section
variable{X:Cx}{C:Cfg}
def Mw(x y:D):Option D:=match HR y with
 | some ys=>(G6 x ys).map .bl
 | none=>none
def vZ(x y:D):Option D:=match HR y with
 | some ys=>(G6 x ys).map λb=>.bl (!b)
 | none=>none
def aeo:pN C (Q5 C.K false) Mw:=by
 intro Pr F env σ H x y d vx vy Q r hx hy h q;unfold Mw at h;cases e1:HR y with
 | none=>rw[e1] at h;cases h
 | some ys=>
  rw[e1] at h;cases e:G6 x ys with
  | none=>simp only[e,Option.map_none] at h;cases h
  | some b=>
   simp[e,Qk3] at h;cases h;exact⟨x,y,ys,b,hx.rep r.fr,hy.rep r.fr,e1,e,q _ H F r (aR.refl F) rfl⟩
def Rw:pN C (Q5 C.K true) vZ:=by
 intro Pr F env σ H x y d vx vy Q r hx hy h q;unfold vZ at h;cases e1:HR y with
 | none=>rw[e1] at h;cases h
 | some ys=>
  rw[e1] at h;cases e:G6 x ys with
  | none=>simp only[e,Option.map_none] at h;cases h
  | some b=>
   simp[e,Qk3] at h;cases h;exact⟨x,y,ys,b,hx.rep r.fr,hy.rep r.fr,e1,e,q _ H F r (aR.refl F) rfl⟩
def ae6(x y:D):Option D:=match x,y with
 | .str [c],.str z=>some (.bl (decide (c∈z)))
 | _,_=>none
def Gk(x y:D):Option D:=match x,y with
 | .str [c],.str z=>some (.bl (!decide (c∈z)))
 | _,_=>none
abbrev agK:R2:=λx y H Q=>∃i j,x = .str i/\y = .str j/\Q (.bl (!(Builtin.Str.occurrences j i 0 j.length 1).isEmpty)) H
abbrev Oa:R2:=λx y H Q=>∃i j,x = .str i/\y = .str j/\Q (.bl (!(!(Builtin.Str.occurrences j i 0 j.length 1).isEmpty))) H
def one_sign(c)(z):(!(Builtin.Str.occurrences (strOf z) (strOf [c]) 0 (strOf z).length 1).isEmpty)=decide (c∈z):=by
 have:=StrLaws.found_one (strOf z) c;unfold strOf at this ⊢
 simpa using this
def aen:pN C agK ae6:=by
 intro Pr F env σ H x y d vx vy Q r hx hy h q;unfold ae6 at h;split at h
 ·rename_i c z;cases h;obtain⟨rfl,_⟩:=hx.str;obtain⟨rfl,_⟩:=hy.str;refine⟨_,_,rfl,rfl,?_⟩;rw[one_sign];exact q _ H F r (aR.refl F) rfl
 ·cases h
def Rv:pN C Oa Gk:=by
 intro Pr F env σ H x y d vx vy Q r hx hy h q;unfold Gk at h;split at h
 ·rename_i c z;cases h;obtain⟨rfl,_⟩:=hx.str;obtain⟨rfl,_⟩:=hy.str;refine⟨_,_,rfl,rfl,?_⟩;rw[one_sign];exact q _ H F r (aR.refl F) rfl
 ·cases h
def R7(x y:D):Option D:=(Mw x y).or (ae6 x y)
def jH(x y:D):Option D:=(vZ x y).or (Gk x y)
abbrev agL(K:Fg):R2:=λx y H Q=>Q5 K false x y H Q\/agK x y H Q
abbrev Ob(K:Fg):R2:=λx y H Q=>Q5 K true x y H Q\/Oa x y H Q
def ad7(hu:X.A.units+61<cLine):mX X (compareOp .In) (agL X.K):=(ad6 hu).or Rt
def Rp(hu:X.A.units+61<cLine):mX X (compareOp .NotIn) (Ob X.K):=(Ro hu).or Fz
def ahd:pN C (agL C.K) R7:=aeo.or aen
def VB:pN C (Ob C.K) jH:=Rw.or Rv
def isPlain(x:V):Prop:=x = .non\/∃b,x = .bl b
def ad5:mX X (compareOp .Is) (λx y H Q=>isPlain y/\Q (.bl (decide (x=y))) H):=by
 intro pins s σ H x y v u Q I rx ry h;obtain⟨hp,q⟩:=h;rcases hp with rfl|⟨b,rfl⟩
 ·exact ad4 pins s σ H x .non v u Q I rx ry ⟨rfl,q⟩
 ·cases ry;refine wpAny_is_plain ?_<|uR I q ?_
  ·cases x<;>first|(cases rx;rfl)|(obtain⟨t,rfl⟩:=rx;rfl)
  ·cases x with
   | bl c=>cases rx;cases b<;>cases c<;>rfl
   | _=>first|(cases rx;rfl)|(obtain⟨t,rfl⟩:=rx;rfl)
def Rr:mX X (compareOp .IsNot) (λx y H Q=>isPlain y/\Q (.bl (!decide (x=y))) H):=by
 intro pins s σ H x y v u Q I rx ry h;obtain⟨hp,q⟩:=h;rcases hp with rfl|⟨b,rfl⟩
 ·exact ZD pins s σ H x .non v u Q I rx ry ⟨rfl,q⟩
 ·cases ry;refine wpAny_isNot_plain ?_<|uR I q ?_
  ·cases x<;>first|(cases rx;rfl)|(obtain⟨t,rfl⟩:=rx;rfl)
  ·cases x with
   | bl c=>cases rx;cases b<;>cases c<;>rfl
   | _=>first|(cases rx;rfl)|(obtain⟨t,rfl⟩:=rx;rfl)
def isD:D->D->Option Bool
 | .non,.non=>some true
 | .bl a,.bl b=>some (a == b)
 | _,.non=>some false
 | _,.bl _=>some false
 | _,_=>none
def gIs(x y:D):Option D:=(isD x y).map .bl
def Gp(x y:D):Option D:=(isD x y).map λb=>.bl (!b)
def abX(hx:jg C.K F H x vx)(hy:jg C.K F H y vy)(h:isD x y=some b):isPlain vy/\decide (vx=vy)=b:=by
 have ai3:∀a,¬(V.ref a=V.non):=λa e=>by cases e
 cases y with
 | non=>
  obtain rfl:=hy.non;refine⟨.inl rfl,?_⟩;cases x with
  | non=>obtain rfl:=hx.non;simp[isD] at h;simp[h]
  | bl c=>obtain rfl:=hx.bl;simp[isD] at h;simp[h]
  | int i=>obtain rfl:=hx.int;simp[isD] at h;simp[h]
  | str z=>obtain⟨rfl,_⟩:=hx.str;simp[isD] at h;simp[h]
  | tup xs=>rcases hx with ⟨_,a,_,rfl,_⟩|⟨a,rfl,_⟩<;>(simp[isD] at h;simp[h])
  | lst xs=>rcases hx with ⟨_,a,_,rfl,_⟩|⟨a,rfl,_⟩<;>(simp[isD] at h;simp[h])
  | arr xs=>rcases hx with ⟨_,a,_,rfl,_⟩|⟨a,rfl,_⟩<;>(simp[isD] at h;simp[h])
  | dct xs=>rcases hx with ⟨_,a,_,rfl,_⟩|⟨a,rfl,_⟩<;>(simp[isD] at h;simp[h])
  | mR xs=>rcases hx with ⟨_,a,_,rfl,_⟩|⟨a,rfl,_⟩<;>(simp[isD] at h;simp[h])
  | clo st xs=>rcases hx with ⟨a,_,rfl,_⟩|⟨a,rfl,_⟩<;>(simp[isD] at h;simp[h])
 | bl k=>
  obtain rfl:=hy.bl;refine⟨.inr ⟨k,rfl⟩,?_⟩;cases x with
  | non=>obtain rfl:=hx.non;simp[isD] at h;simp[h]
  | bl c=>obtain rfl:=hx.bl;simp[isD,Qw4] at h;rw[<-h,afj]
  | int i=>obtain rfl:=hx.int;simp[isD] at h;simp[h]
  | str z=>obtain⟨rfl,_⟩:=hx.str;simp[isD] at h;simp[h]
  | tup xs=>rcases hx with ⟨_,a,_,rfl,_⟩|⟨a,rfl,_⟩<;>(simp[isD] at h;simp[h])
  | lst xs=>rcases hx with ⟨_,a,_,rfl,_⟩|⟨a,rfl,_⟩<;>(simp[isD] at h;simp[h])
  | arr xs=>rcases hx with ⟨_,a,_,rfl,_⟩|⟨a,rfl,_⟩<;>(simp[isD] at h;simp[h])
  | dct xs=>rcases hx with ⟨_,a,_,rfl,_⟩|⟨a,rfl,_⟩<;>(simp[isD] at h;simp[h])
  | mR xs=>rcases hx with ⟨_,a,_,rfl,_⟩|⟨a,rfl,_⟩<;>(simp[isD] at h;simp[h])
  | clo st xs=>rcases hx with ⟨a,_,rfl,_⟩|⟨a,rfl,_⟩<;>(simp[isD] at h;simp[h])
 | _=>cases x<;>simp[isD] at h
def Ow:pN C (λx y H Q=>isPlain y/\Q (.bl (decide (x=y))) H) gIs:=by
 intro Pr F env σ H x y d vx vy Q r hx hy h q;unfold gIs at h;cases e:isD x y with
 | none=>rw[e] at h;cases h
 | some b=>
  rw[e] at h;cases h;obtain⟨h1,h2⟩:=abX hx hy e;exact⟨h1,by rw[h2];exact q _ H F r (aR.refl F) rfl⟩
def VD:pN C (λx y H Q=>isPlain y/\Q (.bl (!decide (x=y))) H) Gp:=by
 intro Pr F env σ H x y d vx vy Q r hx hy h q;unfold Gp at h;cases e:isD x y with
 | none=>rw[e] at h;cases h
 | some b=>
  rw[e] at h;cases h;obtain⟨h1,h2⟩:=abX hx hy e;exact⟨h1,by rw[h2];exact q _ H F r (aR.refl F) rfl⟩
def gI(c:Int->Int->Bool)(f:Int->Int->D)(x y:D):Option D:=match x,y with
 | .int i,.int j=>if c i j=true then some (f i j) else none
 | _,_=>none
def VF(hc:∀i j,c i j=true->Cd i j)(hf:∀i j F,Rep C.K F (f i j) (g i j)):pN C (rI Cd g) (gI c f):=by
 intro Pr F env σ H x y d vx vy Q r hx hy h q;unfold gI at h;split at h
 ·rename_i i j;split at h
  ·rename_i hcc;cases h;obtain rfl:=hx.int;obtain rfl:=hy.int;exact⟨i,j,rfl,rfl,hc i j hcc,q _ H F r (aR.refl F)<|hf i j F⟩
  ·cases h
 ·cases h
def Ox(hf:∀i j F,Rep C.K F (f i j) (g i j)):pN C (Oc g) (gI (λ_ _=>true) f):=by
 intro Pr F env σ H x y d vx vy Q r hx hy h q;unfold gI at h;split at h
 ·rename_i i j;rw[if_pos rfl] at h;cases h;obtain rfl:=hx.int;obtain rfl:=hy.int;exact⟨i,j,rfl,rfl,q _ H F r (aR.refl F)<|hf i j F⟩
 ·cases h
def jV(i j:Int):Bool:=decide (Builtin.Int.intBits i+Builtin.Int.intBits j<=134217728)
def ZF:mX X (binaryOp .Mult) (rI (λi j=>jV i j=true) λi j=>.int (i*j)):=
 opI λi j _ _ _ _ _ hc q=>mul_int q<|mulOk_of_bits (Qq2 _) (Qq2 _)<|Qw5 hc
def pI:D->D->Option D:=gI jV λi j=>.int (i*j)
def uO:D->D->Option D:=gI (λ_ _=>true) λi j=>.int (i - j)
def R5:D->D->Option D:=gI (λ_ j=>decide (0<j)) λi j=>.int (i % j)
def Mv:D->D->Option D:=gI (λi j=>decide (0<=j/\j<=1000000/\i.natAbs<2^64)) λi j=>.int (i^j.toNat)
def R4:D->D->Option D:=gI (λi j=>decide (0<=j/\j<=1000000/\i.natAbs<2^64)) λi j=>.int (i*2^j.toNat)
def Gh:D->D->Option D:=gI (λ_ j=>decide (0<=j)) λi j=>.int (i / 2^j.toNat)
def JG:D->D->Option D:=gI (λ_ _=>true) λi j=>.int (Builtin.bitAnd i j)
def aej:pN C (rI (λi j=>jV i j=true) λi j=>.int (i*j)) pI:=VF (λ_ _ h=>h) λ_ _ _=>rfl
def aef:pN C (Oc λi j=>.int (i - j)) uO:=Ox λ_ _ _=>rfl
def aek:pN C (rI (λ_ j=>0<j) λi j=>.int (i % j)) R5:=VF (λ_ _ h=>Qw5 h) λ_ _ _=>rfl
def aei:pN C (rI abg λi j=>.int (i^j.toNat)) Mv:=VF (λi j h=>(show 0<=j/\j<=1000000/\i.natAbs<2^64 from Qw5 h)) λ_ _ _=>rfl
def aeh:pN C (rI abg λi j=>.int (i*2^j.toNat)) R4:=VF (λi j h=>(show 0<=j/\j<=1000000/\i.natAbs<2^64 from Qw5 h)) λ_ _ _=>rfl
def aeg:pN C (rI (λ_ j=>0<=j) λi j=>.int (i / 2^j.toNat)) Gh:=VF (λ_ _ h=>Qw5 h) λ_ _ _=>rfl
def aep:pN C (Oc λi j=>.int (Builtin.bitAnd i j)) JG:=Ox λ_ _ _=>rfl
abbrev agF:R2:=λx y H Q=>∃i j,x = .str i/\y = .str j/\Q (.bl (decide (i.cps.toList<j.cps.toList))) H
def ahN:D->D->Option D:=gI (λ_ _=>true) λi j=>.bl (decide (i<j))
def ae4(x y:D):Option D:=match x,y with
 | .str a,.str b=>some (.bl (decide (a<b)))
 | _,_=>none
def gLt(x y:D):Option D:=(ahN x y).or (ae4 x y)
def gGt:D->D->Option D:=gI (λ_ _=>true) λi j=>.bl (decide (j<i))
def ael:pN C agF ae4:=by
 intro Pr F env σ H x y d vx vy Q r hx hy h q;unfold ae4 at h;split at h
 ·cases h;obtain⟨rfl,_⟩:=hx.str;obtain⟨rfl,_⟩:=hy.str;exact⟨_,_,rfl,rfl,q _ H F r (aR.refl F) (by congr)⟩
 ·cases h
abbrev agG:R2:=λx y H Q=>Oc (λi j=>.bl (decide (i<j))) x y H Q\/agF x y H Q
def ad3:mX X (compareOp .Lt) agG:=ag6.or Rq
def aem:pN C (Oc λi j=>.bl (decide (i<j))) ahN:=Ox λ_ _ _=>rfl
def ahc:pN C agG gLt:=aem.or ael
def ahe:pN C (Oc λi j=>.bl (decide (j<i))) gGt:=Ox λ_ _ _=>rfl
def UG(K:Fg):R2:=λx y H Q=>∃a b ys,x = .ref a/\y = .ref b/\qO K H a []/\qO K H b ys/\Q (.ref b) H
def Vw:mX X (binaryOp .Add) (UG X.K):=by
 intro pins s σ H x y v u Q I rx ry h;obtain⟨a,b,ys,rfl,rfl,ha,hb,q⟩:=h;cases rx;cases ry;obtain⟨its,r1,p1,_⟩:=I.tuple ha;obtain⟨its2,r2,p2,_⟩:=I.tuple hb;cases r1;obtain⟨⟨cls,dd,data,sl⟩,ho,hc,n,hd⟩:=id p1;obtain⟨⟨cls2,dd2,data2,sl2⟩,ho2,hc2,n2,hd2⟩:=id p2;simp at hc hd hc2 hd2;subst hc hd hc2 hd2;exact concat_meets ⟨_,ho,rfl⟩ ⟨_,ho2,rfl⟩ noFill_tuple_add seq_tuple_add PySem.F.slot_tuple_add PySem.F.entry_tuple_add (PySem.F.args_tuple_add_2 _ _)
  (tuple_addW0 a b [].toArray its2.toArray n n2 dd dd2 sl sl2 (by simp)) ⟨ho,ho2,⟨.ref b,H,I,rfl,q⟩⟩
abbrev agP:R2:=λx y H Q=>∃i j,x = .str i/\y = .str j/\i.length+j.length<=sizeLine/\Q (.str (i++j)) H
abbrev agQ(K:Fg):R2:=λx y H Q=>Oc (λi j=>.int (i+j)) x y H Q\/agP x y H Q\/agO x y H Q\/abz K x y H Q\/UG K x y H Q
def ZJ:mX X (binaryOp .Add) (agQ X.K):=aeb.or<|LQ.or<|ad9.or<|ZG.or Vw
def bK(x y:D):Option D:=match x,y with
 | .int i,.int j=>some (.int (i+j))
 | .str a,.str b=>if a.length+b.length<=sizeLine then some (.str (a++b)) else none
 | .lst a,.lst b=>if a.length+b.length<=sizeLine then some (.lst (a++b)) else none
 | .tup a,.tup b=>if a.length+b.length<=sizeLine then some (.tup (a++b)) else none
 | _,_=>none
def gU(a b):strOf a++strOf b=strOf (a++b):=by show(⟨(strOf a).cps++(strOf b).cps⟩:Str)=_;unfold strOf;simp
def aU(a):(strOf a).length=a.length:=by show a.toArray.size=a.length;simp
def aer:pN C (agQ C.K) bK:=by
 intro Pr F env σ H x y d vx vy Q r hx hy h q;unfold bK at h;split at h
 ·cases h;obtain rfl:=hx.int;obtain rfl:=hy.int;exact .inl ⟨_,_,rfl,rfl,q _ H F r (aR.refl F) rfl⟩
 ·split at h
  ·rename_i hz;cases h;obtain⟨rfl,_⟩:=hx.str;obtain⟨rfl,_⟩:=hy.str;refine .inr<|.inl ⟨_,_,rfl,rfl,by rw[aU,aU];exact hz,?_⟩;rw[gU];exact q _ H F r (aR.refl F) ⟨rfl,by rw[Qqq];exact hz⟩
  ·cases h
 ·split at h
  ·rename_i hz;cases h;obtain⟨_,a,vs,rfl,h1,h2⟩:=hx.lst r.fr;obtain⟨_,b,ws,rfl,h3,h4⟩:=hy.lst r.fr;refine .inr<|.inr<|.inl ⟨a,b,vs,ws,rfl,rfl,h1,h3,by rw[h2.length,h4.length];exact hz,λp hp=>?_⟩;obtain⟨r2,s2⟩:=r.new hp;exact q _ _ _ r2 s2 ⟨by rw[Qqq];exact hz,p,_,rfl,aZ,bT.mono s2 _ _<|h2.append h4⟩
  ·cases h
 ·split at h
  ·rename_i hz;cases h;obtain⟨z1,a,vs,rfl,h1,f1,h2⟩:=hx.tup r.fr;obtain⟨z2,b,ws,rfl,h3,f3,h4⟩:=hy.tup r.fr;by_cases hv:vs=[]
   ·subst hv;have e1:=h2.length.symm;have e2:=Qzy e1;subst e2;refine .inr<|.inr<|.inr<|.inr ⟨a,b,ws,rfl,rfl,h1,h3,?_⟩;exact q _ H F r (aR.refl F) ⟨z2,b,ws,rfl,f3,h4⟩
   ·refine .inr<|.inr<|.inr<|.inl ⟨a,b,vs,ws,rfl,rfl,h1,h3,hv,by rw[h2.length,h4.length];exact hz,λhw=>?_,λhw p hp=>?_⟩
    ·subst hw;have e1:=h4.length.symm;have e2:=Qzy e1;subst e2;rw[Qx2] at q;exact q _ H F r (aR.refl F) ⟨z1,a,vs,rfl,f1,h2⟩
    ·obtain⟨r2,s2⟩:=r.new hp;exact q _ _ _ r2 s2 ⟨by rw[Qqq];exact hz,p,_,rfl,qO.of aZ,bT.mono s2 _ _<|h2.append h4⟩
  ·cases h
 ·cases h
def Kh(K:Fg)(F H:Hp):List D->List V->Prop
 | [],vs=>vs=[]
 | d::ds,vs=>∃v r,vs=v::r/\jg K F H d v/\Kh K F H ds r
def tAB(C:Cfg)(ev:dq):TA:=λσ H Q=>∃(Pr F:Hp) (env env':Env) (ds:List D),Rel C Pr F env σ H/\ev env = .ok ds env'/\
 ∀vs H' F',Rel C Pr F' env' σ H'->aR F F'->Kh C.K F' H' ds vs->Q vs H'
def aba(X:Cx)(C:Cfg)(es:List Expr)(ev:dq):Prop:=PA X es (tAB C ev)
def CallD(C:Cfg)(r:List V->Hp->VK->Prop)(g:List D->Option D):Prop:=∀(Pr F:Hp) (env:Env) (σ:L2.St) (H:Hp) (ds:List D) (d:D) (vs:List V) (Q:VK),Rel C Pr F env σ H->Kh C.K F H ds vs->g ds=some d->
 (∀v H' F',Rel C Pr F' env σ H'->aR F F'->Rep C.K F' d v->Q v H')->r vs H Q
def aq(g:List D->Option D)(a:dq):Ev:=λenv=>bindR (a env) λds aD=>fX (g ds) aD
def Ql(o:CallD C r g)(σ)(H)(Q)(h:tE C (aq g a) σ H Q):tCB r (tAB C a) σ H Q:=by obtain⟨Pr,F,env,env',d,rl,e,q⟩:=h;obtain⟨ds,aD,e1,e2⟩:=aO e;obtain⟨e3,rfl⟩:=cA e2;exact⟨Pr,F,env,env',ds,rl,e1,λvs H1 F1 r1 s1 p1=>o Pr F1 env' σ H1 ds d vs Q r1 p1 e3 λv H2 F2 r2 s2 p2=>q v H2 F2 r2 (s1.trans s2) p2⟩
def nC{p pos:Pos}{id:String}(hc:iu X (.builtin id) r)(o:CallD C r g)(hg:Gl X x)(hm:X.mg x=none)(hv:bootBuiltins x=some (.builtin id))(ha:aba X C (e::es) a)
  (hn:x ≠ "__name__":=by decide) (hdb:jN x:=by decide) (he:starEach (e::es) X.env=(false,eval e X.env)::starEach es X.env:=by rfl) (hpl:(backTo pos (starEach es X.env)).any (·.1)=false:=by rfl) :
  PX X C (.Call (.Name x p) (e::es) [] pos) (aq g a):=(rN hc hg hm hv ha hn hdb he hpl).imp<|Ql o
def xQ{p pos:Pos}(hc:iu X (.type T) r)(o:CallD C r g)(hg:Gl X x)(hm:X.mg x=none)(hv:bootBuiltins x=some (.type T))(ha:aba X C (e::es) a)
  (hn:x ≠ "__name__":=by decide) (hdb:jN x:=by decide) (he:starEach (e::es) X.env=(false,eval e X.env)::starEach es X.env:=by rfl) (hpl:(backTo pos (starEach es X.env)).any (·.1)=false:=by rfl) :
  PX X C (.Call (.Name x p) (e::es) [] pos) (aq g a):=(Du hc hg hm hv ha hn hdb he hpl).imp<|Ql o
def lu{K:Fg}(h:Kh K F H [d] vs):∃v,vs=[v]/\jg K F H d v:=by obtain⟨v,r,rfl,h1,h2⟩:=h;cases h2;exact⟨v,rfl,h1⟩
def M5{K:Fg}(h:Kh K F H [d,e] vs):∃v w,vs=[v,w]/\jg K F H d v/\jg K F H e w:=by obtain⟨v,r,rfl,h1,h2⟩:=h;obtain⟨w,rfl,h3⟩:=lu h2;exact⟨v,w,rfl,h1,h3⟩
def dD:List D->Option D
 | [.str x]=>some (.int x.length)
 | [.tup xs]=>some (.int xs.length)
 | [.lst xs]=>some (.int xs.length)
 | [.arr xs]=>some (.int xs.length)
 | _=>none
def afr:CallD C (λxs H Q=>∃x n,xs=[x]/\ah9 C.K x H n/\Q (.int n) H) dD:=by
 intro Pr F env σ H ds d vs Q r hs h q;unfold dD at h;split at h
 ·cases h;obtain⟨v,rfl,hv⟩:=lu hs;obtain⟨rfl,hz⟩:=hv.str;exact⟨_,_,rfl,⟨by rw[aU];exact hz,(aU _).symm⟩,q _ H F r (aR.refl F) rfl⟩
 ·cases h;obtain⟨v,rfl,hv⟩:=lu hs;obtain⟨_,a,ws,rfl,h1,_,h2⟩:=hv.tup r.fr;exact⟨_,_,rfl,.inr ⟨ws,h1,h2.length.symm⟩,q _ H F r (aR.refl F) rfl⟩
 ·cases h;obtain⟨v,rfl,hv⟩:=lu hs;obtain⟨_,a,ws,rfl,h1,h2⟩:=hv.lst r.fr;exact⟨_,_,rfl,.inl ⟨ws,lG.of h1,h2.length.symm⟩,q _ H F r (aR.refl F) rfl⟩
 ·cases h;obtain⟨v,rfl,hv⟩:=lu hs;obtain⟨_,a,ws,rfl,h1,h2⟩:=hv.arr r.fr;exact⟨_,_,rfl,.inl ⟨ws,h1,h2.length.symm⟩,q _ H F r (aR.refl F) rfl⟩
 ·cases h
def fZ:List D->Option D
 | [.tup xs]=>some (.tup xs)
 | [.lst xs]=>some (.tup xs)
 | _=>none
abbrev Uv(K:Fg):List V->Hp->VK->Prop:=λxs H Q=>∃p ys,xs=[.ref p]/\((lG K H p ys/\∀l,H l=none->Q (.ref l) (upd H l (.tup ys)))\/(qO K H p ys/\Q (.ref p) H))
def W6:CallD C (Uv C.K) fZ:=by
 intro Pr F env σ H ds d vs Q r hs h q;unfold fZ at h;split at h
 ·cases h;obtain⟨v,rfl,hv⟩:=lu hs;obtain⟨z,a,ws,rfl,h1,f1,h2⟩:=hv.tup r.fr;exact⟨a,ws,rfl,.inr ⟨h1,q _ H F r (aR.refl F) ⟨z,a,ws,rfl,f1,h2⟩⟩⟩
 ·cases h;obtain⟨v,rfl,hv⟩:=lu hs;obtain⟨z,a,ws,rfl,h1,h2⟩:=hv.lst r.fr;refine⟨a,ws,rfl,.inl ⟨lG.of h1,λl hl=>?_⟩⟩;obtain⟨r2,s2⟩:=r.new hl;exact q _ _ _ r2 s2 ⟨z,l,ws,rfl,qO.of aZ,bT.mono s2 _ _ h2⟩
 ·cases h
def signs(x:List Nat):List D:=x.map λc=>.str [c]
abbrev Uy:List V->Hp->VK->Prop:=λxs H Q=>∃z,xs=[.str z]/\z.length<=sizeLine/\∀l,H l=none->Q (.ref l) (upd H l (.lst (z.cps.toList.map λc=>V.str ⟨#[c]⟩)))
def MP(hh:X.calm=true):iu X (.type "list") Uy:=by
 intro pins s σ H xs us Q I r h;obtain⟨z,rfl,hz,q⟩:=h;obtain⟨u,rfl,⟨t,rfl⟩⟩:=vals1 r;refine call_list_str (I.ok.hd hh) z t (λh' tk acc' c' kp e hacc=>?_) hz;refine⟨.ref s.heap.objs.size,_,I.laid kp (Qq2 _)<|show gK X.prog X.w _ h' _ (.lst<|z.cps.toList.map λc=>V.str ⟨#[c]⟩) from⟨?_,acc'.toList,c',?_,by simpa using e⟩,rfl,q _<|I.hok.fresh<|Qq2 _⟩
 ·simpa[Str.length] using hz
 ·obtain⟨hsz,hit⟩:=hacc;have go:∀(cs:List Nat) vs,vs.length=cs.length->(∀(j:Nat) v,vs[j]? = some v->∃c u,cs[j]? = some c/\v=Value.str ⟨#[c]⟩ u)->Vals (cs.map λc=>V.str ⟨#[c]⟩) vs:=by
   intro cs
   induction cs with
   | nil=>intro vs hl _;rw[Qzy hl];exact .nil
   | cons c cs ih=>
    intro vs hl hv;cases vs with
    | nil=>simp at hl
    | cons v vs=>
     obtain⟨c',u,e1,e2⟩:=hv 0 v rfl;simp at e1;subst e1 e2;exact .cons ⟨u,rfl⟩<|ih vs (by simpa using hl) λj w hw=>by simpa using hv (j+1) w (by simpa using hw)
  refine go _ _ (by simpa using hsz) λj v hv=>?_;obtain⟨c,u,e1,e2⟩:=hit j v (by simpa using hv);exact⟨c,u,by simpa using e1,e2⟩
def DQ:List D->Option D
 | [.tup xs]=>some (.lst xs)
 | [.lst xs]=>some (.lst xs)
 | [.str x]=>some (.lst (signs x))
 | _=>none
abbrev Uz(K:Fg):List V->Hp->VK->Prop:=λxs H Q=>(∃p ys,xs=[.ref p]/\(lG K H p ys\/qO K H p ys)/\∀l,H l=none->Q (.ref l) (upd H l (.lst ys)))\/Uy xs H Q
def MT(hh:X.calm=true):iu X (.type "list") (Uz X.K):=GC.or<|MP hh
theorem uD{K:Fg}:∀x,bT K F (signs x) (x.map λc=>V.str ⟨#[c]⟩)
 | []=>rfl
 | c::x=>⟨_,_,rfl,⟨rfl,by rw[Qky];simp⟩,uD x⟩
def aaO:CallD C (Uz C.K) DQ:=by
 intro Pr F env σ H ds d vs Q r hs h q;unfold DQ at h;split at h
 ·cases h;obtain⟨v,rfl,hv⟩:=lu hs;obtain⟨z,a,ws,rfl,h1,f1,h2⟩:=hv.tup r.fr;refine .inl ⟨a,ws,rfl,.inr h1,λl hl=>?_⟩;obtain⟨r2,s2⟩:=r.new hl;exact q _ _ _ r2 s2 ⟨z,l,ws,rfl,aZ,bT.mono s2 _ _ h2⟩
 ·cases h;obtain⟨v,rfl,hv⟩:=lu hs;obtain⟨z,a,ws,rfl,h1,h2⟩:=hv.lst r.fr;refine .inl ⟨a,ws,rfl,.inl<|lG.of h1,λl hl=>?_⟩;obtain⟨r2,s2⟩:=r.new hl;exact q _ _ _ r2 s2 ⟨z,l,ws,rfl,aZ,bT.mono s2 _ _ h2⟩
 ·rename_i x;cases h;obtain⟨v,rfl,hv⟩:=lu hs;obtain⟨rfl,hz⟩:=hv.str;refine .inr ⟨_,rfl,by rw[aU];exact hz,λl hl=>?_⟩;obtain⟨r2,s2⟩:=r.new hl;refine q _ _ _ r2 s2 ⟨by simpa[signs] using hz,l,_,rfl,aZ,?_⟩;have e:(strOf x).cps.toList=x:=by simp[strOf]
  rw[e];exact uD x
 ·cases h
def R6:List D->Option D
 | [.int i,.int j]=>some (.int (if j > i then j else i))
 | _=>none
def JF:List D->Option D
 | [.int i,.int j]=>some (.int (if j<i then j else i))
 | _=>none
def afq:CallD C (λxs H Q=>∃i j,xs=[.int i,.int j]/\Q (.int (if j > i then j else i)) H) R6:=by
 intro Pr F env σ H ds d vs Q r hs h q;unfold R6 at h;split at h
 ·cases h;obtain⟨v,w,rfl,hv,hw⟩:=M5 hs;obtain rfl:=hv.int;obtain rfl:=hw.int;exact⟨_,_,rfl,q _ H F r (aR.refl F) rfl⟩
 ·cases h
def afp:CallD C (λxs H Q=>∃i j,xs=[.int i,.int j]/\Q (.int (if j<i then j else i)) H) JF:=by
 intro Pr F env σ H ds d vs Q r hs h q;unfold JF at h;split at h
 ·cases h;obtain⟨v,w,rfl,hv,hw⟩:=M5 hs;obtain rfl:=hv.int;obtain rfl:=hw.int;exact⟨_,_,rfl,q _ H F r (aR.refl F) rfl⟩
 ·cases h
def wu:List D->Option D
 | [.int i,.int j]=>if 0<j/\j<1073741824 then some (.tup [.int (i / j),.int (i % j)]) else none
 | _=>none
def Sv:CallD C (λxs H Q=>∃i j,xs=[.int i,.int j]/\aic i j/\∀p,H p=none->Q (.ref p) (upd H p (.tup [.int (i / j),.int (i % j)]))) wu:=by
 intro Pr F env σ H ds d vs Q r hs h q;unfold wu at h;split at h
 ·split at h
  ·rename_i hj;cases h;obtain⟨v,w,rfl,hv,hw⟩:=M5 hs;obtain rfl:=hv.int;obtain rfl:=hw.int;refine⟨_,_,rfl,hj,λp hp=>?_⟩;obtain⟨r2,s2⟩:=r.new hp;exact q _ _ _ r2 s2 ⟨by rw[Qky];simp,p,_,rfl,qO.of aZ,⟨_,_,rfl,rfl,_,_,rfl,rfl,rfl⟩⟩
  ·cases h
 ·cases h
def TF:D->String
 | .non=>"NoneType"
 | .bl _=>"bool"
 | .int _=>"int"
 | .str _=>"str"
 | .tup _=>"tuple"
 | .lst _=>"list"
 | .arr _=>"list"
 | .dct _=>"dict"
 | .mR _=>"dict"
 | .clo _ _=>"NoneType"
def rY(d:D)(T:String):Bool:=TF d == T||(TF d == "bool" && T == "int")
def aeQ(Jl:X.K.In s.heap)(nc:∀st ds,d ≠ .clo st ds)(h:Sh s.heap d u)(e:PySem.W.kitOne X.K (.type (TF d)) c=some b)(q:∀tk,Q (.bool b) { s with toks:=tk }) :
  wpAny (model X.prog X.w) A (call (.builtin "isinstance") [u,c]) Q E s:=by
 cases d with
 | non=>cases h;exact PySem.W.kia_one PySem.W.kitx_none Jl True.intro e (λz=>nomatch z) q
 | bl y=>cases h;exact PySem.W.kia_one PySem.W.kitx_bool Jl True.intro e (λz=>nomatch z) q
 | int i=>obtain⟨t,rfl⟩:=h;exact PySem.W.kia_one PySem.W.kitx_int Jl True.intro e (λz=>nomatch z) q
 | str y=>obtain⟨t,rfl⟩:=h;exact PySem.W.kia_one PySem.W.kitx_str Jl True.intro e (λz=>nomatch z) q
 | tup xs=>
  obtain⟨a,its,rfl,p,_⟩:=h;obtain⟨o,h1,h2,_⟩:=p;exact PySem.W.kia_one PySem.W.kitx_tuple Jl ⟨o,h1,h2⟩ e (λz=>nomatch z) q
 | lst xs=>
  obtain⟨a,its,rfl,p,_⟩:=h;obtain⟨o,h1,h2,_⟩:=p.isList;exact PySem.W.kia_one PySem.W.kitx_list Jl ⟨o,h1,h2⟩ e (λz=>nomatch z) q
 | arr xs=>
  obtain⟨a,its,rfl,p,_⟩:=h;obtain⟨o,h1,h2,_⟩:=p.isList;exact PySem.W.kia_one PySem.W.kitx_list Jl ⟨o,h1,h2⟩ e (λz=>nomatch z) q
 | dct kvs=>
  obtain⟨a,o,rfl,h1,h2⟩:=h;exact PySem.W.kia_one PySem.W.kitx_dict Jl ⟨o,h1,h2.1⟩ e (λz=>nomatch z) q
 | mR kvs=>
  obtain⟨a,o,rfl,h1,h2⟩:=h;exact PySem.W.kia_one PySem.W.kitx_dict Jl ⟨o,h1,h2.1⟩ e (λz=>nomatch z) q
 | clo st ds=>exact(nc st ds rfl).elim
def oZ(T:String)(d:D):Option D:=match d with
 | .clo _ _=>none
 | _=>some (.bl (rY d T))
def aan(h:oZ T d=some e):(∀st ds,d ≠ .clo st ds)/\e = .bl (rY d T):=by cases d<;>simp[oZ] at h<;>exact⟨λ_ _ z=>(by cases z),h.symm⟩
theorem W9(hk:∀d,PySem.W.kitOne X.K (.type (TF d)) (.type T)=some (rY d T)) :
  iu X (.builtin "isinstance") (λxs H Q=>∃d x,xs=[x,.ty T]/\(∀st ds,d ≠ .clo st ds)/\Rep X.K H d x/\Q (.bl (rY d T)) H):=by
 intro pins s σ H xs us Q I r h;obtain⟨d,x,rfl,nc,hr,q⟩:=h;obtain⟨u,w,rfl,r1,r2⟩:=vals2 r;cases r2;exact aeQ I.G5 nc (Rep.sh I d x u hr r1) (hk d) λtk=>⟨.bl _,H,I.tok tk,rfl,q⟩
def ou:List D->Option (List Bool)
 | []=>some []
 | .bl b::r=>(ou r).map (b :: ·)
 | _=>none
theorem vI{K:Fg}:∀{ds} {bs} {vs},ou ds=some bs->bT K F ds vs->vs=bs.map V.bl
 | [],bs,vs,h,hr=>by simp[ou] at h;subst h;cases hr;rfl
 | d::ds,bs,vs,h,hr=>by
  obtain⟨v,r,rfl,h1,h2⟩:=hr;cases d with
  | bl b=>
   simp only[ou] at h;cases e:ou ds with
   | none=>rw[e] at h;cases h
   | some cs=>
    rw[e] at h;cases h;cases h1;rw[vI e h2]
    rfl
  | _=>simp[ou] at h
theorem vd:∀{bs:List Bool} {us},Vals (bs.map V.bl) us->us=bs.map Value.bool
 | [],_,.nil=>rfl
 | b::bs,_,.cons r t=>by
  cases r;rw[vd t]
  rfl
def CQ(bs:List Bool):(List.range bs.length).all (λi=>bs.getD i true)=bs.all id:=by
 induction bs with
 | nil=>rfl
 | cons b bs ih=>
  rw[Qqk,List.range_succ_eq_map,List.all_cons,List.all_map,List.all_cons];simp[List.getD_cons_zero,id]
  congr 1
def SM(hc:X.calm=true):iu X (.builtin "all") (λxs H Q=>∃(p:Addr) (bs:List Bool),xs=[.ref p]/\lG X.K H p (bs.map V.bl)/\Q (.bl (bs.all id)) H):=by
 intro pins s σ H xs us Q I r h;obtain⟨p,bs,rfl,hq,q⟩:=h;obtain⟨u,rfl,rx⟩:=vals1 r;cases rx;obtain⟨its,rv,pl,_⟩:=I.list hq;have e:=vd rv;subst e;refine call_all_walk<|wpAny_pyIter_list pl.isList ?_;have hlt:p<s.heap.objs.size:=by obtain⟨o,e,_⟩:=pl.isList;exact Qq9 e
 refine⟨s.heap.objs.size,_,_,_,_,_,λi=>bs.getD i true,rfl,Walks.list (show X.A.in1.handled=none from I.ok.hd hc) s.heap.objs.size p (Qw0 hlt) (bs.map Value.bool).toArray,⟨⟨_,Qq7 _ rfl,rfl,rfl⟩,by obtain⟨o,e,rr⟩:=pl.isList;exact⟨o,Qqj _ e,rr⟩⟩,?_,λh' tk hk=>?_⟩
 ·intro i v s' Q' E' hv hq';have hv:=hv;rw[List.getElem?_toArray,Qx6] at hv;cases hb:bs[i]? with
  | none=>rw[hb] at hv;cases hv
  | some b=>
   rw[hb] at hv;cases hv;refine Qjy ?_;have this:bs.getD i true=b:=by simp[Qzj,hb]
   have hq':Q' (bs.getD i true) s':=hq'
   rwa [this] at hq'
 ·have I1:Inv X pins σ H { s with heap:=h',toks:=tk }:=I.kept λb o e=>hk b o (by simp;exact Qw0<|Qq9 e)<|Qqj _ e;refine⟨.bl _,H,I1,rfl,?_⟩;have e2:(bs.map Value.bool).toArray.size=bs.length:=by simp
  rw[e2,CQ];exact q
def uQ:List D->Option D
 | [.lst ds]=>(ou ds).map λbs=>.bl (bs.all id)
 | _=>none
def afs:CallD C (λxs H Q=>∃(p:Addr) (bs:List Bool),xs=[.ref p]/\lG C.K H p (bs.map V.bl)/\Q (.bl (bs.all id)) H) uQ:=by
 intro Pr F env σ H ds d vs Q r hs h q;unfold uQ at h;split at h
 ·rename_i es;cases e:ou es with
  | none=>rw[e] at h;cases h
  | some bs=>
   rw[e] at h;cases h;obtain⟨v,rfl,hv⟩:=lu hs;obtain⟨z,a,ws,rfl,h1,h2⟩:=hv.lst r.fr;have e2:=vI e h2;subst e2;exact⟨a,bs,rfl,lG.of h1,q _ H F r (aR.refl F) rfl⟩
 ·cases h
def gB:List D->Option (List (List Nat))
 | []=>some []
 | .str x::r=>(gB r).map (x :: ·)
 | _=>none
def bQ(sep:List Nat):List (List Nat)->List Nat
 | []=>[]
 | x::r=>r.foldl (λacc y=>acc++sep++y) x
def Jo(sep)(xs):Txt.join (strOf sep) (xs.map strOf)=strOf (bQ sep xs):=by
 unfold Txt.join;unfold Builtin.Str.glued;cases xs with
 | nil=>rfl
 | cons x r=>
  show⟨(r.map strOf).foldl (λacc p=>acc++(strOf sep).cps++p.cps) (strOf x).cps⟩=strOf (r.foldl (λacc y=>acc++sep++y) x);have go:∀(r:List (List Nat)) x,(r.map strOf).foldl (λacc p=>acc++(strOf sep).cps++p.cps) (strOf x).cps=(strOf<|r.foldl (λacc y=>acc++sep++y) x).cps:=by
   intro r
   induction r with
   | nil=>intro x;rfl
   | cons y r ih=>
    intro x;rw[Qq8,Qx3,Qx3];rw[<-ih (x++sep++y)]
    congr 1
    simp[strOf]
  rw[go]
theorem kJ{K:Fg}:∀{ds} {xs} {vs},gB ds=some xs->bT K F ds vs->vs=xs.map λx=>V.str (strOf x)
 | [],bs,vs,h,hr=>by simp[gB] at h;subst h;cases hr;rfl
 | d::ds,bs,vs,h,hr=>by
  obtain⟨v,r,rfl,h1,h2⟩:=hr;cases d with
  | str b=>
   simp only[gB] at h;cases e:gB ds with
   | none=>rw[e] at h;cases h
   | some cs=>
    rw[e] at h;cases h;cases h1.1;rw[kJ e h2]
    rfl
  | _=>simp[gB] at h
theorem ph:∀{xs:List (List Nat)} {us},Vals (xs.map λx=>V.str (strOf x)) us->StrsAre us (xs.map strOf)
 | [],_,.nil=>.nil
 | x::xs,_,.cons r t=>by
  obtain⟨k,rfl⟩:=r;exact .cons _ k<|ph t
def joinFits(sep:List Nat)(xs:List (List Nat)):Bool:=decide ((xs.map List.length).sum+xs.length*sep.length<=16777216)
def rJoin(K:Fg):V->List V->Hp->VK->Prop:=λx vs H Q=>∃sep xs p,x = .str (strOf sep)/\vs=[.ref p]/\lG K H p (xs.map λx=>V.str (strOf x))/\joinFits sep xs=true/\Q (.str (strOf (bQ sep xs))) H
def O3:MtR X "str.join" (rJoin X.K):=by
 intro pins s σ H x vs v us Q I rx rv h;obtain⟨sep,xs,p,rfl,rfl,hq,hf,q⟩:=h;obtain⟨t,rfl⟩:=rx;obtain⟨u,rfl,ru⟩:=vals1 rv;cases ru;obtain⟨its,r,pl,_⟩:=I.list hq;have hs:=ph r;refine join_list pl.isList (by simpa using hs) ?_ λt' k=>?_
 ·have hf':=Qw5 hf;have e:((xs.map strOf).map (·.length))=xs.map List.length:=by
   rw[Qxk];apply Qz6;intro z _;exact aU z
  rw[e,aU,Qqz];exact hf'
 ·rw[Jo];exact⟨.str _,H,I.tok k,⟨t',rfl⟩,q⟩
theorem qZ(sep):∀(r:List (List Nat)) x,(r.foldl (λacc y=>acc++sep++y) x).length=x.length+(r.map List.length).sum+r.length*sep.length
 | [],x=>by simp
 | y::r,x=>by
  rw[Qx3,qZ sep r,Qqq,Qqq,Qq8,Qjk,Qqk,Nat.add_mul];omega
def Ax(h:joinFits sep xs=true):(bQ sep xs).length<=sizeLine:=by
 have h':=Qw5 h;rw[Qky];cases xs with
 | nil=>simp[bQ]
 | cons x r=>
  show(r.foldl (λacc y=>acc++sep++y) x).length<=_;rw[qZ];rw[Qq8,Qjk,Qqk,Nat.add_mul] at h';omega
def fY(x y:D):Option D:=match x,y with
 | .str sep,.lst ds=>(match gB ds with
  | some xs=>if joinFits sep xs=true then some (.str (bQ sep xs)) else none
  | none=>none)
 | _,_=>none
def Y5{apos cpos:Pos}(hK:X.K=C.K)(ho:PX X C o a)(he:Xr X C e b)(hbase:attributeBase o "join" X.env (eval o X.env)=eval o X.env:=by rfl)
  (hs:BJ e X.env:=by rfl)
  (hfew:((backTo cpos (starEach [e] X.env)).all (λx=>!x.1)&&(backToKw cpos (keywordEach [] X.env)).all (λx=>x.1.isSome)
   && decide ([e].length+([]:List Keyword).length+(if ([]:List Keyword).isEmpty then 0 else 1)<30))=true:=by rfl)
  (hline:(apos.endLine == cpos.line)=true:=by rfl) (hplain:(backTo cpos (starEach [] X.env)).any (·.1)=false:=by rfl) :
  PX X C (.Call (.Attribute o "join" apos) [e] [] cpos) (az fY a b):=by
 refine(yC PySem.F.plainAttrs_str PySem.F.slot_str_join PySem.F.type_str_join O3 ho (dX he jf hs) hbase hfew hline hs hplain).imp λσ H Q h=>?_;obtain⟨Pr,F,env,env',d,rl,e0,q⟩:=h;obtain⟨x,aD,e1,e2⟩:=aO e0;obtain⟨y,eG,e3,e4⟩:=aO e2;obtain⟨e5,rfl⟩:=cA e4;unfold fY at e5;split at e5
 ·rename_i sep ds;split at e5
  ·rename_i xs hxs;split at e5
   ·rename_i hf;cases e5;refine⟨Pr,F,env,aD,_,rl,e1,λvx H1 F1 r1 s1 p1=>?_⟩;obtain⟨rfl,_⟩:=p1;refine⟨rfl,Pr,F1,aD,env',_,r1,e3,λvy H2 F2 r2 s2 p2=>?_⟩;obtain⟨z,l,ws,rfl,h1,h2⟩:=p2.lst r2.fr;have e6:=kJ hxs h2;subst e6;exact⟨sep,xs,l,rfl,rfl,lG.of h1,hf,q _ H2 F2 r2 (s1.trans s2) ⟨rfl,Ax hf⟩⟩
   ·cases e5
  ·cases e5
 ·cases e5
end
def Rel.put(r:Rel C Pr F env σ H)(hfx:C.fx i=none)(p:Rep C.K F d v):Rel C Pr F (env.set i (some (false,d))) (σ.set i (some v)) H:=by
 refine⟨r.pr,r.fr,by rw[Qw7,Qw7];exact r.len,λj e he=>?_,λj e he=>?_,λj k e f b hj hk g1 g2=>?_,r.dj,λj a hj=>?_⟩
 ·by_cases hji:j=i
  ·subst hji;have hl:j<env.length:=by
    have:=(Qq6.mp he).1
    rwa [Qw7] at this
   rw[Qwq hl] at he;cases he;exact⟨v,Qwq (by rw[<-r.len];exact hl),p⟩
  ·rw[Qq3 (Ne.symm hji)] at he ⊢;exact r.val j e he
 ·by_cases hji:j=i
  ·subst hji;have hl:j<env.length:=by
    have:=(Qq6.mp he).1
    rwa [Qw7] at this
   rw[Qwq hl] at he;cases he
  ·rw[Qq3 (Ne.symm hji)] at he ⊢;exact r.own j e he
 ·have nn:∀j e,(env.set i<|some (false,d))[j]? = some (some (true,e))->j≠i:=λj e he z=>by
   subst z;have hl:j<env.length:=by
    have:=(Qq6.mp he).1
    rwa [Qw7] at this
   rw[Qwq hl] at he;cases he
  have nj:=nn j e hj;have nk:=nn k f hk;rw[Qq3 (Ne.symm nj)] at hj g1;rw[Qq3 (Ne.symm nk)] at hk g2;exact r.apart j k e f b hj hk g1 g2
 ·have hji:j≠i:=λz=>by rw[z,hfx] at hj;cases hj
  rw[Qq3 (Ne.symm hji)];exact r.fix j a hj
structure Xv(K:Fg)(Pr F:Hp)(env:Env)(σ:L2.St)(H:Hp)(d:D)(a:Addr):Prop where
 own:kh K F H d a
 nF:F a=none
 nP:Pr a=none
 ap:∀(j:Nat) (e:D),env[j]? = some (some (true,e))->σ[j]? = some (some (V.ref a))->False
def Xv.of(r:Rel C Pr F env σ H)(h:H a=none)(ho:kh C.K F (upd H a o) d a):Xv C.K Pr F env σ (upd H a o) d a:=
 ⟨ho,r.fr.free h,r.pr.free h,λj e he hs=>by
  obtain⟨b,h1,h2,_⟩:=r.own j e he;rw[hs] at h1;cases h1;obtain⟨u,hu⟩:=h2.some;rw[h] at hu;cases hu⟩
def Rel.Vc(r:Rel C Pr F env σ H)(hfx:C.fx i=none)(n:Xv C.K Pr F env σ H d a):Rel C Pr F (env.set i (some (true,d))) (σ.set i (some (.ref a))) H:=by
 have same:∀j x,(env.set i<|some (true,d))[j]? = some (some x)->j=i->x=(true,d)/\j<env.length:=λj x he z=>by
  subst z;have hl:j<env.length:=by
   have:=(Qq6.mp he).1
   rwa [Qw7] at this
  rw[Qwq hl] at he;cases he;exact⟨rfl,hl⟩
 refine⟨r.pr,r.fr,by rw[Qw7,Qw7];exact r.len,λj e he=>?_,λj e he=>?_,λj k e f b hj hk g1 g2=>?_,r.dj,λj a hj=>?_⟩
 ·by_cases hji:j=i
  ·have:=(same j _ he hji).1;cases this
  ·rw[Qq3 (Ne.symm hji)] at he ⊢;exact r.val j e he
 ·by_cases hji:j=i
  ·obtain⟨z,hl⟩:=same j _ he hji;cases z;subst hji;exact⟨a,Qwq (by rw[<-r.len];exact hl),n.own,n.nF,n.nP⟩
  ·rw[Qq3 (Ne.symm hji)] at he ⊢;exact r.own j e he
 ·by_cases nj:j=i
  ·by_cases nk:k=i
   ·rw[nj,nk]
   ·obtain⟨z,hl⟩:=same j _ hj nj;subst nj;rw[Qwq (by rw[<-r.len];exact hl)] at g1;cases g1;rw[Qq3 (Ne.symm nk)] at hk g2;exact(n.ap k f hk g2).elim
  ·rw[Qq3 (Ne.symm nj)] at hj g1;by_cases nk:k=i
   ·obtain⟨z,hl⟩:=same k _ hk nk;subst nk;rw[Qwq (by rw[<-r.len];exact hl)] at g2;cases g2;exact(n.ap j e hj g1).elim
   ·rw[Qq3 (Ne.symm nk)] at hk g2;exact r.apart j k e f b hj hk g1 g2
 ·have hji:j≠i:=λz=>by rw[z,hfx] at hj;cases hj
  rw[Qq3 (Ne.symm hji)];exact r.fix j a hj
def Rel.keep(r:Rel C Pr F env σ H)(n:Xv C.K Pr F env σ H d a):∃F',Rel C Pr F' env σ H/\aR F F'/\Rep C.K F' d (.ref a):=by
 obtain⟨o,ho⟩:=n.own.some;have s1:aR F (upd F a o):=nu n.nF;have rep:Rep C.K (upd F a o) d (.ref a):=by
  have h2:=n.own;cases d with
  | lst xs=>obtain⟨z,vs,g1,g2⟩:=h2;rw[ho] at g1;cases g1;exact⟨z,a,vs,rfl,aZ,bT.mono s1 _ _ g2⟩
  | dct kvs=>obtain⟨z,ks,g1,g2⟩:=h2;rw[ho] at g1;cases g1;exact⟨z,a,ks,rfl,.inl aZ,dU.mono s1 _ _ g2⟩
  | mR kvs=>obtain⟨z,ks,g1,g2⟩:=h2;rw[ho] at g1;cases g1;exact⟨z,a,ks,rfl,.inl aZ,qP.mono s1 _ _ g2⟩
  | _=>exact h2.elim
 refine⟨upd F a o,⟨r.pr,λb u e=>?_,r.len,λj e he=>?_,λj e he=>?_,r.apart,λb u e=>?_,r.fix⟩,s1,rep⟩
 ·by_cases hb:b=a
  ·subst hb;rw[aZ] at e;cases e;exact ho
  ·rw[bH hb] at e;exact r.fr b u e
 ·obtain⟨v,g1,g2⟩:=r.val j e he;exact⟨v,g1,Rep.mono s1 e v g2⟩
 ·obtain⟨b,g1,g2,g3,g4⟩:=r.own j e he;have hb:b≠a:=λz=>by subst z;exact n.ap j e he g1
  exact⟨b,g1,g2.mono s1 rfl,by rw[bH hb];exact g3,g4⟩
 ·by_cases hb:b=a
  ·subst hb;exact n.nP
  ·rw[bH hb] at e;exact r.dj b u e
def Rel.write(r:Rel C Pr F env σ H)(h:env[i]? = some (some (true,d)))(hs:σ[i]? = some (some (V.ref a)))(ho:kh C.K F (upd H a u) d' a) :
  Rel C Pr F (env.set i (some (true,d'))) σ (upd H a u):=by
 obtain⟨a',h1,h2,h3,h4⟩:=r.own i d h;rw[hs] at h1;cases h1;have hi:=(Qq6.mp h).1;have ne:∀j e b,j≠i->env[j]? = some (some (true,e))->σ[j]? = some (some<|V.ref b)->b≠a:=λj e b hj he g z=>hj<|r.apart j i e d a he h (by rw[<-z];exact g) hs;refine⟨λb w e=>?_,λb w e=>?_,by rw[Qw7];exact r.len,λj e he=>?_,λj e he=>?_,λj k e f b hj hk g1 g2=>?_,r.dj,r.fix⟩
 ·have hb:b≠a:=λz=>by rw[z,h4] at e;cases e
  rw[bH hb];exact r.pr b w e
 ·have hb:b≠a:=λz=>by rw[z,h3] at e;cases e
  rw[bH hb];exact r.fr b w e
 ·by_cases hj:j=i
  ·subst hj;rw[Qwq hi] at he;cases he
  ·rw[Qq3 (Ne.symm hj)] at he;exact r.val j e he
 ·by_cases hj:j=i
  ·subst hj;rw[Qwq hi] at he;cases he;exact⟨a,hs,ho,h3,h4⟩
  ·rw[Qq3 (Ne.symm hj)] at he;obtain⟨b,g1,g2,g3,g4⟩:=r.own j e he;exact⟨b,g1,g2.mono (aR.refl F)<|bH<|ne j e b hj he g1,g3,g4⟩
 ·have un:∀j e,(env.set i<|some (true,d'))[j]? = some (some (true,e))->∃e',env[j]? = some (some (true,e')):=λj e he=>by
   by_cases hj:j=i
   ·subst hj;exact⟨d,h⟩
   ·rw[Qq3 (Ne.symm hj)] at he;exact⟨e,he⟩
  obtain⟨e',hj'⟩:=un j e hj;obtain⟨f',hk'⟩:=un k f hk;exact r.apart j k e' f' b hj' hk' g1 g2
def tN(C:Cfg)(ev:Ev):TE:=λσ H Q=>∃(Pr F:Hp) (env env':Env) (d:D),Rel C Pr F env σ H/\ev env = .ok d env'/\
 ∀a H' F',Rel C Pr F' env' σ H'->aR F F'->Xv C.K Pr F' env' σ H' d a->Q (.ref a) H'
def XJ(X:Cx)(C:Cfg)(e:Expr)(ev:Ev):Prop:=PE X e (tN C ev)
section
variable{X:Cx}{C:Cfg}{pos:Pos}
def XJ.px(h:XJ X C e ev):PX X C e ev:=PE.imp h λσ H Q hq=>by
 obtain⟨Pr,F,env,env',d,r,e,q⟩:=hq;refine⟨Pr,F,env,env',d,r,e,λa H' F' r' s' n'=>?_⟩;obtain⟨F2,r2,s2,p2⟩:=r'.keep n';exact q _ _ F2 r2 (s'.trans s2) p2
def Oe(h:Nj X C es r):XJ X C (.List es pos) (cM r):=(adL h).imp λσ H Q hq=>by
 obtain⟨Pr,F,env,env',d,rl,e,q⟩:=hq;obtain⟨ds,aD,e1,e2⟩:=aO e;split at e2
 ·rename_i hz;cases e2;refine⟨Pr,F,env,env',ds,rl,e1,λvs H1 F1 r1 s1 p1=>⟨by rw[p1.length];exact hz,λp hp=>?_⟩⟩;exact q _ _ F1 (r1.fresh hp) s1<|Xv.of r1 hp ⟨hz,vs,aZ,p1⟩
 ·cases e2
abbrev GV:=D->Env->Option Env
abbrev XX:=List D->Env->Option Env
def tG(C:Cfg)(lo:Nat)(gv:GV):TG:=λv σ H Q=>∃(Pr F:Hp) (env env':Env) (d:D),Rel C Pr F env σ H/\Rep C.K F d v/\gv d env=some env'/\
 ∀σ' H' F',Rel C Pr F' env' σ' H'->aR F F'->σ'.take lo=σ.take lo->Q σ' H'
def tGs(C:Cfg)(lo:Nat)(gv:XX):TGs:=λvs σ H Q=>∃(Pr F:Hp) (env env':Env) (ds:List D),Rel C Pr F env σ H/\bT C.K F ds vs/\gv ds env=some env'/\
 ∀σ' H' F',Rel C Pr F' env' σ' H'->aR F F'->σ'.take lo=σ.take lo->Q σ' H'
def XM(X:Cx)(C:Cfg)(lo:Nat)(e:Expr)(gv:GV):Prop:=PG X e (tG C lo gv)
def afI(X:Cx)(C:Cfg)(lo:Nat)(es:List Expr)(gv:XX):Prop:=PGs X es (tGs C lo gv)
def _root_.L2.PG.imp{X:Cx}{e:Expr}{t t':TG}(h:PG X e t)(i:∀v σ H Q,t' v σ H Q->t v σ H Q):PG X e t':=λpins s σ H v u Q I r q=>h pins s σ H v u Q I r<|i v σ H Q q
def _root_.L2.PGs.imp{X:Cx}{e:List Expr}{t t':TGs}(h:PGs X e t)(i:∀v σ H Q,t' v σ H Q->t v σ H Q):PGs X e t':=λpins s σ H v u Q I r q=>h pins s σ H v u Q I r<|i v σ H Q q
def au(i:Nat):GV:=λd env=>some (env.set i (some (false,d)))
def U8{lo i:Nat}(hN:X.N.Nodup)(hi:X.N[i]? = some x)(hx:Loc X.env.scope x)(hlo:lo<=i)(hfx:C.fx i=none)(hf:X.fn x=true\/X.env.scope.names.lookup x=some .local:=by first|exact .inl rfl|exact .inr rfl|assumption):XM X C lo (.Name x pos) (au i):=
 (Zm hN hi hx hf).imp λv σ H Q h=>by
  obtain⟨Pr,F,env,env',d,r,p,e,q⟩:=h;cases e;exact q _ _ F (r.put hfx p) (aR.refl F) (by rw[List.take_set_of_le hlo])
def gG:XX:=λds env=>if ds.isEmpty then some env else none
def bI(g:GV)(gs:XX):XX:=λds env=>match ds with
 | d::r=>(g d env).bind λe1=>gs r e1
 | []=>none
def U7{lo:Nat}:afI X C lo [] gG:=Zk.imp λv σ H Q h=>by
 obtain⟨Pr,F,env,env',ds,r,p,e,q⟩:=h;cases ds with
 | nil=>cases e;cases p;exact⟨rfl,q _ _ F r (aR.refl F) rfl⟩
 | cons d ds=>cases e
def gj(n:Nat)(gs:XX):GV:=λd env=>match d with
 | .tup ds=>if ds.length=n then gs ds env else none
 | _=>none
def YZ{lo:Nat}{k:Nat}(hc:X.calm=true)(hK:X.K=C.K)(h:afI X C lo es gs)
  (hn:(assignEach es X.env).length=n:=by rfl) (hst:(assignEach es X.env).findIdx? (·.1)=none:=by rfl):XM X C lo (.Tuple es k pos) (gj n gs):=(adC hc h hn hst).imp λv σ H Q h=>by
 obtain⟨Pr,F,env,env',d,r,p,e,q⟩:=h;cases d with
 | tup ds=>
  obtain⟨z,a,vs,rfl,h1,h2⟩:=p;unfold gj at e;simp only at e;split at e
  ·rename_i hl;rw[hK];exact⟨a,vs,rfl,aR.tupK r.fr h1,by rw[h2.length];exact hl,Pr,F,env,env',ds,r,h2,e,q⟩
  ·cases e
 | _=>cases e
def aah(i:Nat)(ix:Ev):GV:=λd env=>match env[i]? with
 | some (some (_,_))=>(match ix env with
  | .ok (.int k) aD=>(match aD[i]? with
   | some (some (true,.lst xs))=>(ixN xs.length k).map λj=>aD.set i (some (true,.lst (xs.set j d)))
   | _=>none)
  | _=>none)
 | _=>none
def adb{lo i:Nat}(hN:X.N[i]? = some x)(hv:wW X.env.scope x)(h:PX X C ix ev)
  (ha:∀v,assign (.Subscript (.Name x px) ix pos) X.env v=(do
   let ov <-holding [v] (eval (.Name x px) X.env)
   let iv <-holding [v,ov] (eval ix X.env)
   standAt pos
   holding [v,ov,iv] (setItem ov iv v)
   release [v,ov,iv] []):=by intro _;rfl)
  (hd:jN x:=by decide) (hcd:t7 x:=by decide):XM X C lo (.Subscript (.Name x px) ix pos) (aah i ev):=
 (adD (jF hN hv hd hcd) h set_list ha).imp λv σ H Q hq=>by
  obtain⟨Pr,F,env,env',d,r,p,e,q⟩:=hq;unfold aah at e;split at e
  ·rename_i o0 d0 h0;obtain⟨v0,hv0,_⟩:=r.rd h0;split at e
   ·rename_i k aD e1;split at e
    ·rename_i xs h2;obtain⟨j,hj,e3⟩:=Qw1.mp e;subst e3;refine⟨v0,hv0,Pr,F,env,aD,.int k,r,e1,λvi H1 F1 r1 s1 p1=>?_⟩;cases p1;obtain⟨a,g1,⟨z,vs,g2,g3⟩,g4,g5⟩:=r1.own i _ h2;rw[hv0] at g1;cases g1;refine⟨a,vs,k,j,rfl,rfl,g2,by rw[g3.length];exact hj,?_⟩;refine q σ _ F1 (r1.write h2 hv0 ⟨by rw[Qw7];exact z,vs.set j v,aZ,bT.set (Rep.mono s1 d v p) j g3⟩) s1 rfl
    ·cases e
   ·cases e
  ·cases e
end
inductive Out where
 | nx (env:Env)
 | rt (o:Bool) (d:D) (env:Env)
 | bk (env:Env)
 | ct (env:Env)
 | stuck
abbrev cC:=Env->Out
def Fin(C:Cfg)(Pr F:Hp)(D:Ends):Out->Prop
 | .nx env'=>∀σ' H' F',Rel C Pr F' env' σ' H'->aR F F'->D.nx σ' H'
 | .rt false d env'=>∀v σ' H' F',Rel C Pr F' env' σ' H'->aR F F'->Rep C.K F' d v->D.rt v H'
 | .rt true d env'=>∀a σ' H' F',Rel C Pr F' env' σ' H'->aR F F'->Xv C.K Pr F' env' σ' H' d a->D.rt (.ref a) H'
 | .bk env'=>∀σ' H' F',Rel C Pr F' env' σ' H'->aR F F'->D.bk σ' H'
 | .ct env'=>∀σ' H' F',Rel C Pr F' env' σ' H'->aR F F'->D.ct σ' H'
 | .stuck=>False
theorem Fin.mono{D:Ends}(s:aR F F1):∀{o},Fin C Pr F D o->Fin C Pr F1 D o
 | .nx _,h=>λσ' H' F' r t=>h σ' H' F' r<|s.trans t
 | .rt false _ _,h=>λv σ' H' F' r t=>h v σ' H' F' r<|s.trans t
 | .rt true _ _,h=>λv σ' H' F' r t=>h v σ' H' F' r<|s.trans t
 | .bk _,h=>λσ' H' F' r t=>h σ' H' F' r<|s.trans t
 | .ct _,h=>λσ' H' F' r t=>h σ' H' F' r<|s.trans t
 | .stuck,h=>h
def tS(C:Cfg)(ev:cC):TS:=λD σ H=>∃(Pr F:Hp) (env:Env),Rel C Pr F env σ H/\Fin C Pr F D (ev env)
def Xo(X:Cx)(C:Cfg)(st:Stmt)(ev:cC):Prop:=PS X st (tS C ev)
def Bx(X:Cx)(C:Cfg)(st:List Stmt)(ev:cC):Prop:=zq X st (tS C ev)
def km{α:Type}(x:R α)(f:α->Env->Out):Out:=match x with
 | .ok a env=>f a env
 | .stuck=>.stuck
def cT{D:Ends}{α:Type}{x:R α}{f:α->Env->Out}(h:Fin C Pr F D (km x f)):∃a aD,x = .ok a aD/\Fin C Pr F D (f a aD):=by
 cases x with
 | ok a aD=>exact⟨a,aD,rfl,h⟩
 | stuck=>exact h.elim
section
variable{X:Cx}{C:Cfg}{pos:Pos}
def b8:cC:=λenv=>.nx env
def aP(a b:cC):cC:=λenv=>match a env with
 | .nx e=>b e
 | .rt o d e=>.rt o d e
 | .bk e=>.bk e
 | .ct e=>.ct e
 | .stuck=>.stuck
def UT:Bx X C [] b8:=Y9.imp λD σ H h=>by
 obtain⟨Pr,F,env,r,f⟩:=h;exact f σ H F r<|aR.refl F
def d8(t:gh)(a b:cC):cC:=λenv=>km (t env) λc aD=>if c=true then a aD else b aD
def bA(a:Ev):cC:=λenv=>km (a env) λd aD=>.rt false d aD
def zR(a:Ev):cC:=λenv=>km (a env) λd aD=>.rt true d aD
def zU(a:Ev):cC:=λenv=>km (a env) λ_ aD=>.nx aD
def abO(o:Option Env):Out:=match o with
 | some e=>.nx e
 | none=>.stuck
def bF(a:Ev)(g:GV):cC:=λenv=>km (a env) λd aD=>abO (g d aD)
def afy{D:Ends}(h:tS C (bF a g) D σ H):QH (tE C a) (tG C 0 g) D σ H:=by
 obtain⟨Pr,F,env,r,f⟩:=h;obtain⟨d,aD,e1,f1⟩:=cT f;refine⟨Pr,F,env,aD,d,r,e1,λv H1 F1 r1 s1 p1=>?_⟩;cases e2:g d aD with
 | none=>rw[e2] at f1;exact f1.elim
 | some eG=>rw[e2] at f1;exact⟨Pr,F1,aD,eG,d,r1,p1,e2,λσ2 H2 F2 r2 s2 _=>f1 σ2 H2 F2 r2<|s1.trans s2⟩
def YK(hN:X.N.Nodup)(hi:X.N[i]? = some x)(hx:Loc X.env.scope x)(hfx:C.fx i=none)(he:PX X C e a)(hs:swapsWith e (some (.Name x pos')) pos.line X.env=pure false:=by rfl)(hf:X.fn x=true\/X.env.scope.names.lookup x=some .local:=by first|exact .inl rfl|exact .inr rfl|assumption) :
  Xo X C (.Assign [.Name x pos'] e pos) (bF a (au i)):=(Lz hN hi hx he hs hf).imp λD σ H h=>by
 obtain⟨Pr,F,env,r,f⟩:=h;obtain⟨d,aD,e1,f1⟩:=cT f;exact⟨Pr,F,env,aD,d,r,e1,λv H1 F1 r1 s1 p1=>f1 _ H1 F1 (r1.put hfx p1) s1⟩
def lH(i:Nat)(a:Ev):cC:=λenv=>km (a env) λd aD=>.nx (aD.set i (some (true,d)))
def YL(hN:X.N.Nodup)(hi:X.N[i]? = some x)(hx:Loc X.env.scope x)(hfx:C.fx i=none)(he:XJ X C e a)(hs:swapsWith e (some (.Name x pos')) pos.line X.env=pure false:=by rfl)(hf:X.fn x=true\/X.env.scope.names.lookup x=some .local:=by first|exact .inl rfl|exact .inr rfl|assumption) :
  Xo X C (.Assign [.Name x pos'] e pos) (lH i a):=(Lz hN hi hx he hs hf).imp λD σ H h=>by
 obtain⟨Pr,F,env,r,f⟩:=h;obtain⟨d,aD,e1,f1⟩:=cT f;exact⟨Pr,F,env,aD,d,r,e1,λv H1 F1 r1 s1 p1=>f1 _ H1 F1 (r1.Vc hfx p1) s1⟩
def vq(i:Nat)(a:Ev):cC:=λenv=>match env[i]? with
 | some (some (true,.lst _))=>km (a env) λd aD=>(match aD[i]? with
  | some (some (true,.lst xs))=>if xs.length<sizeLine then .nx (aD.set i (some (true,.lst (xs++[d])))) else .stuck
  | _=>.stuck)
 | _=>.stuck
def YQ(hN:X.N[i]? = some x)(hv:wW X.env.scope x)(he:PX X C e a)(hK:X.K=C.K)
  (hs:swapsWith (.Call (.Attribute (.Name x px) "append" apos) [e] [] cpos) none pos.line X.env=pure false:=by rfl)
  (hfew:((backTo cpos (starEach [e] X.env)).all (λx=>!x.1)&&(backToKw cpos (keywordEach [] X.env)).all (λx=>x.1.isSome)
   && decide ([e].length+([]:List Keyword).length+(if ([]:List Keyword).isEmpty then 0 else 1)<30))=true:=by rfl)
  (hbase:attributeBase (.Name x px) "append" X.env (eval (.Name x px) X.env)=eval (.Name x px) X.env:=by rfl)
  (hline:(apos.endLine == cpos.line)=true:=by rfl) (hst:BJ e X.env:=by rfl) (hplain:(backTo cpos (starEach [] X.env)).any (·.1)=false:=by rfl)
  (hd:jN x:=by decide) (hcd:t7 x:=by decide):Xo X C (.Expr (.Call (.Attribute (.Name x px) "append" apos) [e] [] cpos) pos) (vq i a):=by
 refine PS.imp (Fw (yC PySem.F.plainAttrs_list PySem.F.slot_list_append PySem.F.type_list_append Dy (jF hN hv hd hcd) (dX he jf hst) hbase hfew hline hst hplain) hs) λD σ H h=>?_;obtain⟨Pr,F,env,r,f⟩:=h;unfold vq at f;split at f
 ·rename_i xs0 h0;obtain⟨d,aD,e1,f1⟩:=cT f;obtain⟨a0,hv0,⟨z0,vs0,g0,_⟩,_⟩:=r.own i _ h0;refine⟨_,hv0,.inl ⟨rfl,vs0,lG.of g0⟩,Pr,F,env,aD,d,r,e1,λv H1 F1 r1 s1 p1=>?_⟩;split at f1
  ·rename_i xs h1;split at f1
   ·rename_i hz;obtain⟨a,g1,⟨z,vs,g2,g3⟩,g4,g5⟩:=r1.own i _ h1;rw[hv0] at g1;cases g1;refine⟨a0,vs,v,rfl,rfl,g2,by rw[g3.length];exact hz,?_⟩;exact f1 σ _ F1 (r1.write h1 hv0 ⟨by rw[Qqq];exact hz,vs++[v],aZ,g3.append<|bT.one p1⟩) s1
   ·exact f1.elim
  ·exact f1.elim
 ·exact f.elim
def o8(K:Fg)(F:Hp)(ds:List D)(J:It):Prop:=∀(i:Nat) (H:Hp),aR F H->(ds[i]? = none->i=ds.length->J.stop i H)/\∀d,ds[i]? = some d->J.go i H/\∀x H',J.yld i H x H'->
 (H'=H/\Rep K F d x)\/∃p vs es,H p=none/\H'=upd H p (.tup vs)/\x = .ref p/\d = .tup es/\es.length<=sizeLine/\bT K F es vs
def tI(C:Cfg)(ev:dq):TI:=λσ H R=>∃(Pr F:Hp) (env env':Env) (ds:List D),Rel C Pr F env σ H/\ev env = .ok ds env'/\
 ∀J H' F',Rel C Pr F' env' σ H'->aR F F'->o8 C.K F' ds J->R J H'
def Xp(X:Cx)(C:Cfg)(tg iter:Expr)(ev:dq):Prop:=PI X tg iter (tI C ev)
def _root_.L2.PI.imp{X:Cx}{tg e:Expr}{t t':TI}(h:PI X tg e t)(i:∀σ H R,t' σ H R->t σ H R):PI X tg e t':=λpins s σ H R I q=>h pins s σ H R I<|i σ H R q
def o8.item(r:Rel C Pr F1 env σ H)(s:aR F F1)(y:o8 C.K F ds J)(hd:ds[i]? = some d)(hy:J.yld i H x H') :
  ∃F2,Rel C Pr F2 env σ H'/\aR F1 F2/\Rep C.K F2 d x:=by
 rcases((y i H<|s.trans r.fr).2 d hd).2 x H' hy with ⟨rfl,p⟩|⟨p,vs,es,hp,rfl,rfl,rfl,hz,q⟩
 ·exact⟨F1,r,aR.refl F1,Rep.mono s _ _ p⟩
 ·obtain⟨r2,s2⟩:=r.new hp;exact⟨_,r2,s2,hz,p,vs,rfl,qO.of aZ,bT.mono (s.trans s2) _ _ q⟩
def jr(g:GV)(b:cC):List D->cC
 | [],env=>.nx env
 | d::ds,env=>(match g d env with
  | none=>.stuck
  | some e1=>(match b e1 with
   | .nx e2=>jr g b ds e2
   | .ct e2=>jr g b ds e2
   | .bk e2=>.nx e2
   | .rt o d e2=>.rt o d e2
   | .stuck=>.stuck))
def jM(it:dq)(g:GV)(b:cC):cC:=λenv=>km (it env) λds aD=>jr g b ds aD
def YM(hp:PassesOwn (model X.prog X.w) X.A X.env X.xe)(hc:X.calm=true)(hi:Xp X C tg iter it)(hg:XM X C 0 tg g)(hb:Bx X C body b)
  (hs:∀x,foldedSetIterable iter X.env x=pure x:=by intro _;rfl):Xo X C (.For tg iter body [] pos) (jM it g b):=(Vi hp hc hi hg hb hs).imp λD σ H h=>by
 obtain⟨Pr,F,env,r,f⟩:=h;obtain⟨ds,aD,e1,f1⟩:=cT f;refine⟨Pr,F,env,aD,ds,r,e1,λJ H1 F1 r1 s1 y1=>?_⟩;refine⟨λi m σ' H'=>m=ds.length - i/\i<=ds.length/\∃F' env',Rel C Pr F' env' σ' H'/\aR F1 F'/\Fin C Pr F' D (jr g b (ds.drop i) env'),⟨ds.length,rfl,Qzk _,F1,aD,r1,aR.refl _,f1.mono s1⟩,?_⟩;rintro i m σ' H' ⟨rfl,hi,F',env',r',s',f'⟩;by_cases hl:i<ds.length
 ·have hd:=Qx4 hl;have hdr:=Qj6 hl;have yy:=y1 i H'<|s'.trans r'.fr;refine .inr ⟨(yy.2 _ hd).1,λσ2 H2=>∃F' env',Rel C Pr F' env' σ2 H2/\aR F1 F'/\Fin C Pr F' D (jr g b (ds.drop<|i+1) env'),λσ2 H2 h2=>⟨ds.length - (i+1),by omega,rfl,hl,h2⟩,λx H2 hy=>?_⟩;obtain⟨F2,r2,s2,p2⟩:=o8.item r' s' y1 hd hy;rw[hdr] at f';have f2:=f'.mono s2;unfold jr at f2;cases eg:g ds[i] env' with
  | none=>rw[eg] at f2;exact f2.elim
  | some e2=>
   rw[eg] at f2;refine⟨Pr,F2,env',e2,ds[i],r2,p2,eg,λσ3 H3 F3 r3 s3 _=>⟨Pr,F3,e2,r3,?_⟩⟩;simp at f2;have s13:=(s'.trans s2).trans s3;cases eb:b e2 with
   | nx e3=>rw[eb] at f2;exact λσ4 H4 F4 r4 s4=>⟨F4,e3,r4,s13.trans s4,f2.mono<|s3.trans s4⟩
   | ct e3=>rw[eb] at f2;exact λσ4 H4 F4 r4 s4=>⟨F4,e3,r4,s13.trans s4,f2.mono<|s3.trans s4⟩
   | bk e3=>rw[eb] at f2;exact λσ4 H4 F4 r4 s4=>f2 σ4 H4 F4 r4<|s3.trans s4
   | rt o d e3=>rw[eb] at f2;cases o<;>exact λv σ4 H4 F4 r4 s4 p4=>f2 v σ4 H4 F4 r4 (s3.trans s4) p4
   | stuck=>rw[eb] at f2;exact f2.elim
 ·have e:i=ds.length:=by omega
  subst e;rw[List.drop_length] at f';exact .inl ⟨(y1 _ H'<|s'.trans r'.fr).1 (Qjx<|Qq2 _) rfl,f' σ' H' F' r'<|aR.refl F'⟩
end
end Ev
namespace L2
open PySem PySem.Spec PyProof.Rows
def Its(z:Str):It:=⟨λi _=>i<z.cps.size,λi H x H'=>H'=H/\∃c,z.cps[i]? = some c/\x = .str ⟨#[c]⟩,λi _=>z.cps.size<=i⟩
theorem Qz{P:Program}{w:World}{K:PySem.W.Frag}{tg:Expr}(it:Addr)(z:Str)(t:Tok):Turn P w K tg (Its z) [it] it (λi h=>h.IsStrIter it "str_ascii_iterator" z t i/\i<=z.cps.size) where
 mem:=by simp
 obj:=λi h st b hb=>by
  have e:b=it:=by simpa using hb
  subst e;obtain⟨⟨o,ho,hc,hd⟩,_⟩:=st;exact⟨o,ho,λv z=>by rw[hd] at z;cases z⟩
 keep:=λi h h' st k=>let ⟨⟨o,ho,r⟩,l⟩:=st;⟨⟨o,k it (by simp) o ho,r⟩,l⟩
 item:=by intro X hP hw hK hc i pins s σ H E I hf st hg;subst hP hw hK;obtain⟨f0,f1,f2,f3,f4,f5⟩:=hf it (by simp);have hg':i<z.cps.size:=hg;refine wpAny_pyNext_ascii_item st.1 (c:=z.cps[i]) (by simp[hg']) λh' hit' hs'=>?_;have I1:Inv X pins σ H { s with heap:=h',toks:=s.toks+1 }:=I.turned (λb o hb e=>hs'.extBut b o hb e) f0 f1 f3 f4 f5;obtain⟨o,ho,hcl,hda⟩:=hit';refine⟨_,rfl,DP ho hcl hda (by decide) ⟨.str ⟨#[z.cps[i]]⟩,H,I1,⟨_,rfl⟩,⟨rfl,_,by simp[hg'],rfl⟩,⟨⟨o,ho,hcl,hda⟩,hg'⟩,λb hb=>(hf b hb).1⟩⟩
 done:=by intro X hP hw hK hc i pins s σ H E I hf st hg;subst hP hw hK;obtain⟨f0,f1,f2,f3,f4,f5⟩:=hf it (by simp);have hg':z.cps.size<=i:=hg;exact wpAny_pyNext_ascii_end (I.ok.hd hc) st.1 (by simp;omega) λh' eb=>⟨rfl,I.turned (λb o hb e=>eb b o hb e) f0 f1 f3 f4 f5⟩
 self:=λ_ _ _ _ _ st h=>wpAny_pyIter_striter_ascii st.1 h
theorem Qy{P:Program}{w:World}{K:PySem.W.Frag}{tg:Expr}(it:Addr)(z:Str)(t:Tok):Turn P w K tg (Its z) [it] it (λi h=>h.IsStrIter it "str_iterator" z t i/\i<=z.cps.size) where
 mem:=by simp
 obj:=λi h st b hb=>by
  have e:b=it:=by simpa using hb
  subst e;obtain⟨⟨o,ho,hc,hd⟩,_⟩:=st;exact⟨o,ho,λv z=>by rw[hd] at z;cases z⟩
 keep:=λi h h' st k=>let ⟨⟨o,ho,r⟩,l⟩:=st;⟨⟨o,k it (by simp) o ho,r⟩,l⟩
 item:=by intro X hP hw hK hc i pins s σ H E I hf st hg;subst hP hw hK;obtain⟨f0,f1,f2,f3,f4,f5⟩:=hf it (by simp);have hg':i<z.cps.size:=hg;refine wpAny_pyNext_wide_item st.1 (c:=z.cps[i]) (by simp[hg']) λh' hit' hs'=>?_;have I1:Inv X pins σ H { s with heap:=h',toks:=s.toks+1 }:=I.turned (λb o hb e=>hs'.extBut b o hb e) f0 f1 f3 f4 f5;obtain⟨o,ho,hcl,hda⟩:=hit';refine⟨_,rfl,DP ho hcl hda (by decide) ⟨.str ⟨#[z.cps[i]]⟩,H,I1,⟨_,rfl⟩,⟨rfl,_,by simp[hg'],rfl⟩,⟨⟨o,ho,hcl,hda⟩,hg'⟩,λb hb=>(hf b hb).1⟩⟩
 done:=by intro X hP hw hK hc i pins s σ H E I hf st hg;subst hP hw hK;obtain⟨f0,f1,f2,f3,f4,f5⟩:=hf it (by simp);have hg':z.cps.size<=i:=hg;exact wpAny_pyNext_wide_end (I.ok.hd hc) st.1 (by simp;omega) λh' eb=>⟨rfl,I.turned (λb o hb e=>eb b o hb e) f0 f1 f3 f4 f5⟩
 self:=λ_ _ _ _ _ st h=>wpAny_pyIter_striter_wide st.1 h
section
variable{X:Cx}{tg:Expr}
def ajx(K:PySem.W.Frag)(tl:TE):TI:=λσ H R=>tl σ H λx H1=>(∃a,x = .ref a/\(∃xs,lG K H1 a xs)/\R (Itl K a) H1)\/(∃a,x = .ref a/\(∃xs,qO K H1 a xs)/\R (Itt K a) H1)\/∃z,x = .str z/\R (Its z) H1
def adA(hl:PE X l tl):PI X tg l (ajx X.K tl):=by
 intro pins s σ H R I h;refine fU (hl pins s σ H _ I h) λv s1 ⟨x,H1,I1,r1,q1⟩=>?_;have own:∀b ∈ [s1.heap.objs.size],By X pins H1 b:=λb hb=>by
  have e:b=s1.heap.objs.size:=by simpa using hb
  subst e;exact I1.afa (Qq2 _)<|I1.hok.fresh<|Qq2 _
 rcases q1 with ⟨a,e,⟨xs,hq⟩,q⟩|⟨a,e,⟨xs,hq⟩,q⟩|⟨z,e,q⟩
 ·subst e;cases r1;obtain⟨its,rv,p,hz⟩:=I1.list hq;refine wpAny_pyIter_list p.isList ?_;exact⟨s1.heap.objs.size,[s1.heap.objs.size],_,_,H1,rfl,I1.kept λb o e=>Qqj _ e,QB a _,⟨_,Qq7 _ rfl,rfl,rfl⟩,own,q⟩
 ·subst e;cases r1;obtain⟨its,rv,p,hz⟩:=I1.tuple hq;refine wpAny_pyIter_tuple p ?_;exact⟨s1.heap.objs.size,[s1.heap.objs.size],_,_,H1,rfl,I1.kept λb o e=>Qqj _ e,K4 a _,⟨_,Qq7 _ rfl,rfl,rfl⟩,own,q⟩
 ·subst e;obtain⟨t,rfl⟩:=r1;cases ha:z.cps.all (·< 128)
  ·exact wpAny_pyIter_wide ha ⟨s1.heap.objs.size,[s1.heap.objs.size],_,_,H1,rfl,I1.kept λb o e=>Qqj _ e,Qy _ z t,⟨⟨_,Qq7 _ rfl,rfl,rfl⟩,Qzk _⟩,own,q⟩
  ·exact wpAny_pyIter_ascii ha ⟨s1.heap.objs.size,[s1.heap.objs.size],_,_,H1,rfl,I1.kept λb o e=>Qqj _ e,Qz _ z t,⟨⟨_,Qq7 _ rfl,rfl,rfl⟩,Qzk _⟩,own,q⟩
def afK(lo c:Int)(n:Nat):It:=⟨λi _=>i<n,λi H x H'=>H'=H/\x = .int (lo+i*c),λi _=>n<=i⟩
theorem Hn{P:Program}{w:World}{K:PySem.W.Frag}{tg:Expr}(it:Addr)(lo c:Int)(n:Nat):Turn P w K tg (afK lo c n) [it] it (λi h=>IsRangeIter h it (lo+(i:Nat)*c) ((n:Int) - (i:Nat)) c) where
 mem:=by simp
 obj:=λi h st b hb=>by
  have e:b=it:=by simpa using hb
  subst e;exact⟨_,st,λv z=>by
   have z':=z;cases z'⟩
 keep:=λi h h' st k=>k it (by simp) _ st
 item:=by intro X hP hw hK hc i pins s σ H E I hf st hg;subst hP hw hK;obtain⟨f0,f1,f2,f3,f4,f5⟩:=hf it (by simp);have W:=Walks.range (prog:=X.prog) (w:=X.w) (I.ok.hd hc) it lo c n;refine W.item i s _ _ hg st λv h' tk hv st' kk=>?_;obtain⟨t,rfl⟩:=hv;have I1:Inv X pins σ H { s with heap:=h',toks:=tk }:=I.turned (λb o hb e=>kk b o (by simpa using hb) e) f0 f1 f3 f4 f5;exact⟨_,rfl,DP st' rfl rfl (by decide) ⟨.int<|lo+i*c,H,I1,⟨t,rfl⟩,⟨rfl,rfl⟩,st',λb hb=>(hf b hb).1⟩⟩
 done:=by intro X hP hw hK hc i pins s σ H E I hf st hg;subst hP hw hK;obtain⟨f0,f1,f2,f3,f4,f5⟩:=hf it (by simp);exact wpAny_pyNext_range_end (I.ok.hd hc) st (by have:n<=i:=hg;omega) λh' eb=>⟨rfl,I.turned (λb o hb e=>eb b o hb e) f0 f1 f3 f4 f5⟩
 self:=λ_ _ _ _ _ st h=>wpAny_pyIter_rangeiter st h
def ahA(ta:TA):TI:=λσ H R=>ta σ H λvs H1=>∃i j c:Int,vs=[.int i,.int j,.int c]/\c≠0/\c.natAbs<1073741824/\Builtin.Range.small i j c=true/\R (afK i c (Builtin.Range.rangeSize i j c).toNat) H1
def Rg{p pos:Pos}(hg:Gl X "range")(hm:X.mg "range" = none)(ha:PA X [a,b,c] ta)(hs:starEach [a,b,c] X.env=[(false,eval a X.env),(false,eval b X.env),(false,eval c X.env)]:=by rfl)(hs2:starEach [b,c] X.env=[(false,eval b X.env),(false,eval c X.env)]:=by rfl) :
  PI X tg (.Call (.Name "range" p) [a,b,c] [] pos) (ahA ta):=by
 intro pins s σ H R I h;refine Call_<|yd I hg hm boot_range<|Qj1 (fU (ha pos pins s σ H _ I h) λus s1 ⟨vs,H1,I1,r1,q1⟩=>?_) (by rw[hs,hs2]) (by rw[hs2];rfl);obtain⟨i,j,c,e,hc,hcs,hsm,q⟩:=q1;subst e;cases r1 with
 | cons r rr=>
  cases rr with
  | cons r' rr=>
   cases rr with
   | cons r'' rr=>
    cases rr;obtain⟨t,rfl⟩:=r;obtain⟨t',rfl⟩:=r';obtain⟨t'',rfl⟩:=r'';refine call_range_3 hc ?_<|.inl<|PyProof.noPylong_small hcs;refine wpAny_pyIter_range (IsRange.new ..) hsm ?_;generalize ho:({ cls:=.type "range",data:=.fields #[.int i t,.int j t',.int c t''] }:Obj)=o;have I2:Inv X pins σ H1 { s1 with heap:=s1.heap.push o,toks:=s1.toks }:=I1.kept λb o e=>Qqj _ e;refine⟨(s1.heap.push o).objs.size,[(s1.heap.push o).objs.size],_,_,H1,rfl,I2.kept λb o e=>Qqj _ e,Hn _ i c (Builtin.Range.rangeSize i j c).toNat,?_,λb hb=>?_,q⟩
    ·have e1:i+((0:Nat):Int)*c=i:=by simp
     have e2:(((Builtin.Range.rangeSize i j c).toNat:Nat):Int) - ((0:Nat):Int)=Builtin.Range.rangeSize i j c:=by have:=PyProof.Rows.rangeSize_toNat i j c;omega
     show IsRangeIter _ _ (i+((0:Nat):Int)*c) (((Builtin.Range.rangeSize i j c).toNat:Int) - ((0:Nat):Int)) c;rw[e1,e2];exact Qq7 _ rfl
    ·have e:b=(s1.heap.push o).objs.size:=by simpa using hb
     subst e;exact I2.afa (Qq2 _)<|I2.hok.fresh<|Qq2 _
end
end L2
namespace Ev
open PySem PySem.Spec PyProof.Rows L2
section
variable{X:Cx}{C:Cfg}{pos:Pos}{tg:Expr}
def fW(x:List Nat):List D:=x.map λc=>.str [c]
def Ks(h:qO C.K F a vs)(p:bT C.K F ds vs):o8 C.K F ds (Itt C.K a):=λi H s=>by
 refine⟨λ_ e=>⟨vs,aR.tupK s h,by rw[p.length,e];exact Qq2 _⟩,λd hd=>?_⟩;obtain⟨v,h1,h2⟩:=p.get hd;refine⟨⟨vs,v,aR.tupK s h,h1⟩,λx H' hy=>.inl ⟨hy.1,?_⟩⟩;have:=hy.2 vs<|aR.tupK s h;rw[h1] at this;cases this;exact h2
def Ku:o8 C.K F (fW x) (Its (strOf x)):=λi H s=>by
 refine⟨λ_ e=>?_,λd hd=>?_⟩
 ·show x.toArray.size<=i;rw[e];simp[fW]
 ·unfold fW at hd;rw[Qx6] at hd;obtain⟨c,hc,rfl⟩:=Qw1.mp hd;refine⟨?_,λv H' hy=>.inl ⟨hy.1,?_⟩⟩
  ·show i<x.toArray.size;have:=(Qq6.mp hc).1
   simpa using this
  ·obtain⟨c',h1,rfl⟩:=hy.2;have h2:x[i]? = some c':=by simpa[strOf] using h1
   rw[hc] at h2;cases h2;exact⟨rfl,by show 1<=sizeLine;decide⟩
def itD:D->Option (List D)
 | .lst xs=>some xs
 | .arr xs=>some xs
 | .tup xs=>some xs
 | .str x=>some (fW x)
 | _=>none
def gO(a:Ev):dq:=λenv=>bindR (a env) λd aD=>fX (itD d) aD
def YX(hK:X.K=C.K)(h:PX X C l a):Xp X C tg l (gO a):=(adA h).imp λσ H R hq=>by
 obtain⟨Pr,F,env,env',ds,r,e,q⟩:=hq;obtain⟨d,aD,e1,e2⟩:=aO e;obtain⟨e3,rfl⟩:=cA e2;refine⟨Pr,F,env,env',d,r,e1,λv H1 F1 r1 s1 p1=>?_⟩;rw[hK];cases d with
 | lst xs=>
  cases e3;obtain⟨z,a,vs,rfl,g1,g2⟩:=p1;refine .inl ⟨a,rfl,⟨vs,lG.of<|r1.fr _ _ g1⟩,q _ H1 F1 r1 s1 λi H s=>?_⟩;refine⟨λ_ e=>⟨vs,lG.of<|s _ _ g1,by rw[g2.length,e];exact Qq2 _⟩,λd hd=>?_⟩;obtain⟨v,h1,h2⟩:=g2.get hd;refine⟨⟨vs,v,lG.of<|s _ _ g1,h1⟩,λx H' hy=>.inl ⟨hy.1,?_⟩⟩;have:=hy.2 vs<|lG.of<|s _ _ g1;rw[h1] at this;cases this;exact h2
 | arr xs=>
  cases e3;obtain⟨z,a,vs,rfl,g1,g2⟩:=p1;refine .inl ⟨a,rfl,⟨vs,r1.fr.seq g1⟩,q _ H1 F1 r1 s1 λi H s=>?_⟩;refine⟨λ_ e=>⟨vs,s.seq g1,by rw[g2.length,e];exact Qq2 _⟩,λd hd=>?_⟩;obtain⟨v,h1,h2⟩:=g2.get hd;refine⟨⟨vs,v,s.seq g1,h1⟩,λx H' hy=>.inl ⟨hy.1,?_⟩⟩;have:=hy.2 vs<|s.seq g1;rw[h1] at this;cases this;exact h2
 | tup xs=>
  cases e3;obtain⟨z,a,vs,rfl,g1,g2⟩:=p1;exact .inr<|.inl ⟨a,rfl,⟨vs,aR.tupK r1.fr g1⟩,q _ H1 F1 r1 s1<|Ks g1 g2⟩
 | str x=>
  cases e3;obtain⟨rfl,z⟩:=p1;exact .inr<|.inr ⟨_,rfl,q _ H1 F1 r1 s1 Ku⟩
 | _=>cases e3
def iz(lo c:Int)(n:Nat):List D:=(List.range n).map λ(i:Nat)=>.int (lo+i*c)
def pP(lo c)(n):(iz lo c n).length=n:=by simp[iz]
def zQ{lo c:Int}(h:(iz lo c n)[i]? = some d):i<n/\d = .int (lo+i*c):=by
 have hi:i<n:=by
  have:=(Qq6.mp h).1
  rwa [pP] at this
 refine⟨hi,?_⟩;unfold iz at h;rw[Qx6,List.getElem?_range hi] at h;cases h;rfl
def zN{lo:Int}:o8 C.K F (iz lo 1 n) (Itr lo n):=λi H s=>by
 refine⟨λ_ e=>by rw[e,pP];exact Qq2 _,λd hd=>?_⟩;obtain⟨hi,rfl⟩:=zQ hd;refine⟨hi,λx H' hy=>.inl ⟨hy.1,?_⟩⟩;rw[Int.mul_one];exact hy.2
def Hh{lo c:Int}:o8 C.K F (iz lo c n) (afK lo c n):=λi H s=>by
 refine⟨λ_ e=>by rw[e,pP];exact Qq2 _,λd hd=>?_⟩;obtain⟨hi,rfl⟩:=zQ hd;exact⟨hi,λx H' hy=>.inl ⟨hy.1,hy.2⟩⟩
def lD(j:Int):Bool:=decide (-(2^62)<=j)&&decide (j<2^62)
def uC(h:lD j=true) : -(2^62)<=j/\j<2^62:=by unfold lD at h;rw[Qwx] at h;exact⟨Qw5 h.1,Qw5 h.2⟩
def nA:List D->Option (List D)
 | [.int j]=>if lD j=true then some (iz 0 1 j.toNat) else none
 | [.int i,.int j]=>if lD i=true/\lD j=true then some (iz i 1 (j - i).toNat) else none
 | [.int i,.int j,.int c]=>if c≠0/\c.natAbs<1073741824/\Builtin.Range.small i j c=true then some (iz i c (Builtin.Range.rangeSize i j c).toNat) else none
 | _=>none
def dY(a:dq):dq:=λenv=>bindR (a env) λds aD=>fX (nA ds) aD
def bT.aju(h:bT C.K F [.int i] vs):vs=[.int i]:=by obtain⟨v,r,rfl,h1,h2⟩:=h;cases h1;cases h2;rfl
def bT.ajt(h:bT C.K F [.int i,.int j] vs):vs=[.int i,.int j]:=by obtain⟨v,r,rfl,h1,v',r',rfl,h2,h3⟩:=h;cases h1;cases h2;cases h3;rfl
def bT.ajs(h:bT C.K F [.int i,.int j,.int k] vs):vs=[.int i,.int j,.int k]:=by obtain⟨v,r,rfl,h1,v',r',rfl,h2,v'',r'',rfl,h3,h4⟩:=h;cases h1;cases h2;cases h3;cases h4;rfl
def Lx(hg:Gl X "range")(hm:X.mg "range" = none)(ha:Nj X C [a] ea)(hl:∀env ds env',ea env = .ok ds env'->ds.length=1)(hs:starEach [a] X.env=[(false,eval a X.env)]:=by rfl):Xp X C tg (.Call (.Name "range" p) [a] [] pos) (dY ea):=
 (Ri hg hm ha hs).imp λσ H R hq=>by
  obtain⟨Pr,F,env,env',ds,r,e,q⟩:=hq;obtain⟨as,aD,e1,e2⟩:=aO e;obtain⟨e3,rfl⟩:=cA e2;refine⟨Pr,F,env,env',as,r,e1,λvs H1 F1 r1 s1 p1=>?_⟩;have:=hl _ _ _ e1;unfold nA at e3;split at e3
  ·split at e3
   ·rename_i hf;cases e3;have hb:=uC hf;exact⟨_,p1.aju,hb.1,hb.2,q _ H1 F1 r1 s1 zN⟩
   ·cases e3
  ·simp at this
  ·simp at this
  ·cases e3
def Lw{p pos:Pos}(hg:Gl X "range")(hm:X.mg "range" = none)(ha:Nj X C [a,b] ea)(hl:∀env ds env',ea env = .ok ds env'->ds.length=2)(hs:starEach [a,b] X.env=[(false,eval a X.env),(false,eval b X.env)]:=by rfl)(hs2:starEach [b] X.env=[(false,eval b X.env)]:=by rfl):Xp X C tg (.Call (.Name "range" p) [a,b] [] pos) (dY ea):=
 (Rh hg hm ha hs hs2).imp λσ H R hq=>by
  obtain⟨Pr,F,env,env',ds,r,e,q⟩:=hq;obtain⟨as,aD,e1,e2⟩:=aO e;obtain⟨e3,rfl⟩:=cA e2;refine⟨Pr,F,env,env',as,r,e1,λvs H1 F1 r1 s1 p1=>?_⟩;have:=hl _ _ _ e1;unfold nA at e3;split at e3
  ·simp at this
  ·split at e3
   ·rename_i hf;cases e3;have hb:=uC hf.1;have hb2:=uC hf.2;exact⟨_,_,p1.ajt,⟨hb.1,hb.2,hb2.1,hb2.2⟩,q _ H1 F1 r1 s1 zN⟩
   ·cases e3
  ·simp at this
  ·cases e3
def Ls{p pos:Pos}(hg:Gl X "range")(hm:X.mg "range" = none)(ha:Nj X C [a,b,c] ea)(hl:∀env ds env',ea env = .ok ds env'->ds.length=3)(hs:starEach [a,b,c] X.env=[(false,eval a X.env),(false,eval b X.env),(false,eval c X.env)]:=by rfl)(hs2:starEach [b,c] X.env=[(false,eval b X.env),(false,eval c X.env)]:=by rfl):Xp X C tg (.Call (.Name "range" p) [a,b,c] [] pos) (dY ea):=
 (Rg hg hm ha hs hs2).imp λσ H R hq=>by
  obtain⟨Pr,F,env,env',ds,r,e,q⟩:=hq;obtain⟨as,aD,e1,e2⟩:=aO e;obtain⟨e3,rfl⟩:=cA e2;refine⟨Pr,F,env,env',as,r,e1,λvs H1 F1 r1 s1 p1=>?_⟩;have:=hl _ _ _ e1;unfold nA at e3;split at e3
  ·simp at this
  ·simp at this
  ·split at e3
   ·rename_i hf;cases e3;exact⟨_,_,_,p1.ajs,hf.1,hf.2.1,hf.2.2,q _ H1 F1 r1 s1 Hh⟩
   ·cases e3
  ·cases e3
def R9(env)(ds)(env')(h:aj env = .ok ds env'):ds.length=0:=by cases h;rfl
def Mz(hr:∀env ds env',r env = .ok ds env'->ds.length=n)(env)(ds)(env')(h:aa a r env = .ok ds env'):ds.length=n+1:=by obtain⟨d,aD,e1,e2⟩:=aO h;obtain⟨ds2,eG,e3,e4⟩:=aO e2;cases e4;rw[Qqk,hr _ _ _ e3]
def bT.ue{K:Fg}(h:bT K F ds vs)(e:L2.ue ds k=some d):∃v,L2.ue vs k=some v/\Rep K F d v:=by unfold L2.ue at e ⊢;rw[h.length];obtain⟨j,h1,h2⟩:=Qxy.mp e;obtain⟨v,h3,h4⟩:=h.get h2;exact⟨v,by rw[h1];exact h3,h4⟩
def gM:D->D->Option D
 | .lst xs,.int k=>ue xs k
 | .arr xs,.int k=>ue xs k
 | .tup xs,.int k=>ue xs k
 | .str x,.int k=>(ue x k).map λc=>.str [c]
 | _,_=>none
def abG:pN C (rIx C.K) gM:=by
 intro Pr F env σ H x y d vx vy Q r px py e q;unfold gM at e;split at e
 ·obtain⟨z,a,vs,rfl,h1,h2⟩:=px.lst r.fr;cases py.int;obtain⟨v,e1,p1⟩:=h2.ue e;exact .inl ⟨a,vs,_,v,rfl,rfl,lG.of h1,e1,q _ _ F r (aR.refl F) p1⟩
 ·obtain⟨z,a,vs,rfl,h1,h2⟩:=px.arr r.fr;cases py.int;obtain⟨v,e1,p1⟩:=h2.ue e;exact .inl ⟨a,vs,_,v,rfl,rfl,h1,e1,q _ _ F r (aR.refl F) p1⟩
 ·obtain⟨z,a,vs,rfl,h1,_,h2⟩:=px.tup r.fr;cases py.int;obtain⟨v,e1,p1⟩:=h2.ue e;exact .inr<|.inl ⟨a,vs,_,v,rfl,rfl,h1,e1,q _ _ F r (aR.refl F) p1⟩
 ·obtain⟨rfl,z⟩:=px.str;cases py.int;obtain⟨c,e1,rfl⟩:=Qw1.mp e;exact .inr<|.inr ⟨_,_,c,rfl,rfl,by simpa[strOf,Str.length] using z,by simpa[strOf] using e1,q _ _ F r (aR.refl F) ⟨rfl,by show 1<=sizeLine;decide⟩⟩
 ·cases e
def agX(hK:X.K=C.K)(ha:PX X C x a)(hb:Xr X C y b)(hs:wQ y:=by intro _ _;rfl):PX X C (.Subscript x y pos) (az gM a b):=by have h:=(abE (pos:=pos) Wd ha hb hs);rw[hK] at h;exact h.imp<|ym abG
def adi{px:Pos}(i)(hK:X.K=C.K)(hN:X.N[i]? = some x)(hv:wW X.env.scope x)(hb:Xr X C y b)(hs:wQ y:=by intro _ _;rfl)
  (hd:jN x:=by decide) (hcd:t7 x:=by decide):PX X C (.Subscript (.Name x px) y pos) (aA gM i b):=by
 have h:=(abE (pos:=pos) Wd (jF (pos:=px) hN hv hd hcd) hb hs);rw[hK] at h;exact h.imp<|tM abG
def cutD{α:Type}(xs:List α)(lo hi:Option Int):List α:=(xs.drop (HT.fL xs.length 0 lo)).take (HT.fL xs.length xs.length hi - HT.fL xs.length 0 lo)
def sr{α:Type}(xs:List α)(lo hi):(cutD xs lo hi).length<=xs.length:=by unfold cutD;rw[Qw8,Qxv];omega
def bT.cut{K:Fg}(h:bT K F ds vs)(lo hi):bT K F (cutD ds lo hi) (zp vs lo hi):=by unfold cutD zp;rw[h.length];exact bT.take _<|bT.drop _ h
abbrev Xx:=Env->R (Option Int)
def tP(C:Cfg)(ev:Xx):TO:=λσ H Q=>∃(Pr F:Hp) (env env':Env) (o:Option Int),Rel C Pr F env σ H/\ev env = .ok o env'/\∀H' F',Rel C Pr F' env' σ H'->aR F F'->Q o H'
def PXP(X:Cx)(C:Cfg)(e:Option Expr)(ev:Xx):Prop:=PO X e (tP C ev)
def _root_.L2.PO.imp{X:Cx}{e:Option Expr}{t t':TO}(h:PO X e t)(i:∀σ H Q,t' σ H Q->t σ H Q):PO X e t':=λpins s σ H Q I q=>h pins s σ H Q I<|i σ H Q q
def iQ:Xx:=λenv=>.ok none env
def nT(a:Ev):Xx:=λenv=>bindR (a env) λd aD=>match d with
 | .int i=>.ok (some i) aD
 | _=>.stuck
def U4:PXP X C none iQ:=Zg.imp λσ H Q h=>by
 obtain⟨Pr,F,env,env',d,r,e,q⟩:=h;cases e;exact q H F r<|aR.refl F
def gSl:D->Option Int->Option Int->Option D
 | .lst xs,lo,hi=>some (.lst (cutD xs lo hi))
 | .arr xs,lo,hi=>some (.lst (cutD xs lo hi))
 | .tup xs,lo,hi=>if HT.fL xs.length 0 lo=0/\HT.fL xs.length xs.length hi=xs.length then none else some (.tup (cutD xs lo hi))
 | _,_,_=>none
def CG(a:Ev)(lo hi:Xx):Ev:=λenv=>bindR (a env) λd aD=>bindR (lo aD) λl eG=>bindR (hi eG) λu WN=>fX (gSl d l u) WN
def Ud{lo hi:Option Int}(r:Rel C Pr F env σ H)(p:jg C.K F H x v)(e:gSl x lo hi=some d)(q:∀v H' F',Rel C Pr F' env σ H'->aR F F'->Rep C.K F' d v->Q v H') :
  agA C.K v lo hi H Q\/ac8 C.K v lo hi H Q:=by
 unfold gSl at e;split at e
 ·cases e;obtain⟨z,a,vs,rfl,h1,h2⟩:=p.lst r.fr;refine .inl ⟨a,vs,rfl,lG.of h1,λb hb=>?_⟩;obtain⟨r2,s2⟩:=r.new hb;exact q _ _ _ r2 s2 ⟨Qqy (sr _ _ _) z,b,_,rfl,aZ,bT.mono s2 _ _<|h2.cut lo hi⟩
 ·cases e;obtain⟨z,a,vs,rfl,h1,h2⟩:=p.arr r.fr;refine .inl ⟨a,vs,rfl,h1,λb hb=>?_⟩;obtain⟨r2,s2⟩:=r.new hb;exact q _ _ _ r2 s2 ⟨Qqy (sr _ _ _) z,b,_,rfl,aZ,bT.mono s2 _ _<|h2.cut lo hi⟩
 ·obtain⟨z,a,vs,rfl,h1,_,h2⟩:=p.tup r.fr;split at e
  ·cases e
  ·rename_i hn;cases e;refine .inr ⟨a,vs,rfl,h1,by rw[h2.length];exact hn,λb hb=>?_⟩;obtain⟨r2,s2⟩:=r.new hb;exact q _ _ _ r2 s2 ⟨Qqy (sr _ _ _) z,b,_,rfl,qO.of aZ,bT.mono s2 _ _<|h2.cut lo hi⟩
 ·cases e
def agV{lo hi:Option Expr}(hK:X.K=C.K)(ha:PX X C x a)(hl:PXP X C lo el)(hh:PXP X C hi eh):PX X C (.Subscript x (.Slice lo hi none p2) pos) (CG a el eh):=by have h:=Ip (pos:=pos) (p2:=p2) (Qq.or NT Lh) ha hl hh;rw[hK] at h;refine h.imp λσ H Q hq=>?_;obtain⟨Pr,F,env,env',d,r,e,q⟩:=hq;obtain⟨x,aD,e1,e2⟩:=aO e;obtain⟨l,eG,e3,e4⟩:=aO e2;obtain⟨u,WN,e5,e6⟩:=aO e4;obtain⟨e7,rfl⟩:=cA e6;refine⟨Pr,F,env,aD,x,r,e1,λv H1 F1 r1 s1 p1=>⟨Pr,F1,aD,eG,l,r1,e3,λH2 F2 r2 s2=>⟨Pr,F2,eG,env',u,r2,e5,λH3 F3 r3 s3=>?_⟩⟩⟩;exact Ud r3 (.inl<|Rep.mono (s2.trans s3) _ _ p1) e7 λv H' F' r' s' p'=>q v H' F' r' (((s1.trans s2).trans s3).trans s') p'
def xr(kvs:List (D×D))(q:Key):Option D:=match kvs with
 | []=>none
 | (k,d)::r=>if zj k=some q then some d else xr r q
def zb(kvs:List (D×D))(q:Key)(d:D):List (D×D):=match kvs with
 | []=>[]
 | (k,e)::r=>(if zj k=some q then (k,d) else (k,e))::zb r q d
def putD(kvs:List (D×D))(k:D)(q:Key)(d:D):List (D×D):=if (xr kvs q).isSome then zb kvs q d else kvs++[(k,d)]
theorem dU.length{K:Fg}:∀{ds} {vs},dU K F ds vs->vs.length=ds.length
 | [],_,h=>by cases h;rfl
 | (k,d)::ds,vs,h=>by
  obtain⟨q,v,r,rfl,_,_,h2⟩:=h;rw[Qqk,Qqk,h2.length]
theorem dU.val{K:Fg}(q):∀{ds} {vs},dU K F ds vs->(xr ds q=none/\yX vs q=none)\/∃d v,xr ds q=some d/\yX vs q=some v/\Rep K F d v
 | [],_,h=>by cases h;exact .inl ⟨rfl,rfl⟩
 | (k,d)::ds,vs,h=>by
  obtain⟨q',v,r,rfl,hk,h1,h2⟩:=h;unfold xr;by_cases e:q'=q
  ·subst e;rw[if_pos hk];exact .inr ⟨d,v,rfl,vf rfl,h1⟩
  ·rw[if_neg (λz=>e<|Qxj<|hk.symm.trans z),vg e];exact dU.val q h2
theorem dU.set{K:Fg}(q)(hd:Rep K F d v):∀{ds} {vs},dU K F ds vs->dU K F (zb ds q d) (vs.map λkv=>if kv.1=q then (kv.1,v) else kv)
 | [],_,h=>by cases h;exact rfl
 | (k,e)::ds,vs,h=>by
  obtain⟨q',u,r,rfl,hk,h1,h2⟩:=h;unfold zb;by_cases e':q'=q
  ·subst e';rw[if_pos hk];refine⟨q',v,_,?_,hk,hd,dU.set q' hd h2⟩;rw[Qq8,if_pos rfl]
  ·rw[if_neg (λz=>e'<|Qxj<|hk.symm.trans z)];refine⟨q',u,_,?_,hk,h1,dU.set q hd h2⟩;rw[Qq8,if_neg e']
theorem dU.append{K:Fg}:∀{ds es} {vs ws},dU K F ds vs->dU K F es ws->dU K F (ds++es) (vs++ws)
 | [],es,vs,ws,h,g=>by cases h;exact g
 | (k,d)::ds,es,vs,ws,h,g=>by
  obtain⟨q,v,r,rfl,h0,h1,h2⟩:=h;exact⟨q,v,r++ws,rfl,h0,h1,dU.append h2 g⟩
theorem HQ(q)(d):∀kvs,(zb kvs q d).length=kvs.length
 | []=>rfl
 | (k,e)::r=>by unfold zb;rw[Qqk,Qqk,HQ q d r]
def Ve(kvs)(k)(q)(d):(putD kvs k q d).length<=kvs.length+1:=by
 unfold putD;split
 ·rw[HQ];omega
 ·rw[Qqq];exact Qq2 _
def dU.put{K:Fg}(h:dU K F ds vs)(hk:zj k=some q)(hd:Rep K F d v):dU K F (putD ds k q d) (putK vs q v):=by
 unfold putD putK;rw[zO];rcases h.val q with ⟨e1,e2⟩|⟨d',v',e1,e2,_⟩
 ·rw[e1,e2];exact h.append ⟨q,v,[],rfl,hk,hd,rfl⟩
 ·rw[e1,e2];exact dU.set q hd h
def aeJ{K:Fg}(h:zj k=some q)(p:Rep K F k v):v=kV q:=by
 cases k with
 | int i=>cases h;exact p
 | str x=>cases h;exact p.1
 | _=>cases h
def aeK{K:Fg}(h:zj k=some q)(p:jg K F H k v):v=kV q:=by
 cases k with
 | int i=>cases h;exact p.int
 | str x=>cases h;exact p.str.1
 | _=>cases h
def jg.dct{K:Fg}(s:aR F H)(h:jg K F H (.dct kvs) v):kvs.length<=sizeLine/\∃a ks,v = .ref a/\Rd H a (.dK ks)/\dU K F kvs ks:=by
 rcases h with ⟨z,a,vs,rfl,h1,h2⟩|⟨a,rfl,z,vs,h1,h2⟩
 ·exact⟨z,a,vs,rfl,aR.rd s h1,h2⟩
 ·exact⟨z,a,vs,rfl,.inl h1,h2⟩
def aby:R2:=λx y H Q=>∃a v,x = .ref a/\abf H a y (some v)/\Q v H
def my:D->D->Option D
 | .dct kvs,k=>(zj k).bind λq=>xr kvs q
 | _,_=>none
def ZP:pN C aby my:=by
 intro Pr F env σ H x y d vx vy Q r px py e q;unfold my at e;split at e
 ·obtain⟨z,a,ks,rfl,h1,h2⟩:=px.dct r.fr;obtain⟨k,hk,hv⟩:=Qxy.mp e;cases aeK hk py;rcases h2.val k with ⟨e1,_⟩|⟨d',v',e1,e2,p2⟩
  ·rw[e1] at hv;cases hv
  ·rw[e1] at hv;cases hv;exact⟨a,v',rfl,.inl ⟨ks,k,h1,rfl,e2.symm⟩,q _ _ F r (aR.refl F) p2⟩
 ·cases e
def Va{px:Pos}(i)(hu:X.A.units+1<cLine)(hN:X.N[i]? = some x)(hv:wW X.env.scope x)(hb:Xr X C y b)(hs:abb y:=by intro _ _;rfl)
  (hd:jN x:=by decide) (hcd:t7 x:=by decide):PX X C (.Subscript (.Name x px) y pos) (aA my i b):=by
 have h:PE X (.Subscript (.Name x px) y pos) (Yn aby _ _):=Zr hu (jF hN hv hd hcd) hb hs;exact h.imp<|tM ZP
def Bc:Ev:=λenv=>.ok (.dct []) env
def U5:XJ X C (.Dict [] [] pos) Bc:=Vs.imp λσ H Q hq=>by
 obtain⟨Pr,F,env,env',d,r,e,q⟩:=hq;cases e;exact λp hp=>q _ _ F (r.fresh hp) (aR.refl F)<|Xv.of r hp ⟨Qzk _,[],aZ,rfl⟩
def uv(i:Nat)(k a:Ev):cC:=λenv=>km (a env) λd aD=>match aD[i]? with
 | some (some (_,_))=>km (k aD) λkd eG=>(match eG[i]?,zj kd with
  | some (some (true,.dct kvs)),some q=>if kvs.length<sizeLine then .nx (eG.set i (some (true,.dct (putD kvs kd q d)))) else .stuck
  | _,_=>.stuck)
 | _=>.stuck
def U0(hu:X.A.units+1<cLine)(hN:X.N[i]? = some x)(hv:wW X.env.scope x)(hk:PX X C k ek)(he:PX X C e a)
  (hs:swapsWith e (some (.Subscript (.Name x px) k pos')) pos.line X.env=pure false:=by rfl)
  (hd:jN x:=by decide) (hcd:t7 x:=by decide):Xo X C (.Assign [.Subscript (.Name x px) k pos'] e pos) (uv i ek a):=
 (Zd hu (jF hN hv hd hcd) hk he hs).imp λD σ H h=>by
  obtain⟨Pr,F,env,r,f⟩:=h;obtain⟨d,aD,e1,f1⟩:=cT f;refine⟨Pr,F,env,aD,d,r,e1,λv H1 F1 r1 s1 p1=>?_⟩;split at f1
  ·rename_i o0 d0 h0;obtain⟨v0,hv0,_⟩:=r1.rd h0;obtain⟨kd,eG,e2,f2⟩:=cT f1;refine⟨v0,hv0,Pr,F1,aD,eG,kd,r1,e2,λvk H2 F2 r2 s2 p2=>?_⟩;split at f2
   ·rename_i kvs q h2 hq;split at f2
    ·rename_i hz;obtain⟨b,g1,⟨z,ks,g2,g3⟩,g4,g5⟩:=r2.own i _ h2;rw[hv0] at g1;cases g1;have hz':ks.length<sizeLine:=by rw[g3.length];exact hz
     cases aeJ hq p2;refine⟨b,_,rfl,Xy.k g2 hz',?_⟩;refine f2 σ _ F2 (r2.write h2 hv0 ⟨Qqy (Ve _ _ _ _) hz,_,aZ,g3.put hq<|Rep.mono s2 _ _ p1⟩)<|s1.trans s2
    ·exact f2.elim
   ·exact f2.elim
  ·exact f1.elim
def RN(x:List Nat):List (List Nat)->List (List Nat)
 | []=>[x]
 | y::r=>if y<x then y::RN x r else x::y::r
def fV:List (List Nat)->List (List Nat)
 | []=>[]
 | x::r=>RN x (fV r)
theorem yg(x):∀l,(RN x l).Perm (x::l)
 | []=>.refl _
 | y::r=>by
  unfold RN;split
  ·exact((yg x r).cons y).trans<|.swap x y r
  ·exact .refl _
theorem gV:∀l,(fV l).Perm l
 | []=>.refl _
 | x::r=>(yg x<|fV r).trans<|(gV r).cons x
theorem yH(x):∀l,l.Pairwise (λa b=>a<=b)->(RN x l).Pairwise (λa b=>a<=b)
 | [],_=>List.pairwise_singleton _ _
 | y::r,h=>by
  unfold RN;have h1:=Qzq.mp h;split
  ·rename_i hyx;refine Qzq.mpr ⟨λz hz=>?_,yH x r h1.2⟩;rcases Qqw.mp ((yg x r).mem_iff.mp hz) with rfl|hz
   ·exact List.le_of_lt hyx
   ·exact h1.1 z hz
  ·rename_i hyx;have hxy:=List.not_lt.mp hyx;refine Qzq.mpr ⟨λz hz=>?_,h⟩;rcases Qqw.mp hz with rfl|hz
   ·exact hxy
   ·exact List.le_trans hxy<|h1.1 z hz
theorem pQ:∀l,(fV l).Pairwise (λa b=>a<=b)
 | []=>.nil
 | x::r=>yH x _<|pQ r
theorem Dm:∀p l,risingS p l=true->(p::l).Pairwise (λa b=>a.cps.toList<=b.cps.toList)
 | p,[],_=>List.pairwise_singleton _ _
 | p,x::r,h=>by
  have h':(!Spec.ltCps x.cps.toList p.cps.toList&&risingS x r)=true:=h;rw[Qwx,PyProof.Rows.ltCps_eq] at h';have hxp:¬x.cps.toList<p.cps.toList:=by
   have:=h'.1
   simpa using this
  have ih:=Dm x r h'.2;refine Qzq.mpr ⟨λz hz=>?_,ih⟩;have hpx:=List.not_lt.mp hxp;rcases Qqw.mp hz with rfl|hz
  ·exact hpx
  ·exact List.le_trans hpx<|(Qzq.mp ih).1 z hz
theorem QS:∀l,sortedS l=true->l.Pairwise (λa b=>a.cps.toList<=b.cps.toList)
 | [],_=>.nil
 | x::r,h=>Dm x r h
def sO(s):strOf s.cps.toList=s:=by obtain⟨c⟩:=s;simp[strOf]
def Ew(e:ss=xs.map strOf)(hp:ss'.Perm ss)(hs:sortedS ss'=true):ss'=(fV xs).map strOf:=by
 subst e;have h1:(ss'.map λs=>s.cps.toList).Perm xs:=by
  have:=hp.map (λs:Str=>s.cps.toList);rw[Qxk] at this;have e2:xs.map ((λs:Str=>s.cps.toList) ∘ strOf)=xs:=by rw[Qz6 (g:=id) (λx _=>by simp[strOf])];simp
  rwa [e2] at this
 have h2:(ss'.map λs=>s.cps.toList)=fV xs:=by refine List.Perm.eq_of_pairwise (λa b _ _=>List.le_antisymm) ?_ (pQ xs)<|h1.trans (gV xs).symm;exact List.pairwise_map.mpr<|QS ss' hs
 rw[<-h2,Qxk];have e3:∀l:List Str,l.map (strOf ∘ λs=>s.cps.toList)=l:=λl=>by
  induction l with
  | nil=>rfl
  | cons a r ih=>rw[Qq8,ih];show strOf a.cps.toList::r=a::r;rw[sO]
 exact(e3 ss').symm
theorem u9:∀{us} {ss},StrsAre us ss->Vals (ss.map V.str) us
 | _,_,.nil=>.nil
 | _,_,.cons y t h=>.cons ⟨t,rfl⟩<|u9 h
theorem vH{K:Fg}:∀(xs:List (List Nat)),(∀x∈xs,x.length<=sizeLine)->bT K F (xs.map D.str) (xs.map λz=>V.str (strOf z))
 | [],_=>rfl
 | x::xs,h=>⟨_,_,rfl,⟨rfl,h x<|Qqv ..⟩,vH xs λy hy=>h y<|Qq0 _ hy⟩
def Ft(K:Fg):List V->Hp->VK->Prop:=λxs H Q=>∃p zs,xs=[.ref p]/\(lG K H p (zs.map λz=>V.str (strOf z))\/∃ks,Rd H p (.dK ks)/\ks.map (·.1)=zs.map λz=>Sum.inr (strOf z))/\zs.length<64/\∀l,H l=none->Q (.ref l) (upd H l (.lst ((fV zs).map λz=>V.str (strOf z))))
def zW{σ:L2.St}{a:Addr}(I:Inv X pins σ H s)(hz:zs.length<64)(q:∀l,H l=none->Q (.ref l) (upd H l (.lst ((fV zs).map λz=>V.str (strOf z)))))
  (a1:StrsAre out.toList ss') (a2:ss'.Perm (zs.map strOf)) (a3:sortedS ss'=true) (hk:∀b o,s.heap.get? b=some o->h'.get? b=some o) (ha:s.heap.objs.size<=a) (ho:h'.get? a=some (seqObj "list" out e)):EP X pins σ Q (.ref a) { s with heap:=h',toks:=tk }:=by
 have e1:=Ew rfl a2 a3;subst e1;have rv:=u9 a1;rw[Qxk] at rv;have hl:((fV zs).map λz=>V.str<|strOf z).length<=sizeLine:=by rw[Qqz,(gV zs).length_eq];exact Qqy (Qj5 hz) (by decide)
 exact⟨.ref a,_,I.laid hk ha<|show gK X.prog X.w _ h' a (.lst<|(fV zs).map λz=>V.str<|strOf z) from⟨hl,out.toList,e,rv,by simpa[seqObj] using ho⟩,rfl,q a<|I.hok.fresh ha⟩
def J4(hc:X.calm=true):iu X (.builtin "sorted") (Ft X.K):=by
 intro pins s σ H xs us Q I r h;obtain⟨p,zs,rfl,hq,hz,q⟩:=h;obtain⟨u,rfl,rx⟩:=vals1 r;cases rx;rcases hq with hq|⟨ks,hq,hks⟩
 ·obtain⟨its,r',pl,hzz⟩:=I.list hq;have hS:StrsAre its (zs.map strOf):=ph r';refine sorted_strs pl.isList hS (by rw[<-r'.length,Qqz];exact hz) λout ss' a1 a2 a3=>?_;obtain⟨e,he⟩:=sortedAll_at s.heap its out;exact zW (tk:=s.toks) I hz q a1 a2 a3 (λb o e=>sortedAll_old e) (Nat.le_succ _) he
 ·obtain⟨hz2,hsys,vs,rkv,hD⟩:=Qg I.hok hq;obtain⟨ep,hat⟩:=hD.dictAt;have hlen:vs.length=zs.length:=by
   have e1:=rkv.length;have e2:=Qzw List.length hks;rw[Qqz,Qqz] at e2;omega
  refine Calls.call_function_entry kind_sorted plain_sorted entry_sorted (args_sorted1 _) ?_;unfold Builtin.«sorted»;refine Qqx (m:=checkCount "sorted" 1 1 _)<|Qq1 ?_;refine Qqx<|PySem.W.kdu_collect (A:=X.A.in1) (PySem.W.kdl_dict (knd:=ir X.prog X.w) (kvs:=vs) (ep:=ep) hsys) (I.ok.hd hc) hat (by rw[hlen];exact Qqy (Qj5 hz) (by decide)) λh' tk acc hk hacc=>?_;have hl:acc.toList.length=vs.length:=by rw[Qz7];exact hacc.1
  have hS:StrsAre acc.toList (zs.map strOf):=by
   have keys:∀j,j<vs.length->∃v t,acc.toList[j]? = some v/\v=Value.str (strOf (zs.getD j [])) t:=λj hj=>by
    have hja:j<acc.size:=by rw[hacc.1];exact hj
    have e1:acc[j]? = some acc[j]:=by simp[hja]
    obtain⟨k,x,hx,hkx⟩:=hacc.2 j _ e1;have e2:(vs.map (·.1))[j]? = some k:=by rw[Qx6,hx];rfl
    rw[<-rkv.keys,hks,Qx6] at e2;obtain⟨z,hzj,rfl⟩:=Qw1.mp e2;rcases eN (k:=Sum.inr (strOf z)) (v:=acc[j]) hkx with ⟨i,t,z1,_⟩|⟨y,t,z1,z2⟩
    ·cases z1
    ·cases z1;exact⟨_,t,by rw[Array.getElem?_toList];exact e1,by rw[z2,Qzj,hzj];rfl⟩
   have build:∀us (ys:List (List Nat)),us.length=ys.length->(∀j,j<us.length->∃v t,us[j]? = some v/\v=Value.str (strOf (ys.getD j [])) t)->StrsAre us (ys.map strOf):=λus=>by
    induction us with
    | nil=>intro ys hl _;cases ys with
     | nil=>exact .nil
     | cons _ _=>cases hl
    | cons u us ih=>intro ys hl hk;cases ys with
     | nil=>cases hl
     | cons y ys=>
      obtain⟨v,t,e1,e2⟩:=hk 0 (Nat.succ_pos _);cases e1;rw[e2];exact .cons _ t (ih ys (by simpa using hl) λj hj=>by
       obtain⟨v,t,e1,e2⟩:=hk (j+1) (by simpa using hj);exact⟨v,t,by simpa using e1,by simpa using e2⟩)
   exact build _ _ (by rw[hl,hlen]) λj hj=>keys j (by rw[<-hl];exact hj)
  refine Qqx (wpAny_newList ?_ (by rw[hl,hlen];exact Qqy (Qj5 hz) (by decide)));have hoL:(h'.push (seqObj "list" acc.toList.toArray 0)).get? h'.objs.size=some (seqObj "list" acc.toList.toArray 0):=Qq7 _ rfl;show wpAny _ _ _ _ _ { s with heap:=h'.push (seqObj "list" acc.toList.toArray 0),toks:=tk };refine Qqx (Qzz (Qz5 slot_list_sort ⟨_,hoL,rfl⟩ entry_list_sort (list_sort_treeK strKind_oneLt hoL hS.keysOf (λv₁ v₂ rest e=>keyKind_strs (by rw[<-e];exact hS)) (by rw[hl,hlen];exact hz) λst' b1 b2=>⟨_,rfl,?_⟩) (args_list_sort _)));obtain⟨ss',a1,a2,a3⟩:=sorted_out_str hS b1 b2;obtain⟨e,he⟩:=sortedHeap_at (out:=(arrOf st').map (·.2)) hoL;refine Qq1 ⟨_,rfl,?_⟩;have I1:L2.Inv X pins σ H { s with heap:=h',toks:=tk }:=I.kept hk;refine zW (s:={ s with heap:=h',toks:=tk }) (tk:=tk) I1 hz q a1 a2 a3 (λb o e=>?_) (Qq2 _) he;have lt':=Qq9 e;rw[sortedHeap_old (Qw0 lt') (by rw[size_push'];exact Qjw lt')];exact Qqj _ e
def jB:List D->Option D
 | [.lst ds]=>(gB ds).bind λzs=>if zs.length<64/\(∀z∈zs,z.length<=sizeLine) then some (.lst ((fV zs).map .str)) else none
 | [.dct kvs]=>(gB (kvs.map (·.1))).bind λzs=>if zs.length<64/\(∀z∈zs,z.length<=sizeLine) then some (.lst ((fV zs).map .str)) else none
 | _=>none
theorem dU.keys{K:Fg}:∀{kvs} {ks} {zs},dU K F kvs ks->gB (kvs.map (·.1))=some zs->ks.map (·.1)=zs.map λz=>Sum.inr (strOf z)
 | [],ks,zs,h,e=>by cases h;simp[gB] at e;subst e;rfl
 | (k,d)::kvs,ks,zs,h,e=>by
  obtain⟨q,v,r,rfl,h0,h1,h2⟩:=h;cases k with
  | str x=>
   cases h0;have e':(gB<|kvs.map (·.1)).map (x :: ·)=some zs:=by simpa[gB] using e
   obtain⟨zs',e1,rfl⟩:=Qw1.mp e';rw[Qq8,Qq8,dU.keys h2 e1]
  | _=>simp[gB] at e
def zV(r:Rel C Pr F env σ H)(hl:H l=none)(hz:zs.length<64/\∀z∈zs,z.length<=sizeLine) :
  kh C.K F (upd H l (.lst ((fV zs).map λz=>V.str (strOf z)))) (.lst ((fV zs).map .str)) l:=by
 refine⟨by rw[Qqz,(gV zs).length_eq];exact Qqy (Qj5 hz.1) (by decide),_,aZ,vH _ λz h=>hz.2 z<|(gV zs).mem_iff.mp h⟩
def Su:CallD C (Ft C.K) jB:=by
 intro Pr F env σ H ds d vs Q r p e q;have fin:∀zs l,(zs.length<64/\∀z∈zs,z.length<=sizeLine)->d = .lst ((fV zs).map .str)->H l=none->Q (.ref l) (upd H l<|.lst<|(fV zs).map λz=>V.str<|strOf z):=λzs l hz hd hl=>by
  subst hd;obtain⟨F2,r2,s2,p2⟩:=(r.fresh hl).keep<|Xv.of r hl<|zV r hl hz;exact q _ _ F2 r2 s2 p2
 unfold jB at e;split at e
 ·obtain⟨v,w,rfl,p1,p2⟩:=p;cases p2;obtain⟨zs,e1,e2⟩:=Qxy.mp e;split at e2
  ·rename_i hz;cases e2;obtain⟨z,a,ws,rfl,h1,h2⟩:=p1.lst r.fr;have e6:=kJ e1 h2;subst e6;exact⟨a,zs,rfl,.inl<|lG.of h1,hz.1,λl hl=>fin zs l hz rfl hl⟩
  ·cases e2
 ·obtain⟨v,w,rfl,p1,p2⟩:=p;cases p2;obtain⟨zs,e1,e2⟩:=Qxy.mp e;split at e2
  ·rename_i hz;cases e2;obtain⟨z,a,ks,rfl,h1,h2⟩:=p1.dct r.fr;exact⟨a,zs,rfl,.inr ⟨ks,h1,h2.keys e1⟩,hz.1,λl hl=>fin zs l hz rfl hl⟩
  ·cases e2
 ·cases e
def Q8{p:Pos}(hK:X.K=C.K)(hc:X.calm=true)(hg:Gl X "sorted")(hm:X.mg "sorted" = none)(ha:aba X C [e] a)(he:BJ e X.env:=by rfl)(hpl:(backTo pos (starEach [] X.env)).any (·.1)=false:=by rfl) :
  PX X C (.Call (.Name "sorted" p) [e] [] pos) (aq jB a):=
 nC (by rw[<-hK];exact J4 hc) Su hg hm PyProof.Rows.boot_sorted ha (by decide) (by decide) he hpl
end
def Rel.pad(m)(r:Rel C Pr F env σ H):Rel C Pr F (env++List.replicate m none) (vK m σ) H:=by
 have un:∀j x,(env++List.replicate m none)[j]? = some (some x)->env[j]? = some (some x):=λj x he=>by
  by_cases hj:j<env.length
  ·rwa [Qxq hj] at he
  ·rw[Qx5 (by omega),Qz3] at he;split at he<;>cases he
 have up:∀j v,σ[j]? = some (some v)->(vK m σ)[j]? = some (some v):=λj v h=>by
  unfold vK;rw[Qxq (Qq6.mp h).1];exact h
 have dn:∀j v,(vK m σ)[j]? = some (some v)->σ[j]? = some (some v):=λj v he=>by
  unfold vK at he;by_cases hj:j<σ.length
  ·rwa [Qxq hj] at he
  ·rw[Qx5 (by omega),Qz3] at he;split at he<;>cases he
 refine⟨r.pr,r.fr,by unfold vK;rw[Qqq,Qqq,Qzx,Qzx,r.len],λj e he=>?_,λj e he=>?_,λj k e f b hj hk g1 g2=>r.apart j k e f b (un _ _ hj) (un _ _ hk) (dn _ _ g1)<|dn _ _ g2,r.dj,λj a h=>up _ _<|r.fix j a h⟩
 ·obtain⟨v,h1,h2⟩:=r.val j e<|un _ _ he;exact⟨v,up _ _ h1,h2⟩
 ·obtain⟨a,h1,h2⟩:=r.own j e<|un _ _ he;exact⟨a,up _ _ h1,h2⟩
def Rel.cut{σ σ0:L2.St}(r:Rel C Pr F env σ H)(h:σ.take σ0.length=σ0)(fix:∀i a,C.fx i=some a->σ0[i]? = some (some (V.ref a))):Rel C Pr F (env.take σ0.length) σ0 H:=by
 have hl:σ0.length<=σ.length:=by have:=Qzw List.length h;rw[Qw8] at this;omega
 have un:∀j x,(env.take σ0.length)[j]? = some (some x)->env[j]? = some (some x)/\j<σ0.length:=λj x he=>by
  have hj:j<σ0.length:=by have:=(Qq6.mp he).1;rw[Qw8] at this;omega
  rw[Qjj hj] at he;exact⟨he,hj⟩
 have dn:∀j,j<σ0.length->σ[j]? = σ0[j]?:=λj hj=>by
  have:=Qjj (l:=σ) hj;rw[h] at this;exact this.symm
 refine⟨r.pr,r.fr,by rw[Qw8,r.len];omega,λj e he=>?_,λj e he=>?_,λj k e f b hj hk g1 g2=>r.apart j k e f b (un _ _ hj).1 (un _ _ hk).1 (by rw[dn _ (un _ _ hj).2];exact g1) (by rw[dn _ (un _ _ hk).2];exact g2),r.dj,fix⟩
 ·obtain⟨e1,e2⟩:=un _ _ he;rw[<-dn j e2];exact r.val j e e1
 ·obtain⟨e1,e2⟩:=un _ _ he;rw[<-dn j e2];exact r.own j e e1
def Cw(g:GV)(c:gh)(e:Ev):List D->Env->R (List D)
 | [],env=>.ok [] env
 | d::ds,env=>(match g d env with
  | none=>.stuck
  | some e1=>bindR (c e1) λb e2=>if b=true then bindR (e e2) λy e3=>bindR (Cw g c e ds e3) λys e4=>.ok (y::ys) e4 else Cw g c e ds e2)
def gb(lo n:Nat)(it:dq)(g:GV)(c:gh)(e:Ev):Ev:=λenv=>bindR (it env) λds aD=>if aD.length=lo then bindR (Cw g c e ds (aD++List.replicate (n - lo) none)) λys eG=>(if ys.length<=sizeLine then .ok (.lst ys) (eG.take lo) else .stuck) else .stuck
def S6(X:Cx)(C:Cfg)(ifs:List Expr)(ev:gh):Prop:=PIf X ifs (tT C ev)
def cP:gh:=λenv=>.ok true env
def U6:S6 X C [] cP:=λpins s σ H Q I h=>by
 obtain⟨Pr,F,env,env',b,r,e,q⟩:=h;cases e;exact Zj pins s σ H Q I<|q H F r<|aR.refl F
def abQ{lo n:Nat}(h:tN C (gb lo n it g c e) σ H Q):tLC n (tI C it) (tG C lo g) (tT C c) (tE C e) σ H Q:=by
 obtain⟨Pr,F,env,env',d,r,ev,q⟩:=h;obtain⟨ds,aD,e1,e2⟩:=aO ev;split at e2
 ·rename_i hlo;obtain⟨ys,eG,e3,e4⟩:=aO e2;split at e4
  ·rename_i hz;cases e4;refine⟨Pr,F,env,aD,ds,r,e1,λJ H1 F1 r1 s1 y1 a ha=>?_⟩;have hσ:σ.length=lo:=r1.len.symm.trans hlo;have hPa:Pr a=none:=r1.pr.free ha;refine⟨λi m σ' H'=>m=ds.length - i/\i<=ds.length/\∃F' JW acc ws rest,Rel C (upd Pr a<|.lst ws) F' JW σ' H'/\aR F1 F'/\bT C.K F' acc ws/\σ'.take lo=σ/\Cw g c e (ds.drop i) JW = .ok rest eG/\acc++rest=ys,
    ⟨ds.length,rfl,Qzk _,F1,aD++List.replicate (n - lo) none,[],[],ys,?_,aR.refl _,rfl,?_,e3,rfl⟩,?_⟩
   ·rw[hσ];exact(r1.aside ha).pad _
   ·unfold vK;rw[<-hσ,List.take_left]
   rintro i m σ' H' ⟨rfl,hi,F',JW,acc,ws,rest,r',s',p',t',l',hacc⟩;have hFa:F' a=none:=by
    cases ez:F' a with
    | none=>rfl
    | some w=>have:=r'.dj a w ez;rw[aZ] at this;cases this
   by_cases hl:i<ds.length
   ·have hd:ds[i]? = some ds[i]:=Qx4 hl;have hdr:ds.drop i=ds[i]::ds.drop (i+1):=Qj6 hl;have yy:=y1 i H'<|s'.trans r'.fr;refine .inr ⟨(yy.2 _ hd).1,λσ2 H2=>∃F' JW acc ws rest,Rel C (upd Pr a<|.lst ws) F' JW σ2 H2/\aR F1 F'/\bT C.K F' acc ws/\σ2.take lo=σ/\Cw g c e (ds.drop<|i+1) JW = .ok rest eG/\acc++rest=ys,
     λσ2 H2 h2=>⟨ds.length - (i+1),by omega,rfl,hl,h2⟩,λx H2 hy=>?_⟩
    obtain⟨F2,r2,s2,p2⟩:=o8.item r' s' y1 hd hy;rw[hdr] at l';unfold Cw at l';cases eg:g ds[i] JW with
    | none=>rw[eg] at l';cases l'
    | some e5=>
     rw[eg] at l';obtain⟨b,e6,c1,l2⟩:=aO l';refine⟨_,F2,JW,e5,ds[i],r2,p2,eg,λσ3 H3 F3 r3 s3 t3=>⟨_,F3,e5,e6,b,r3,c1,λH4 F4 r4 s4=>?_⟩⟩;have t3':σ3.take lo=σ:=t3.trans t';have s24:aR F' F4:=(s2.trans s3).trans s4;cases b with
     | false=>
      show if false=true then _ else _
      rw[if_neg Qw3];rw[if_neg Qw3] at l2;exact⟨F4,e6,acc,ws,rest,r4,s'.trans s24,bT.mono s24 _ _ p',t3',l2,hacc⟩
     | true=>
      show if true=true then _ else _
      rw[if_pos rfl];rw[if_pos rfl] at l2;obtain⟨y,e7,c2,l3⟩:=aO l2;obtain⟨ys2,e8,c3,l4⟩:=aO l3;cases l4;refine⟨_,F4,e6,e7,y,r4,c2,λv H5 F5 r5 s5 p5=>?_⟩;have hlen:acc.length+(ys2.length+1)=ys.length:=by rw[<-hacc,Qqq,Qqk]
      refine⟨ws,r5.pr _ _ aZ,by rw[p'.length];omega,F5,e7,acc++[y],ws++[v],ys2,?_,s'.trans<|s24.trans s5,(bT.mono (s24.trans s5) _ _ p').append<|bT.one p5,t3',c3,by rw[Qww];exact hacc⟩;have r6:=r5.turn (u:=.lst<|ws++[v]) aZ
      rwa [Yj] at r6
   ·have ei:i=ds.length:=by omega
    subst ei;rw[List.drop_length] at l';cases l';rw[Qx2] at hacc;subst hacc;refine .inl ⟨(y1 _ H'<|s'.trans r'.fr).1 (Qjx<|Qq2 _) rfl,?_⟩;have sP:aR Pr (upd Pr a<|.lst ws):=nu hPa;have r7:Rel C Pr F' (eG.take lo) σ H':=by
     have:=(r'.less sP).cut (σ0:=σ) (by rw[hσ];exact t') r1.fix
     rwa [hσ] at this
    refine q a H' F' r7 (s1.trans s') ⟨⟨hz,ws,r'.pr _ _ aZ,p'⟩,hFa,hPa,λj e he hs=>?_⟩;have hj:j<σ.length:=(Qq6.mp hs).1;have he':eG[j]? = some (some (true,e)):=by rw[Qjj (by rw[<-hσ];exact hj)] at he;exact he
    obtain⟨b,g1,_,_,g4⟩:=r'.own j e he';have:σ'[j]? = some (some<|V.ref a):=by rw[<-t',Qjj (by rw[<-hσ];exact hj)] at hs;exact hs
    rw[this] at g1;cases g1;rw[aZ] at g4;cases g4
  ·cases e4
 ·cases e2
section
variable{X:Cx}{C:Cfg}{pos:Pos}
def ada(N')(lo)(ok:nR X scope N')(hc:X.calm=true)(hi:Xp X C tg iter it)
  (bg:∀X',kj X scope N' X'->XM X' C lo tg g) (bc:∀X',kj X scope N' X'->S6 X' C ifs c) (be:∀X',kj X scope N' X'->PX X' C elt e)
  (hs:∀x,foldedSetIterable iter X.env x=pure x:=by intro _;rfl):XJ X C (.ListComp elt [⟨tg,iter,ifs,0⟩] scope pos) (gb lo N'.length it g c e):=
 (ag2 ok hc hi bg bc be hs).imp λσ H Q h=>abQ h
def Q7(N'){spos py:Pos}(lo)(ok:nR X scope N')(hc:X.calm=true)(hi:Xp X C tg iter it)
  (bg:∀X',kj X scope N' X'->XM X' C lo tg g) (bc:∀X',kj X scope N' X'->S6 X' C ifs c) (be:∀X',kj X scope N' X'->PX X' C elt e)
  (hN:X.N.Nodup) (hy:X.N[i]? = some y) (hx:Loc X.env.scope y) (hfx:C.fx i=none)
  (hsw:swapsWith (.ListComp elt [⟨tg,iter,ifs,0⟩] scope pos) (some (.Name y py)) spos.line X.env=pure true)
  (hf:X.fn y=true\/X.env.scope.names.lookup y=some .local:=by first|exact .inl rfl|exact .inr rfl|assumption)
  (hs:∀x,foldedSetIterable iter X.env x=pure x:=by intro _;rfl):Xo X C (.Assign [.Name y py] (.ListComp elt [⟨tg,iter,ifs,0⟩] scope pos) spos) (lH i (gb lo N'.length it g c e)):=
 (Vf ok hc hi bg bc be hN hy hx hsw hf hs).imp λD σ H h=>by
  obtain⟨Pr,F,env,r,f⟩:=h;obtain⟨d,aD,e1,f1⟩:=cT f;have:tN C (gb lo N'.length it g c e) σ H λv H1=>Ba i v σ H1 D.nx:=⟨Pr,F,env,aD,d,r,e1,λv H1 F1 r1 s1 p1=>f1 _ H1 F1 (r1.Vc hfx p1) s1⟩;exact abQ this
end
def o9(K:Fg)(n:Nat)(f:List D->Option D):Sp:=λvs H Q _=>∃(F:Hp) (ds:List D) (d:D),ds.length=n/\aR F H/\bT K F ds vs/\f ds=some d/\
 ∀v H' F',aR H H'->aR F' H'->aR F F'->(∀b o,F' b=some o->F b=some o\/H b=none)->Rep K F' d v->Q v H'
def spN(K:Fg)(n:Nat)(f:List D->Option D):Sp:=λvs H Q _=>∃(F:Hp) (ds:List D) (d:D),ds.length=n/\aR F H/\bT K F ds vs/\f ds=some d/\
 ∀a H' F',aR H H'->aR F' H'->aR F F'->(∀b o,F' b=some o->F b=some o\/H b=none)->kh K F' H' d a->F' a=none->H a=none->Q (.ref a) H'
def vA(K:Fg)(n:Nat)(f:List D->Option (D×D)):Sp:=λvs H Q _=>∃(F:Hp) (a:Addr) (r:List V) (x:D) (ds:List D) (d x':D),vs = .ref a::r/\ds.length+1=n/\aR F H/\F a=none/\kh K F H x a/\bT K F ds r/\f (x::ds)=some (d,x')/\
 ∀v H' F',(∀b o,b≠a->H b=some o->H' b=some o)->aR F' H'->aR F F'->(∀b o,F' b=some o->F b=some o\/H b=none)->kh K F' H' x' a->Rep K F' d v->Q v H'
def Rel.after(r:Rel C Pr F env σ H)(s:aR H H')(sF:aR F' H')(sF':aR F F')(nw:∀b o,F' b=some o->F b=some o\/H b=none):Rel C Pr F' env σ H':=by
 refine⟨r.pr.trans s,sF,r.len,λj e he=>?_,λj e he=>?_,r.apart,λb o e=>?_,r.fix⟩
 ·obtain⟨v,h1,h2⟩:=r.val j e he;exact⟨v,h1,Rep.mono sF' _ _ h2⟩
 ·obtain⟨a,h1,h2,h3,h4⟩:=r.own j e he;obtain⟨o,ho⟩:=h2.some;refine⟨a,h1,h2.mono sF' (by rw[ho,s _ _ ho]),?_,h4⟩;cases e:F' a with
  | none=>rfl
  | some u=>
   rcases nw a u e with z|z
   ·rw[h3] at z;cases z
   ·rw[ho] at z;cases z
 ·rcases nw b o e with z|z
  ·exact r.dj b o z
  ·exact r.pr.free z
def Rel.aa4(r:Rel C Pr F env σ H)(h:env[i]? = some (some (true,d)))(hs:σ[i]? = some (some (V.ref a)))(s:∀b o,b≠a->H b=some o->H' b=some o)(sF:aR F' H')(sF':aR F F')(nw:∀b o,F' b=some o->F b=some o\/H b=none)(ho:kh C.K F' H' d' a):Rel C Pr F' (env.set i (some (true,d'))) σ H':=by
 obtain⟨a',h1,h2,h3,h4⟩:=r.own i d h;rw[hs] at h1;cases h1;have hi:=(Qq6.mp h).1;obtain⟨oa,hoa⟩:=h2.some;have ne:∀j e b,j≠i->env[j]? = some (some (true,e))->σ[j]? = some (some<|V.ref b)->b≠a:=λj e b hj he g z=>hj<|r.apart j i e d a he h (by rw[<-z];exact g) hs;have nF:∀b u,F b=none->H b=some u->F' b=none:=λb u e1 e2=>by
  cases e:F' b with
  | none=>rfl
  | some w=>
   rcases nw b w e with z|z
   ·rw[e1] at z;cases z
   ·rw[e2] at z;cases z
 refine⟨λb w e=>?_,sF,by rw[Qw7];exact r.len,λj e he=>?_,λj e he=>?_,λj k e f b hj hk g1 g2=>?_,λb o e=>?_,r.fix⟩
 ·have hb:b≠a:=λz=>by rw[z,h4] at e;cases e
  exact s b w hb<|r.pr b w e
 ·by_cases hj:j=i
  ·subst hj;rw[Qwq hi] at he;cases he
  ·rw[Qq3 (Ne.symm hj)] at he;obtain⟨v,g1,g2⟩:=r.val j e he;exact⟨v,g1,Rep.mono sF' _ _ g2⟩
 ·by_cases hj:j=i
  ·subst hj;rw[Qwq hi] at he;cases he;exact⟨a,hs,ho,nF a oa h3 hoa,h4⟩
  ·rw[Qq3 (Ne.symm hj)] at he;obtain⟨b,g1,g2,g3,g4⟩:=r.own j e he;obtain⟨ob,hob⟩:=g2.some;exact⟨b,g1,g2.mono sF' (by rw[hob,s b ob (ne j e b hj he g1) hob]),nF b ob g3 hob,g4⟩
 ·have un:∀j e,(env.set i<|some (true,d'))[j]? = some (some (true,e))->∃e',env[j]? = some (some (true,e')):=λj e he=>by
   by_cases hj:j=i
   ·subst hj;exact⟨d,h⟩
   ·rw[Qq3 (Ne.symm hj)] at he;exact⟨e,he⟩
  obtain⟨e',hj'⟩:=un j e hj;obtain⟨f',hk'⟩:=un k f hk;exact r.apart j k e' f' b hj' hk' g1 g2
 ·rcases nw b o e with z|z
  ·exact r.dj b o z
  ·exact r.pr.free z
section
variable{X:Cx}{C:Cfg}{pos p:Pos}{k n:Nat}{f:Addr}{fd:FuncData}{ps:List Str}{x:Str}{e:Expr}{es:List Expr}
def uV(h:aq g a env = .ok d env'):∃ds,a env = .ok ds env'/\g ds=some d:=by obtain⟨ds,aD,e1,e2⟩:=aO h;obtain⟨e3,rfl⟩:=cA e2;exact⟨ds,e1,e3⟩
def adf(G:mY X.prog X.w X.K X.mg X.base BK k f fd ps (o9 C.K n g))(hr:gJ k X.A)(hg:Gl X x)(hm:X.mg x=some (.ref f))(hk:PySem.W.keepIn X.K (.ref f)=true)(hb:Binds X.K fd ps [])
  (ha:Nj X C (e::es) a) (hn:∀env ds env',a env = .ok ds env'->ds.length=n) (hdb:jN x:=by decide) (he:starEach (e::es) X.env=(false,eval e X.env)::starEach es X.env:=by rfl) (hpl:(backTo pos (starEach es X.env)).any (·.1)=false:=by rfl) :
  PX X C (.Call (.Name x p) (e::es) [] pos) (aq g a):=(Fx G hr hg hm hk hb .nil Ot ha hdb he hpl).imp λσ H Q hq=>by
 obtain⟨Pr,F,env,env',d,r,e,q⟩:=hq;obtain⟨ds,e1,e2⟩:=uV e;refine⟨Pr,F,env,env',ds,r,e1,λvs H1 F1 r1 s1 p1=>?_⟩;show o9 C.K n g (vs++[]) H1 Q E0;rw[Qx2];exact⟨F1,ds,d,hn _ _ _ e1,r1.fr,p1,e2,λv H2 F2 t1 t2 t3 t4 p2=>q v H2 F2 (r1.after t1 t2 t3 t4) (s1.trans t3) p2⟩
def YT(G:mY X.prog X.w X.K X.mg X.base BK k f fd ps (spN C.K n g))(hr:gJ k X.A)(hg:Gl X x)(hm:X.mg x=some (.ref f))(hk:PySem.W.keepIn X.K (.ref f)=true)(hb:Binds X.K fd ps [])
  (ha:Nj X C (e::es) a) (hn:∀env ds env',a env = .ok ds env'->ds.length=n) (hdb:jN x:=by decide) (he:starEach (e::es) X.env=(false,eval e X.env)::starEach es X.env:=by rfl) (hpl:(backTo pos (starEach es X.env)).any (·.1)=false:=by rfl) :
  XJ X C (.Call (.Name x p) (e::es) [] pos) (aq g a):=(Fx G hr hg hm hk hb .nil Ot ha hdb he hpl).imp λσ H Q hq=>by
 obtain⟨Pr,F,env,env',d,r,e,q⟩:=hq;obtain⟨ds,e1,e2⟩:=uV e;refine⟨Pr,F,env,env',ds,r,e1,λvs H1 F1 r1 s1 p1=>?_⟩;show spN C.K n g (vs++[]) H1 Q E0;rw[Qx2];refine⟨F1,ds,d,hn _ _ _ e1,r1.fr,p1,e2,λb H2 F2 t1 t2 t3 t4 ho hF hH=>q b H2 F2 (r1.after t1 t2 t3 t4) (s1.trans t3) ⟨ho,hF,r1.pr.free hH,λj e he hs=>?_⟩⟩;obtain⟨c,h1,h2,_⟩:=r1.own j e he;rw[hs] at h1;cases h1;obtain⟨u,hu⟩:=h2.some;rw[hH] at hu;cases hu
def dH(f:List D->Option (D×D))(i:Nat)(a:dq):Ev:=λenv=>match env[i]? with
 | some (some (true,_))=>bindR (a env) λds aD=>(match aD[i]? with
  | some (some (true,x))=>(match f (x::ds) with
   | some (d,x')=>.ok d (aD.set i (some (true,x')))
   | none=>.stuck)
  | _=>.stuck)
 | _=>.stuck
def agY{py:Pos}(hN:X.N[i]? = some y)(hv:wW X.env.scope y)(G:mY X.prog X.w X.K X.mg X.base BK k f fd ps (vA C.K n g))(hr:gJ k X.A)(hg:Gl X x)(hm:X.mg x=some (.ref f))(hk:PySem.W.keepIn X.K (.ref f)=true)(hb:Binds X.K fd ps [])
  (ha:Nj X C es a) (hn:∀env ds env',a env = .ok ds env'->ds.length+1=n) (hdb:jN x:=by decide) (he:starEach (.Name y py::es) X.env=(false,eval (.Name y py) X.env)::starEach es X.env:=by rfl) (hpl:(backTo pos (starEach es X.env)).any (·.1)=false:=by rfl)
  (hd:jN y:=by decide) (hcd:t7 y:=by decide) :
  PX X C (.Call (.Name x p) (.Name y py::es) [] pos) (dH g i a):=(Fx G hr hg hm hk hb .nil Ot (dX (jF hN hv hd hcd) ha he) hdb he hpl).imp λσ H Q hq=>by
 obtain⟨Pr,F,env,env',d,r,e,q⟩:=hq;unfold dH at e;split at e
 ·rename_i d0 h0;obtain⟨ds,aD,e1,e2⟩:=aO e;split at e2
  ·rename_i z hz;split at e2
   ·rename_i d1 z' hg;cases e2;obtain⟨a0,hs0,_⟩:=r.own i _ h0;refine⟨_,hs0,Pr,F,env,aD,ds,r,e1,λvs H1 F1 r1 s1 p1=>?_⟩;obtain⟨a1,hs1,ho1,hF1,hP1⟩:=r1.own i _ hz;rw[hs0] at hs1;cases hs1;show vA C.K n g (_::vs++[]) H1 Q E0;rw[Qx2];exact⟨F1,a0,vs,z,ds,d,z',rfl,hn _ _ _ e1,r1.fr,hF1,ho1,p1,hg,λv H2 F2 t1 t2 t3 t4 t5 p2=>q v H2 F2 (r1.aa4 hz hs0 t1 t2 t3 t4 t5) (s1.trans t3) p2⟩
   ·cases e2
  ·cases e2
 ·cases e
end
def envOf(n:Nat)(ds:List D):Env:=ds.map (λd=>some (false,d))++List.replicate (n - ds.length) none
def Bg(n:Nat)(x:D)(ds:List D):Env:=some (true,x)::(ds.map (λd=>some (false,d))++List.replicate (n - (ds.length+1)) none)
def dG(n:Nat)(ev:cC)(ds:List D):Option D:=match ev (envOf n ds) with
 | .rt false d _=>some d
 | .nx _=>some .non
 | _=>none
def runN(n:Nat)(ev:cC)(ds:List D):Option D:=match ev (envOf n ds) with
 | .rt true d _=>some d
 | _=>none
def jc(n:Nat)(ev:cC)(ds:List D):Option (D×D):=match ds with
 | []=>none
 | x::r=>(match ev (Bg n x r) with
  | .rt false d env=>(match env[0]? with
   | some (some (true,x'))=>some (d,x')
   | _=>none)
  | .nx env=>(match env[0]? with
   | some (some (true,x'))=>some (.non,x')
   | _=>none)
  | _=>none)
def C0(K:Fg):Cfg:=⟨K,λ_=>none⟩
def C1(K:Fg)(a:Addr):Cfg:=⟨K,λi=>if i=0 then some a else none⟩
def Dz(H F:Hp):Hp:=λb=>if (F b).isSome then none else H b
def Jg(h:Dz H F b=some o):H b=some o/\F b=none:=by
 unfold Dz at h;split at h
 ·cases h
 ·rename_i z;exact⟨h,by cases e:F b with|none=>rfl|some w=>rw[e] at z;exact absurd rfl z⟩
def Am(h:Dz H F b=none):H b=none\/∃o,F b=some o:=by
 unfold Dz at h;split at h
 ·rename_i z;exact .inr<|Qz1.mp z
 ·exact .inl h
def xO{K:Fg}(s:aR F H)(p:bT K F ds vs):Rel (C0 K) (Dz H F) F (envOf N.length ds) (start N vs) H:=by
 have un:∀j x,(envOf N.length ds)[j]? = some (some x)->∃d,x=(false,d)/\ds[j]? = some d:=λj x he=>by
  unfold envOf at he;by_cases hj:j<(ds.map λd=>some (false,d)).length
  ·rw[Qxq hj,Qx6] at he;obtain⟨d,h1,h2⟩:=Qw1.mp he;cases h2;exact⟨d,rfl,h1⟩
  ·rw[Qx5 (by omega),Qz3] at he;split at he<;>cases he
 refine⟨λb o e=>(Jg e).1,s,?_,λj d he=>?_,λj d he=>?_,λj k d e a hj hk=>?_,λb o e=>?_,λi a h=>by cases h⟩
 ·unfold envOf L2.start;rw[Qqq,Qqq,Qqz,Qqz,Qzx,Qzx,p.length]
 ·obtain⟨d',z,hd⟩:=un j _ he;cases z;obtain⟨v,h1,h2⟩:=p.get hd;refine⟨v,?_,h2⟩;unfold L2.start;rw[Qxq (by rw[Qqz];exact(Qq6.mp h1).1),Qx6,h1]
  rfl
 ·obtain⟨d',z,_⟩:=un j _ he;cases z
 ·obtain⟨d',z,_⟩:=un j _ hj;cases z
 ·unfold Dz;rw[e];rfl
def aR.FJ(s1:aR (Dz H F) H')(s2:aR F F')(s3:aR F' H')(sF:aR F H):aR H H':=λb o e=>by
 cases z:F b with
 | none=>exact s1 b o (by unfold Dz;rw[z];exact e)
 | some w=>
  have:=sF b w z;rw[e] at this;cases this;exact s3 b o<|s2 b o z
def Mg(s2:aR F F')(dj:∀b o,F' b=some o->Dz H F b=none)(b)(o)(h:F' b=some o):F b=some o\/H b=none:=by
 rcases Am (dj b o h) with z|⟨w,z⟩
 ·exact .inr z
 ·have:=s2 b w z;rw[h] at this;cases this;exact .inl z
section
variable{P:Program}{w:World}{K:Fg}{mg:Str->Option Value}{base:Heap}{x qual:Str}{st:Stmt}{f:Addr}{fd:FuncData}{N ps:List Str}{k:Nat}{ev:cC}
abbrev bx(P:Program)(w:World)(K:Fg)(mg:Str->Option Value)(base:Heap)(N:List Str)(qual:Str)(st:Stmt)(f:Addr)(cdv:Value)(A:Around)(outer:List PySem.Env)(s:Shared)(H:Hp)(E:XK):Cx:=(Gv BK P w K mg base N qual (aL st) f cdv A outer s H E).uH
def J0(F:S8 K x qual st f fd)(S:bC N ps (aL st))
  (hb:∀cdv A outer s H E,gJ k (A.deeper (envOfC qual (aL st) s.heap.objs.size f cdv))->Bx (bx P w K mg base N qual st f cdv A outer s H E) (C0 K) (cO st) ev) :
  mY P w K mg base BK (k+1) f fd ps (o9 K ps.length (dG N.length ev)):=by
 refine F.ok S (λvs H Q E h=>?_)<|λcdv A outer s H vs Q E hr h=>?_
 ·obtain⟨F0,ds,d,hl,_,p,_⟩:=h;rw[p.length,hl]
 ·obtain⟨F0,ds,d,hl,sF,p,e,q⟩:=h;refine⟨_,hb cdv A outer s H E hr,Dz H F0,F0,envOf N.length ds,xO sF p,?_⟩;unfold dG at e;split at e
  ·rename_i d' env' h1;cases e;rw[h1];exact λv σ' H' F' r' s' p'=>q v H' F' (aR.FJ r'.pr s' r'.fr sF) r'.fr s' (Mg s' r'.dj) p'
  ·rename_i env' h1;cases e;rw[h1];exact λσ' H' F' r' s'=>q .non H' F' (aR.FJ r'.pr s' r'.fr sF) r'.fr s' (Mg s' r'.dj) rfl
  ·cases e
def aaC(F:S8 K x qual st f fd)(S:bC N ps (aL st))
  (hb:∀cdv A outer s H E,gJ k (A.deeper (envOfC qual (aL st) s.heap.objs.size f cdv))->Bx (bx P w K mg base N qual st f cdv A outer s H E) (C0 K) (cO st) ev) :
  mY P w K mg base BK (k+1) f fd ps (spN K ps.length (runN N.length ev)):=by
 refine F.ok S (λvs H Q E h=>?_)<|λcdv A outer s H vs Q E hr h=>?_
 ·obtain⟨F0,ds,d,hl,_,p,_⟩:=h;rw[p.length,hl]
 ·obtain⟨F0,ds,d,hl,sF,p,e,q⟩:=h;refine⟨_,hb cdv A outer s H E hr,Dz H F0,F0,envOf N.length ds,xO sF p,?_⟩;unfold runN at e;split at e
  ·rename_i d' env' h1;cases e;rw[h1];refine λa σ' H' F' r' s' n'=>q a H' F' (aR.FJ r'.pr s' r'.fr sF) r'.fr s' (Mg s' r'.dj) n'.own n'.nF ?_;rcases Am n'.nP with z|⟨u,z⟩
   ·exact z
   ·have:=s' a u z;rw[n'.nF] at this;cases this
  ·cases e
def Ii(s:aR F H)(hF:F a=none)(ho:kh K F H y a)(p:bT K F ds vs):Rel (C1 K a) (λb=>if b=a then none else Dz H F b) F (Bg N.length y ds) (start N (.ref a::vs)) H:=by
 have un:∀j x,(Bg N.length y ds)[j]? = some (some x)->(j=0/\x=(true,y))\/∃i d,j=i+1/\x=(false,d)/\ds[i]? = some d:=λj x he=>by
  unfold Bg at he;cases j with
  | zero=>cases he;exact .inl ⟨rfl,rfl⟩
  | succ i=>
   rw[List.getElem?_cons_succ] at he;by_cases hj:i<(ds.map λd=>some (false,d)).length
   ·rw[Qxq hj,Qx6] at he;obtain⟨d,h1,h2⟩:=Qw1.mp he;cases h2;exact .inr ⟨i,d,rfl,rfl,h1⟩
   ·rw[Qx5 (by omega),Qz3] at he;split at he<;>cases he
 have z0:(start N (.ref a::vs))[0]? = some (some<|V.ref a):=rfl;refine⟨λb o e=>?_,s,?_,λj d he=>?_,λj d he=>?_,λj k d e b hj hk _ _=>?_,λb o e=>?_,λi b h=>?_⟩
 ·have e':=e;split at e'
  ·cases e'
  ·exact(Jg e').1
 ·unfold Bg L2.start;simp only[Qqk,Qqq,Qqz,Qzx,p.length,Qq8];omega
 ·rcases un j _ he with ⟨_,z⟩|⟨i,d',rfl,z,hd⟩
  ·cases z
  ·cases z;obtain⟨v,h1,h2⟩:=p.get hd;refine⟨v,?_,h2⟩;unfold L2.start;rw[Qq8,Qj3,List.getElem?_cons_succ,Qxq (by rw[Qqz];exact(Qq6.mp h1).1),Qx6,h1]
   rfl
 ·rcases un j _ he with ⟨rfl,z⟩|⟨i,d',rfl,z,hd⟩
  ·cases z;exact⟨a,z0,ho,hF,if_pos rfl⟩
  ·cases z
 ·rcases un j _ hj with ⟨rfl,_⟩|⟨i,d',rfl,z,_⟩
  ·rcases un k _ hk with ⟨rfl,_⟩|⟨i,d',rfl,z,_⟩
   ·rfl
   ·cases z
  ·cases z
 ·show(if b=a then none else Dz H F b)=none;split
  ·rfl
  ·unfold Dz;rw[e];rfl
 ·have h':(if i=0 then some a else none)=some b:=h;split at h'
  ·rename_i hi;cases h';rw[hi];exact z0
  ·cases h'
def afi(F:S8 K x qual st f fd)(S:bC N (y::qs) (aL st))
  (hb:∀cdv A outer s H E a,gJ k (A.deeper (envOfC qual (aL st) s.heap.objs.size f cdv))->Bx (bx P w K mg base N qual st f cdv A outer s H E) (C1 K a) (cO st) ev) :
  mY P w K mg base BK (k+1) f fd (y::qs) (vA K (qs.length+1) (jc N.length ev)):=by
 refine F.ok S (λvs H Q E h=>?_)<|λcdv A outer s H vs Q E hr h=>?_
 ·obtain⟨F0,a,r,z,ds,d,z',rfl,hl,_,_,_,p,_⟩:=h;rw[Qqk,Qqk,p.length];exact hl
 ·obtain⟨F0,a,r,z,ds,d,z',rfl,hl,sF,hFa,ho,p,e,q⟩:=h;refine⟨_,hb cdv A outer s H E a hr,_,F0,Bg N.length z ds,Ii sF hFa ho p,?_⟩;have fin:∀env' σ' H' F' v d z',env'[0]? = some (some (true,z'))->Rel (C1 K a) (λb=>if b=a then none else Dz H F0 b) F' env' σ' H'->aR F0 F'->Rep K F' d v->(∀v H' F',(∀b o,b≠a->H b=some o->H' b=some o)->aR F' H'->aR F0 F'->(∀b o,F' b=some o->F0 b=some o\/H b=none)->kh K F' H' z' a->Rep K F' d v->Q v H')->Q v H':=λenv' σ' H' F' v d z' h0 r' s' p' q=>by
   obtain⟨b,g1,g2,g3,g4⟩:=r'.own 0 z' h0;have g5:=r'.fix 0 a rfl;rw[g1] at g5;cases g5;refine q v H' F' (λc o hc e=>?_) r'.fr s' (λc o e=>?_) g2 p'
   ·cases u:F0 c with
    | none=>exact r'.pr c o (by show(if c=a then none else Dz H F0 c)=some o;rw[if_neg hc];unfold Dz;rw[u];exact e)
    | some w=>
     have:=sF c w u;rw[e] at this;cases this;exact r'.fr c o<|s' c o u
   ·by_cases hc:c=a
    ·subst hc;rw[g3] at e;cases e
    ·have h1:=r'.dj c o e;have h1':=h1;rw[if_neg hc] at h1';rcases Am h1' with u|⟨w,u⟩
     ·exact .inr u
     ·have:=s' c w u;rw[e] at this;cases this;exact .inl u
  unfold jc at e;simp at e;split at e
  ·rename_i d' env' h1;split at e
   ·rename_i z1 h0;cases e;rw[h1];exact λv σ' H' F' r' s' p'=>fin env' σ' H' F' v _ _ h0 r' s' p' q
   ·cases e
  ·rename_i env' h1;split at e
   ·rename_i z1 h0;cases e;rw[h1];exact λσ' H' F' r' s'=>fin env' σ' H' F' .non .non _ h0 r' s' rfl q
   ·cases e
  ·cases e
end
structure Good(X:Cx)(C:Cfg):Prop where
 K:X.K=C.K
 calm:X.calm=true
 un:X.A.units+64<cLine
def Good.u1(G:Good X C):X.A.units+1<cLine:=Qzv (Nat.add_le_add_left (by decide:1<=64) _) G.un
def Good.u60(G:Good X C):X.A.units+60<cLine:=Qzv (Nat.add_le_add_left (by decide:60<=64) _) G.un
def Good.u61(G:Good X C):X.A.units+61<cLine:=Qzv (Nat.add_le_add_left (by decide:61<=64) _) G.un
def Good.at(G:Good X C)(h:kj X scope N' X'):Good X' C:=by obtain⟨_,_,_,_,_,rfl⟩:=h;exact⟨G.K,G.calm,G.un⟩
def Own(P:Program)(w:World)(K:Fg)(mg:Str->Option Value)(base:Heap)(x:Str)(k:Nat)(ps:List Str)(sp:Sp):Prop:=
 ∃f fd,mY P w K mg base BK k f fd ps sp/\mg x=some (.ref f)/\PySem.W.keepIn K (.ref f)=true/\Binds K fd ps []
def Glb(K:Fg)(mg:Str->Option Value)(x:Str)(d:D):Prop:=∃v u,mg x=some u/\RelV v u/\∀F,Rep K F d v
def cV(K:Fg)(mg:Str->Option Value)(x:Str)(st:Stmt)(ps:List Str):Prop:=∃f fd,S8 K x x st f fd/\mg x=some (.ref f)/\Binds K fd ps []
def kO:List Str->Bool
 | []=>true
 | x::r=>!(r.contains x)&&kO r
theorem ig:∀{l},kO l=true->l.Nodup
 | [],_=>.nil
 | x::r,h=>by
  have h':(!(r.contains x)&&kO r)=true:=h;rw[Qwx] at h';refine Qkq.mpr ⟨λhm=>?_,ig h'.2⟩;have:=List.contains_iff_mem.mpr hm;rw[this] at h';exact absurd h'.1 (by decide)
def PN(outer:List (Str×NameKind)):List (Str×NameKind)->Bool
 | []=>true
 | (n,k)::r=>(!decide (k = .free)||decide (outer.lookup n=some .cell)||decide (outer.lookup n=some .free))&&PN outer r
theorem JL:∀{l},PN outer l=true->∀x∈l,x.2 = .free->outer.lookup x.1=some .cell\/outer.lookup x.1=some .free
 | [],_,x,hx,_=>by simp at hx
 | (n,k)::r,h,x,hx,hf=>by
  have h':((!decide (k = .free)||decide (outer.lookup n=some .cell)||decide (outer.lookup n=some .free))&&PN outer r)=true:=h;rw[Qwx,Qxw,Qxw] at h';rcases Qqw.mp hx with rfl|hx
  ·rcases h'.1 with (z|z)|z
   ·have hf':=hf;rw[Qw2 hf'] at z;exact absurd z (by decide)
   ·exact .inl<|Qw5 z
   ·exact .inr<|Qw5 z
  ·exact JL h'.2 x hx hf
def fD{X:Cx}{scope:Scope}{N':List Str}(h1:scope.kind = .function:=by rfl)(h2:kO (scope.names.map (·.1))=true:=by rfl)(h3:PN X.env.scope.names scope.names=true:=by rfl)(h4:W5 scope.names N' X.N=true:=by rfl)(h5:Nat.ble X.N.length N'.length=true:=by rfl):nR X scope N':=
 ⟨h1,ig h2,JL h3,h4,Qjq h5⟩
section
variable{X:Cx}{C:Cfg}{pos p px:Pos}{x y z:Expr}{a b c:Ev}{t u:gh}{i:Nat}{n:Str}
structure Bi(X:Cx)(C:Cfg)(op:Operator)(g:D->D->Option D):Prop where
 ex:∃r,mX X (binaryOp op) r/\pN C r g
structure Cm(X:Cx)(C:Cfg)(op:CmpOp)(g:D->D->Option D):Prop where
 ex:∃r,mX X (compareOp op) r/\pN C r g
def cB(G:Good X C):Bi X C .Add bK:=⟨_,ZJ,by rw[G.K];exact aer⟩
def Kc:Bi X C .Sub uO:=⟨_,adW,aef⟩
def Qo:Bi X C .Mult pI:=⟨_,ZF,aej⟩
def acd:Bi X C .Mod R5:=⟨_,ad2,aek⟩
def acb:Bi X C .Pow Mv:=⟨_,ad0,aei⟩
def ah4:Bi X C .LShift R4:=⟨_,adY,aeh⟩
def aca:Bi X C .RShift Gh:=⟨_,adX,aeg⟩
def acf:Bi X C .BitAnd JG:=⟨_,aea,aep⟩
def qQ(G:Good X C):Cm X C .Eq nU:=⟨_,ad8 G.u60,by rw[G.K];exact ahf⟩
def M3(G:Good X C):Cm X C .NotEq Gm:=⟨_,ad1 G.u60,by rw[G.K];exact ahb⟩
def M4(G:Good X C):Cm X C .In R7:=⟨_,ad7 G.u61,by rw[G.K];exact ahd⟩
def zJ(G:Good X C):Cm X C .NotIn jH:=⟨_,Rp G.u61,by rw[G.K];exact VB⟩
def aft:Cm X C .Is gIs:=⟨_,ad5,Ow⟩
def aaQ:Cm X C .IsNot Gp:=⟨_,Rr,VD⟩
def ajQ:Cm X C .Lt gLt:=⟨_,ad3,ahc⟩
def ajR:Cm X C .Gt gGt:=⟨_,ag7,ahe⟩
variable{e:Expr}{es:List Expr}{ea:dq}
def len0:∀env ds env',aj env = .ok ds env'->ds.length=0:=R9
def bw(hr:∀env ds env',r env = .ok ds env'->ds.length=m):∀env ds env',aa a r env = .ok ds env'->ds.length=m+1:=Mz hr
def iD{r:dq}(hr:∀env ds env',r env = .ok ds env'->ds.length=m):∀env ds env',r env = .ok ds env'->ds.length+1=m+1:=λenv ds env' h=>by rw[hr env ds env' h]
def aji(N')(lo)(ok:nR X scope N')(G:Good X C)(hi:Xp X C tg iter it)
  (bg:∀X',kj X scope N' X'->XM X' C lo tg g) (bc:∀X',kj X scope N' X'->S6 X' C ifs cc) (be:∀X',kj X scope N' X'->PX X' C elt ee)
  (hs:∀x,foldedSetIterable iter X.env x=pure x:=by intro _;rfl):XJ X C (.ListComp elt [⟨tg,iter,ifs,0⟩] scope pos) (gb lo N'.length it g cc ee):=ada N' lo ok G.calm hi bg bc be hs
def ai2(N'){spos py:Pos}(lo)(i)(ok:nR X scope N')(G:Good X C)(hi:Xp X C tg iter it)
  (bg:∀X',kj X scope N' X'->XM X' C lo tg g) (bc:∀X',kj X scope N' X'->S6 X' C ifs cc) (be:∀X',kj X scope N' X'->PX X' C elt ee)
  (hnd:kO X.N=true:=by rfl) (hfx:C.fx i=none:=by rfl) (hy:X.N[i]? = some n:=by rfl) (hx:Loc X.env.scope n:=by first|exact .inl rfl|exact .inr rfl)
  (hsw:swapsWith (.ListComp elt [⟨tg,iter,ifs,0⟩] scope pos) (some (.Name n py)) spos.line X.env=pure true:=by rfl)
  (hf:X.fn n=true\/X.env.scope.names.lookup n=some .local:=by first|exact .inl rfl|exact .inr rfl)
  (hs:∀x,foldedSetIterable iter X.env x=pure x:=by intro _;rfl):Xo X C (.Assign [.Name n py] (.ListComp elt [⟨tg,iter,ifs,0⟩] scope pos) spos) (lH i (gb lo N'.length it g cc ee)):=Q7 N' lo ok G.calm hi bg bc be (ig hnd) hy hx hfx hsw hf hs
end
section
variable{P:Program}{w:World}{K:Fg}{mg:Str->Option Value}{base:Heap}{x:Str}{st:Stmt}{N ps:List Str}{k:Nat}{ev:cC}
def vW(hC:C.K=K)(hr:gJ k (A.deeper (envOfC x (aL st) s.heap.objs.size f cdv))):Good (bx P w K mg base N x st f cdv A outer s H E) C:=⟨hC.symm,rfl,hr.units⟩
def cu(F:cV K mg x st ps)(S:bC N ps (aL st))
  (hb:∀f cdv A outer s H E,gJ k (A.deeper (envOfC x (aL st) s.heap.objs.size f cdv))->Good (bx P w K mg base N x st f cdv A outer s H E) (C0 K)->Bx (bx P w K mg base N x st f cdv A outer s H E) (C0 K) (cO st) ev) :
  Own P w K mg base x (k+1) ps (o9 K ps.length (dG N.length ev)):=by
 obtain⟨f,fd,h1,h2,h3⟩:=F;exact⟨f,fd,J0 h1 S λcdv A outer s H E hr=>hb f cdv A outer s H E hr<|vW rfl hr,h2,h1.kp,h3⟩
def Zz(F:cV K mg x st ps)(S:bC N ps (aL st))
  (hb:∀f cdv A outer s H E,gJ k (A.deeper (envOfC x (aL st) s.heap.objs.size f cdv))->Good (bx P w K mg base N x st f cdv A outer s H E) (C0 K)->Bx (bx P w K mg base N x st f cdv A outer s H E) (C0 K) (cO st) ev) :
  Own P w K mg base x (k+1) ps (spN K ps.length (runN N.length ev)):=by
 obtain⟨f,fd,h1,h2,h3⟩:=F;exact⟨f,fd,aaC h1 S λcdv A outer s H E hr=>hb f cdv A outer s H E hr<|vW rfl hr,h2,h1.kp,h3⟩
def rO(F:cV K mg x st (y::qs))(S:bC N (y::qs) (aL st))
  (hb:∀f cdv A outer s H E a,gJ k (A.deeper (envOfC x (aL st) s.heap.objs.size f cdv))->Good (bx P w K mg base N x st f cdv A outer s H E) (C1 K a)->Bx (bx P w K mg base N x st f cdv A outer s H E) (C1 K a) (cO st) ev) :
  Own P w K mg base x (k+1) (y::qs) (vA K (qs.length+1) (jc N.length ev)):=by
 obtain⟨f,fd,h1,h2,h3⟩:=F;exact⟨f,fd,afi h1 S λcdv A outer s H E a hr=>hb f cdv A outer s H E a hr<|vW rfl hr,h2,h1.kp,h3⟩
def gW{sc:Scope}(h1:sc.kind = .function:=by rfl)(h2:sc.isCoroutine=false:=by rfl)(h3:sc.isGenerator=false:=by rfl)(h4:kO N=true:=by rfl)(h5:N.take ps.length=ps:=by rfl)
  (h6:(ps.all λx=>decide (sc.names.lookup x=some .local)||decide (sc.names.lookup x=some .cell))=true:=by rfl) (h7:(sc.names.all λy=>!decide (y.2 = .free))=true:=by rfl):bC N ps sc:=by
 refine⟨h1,h2,h3,ig h4,h5,λx hx=>?_,λy hy z=>?_⟩
 ·have:=Qq5.mp h6 x hx;rw[Qxw] at this;rcases this with z|z
  ·exact .inl<|Qw5 z
  ·exact .inr<|Qw5 z
 ·have:=Qq5.mp h7 y hy;rw[Qw2 z] at this;exact absurd this (by decide)
end
open PySem PySem.Spec PySem.W PySem.Calls PyProof.Rows L2
theorem yr:∀(ns:List Int) i,i∈ns->Builtin.Int.intBits i<=WData.weightAll (ns.map WData.int)
 | [],_,h=>by simp at h
 | n::ns,i,h=>by
  rw[Qq8,WData.weightAll];rcases Qqw.mp h with rfl|h
  ·have e:WData.weight (.int i)=Builtin.Int.intBits i:=by rw[WData.weight];rfl
   rw[e];omega
  ·have:=yr ns i h;omega
def Nt(ns:List Int):Prop:=∀i∈ns,Builtin.Int.intBits i<=2^20
def GK{l:OpenLaw}
  (hn:l.most=some n) (hdf:d.params.defaults=[])
  (call:∀w s₀ s₁ mg mb fa o pm cd doc a vs ns,
   Ground q loose [] XP w s₀ mg mb s₁.heap->YP w s₁.heap->
   s₁.heap.get? fa=some o->o.data = .func (docDef d.name d.params d.body d.scope pm cd doc)->s₁.heap.CodeRec cd d.name->mg d.name=some (.ref fa)->
   s₁.heap.get? a=some { cls:=.type "list",data:=.seq vs.toArray }->IntsAre vs ns->ns.length<=n->Nt ns->s₁.gens = #[]->
   codeAny (model l.prog w) callerA (.call (.ref fa) ⟨[.ref a],[]⟩) (λr s'=>r = .ok (.ret (.bool true))/\OldK s₁.heap s'.heap/\s'.os=s₁.os/\AllBare s'.gens) s₁) :
  WalkO q loose XP YP l.row.toRowW d [] (λf vs=>PySem.call f vs):=by
 intro w s₀ s₁ mg mb G Y fa o pm cd doc dV kV ho hd hcd hD hmg hg args vals as hpre hlay hrd hwl hlo;obtain rfl:dV = .none:=Dflts.none hD hdf;obtain rfl:kV = .none:=Dflts.noKw hD;obtain⟨a,vs,ns,rfl,rfl,hobj,hints,hlen⟩:=Att.QZ hn hpre hwl;have Pq:=λi hi=>by
  have h1:=(layableW_iff.mp<|layableW_arg hlay _<|Qwz.mpr rfl).2.2;rw[WData.weight] at h1;exact Qqy (yr ns i hi) h1
 refine enter_call<|Qk4 (call w s₀ s₁ mg mb fa o pm cd doc a vs ns G Y ho (fd_plain hd) hcd hmg hobj hints hlen Pq hg) λr s' hq=>?_;obtain⟨rfl,h2,h3,h4⟩:=hq;exact⟨.inl ⟨.bool true,.bool true,[],rfl,λ_=>rfl,.bool true,Att.Rc l _,λ_=>⟨List.Pairwise.nil,λ_ hm=>(nomatch hm)⟩⟩,h2,h3,h4⟩
theorem af8{l:PySem.W.OpenLaw}{K:Params->PySem.W.Frag}
  (hn:l.most=some n) (hn2:n<=sizeLine) (hdf:d.params.defaults=[]) (hr:gJ k callerA)
  (hY:∀(w:World) (h:Heap),YP w h->(K w.params).In h)
  (hf:∀ns:List Int,ns.length<=n->Nt ns->f [.arr (ns.map .int)]=some (.bl true))
  (F:∀(w:World) (mg:Str->Option Value) (fa:Addr) (h:Heap),(K w.params).In h->h.Ns mainGlobals mg->mg d.name=some (.ref fa)->
   ∃fd:FuncData,(∀(s:Shared) (u:Value),BindsTo s fd ⟨[u],[]⟩ [(x,u)])/\
    ∀base:Heap,(K w.params).In base->base.Ns mainGlobals mg->mY l.prog w (K w.params) mg base BK k fa fd [x] (o9 (K w.params) 1 f)) :
  PySem.W.WalkO q loose XP YP l.row.toRowW d [] (λf vs=>PySem.call f vs):=by
 refine GK hn hdf λw s₀ s₁ mg mb fa o pm cd doc a vs ns G Y ho hd hcd hmg hobj hints hlen Pq hg=>?_;have KX:=hY w _ Y;obtain⟨fd,hb,hF⟩:=F w mg fa _ KX G.T.g hmg;refine V2 KX G.T.g G.T.b G.T.builtins G.T.nolimit hg hobj hints (Qqy hlen hn2) hr hF hb (λH hO hS=>?_) λH e s' z=>z;refine⟨H,[.arr (ns.map .int)],.bl true,rfl,aR.refl H,⟨_,_,rfl,⟨by rw[Qqz];exact Qqy hlen hn2,a,_,rfl,hS,?_⟩,rfl⟩,hf ns hlen Pq,λv H' F' _ _ _ _ p=>p⟩;clear hints hlen Pq hS
 induction ns with
 | nil=>exact rfl
 | cons m ns ih=>exact⟨_,_,rfl,rfl,ih⟩
section
variable{K:Fg}{h:Heap}{mg:Str->Option Value}
def funAt{st:Stmt}{kV doc pm cdv ct:Value}(X:K.In h)(G:h.Ns mainGlobals mg)
  (a:PySem.W.nsIn K mainGlobals x=some (some (.ref f))) (l:K.lookup f=some ⟨oc,od,.func (PySem.W.fnOf x x (gw st) (cO st) (aL st) .none kV doc pm an cdv ct),osl⟩)
  (c:PySem.W.codeIn K cdv x=true) (k:PySem.W.keepIn K (.ref f)=true)
  (b:∀(kV doc pm:Value) (an:Option Addr) (cdv ct:Value) (us:List Value),us.length=ps.length->bindArgs (PySem.W.fnOf x x (gw st) (cO st) (aL st) .none kV doc pm an cdv ct) ⟨us,[]⟩=pure (ps.zip us)):cV K mg x st ps:=
 ⟨f,_,Gq l c k,Qk0 X G a,(Gq l c k).binds b⟩
theorem Gf(X:K.In h)(G:h.Ns mainGlobals mg)(a:PySem.W.nsIn K mainGlobals x=some (some (.str s t)))(hs:s=strOf z)(hz:z.length<=sizeLine):Glb K mg x (.str z):=
 ⟨.str s,_,Qk0 X G a,⟨t,rfl⟩,λF=>⟨by rw[hs],hz⟩⟩
inductive Cst (K:Fg):D->V->Value->Prop where
 | str {s:Str} {z:List Nat} {t:Tok} (hs:s=strOf z) (hz:z.length<=sizeLine):Cst K (.str z) (.str s) (.str s t)
 | int {i:Int} {t:Tok}:Cst K (.int i) (.int i) (.int i t)
def Cst.rel(c:Cst K d v u):RelV v u:=by cases c<;>exact⟨_,rfl⟩
def Cst.rep(c:Cst K d v u)(F):Rep K F d v:=by
 cases c with
 | str hs hz=>exact⟨by rw[hs],hz⟩
 | int=>exact rfl
theorem Jw(X:K.In h)(G:h.Ns mainGlobals mg)(e:PySem.W.nsIn K mainGlobals x=some (some (.ref a)))
  (l:K.lookup a=some ⟨.type "tuple",none,.seq #[u1,u2] n,sl⟩) (c1:Cst K d1 v1 u1) (c2:Cst K d2 v2 u2):Glb K mg x (.tup [d1,d2]):=
 ⟨.ref a,_,Qk0 X G e,rfl,λF=>⟨by show 2<=sizeLine;decide,a,[v1,v2],rfl,.inr ⟨_,_,_,l,rfl,rfl,rfl,by show 2<=sizeLine;decide,.cons c1.rel<|.cons c2.rel .nil⟩,_,_,rfl,c1.rep F,_,_,rfl,c2.rep F,rfl⟩⟩
theorem uI(X:K.In h)(G:h.Ns mainGlobals mg)(e:PySem.W.nsIn K mainGlobals x=some none):mg x=none:=PySem.W.mg_none_of X G e
end
open PySem L2
theorem wB(P:Env->Prop):∀ds,(∀d∈ds,∀env,P env->∃e1 e2,g d env=some e1/\b e1 = .nx e2/\P e2)->∀env,P env->∃e',jr g b ds env = .nx e'/\P e'
 | [],_,env,hp=>⟨env,rfl,hp⟩
 | d::ds,h,env,hp=>by
  obtain⟨e1,e2,h1,h2,h3⟩:=h d (Qqv ..) env hp;obtain⟨e',h4,h5⟩:=wB P ds (λd' hd=>h d'<|Qq0 _ hd) e2 h3;refine⟨e',?_,h5⟩;unfold jr;rw[h1];simp;rw[h2];exact h4
theorem PQ(P:List D->Env->Prop)(h:∀done d rest,all=done++d::rest->∀env,P done env->∃e1 e2,g d env=some e1/\b e1 = .nx e2/\P (done++[d]) e2):∀ds done,all=done++ds->∀env,P done env->∃e',jr g b ds env = .nx e'/\P all e'
 | [],done,ha,env,hp=>⟨env,rfl,by rw[ha,Qx2];exact hp⟩
 | d::ds,done,ha,env,hp=>by
  obtain⟨e1,e2,h1,h2,h3⟩:=h done d ds ha env hp;obtain⟨e',h4,h5⟩:=PQ P h ds (done++[d]) (by rw[Qww];exact ha) e2 h3;refine⟨e',?_,h5⟩;unfold jr;rw[h1];simp;rw[h2];exact h4
def DW(all)(P:List D->Env->Prop)(h:∀done d rest,all=done++d::rest->∀env,P done env->∃e1 e2,g d env=some e1/\b e1 = .nx e2/\P (done++[d]) e2)(env)(h0:P [] env):∃e',jr g b all env = .nx e'/\P all e':=PQ P h all [] rfl env h0
def aG(h:a env = .nx e):aP a b env=b e:=by unfold aP;rw[h]
def iB(h:a env = .rt o d e):aP a b env = .rt o d e:=by unfold aP;rw[h]
def jj(h:it env = .ok ds e):jM it g b env=jr g b ds e:=by unfold jM;rw[h];rfl
def bL(h:a env = .ok d e)(h':g d e=some e'):bF a g env = .nx e':=by unfold bF;rw[h];show abO (g d e)=_;rw[h'];rfl
def lX(h:t env = .ok true e):d8 t a b env=a e:=by unfold d8;rw[h];rfl
def dg(h:t env = .ok false e):d8 t a b env=b e:=by unfold d8;rw[h];rfl
def bY(h:a env = .ok d e):bA a env = .rt false d e:=by unfold bA;rw[h];rfl
def aH(h:a env = .ok ds e)(h':g ds=some d):aq g a env = .ok d e:=by unfold aq;rw[h];show fX (g ds) e=_;rw[h'];rfl
def aJ(h1:a env = .ok x e1)(h2:b e1 = .ok y e2)(h3:g x y=some d):az g a b env = .ok d e2:=by
 unfold az;rw[h1];show bindR (b e1) _=_;rw[h2];show fX (g x y) e2=_;rw[h3]
 rfl
def jQ(h1:env[i]? = some (some (o',x0)))(h2:b env = .ok y e2)(h4:e2[i]? = some (some (o,x)))(h3:g x y=some d):aA g i b env = .ok d e2:=by
 unfold aA;rw[h1];show bindR (b env) _=_;rw[h2];show(match e2[i]? with|some (some (_,x))=>fX (g x y) e2|_=>.stuck)=_;rw[h4];show fX (g x y) e2=_;rw[h3]
 rfl
def aB(h1:a env = .ok d e1)(h2:r e1 = .ok ds e2):aa a r env = .ok (d::ds) e2:=by
 unfold aa;rw[h1];show bindR (r e1) _=_;rw[h2]
 rfl
def aX:aj env = .ok [] env:=rfl
def lU(h:r env = .ok ds e)(hz:ds.length<=sizeLine):cM r env = .ok (.lst ds) e:=by unfold cM;rw[h];show(if ds.length<=sizeLine then _ else _)=_;rw[if_pos hz]
def fC(h:r env = .ok ds e)(hz:ds.length<=sizeLine):cU r env = .ok (.tup ds) e:=by unfold cU;rw[h];show(if ds.length<=sizeLine then _ else _)=_;rw[if_pos hz]
def g8(h0:env[i]? = some (some (true,x0)))(h1:a env = .ok ds e1)(h2:e1[i]? = some (some (true,x)))(h3:f (x::ds)=some (d,x')):dH f i a env = .ok d (e1.set i (some (true,x'))):=by unfold dH;rw[h0];show bindR (a env) _=_;rw[h1];show(match e1[i]? with|some (some (true,x))=>(match f (x::ds) with|some (d,x')=>R.ok d (e1.set i<|some (true,x'))|none=>R.stuck)|_=>R.stuck)=_;rw[h2];show(match f (x::ds) with|some (d,x')=>R.ok d (e1.set i<|some (true,x'))|none=>.stuck)=_;rw[h3]
def Gn(h:jV i j=true):pI (.int i) (.int j)=some (.int (i*j)):=by show gI jV (λi j=>D.int<|i*j) (.int i) (.int j)=_;unfold gI;simp only;rw[if_pos h]
def wy(h:a.length+b.length<=sizeLine):bK (.lst a) (.lst b)=some (.lst (a++b)):=by show(if a.length+b.length<=sizeLine then _ else _)=_;rw[if_pos h]
def cF(h:a env = .ok (.bl b) e):dw a env = .ok b e:=by unfold dw;rw[h];rfl
def zT(h:a env = .ok d e):lH i a env = .nx (e.set i (some (true,d))):=by unfold lH;rw[h];rfl
def qx(h:a env = .ok d e)(h':itD d=some ds):gO a env = .ok ds e:=by unfold gO;rw[h];show fX (itD d) e=_;rw[h'];rfl
def jl(h:ev (Bg n x r) = .rt false d env)(h0:env[0]? = some (some (true,x'))):jc n ev (x::r)=some (d,x'):=by unfold jc;simp;rw[h];simp;rw[h0]
def cQ(h:ev (envOf n ds) = .rt false d env):dG n ev ds=some d:=by unfold dG;rw[h]
def tK(h:a env = .ok (.bl true) e):jd a b env=b e:=by unfold jd;rw[h];rfl
def Qe(h:a env = .ok (.bl false) e):jd a b env = .ok (.bl false) e:=by unfold jd;rw[h];rfl
def afe(h:a env = .ok (.bl true) e):JQ a b env = .ok (.bl true) e:=by unfold JQ;rw[h];rfl
def afg(h:a env = .ok (.bl false) e):JQ a b env=b e:=by unfold JQ;rw[h];rfl
def Gr(h:a env = .ok true e):gQ a b env = .ok true e:=by unfold gQ;rw[h];rfl
def gq(h:a env = .ok false e):gQ a b env=b e:=by unfold gQ;rw[h];rfl
def dF(h:a env = .ok b e):bV a env = .ok (!b) e:=by unfold bV;rw[h];rfl
theorem O6(P:Env->Prop)(f):∀ds env,P env->(∀d∈ds,∀env,P env->∃e1 e2,g d env=some e1/\e e1 = .ok (f d) e2/\P e2)->∃env',Cw g cP e ds env = .ok (ds.map f) env'/\P env'
 | [],env,hp,_=>⟨env,rfl,hp⟩
 | d::ds,env,hp,h=>by
  obtain⟨e1,e2,h1,h2,h3⟩:=h d (Qqv ..) env hp;obtain⟨e3,h4,h5⟩:=O6 P f ds e2 h3 λd' hd=>h d'<|Qq0 _ hd;refine⟨e3,?_,h5⟩;unfold Cw;rw[h1];show bindR (e e1) _=_;rw[h2];show bindR (Cw g cP e ds e2) _=_;rw[h4]
  rfl
def wC{lo n:Nat}(h1:it env = .ok ds aD)(hl:aD.length=lo)(h2:Cw g c e ds (aD++List.replicate (n - lo) none) = .ok ys eG)(hz:ys.length<=sizeLine):gb lo n it g c e env = .ok (.lst ys) (eG.take lo):=by unfold gb;rw[h1];show(if aD.length=lo then _ else _)=_;rw[if_pos hl,h2];show(if ys.length<=sizeLine then _ else _)=_;rw[if_pos hz]
def dig(n)(m)(hm:0<m):∃d:Nat,d<m/\n % m=(d:Int):=by have h1:0<=n % m:=Int.emod_nonneg n (by omega);have h2:n % m<m:=Int.emod_lt_of_pos n (by omega);exact⟨(n % m).toNat,by omega,by omega⟩
def M9{α:Type}{xs:List α}(h:d<xs.length):ue xs d=some xs[d]:=dZ<|Qx4 h
def okN:Nat->D->Bool
 | 0,_=>false
 | n+1,.tup xs=>xs.all (okN n)
 | n+1,.lst xs=>xs.all (okN n)
 | _+1,.dct _=>false
 | _+1,.mR _=>false
 | _+1,.clo _ _=>false
 | _+1,.arr _=>false
 | _+1,_=>true
theorem Bf:∀xs,(∀x∈xs,f x x=some true)->yI f xs xs=some true
 | [],_=>rfl
 | x::r,h=>by
  unfold yI;rw[h x (Qqv ..),Bf r λy hy=>h y<|Qq0 _ hy]
  rfl
theorem Bd:∀n d,okN n d=true->bD n d d=some true
 | 0,_,h=>by cases h
 | n+1,d,h=>by
  cases d with
  | tup xs=>exact Bf xs λx hx=>Bd n x<|Qq5.mp h x hx
  | lst xs=>exact Bf xs λx hx=>Bd n x<|Qq5.mp h x hx
  | dct _=>cases h
  | mR _=>cases h
  | clo _ _=>cases h
  | arr _=>cases h
  | non=>rfl
  | bl b=>show some (b == b)=_;simp
  | int i=>show some (i == i)=_;simp
  | str x=>show some (x == x)=_;simp
open PySem PySem.Spec PyProof.Rows L2 PySem.Builtin
def je(z:List Nat):List (List Nat)->Option Nat
 | []=>none
 | y::r=>if y=z then some 0 else (je z r).map (·+ 1)
theorem Ds:∀{ys} {j},je z ys=some j->∃hj:j<ys.length,ys[j]=z/\∀m (hm:m<ys.length),m<j->ys[m]≠z
 | [],j,h=>by cases h
 | y::r,j,h=>by
  unfold je at h;split at h
  ·rename_i e;cases h;exact⟨by simp,e,λm _ hm=>absurd hm<|Nat.not_lt_zero _⟩
  ·rename_i e;obtain⟨i,hi,rfl⟩:=Qw1.mp h;obtain⟨h1,h2,h3⟩:=Ds hi;refine⟨by simpa using h1,by simpa using h2,λm hm hmi=>?_⟩;cases m with
   | zero=>simpa using e
   | succ m=>simpa using h3 m (by simpa using hm) (by omega)
section
variable{X:Cx}{C:Cfg}{pos:Pos}{e x y:Expr}{a b:Ev}
def aam:D->Option D
 | .int i=>some (.int (-i))
 | _=>none
def acO:UnD C (rU λi=>.int (-i)) aam:=by
 intro Pr F env σ H x d vx Q r px e q;cases x with
 | int i=>cases e;exact⟨i,px.int,q _ H F r (aR.refl F) rfl⟩
 | _=>cases e
end
structure Pr where
 p:Addr
 k:Key
 kv:Value
 v:Value
section
variable{X:Cx}{C:Cfg}{pos:Pos}
abbrev Pv:=Addr×Key×V
end
end Ev
namespace L2
open PySem PySem.Spec PyProof.Rows PySem.Builtin PySem.Builtin.Str
section
variable{X:Cx}
def J2(v)(n d:Nat):max 0 (min (if v<0 then v+(n:Int) else v) n)=(HT.fL n d (some v)):=by
 show _=(((if v<0 then (v+n).toNat else min v.toNat n):Nat):Int);by_cases hv:v<0
 ·simp[if_pos hv];omega
 ·simp[if_neg hv];omega
def range_one(a b:Nat):sliceRange a b 1=List.range' a (b - a):=by
 unfold sliceRange;have h1:(1:Int) > 0:=by decide
 simp only[if_pos h1];have hc:(if a<(b:Int) then (b - (a:Int)+1 - 1) / 1 else 0).toNat=b - a:=by
  by_cases h:a<(b:Int)
  ·rw[if_pos h,Int.ediv_one];omega
  ·rw[if_neg h];omega
 rw[hc,List.range'_eq_map_range];apply Qz6;intro k _;omega
def Vl(lo hi)(n):strSliceIndices lo hi 1 n=List.range' (HT.fL n 0 lo) (HT.fL n n hi - HT.fL n 0 lo):=by
 have h1:1 > 0:=by decide
 unfold strSliceIndices;simp[if_pos h1];rw[<-range_one]
 congr 1
 ·cases lo with
  | none=>rfl
  | some v=>exact J2 v n 0
 ·cases hi with
  | none=>rfl
  | some v=>exact J2 v n n
theorem JN(c:List Nat):∀m a,a+m<=c.length->(List.range' a m).filterMap (c.toArray[·]?)=(c.drop a).take m
 | 0,a,_=>by simp
 | m+1,a,h=>by
  rw[List.range'_succ,Qz0];have e:c.toArray[a]? = some c[a]:=by simp
  rw[e,JN c m (a+1) (by omega),Qj6 (i:=a) (by omega),List.take_succ_cons]
def CJ(z:List Nat)(lo hi:Option Int):List Nat:=(z.drop (HT.fL z.length 0 lo)).take (HT.fL z.length z.length hi - HT.fL z.length 0 lo)
def ai4:V->Option Int->Option Int->Hp->VK->Prop:=λx lo hi H Q=>∃z:List Nat,x = .str ⟨z.toArray⟩/\z.length<=sizeLine/\Q (.str ⟨(CJ z lo hi).toArray⟩) H
def part_of(p:IsPart v o):∃l,v=partValue l/\l.map (·.1)=o:=by
 cases p with
 | none=>exact⟨none,rfl,rfl⟩
 | int i t=>exact⟨some (i,t),rfl,rfl⟩
def acY:Qq X ai4:=by
 intro pins s σ H x v vl vu lo hi sl Q I rx hs pl pu h;obtain⟨z,rfl,hz,q⟩:=h;obtain⟨t,rfl⟩:=rx;obtain⟨l,rfl,el⟩:=part_of pl;obtain⟨u,rfl,eu⟩:=part_of pu;refine⟨"str",_,PySem.F.slot_str_getitem.lookup,Qkv s _ t,?_⟩;obtain⟨o,h1,h2,h3⟩:=hs;refine wpAny_getItem_str_slice (st:=none) ⟨o,h1,h2,h3⟩ rfl ?_;have hp:slicePicked ⟨z.toArray⟩ l u none=List.range' (HT.fL z.length 0 lo) (HT.fL z.length z.length hi - HT.fL z.length 0 lo):=by unfold slicePicked;rw[el,eu];show strSliceIndices lo hi 1 z.toArray.size=_;rw[Qq4,Vl]
 have hle:HT.fL z.length 0 lo+(HT.fL z.length z.length hi - HT.fL z.length 0 lo)<=z.length\/HT.fL z.length z.length hi - HT.fL z.length 0 lo=0:=by have a1:=HT.Fq z.length 0 (Qzk _) lo;have a2:=HT.Fq z.length z.length (Qq2 _) hi;omega
 have ajG:((slicePicked ⟨z.toArray⟩ l u none).filterMap ((⟨z.toArray⟩:Str).cps[·]?))=CJ z lo hi:=by
  rw[hp];unfold CJ;rcases hle with hle|hle
  ·exact JN z _ _ hle
  ·rw[hle];simp
 unfold sliceMade;split
 ·rename_i hc;have hlen:(slicePicked ⟨z.toArray⟩ l u none).length=z.length:=by
   have:=(Qj9.mp hc).2;have:=eq_of_beq this
   simpa[Str.length] using this
  have hw:CJ z lo hi=z:=by
   rw[hp,List.length_range'] at hlen;unfold CJ;have a2:=HT.Fq z.length z.length (Qq2 _) hi;have a0:HT.fL z.length 0 lo=0\/z.length=0:=by omega
   rcases a0 with a0|a0
   ·rw[a0,List.drop_zero,Qj2 (by omega)]
   ·have:z=[]:=Qzy a0;subst this;simp
  rw[hw] at q;exact⟨.str ⟨z.toArray⟩,H,I,⟨t,rfl⟩,q⟩
 ·rw[ajG];refine⟨?_,⟨.str ⟨(CJ z lo hi).toArray⟩,H,I.tok _,⟨_,rfl⟩,q⟩⟩;show(CJ z lo hi).toArray.size<=sizeLine;rw[Qq4];unfold CJ;rw[Qw8,Qxv];omega
end
end L2
namespace Ev
open PySem PySem.Spec PyProof.Rows L2 PySem.Builtin
section
variable{X:Cx}{C:Cfg}{pos:Pos}{x y:Expr}{a b:Ev}
def W2(z)(lo hi):(CJ z lo hi).length<=z.length:=by unfold CJ;rw[Qw8,Qxv];omega
end
end Ev
namespace HT
open PySem PySem.Spec PyProof PyProof.Rows PySem.Builtin
section
variable{prog:Program}{w:World}{A:Around}{E:Value->Shared->Prop}{s:Shared}
def tU{lo hi:Option Int}(ht:IsTup s.heap t items)(hs:s.heap.IsSliceOf sl vl vu .none)(pl:IsPart vl lo)(pu:IsPart vu hi)
  (hw:fL items.size 0 lo=0/\fL items.size items.size hi=items.size)
  (h:Q (.ref t) s):wpAny (model prog w) A (getItem (.ref t) (.ref sl)) Q E s:=by
 obtain⟨os,hos,hcs,hds⟩:=id hs;have hTs:s.TypeIs (.ref sl) "slice":=⟨os,hos,hcs⟩;unfold getItem
 try with_reducible refine Qzz ?_
 first|refine Qqx (Qq1 ?_)|skip
 refine Qqx<|wpAny_sequenceKey ht.typeIs (by decide) ?_;refine Qqx (wpAny_callSpecial?_slot ht.typeIs Qz8
  (Qz5 Qz8 ht.typeIs entry_tuple_getitem ?_<|args_tuple_getitem _ _))
 show wpAny _ _ (Builtin.Tuple.tupleItemsOf (.ref t) >>= _) _ _ s;refine Qqx<|tupleItemsOf_ ht ?_;refine Qqx<|wpAny_typeOf hTs ?_;rw[if_pos (by decide)];refine Qqx<|pA hs pl pu ?_;have ajz:(((fL items.size 0 lo):Int) == 0&&(1:Int) == 1&&(fL items.size items.size hi - fL items.size 0 lo) == items.size)=true:=by rw[hw.1,hw.2];simp
 show wpAny _ _ (if (((fL items.size 0 lo:Nat):Int) == 0&&(1:Int) == 1&&(fL items.size items.size hi - fL items.size 0 lo) == items.size)=true then _ else _) _ _ s;rw[if_pos ajz];refine Qqx ?_;unfold Builtin.Tuple.tupleIsExact;refine Qqx<|wpAny_typeOf ht.typeIs ?_;refine Qq1 ?_;rw[if_pos (by decide)];exact Qqx<|wpAny_rule<|Qq1 ⟨_,rfl,Qq1 h⟩
end
end HT
namespace L2
open PySem PySem.Spec PyProof.Rows
section
variable{X:Cx}
def agz(K:PySem.W.Frag):V->Option Int->Option Int->Hp->VK->Prop:=λx lo hi H Q=>∃a xs,x = .ref a/\qO K H a xs/\(HT.fL xs.length 0 lo=0/\HT.fL xs.length xs.length hi=xs.length)/\Q (.ref a) H
def Uc:Qq X (agz X.K):=by
 intro pins s σ H x v vl vu lo hi sl Q I rx hs pl pu h;obtain⟨a,xs,rfl,hx,hw,q⟩:=h;cases rx;obtain⟨its,r,ht,hz⟩:=I.tuple hx;have hlen:its.toArray.size=xs.length:=by rw[Qq4];exact r.length.symm
 refine⟨"tuple",_,PyProof.Rows.slot_tuple_getitem.lookup,ht.typeIs,?_⟩;refine HT.tU ht hs pl pu (by rw[hlen];exact hw) ?_;exact⟨.ref a,H,I,rfl,q⟩
end
end L2
namespace Ev
open PySem PySem.Spec PyProof.Rows L2
section
variable{X:Cx}{C:Cfg}{pos:Pos}{x:Expr}{a:Ev}
def ae2:D->Option Int->Option Int->Option D
 | .tup xs,lo,hi=>if HT.fL xs.length 0 lo=0/\HT.fL xs.length xs.length hi=xs.length then some (.tup xs) else some (.tup (cutD xs lo hi))
 | _,_,_=>none
def acZ{Pr F:Hp}{x d:D}{lo hi:Option Int}(r:Rel C Pr F env σ H)(p:Rep C.K F x v)(e:ae2 x lo hi=some d)(q:∀v H' F',Rel C Pr F' env σ H'->aR F F'->Rep C.K F' d v->Q v H') :
  ac8 C.K v lo hi H Q\/agz C.K v lo hi H Q:=by
 unfold ae2 at e;split at e
 ·obtain⟨z,a,vs,rfl,h1,_,h2⟩:=jg.tup r.fr<|.inl p;split at e
  ·rename_i hn;cases e;exact .inr ⟨a,vs,rfl,h1,by rw[h2.length];exact hn,q _ H F r (aR.refl F) p⟩
  ·rename_i hn;cases e;refine .inl ⟨a,vs,rfl,h1,by rw[h2.length];exact hn,λb hb=>?_⟩;obtain⟨r2,s2⟩:=r.new hb;exact q _ _ _ r2 s2 ⟨Qqy (sr _ _ _) z,b,_,rfl,qO.of aZ,bT.mono s2 _ _<|h2.cut lo hi⟩
 ·cases e
def aak{K:Fg}{x:Str}(X:K.In h)(G:h.Ns mainGlobals mg)(a:PySem.W.nsIn K mainGlobals x=some (some (.int i t))):Glb K mg x (.int i):=
 ⟨.int i,_,Qk0 X G a,⟨t,rfl⟩,λF=>rfl⟩
end
end Ev
namespace SX
open PySem PySem.Spec PyProof.Rows L2 PySem.Builtin
def wG(ys:List Str)(x:Str):List Str:=if x∈ys then ys else ys++[x]
def yt(zs:List Str):List Str:=zs.foldl wG []
def Xg(ys)(x):(wG ys x).length<=ys.length+1:=by
 unfold wG;split
 ·omega
 ·simp
def Hk(zs:List Str):∀ys,(zs.foldl wG ys).length<=ys.length+zs.length:=by
 induction zs with
 | nil=>intro ys;exact Qq2 _
 | cons z zs ih=>intro ys;rw[Qx3,Qqk];have:=ih<|wG ys z;have:=Xg ys z;omega
def led(w:World):Bool:=!(w.params.followText "set-order")
structure TOk(P:Program)(w:World)(es:Array (Int×Value))(t:SetTable)(ys:List Str):Prop where
 el:ElemsOf (strKind P w) es.toList
 tx:∃ss:List Str,StrsAre (es.toList.map (·.2)) ss/\ss.Perm ys
 fit:t.fits es.size=true
 ld:t.led=led w
 pl:es.size≠0->t.plain=false
def qI(P:Program)(w:World)(h:Heap)(a:Addr)(ys:List Str):Prop:=
 ∃o es ep t,h.get? a=some o/\o.ExactSet/\o.data = .set es ep t/\TOk P w es t ys
def qI.keep(x:qI P w h a ys)(k:∀o,h.get? a=some o->h'.get? a=some o):qI P w h' a ys:=
 let ⟨o,es,ep,t,e,r⟩:=x;⟨o,es,ep,t,k o e,r⟩
def HF(h:StrsAre vs ss):vs.length=ss.length:=by
 induction h with
 | nil=>rfl
 | cons _ _ _ ih=>simp[ih]
def T3(h:StrsAre vs ss):∀v∈vs,∃x t,v = .str x t/\x∈ss:=by
 induction h with
 | nil=>intro v hv;cases hv
 | cons y t _ ih=>
  intro v hv;rcases Qqw.mp hv with rfl|hv
  ·exact⟨y,t,rfl,Qqv⟩
  ·obtain⟨x,t,e,m⟩:=ih v hv;exact⟨x,t,e,Qq0 _ m⟩
def QL(h:StrsAre vs ss):∀x∈ss,∃t,Value.str x t∈vs:=by
 induction h with
 | nil=>intro x hx;cases hx
 | cons y t _ ih=>
  intro x hx;rcases Qqw.mp hx with rfl|hx
  ·exact⟨t,Qqv⟩
  ·obtain⟨t,m⟩:=ih x hx;exact⟨t,Qq0 _ m⟩
def T4(h:StrsAre vs ss)(g:StrsAre us rs):StrsAre (vs++us) (ss++rs):=by
 induction h with
 | nil=>exact g
 | cons y t _ ih=>exact .cons y t ih
def sH(p:us.Perm vs):∀{ss},StrsAre vs ss->∃rs,StrsAre us rs/\rs.Perm ss:=by
 induction p with
 | nil=>intro ss h;exact⟨ss,h,.rfl⟩
 | cons x _ ih=>
  intro ss h;cases h with
  | cons y t h=>
   obtain⟨rs,h1,h2⟩:=ih h;exact⟨y::rs,.cons y t h1,h2.cons y⟩
 | swap x y l=>
  intro ss h;cases h with
  | cons a t h=>cases h with
   | cons b u h=>exact⟨b::a::_,.cons b u<|.cons a t h,.swap _ _ _⟩
 | trans _ _ ih1 ih2=>
  intro ss h;obtain⟨rs,h1,h2⟩:=ih2 h;obtain⟨qs,h3,h4⟩:=ih1 h1;exact⟨qs,h3,h4.trans h2⟩
def TOk.size(x:TOk P w es t ys):es.size=ys.length:=by obtain⟨ss,h1,h2⟩:=x.tx;rw[<-h2.length_eq,<-HF h1,Qqz,Qz7]
def adV(t:SetTable)(n):(t.orStandIn n).led=t.led/\(t.plain=false->(t.orStandIn n).plain=false):=by
 unfold SetTable.orStandIn;split
 ·exact⟨rfl,id⟩
 ·exact⟨rfl,λ_=>rfl⟩
def Z8(t)(es)(h)(x):(layNew t es h x).2.1.led=t.led/\(t.plain=false->(layNew t es h x).2.1.plain=false):=by
 unfold layNew;split
 ·exact adV _ _
 ·exact⟨rfl,λ_=>rfl⟩
def V4(h:SetTable.laid mask finger moves l p hs=some (t,o)):t.led=l/\t.plain=p:=by
 unfold SetTable.laid at h;cases h1:SetTable.layClean mask hs with
 | none=>rw[h1] at h;cases h
 | some ow=>rw[h1] at h;injection h with h;injection h with h _;subst h;exact⟨rfl,rfl⟩
def Q0(t)(es)(n):(relayAll t es n).2.1.led=t.led/\(t.plain=false->(relayAll t es n).2.1.plain=false):=by
 unfold relayAll;split
 ·rename_i t' order e;obtain⟨h1,h2⟩:=V4 e;dsimp only;split
  ·exact⟨h1,λz=>h2.trans z⟩
  ·exact⟨rfl,λ_=>rfl⟩
 ·exact⟨rfl,λ_=>rfl⟩
section
variable{P:Program}{w:World}{A:Around}{E:Value->Shared->Prop}{s:Shared}{a:Addr}
def Tv(b)(h:Q () s₁):wpAny (model P w) A (match b with|true=>rule n|false=>pure ()) Q E s₁:=by
 cases b
 ·exact Qq1 h
 ·exact wpAny_rule h
def store(ho:s.heap.get? a=some o)(hx:o.ExactSet)(hd:o.data = .set es ep t)(k:TOk P w es' t' ys)(hz:ys.length<scanBound)
  (h:∀g o',Heap.SameBut a s.heap g->g.get? a=some o'->o'.ExactSet->o'.data = .set es' (ep+1) t'->Q () { s with heap:=g }):wpAny (model P w) A (storeSet a es' t') Q E s:=by
 have hb:es'.size<scanBound:=by rw[k.size];exact hz
 refine wpAny_storeSet_of ho hd ?_<|fits_of_scanBound hb;have e:=Heap.get?_update_self (Obj.putSet es' t') ho (by rw[putSet_of es' t' hd];rfl);rw[putSet_of es' t' hd] at e;exact h _ _ (Heap.SameBut.update s.heap a _) e hx rfl
def SN(ho:s.heap.get? a=some o)(hx:o.ExactSet)(hd:o.data = .set es ep t)(x:TOk P w es t ys)(hz:ys.length+1<scanBound)
  (h:∀g b,Heap.SameBut a s.heap g->qI P w g a (wG ys k)->Q b { s with heap:=g }):wpAny (model P w) A (setAddHashed a (.str k tk) ((strKind P w).hash k)) Q E s:=by
 have hk:(strKind P w).is k (.str k tk)=true:=strKind_is P w k tk;have hsc:(Value.str k tk).scannable=true:=rfl;have hb:es.size<scanBound:=by rw[x.size];omega
 unfold setAddHashed setAddHashedIn;refine Qzz<|Qqx<|wpAny_setState_of ho hd x.fit ?_;dsimp only;rw[if_pos (byScan_of hsc hb x.el)];unfold setAddByScan;refine Qqx<|Qqx<|wpAny_rule<|Qqx<|wpAny_setScan_of hk ho hd x.fit x.el ?_;obtain⟨ss,s1,s2⟩:=x.tx;cases hr:es.toList.findIdx? (λe=>(strKind P w).is k e.2) with
 | some j=>
  dsimp only;obtain⟨hj,hpj,_⟩:=List.findIdx?_eq_some_iff_getElem.mp hr;refine Qq1<|Qq1 ?_;have hm:k∈ys:=by obtain⟨y,u,e1,e2⟩:=T3 s1 (es.toList[j].2)<|Qwk.mpr ⟨_,List.getElem_mem hj,rfl⟩;rw[e1] at hpj;have:k=y:=(strKind P w).inj _ _ _ hpj<|strKind_is P w y u;subst this;exact s2.mem_iff.mp e2
  have:=h s.heap false (Heap.SameBut.refl a s.heap) (by rw[wG,if_pos hm];exact⟨o,es,ep,t,ho,hx,hd,x⟩);cases s;exact this
 | none=>
  dsimp only;have hm:k ∉ ys:=λz=>by
   obtain⟨u,hu⟩:=QL s1 k<|s2.mem_iff.mpr z;obtain⟨e,he,e2⟩:=Qwk.mp hu;have:=List.findIdx?_eq_none_iff.mp hr e he;rw[e2,strKind_is] at this;cases this
  have hp:=layNew_perm t es ((strKind P w).hash k)<|.str k tk;have hf:=layNew_fits t es ((strKind P w).hash k)<|.str k tk;have hl:=Z8 t es ((strKind P w).hash k) (.str k tk);generalize layNew t es ((strKind P w).hash k) (.str k tk)=L at hp hf hl ⊢;obtain⟨e1,t1,wd,gv⟩:=L;dsimp only at hp hf hl ⊢;rw[Array.toList_push] at hp;have hel:ElemsOf (strKind P w) e1.toList:=(x.el.push hk hsc).perm hp;have htx:∃ss,StrsAre (e1.toList.map (·.2)) ss/\ss.Perm (ys++[k]):=by have h1:=T4 s1 (.cons k tk .nil);obtain⟨rs,h2,h3⟩:=sH (hp.map (·.2)) (by rw[Qx1];exact h1);exact⟨rs,h2,h3.trans (s2.append_right [k])⟩
  have hxy:wG ys k=ys++[k]:=by rw[wG,if_neg hm]
  have hyz:(ys++[k]).length<scanBound:=by rw[Qqq];exact hz
  refine Qqx (Tv _ ?_)
  /- the table that is laid down -/
  have hend:∀t2,t2.fits e1.size=true->t2.led=led w->t2.plain=false->wpAny (model P w) A (do
    storeSet a e1 t2
    if (!wd&&t2.tooFull)=true then do
      (match (relayAll t2 e1 (SetTable.grown e1.size)).2.2 with|true=>rule "set.scan.the-table-gave-way" | false=>pure ())
      storeSet a (relayAll t2 e1 (SetTable.grown e1.size)).1 (relayAll t2 e1 (SetTable.grown e1.size)).2.1
      pure (some true)
     else pure (some true)) (λr s'=>wpAny (model P w) A (match r with|some added=>pure added|none=>setAddHashedIn a (.str k tk) ((strKind P w).hash k) 99999) Q E s') E s:=by
   intro t2 f2 l2 p2;have k2:TOk P w e1 t2 (ys++[k]):=⟨hel,htx,f2,l2,λ_=>p2⟩;refine Qqx (store ho hx hd k2 hyz λg o1 sb go gx gd=>?_);split
   ·have rp:=relayAll_perm t2 e1 (SetTable.grown e1.size);have rf:=relayAll_fits t2 e1 (SetTable.grown e1.size);have rl:=Q0 t2 e1 (SetTable.grown e1.size);generalize relayAll t2 e1 (SetTable.grown e1.size)=L at rp rf rl ⊢;obtain⟨e3,t3,gv3⟩:=L;dsimp only at rp rf rl ⊢;obtain⟨r1,q1,q2⟩:=htx;obtain⟨rs,h2,h3⟩:=sH (rp.map (·.2)) q1;have k3:TOk P w e3 t3 (ys++[k]):=⟨hel.perm rp,⟨rs,h2,h3.trans q2⟩,rf,rl.1.trans l2,λ_=>rl.2 p2⟩;refine Qqx (Tv _ ?_);refine Qqx (store (s:={ s with heap:=g }) go gx gd k3 hyz λg2 o2 sb2 go2 gx2 gd2=>?_);refine Qq1 (Qq1 ?_);exact h g2 true (sb.trans sb2) (by rw[hxy];exact⟨o2,_,_,_,go2,gx2,gd2,k3⟩)
   ·refine Qq1 (Qq1 ?_);exact h g true sb (by rw[hxy];exact⟨o1,_,_,_,go,gx,gd,k2⟩)
  split
  ·rename_i hpl;refine Qqx ?_;rw[hashByValue_scannable 8 hsc];refine Qq1 ?_;exact hend _ (SetTable.fits_plain_off hf) (hl.1.trans x.ld) rfl
  ·rename_i hpl;refine Qqx (Qq1 ?_);simp only[↓reduceIte];exact hend _ hf (hl.1.trans x.ld) (by simpa using hpl)
def seen(val:Nat->Str)(i:Nat):List Str:=((List.range i).map val).foldl wG []
def QX(val:Nat->Str)(i:Nat):seen val (i+1)=wG (seen val i) (val i):=by
 unfold seen;rw[List.range_succ,Qx1,List.foldl_append]
 rfl
def Um(val:Nat->Str)(i:Nat):(seen val i).length<=i:=by
 have:=Hk ((List.range i).map val) []
 simpa[seen] using this
def fill{R:Result->Shared->Prop}{I:Addr}{fp wr:List Addr}{G:Array GenState->Array GenState->Prop}{n:Nat}{Pi:Nat->Value->Prop}{St:Nat->Shared->Prop}(W:WalksS P w A.in1 I fp wr G n Pi St){a:Addr}(ha:a ∉ fp){val:Nat->Str}
  (hv:∀i v,Pi i v->∃t,v = .str (val i) t) (hb:n+1<scanBound) (d:Nat):∀(i:Nat) (s:Shared),i+d=n->St i s->qI P w s.heap a (seen val i)->(∀s',Moved (a::wr) G s s'->qI P w s'.heap a (seen val n)->R (.ok (.ret .none)) s')->
  codeAny (model P w) A (.builtin "set.update.loop" ⟨[.ref a,.ref I],[]⟩) R s:=by
 have hw:a ∉ wr:=λz=>ha (W.sub _ z);have up:∀b∈wr,b∈a::wr:=λb z=>Qq0 _ z
 induction d with
 | zero=>
  intro i s e st x hR;obtain rfl:i=n:=e;refine Qkz PyProof.Rows.F.entry_set_update_loop ?_;rw[Around.under_plainId PyProof.Rows.F.plain_set_update_loop _];show wpAny _ _ (pyNext (.ref I) >>= _) _ _ _;refine Qqx (W.done s _ _ st λs' m=>?_);show wpAny _ _ (ret .none) _ _ _;exact Qq1 (hR s' (m.mono up) (x.keep λo z=>m.heap a o hw z))
 | succ d ih=>
  intro i s e st x hR;refine Qkz PyProof.Rows.F.entry_set_update_loop ?_;rw[Around.under_plainId PyProof.Rows.F.plain_set_update_loop _];show wpAny _ _ (pyNext (.ref I) >>= _) _ _ _;refine Qqx (W.item i s _ _ (by omega) st λv s' pv st' m=>?_);obtain⟨t,rfl⟩:=hv i v pv;show wpAny _ _ (holding _ (setAdd a _) >>= _) _ _ _;unfold setAdd;refine Qqx (Qzz (Qzz (Qqx ((strKind P w).pyHash (strKind_is P w (val i) t) ?_))));obtain⟨o,es,ep,tb,ho,hx,hd,k⟩:=x.keep λo z=>m.heap a o hw z;refine SN (s:={ s' with toks:=s'.toks+1 }) ho hx hd k (by have:=Um val i;omega) λg b sb y=>?_;rw[<-QX] at y;refine Qq1 ⟨plainId_quiet PyProof.Rows.F.plain_set_update_loop _,ih (i+1) _ (by omega) (W.frame _ s' _ _ st' (Nat.le_succ _) λc hc u z=>?_) y λs2 m2 x2=>?_⟩
  ·exact(sb.2 c (λq=>ha (q ▸ hc))).trans z
  ·refine hR s2 (Moved.trans W.gtrans ((m.mono up).then_heap (Nat.le_succ _) λc u hc z=>?_) m2) x2;exact(sb.2 c (λq=>hc (q ▸ Qqv))).trans z
def ZV(v:Value){Q:Value->Shared->Prop}(h:Q (.ref s.heap.objs.size) { s with heap:=s.heap.push { cls:=.type "set",dict:=none,data:=.set #[] 0 (.fresh 0 0 (led w)) } }) :
  codeAny (model P w) A (.call (.builtin "set.__new__") ⟨[.type "set",v],[]⟩) (wants Q E) s:=by
 refine codeAny_of_tree ?_;show wpAny _ _ (checkBuiltinCall "set.__new__" ⟨[.type "set",v],[]⟩ >>= λ_=>again (.builtin "set.__new__" ⟨[.type "set",v],[]⟩)) _ _ s;refine Qqx (wpAny_of_eq (PySem.F.newCall_set_1 v) (Qq1 ⟨plainId_quiet PySem.F.plain_set_new _,Qkz PySem.F.entry_set_new ?_⟩));rw[Around.under_plainId PySem.F.plain_set_new _];unfold Builtin.«set.__new__» Builtin.Frozenset.newClass;have hs:=sub_set_self;obtain⟨_,_,_,_,_⟩:=s;dsimp only
 wp_walk
 refine wpAny_askSetting (Qq1 ?_);dsimp only;simp only[newObj];exact Qqx (wpAny_alloc (Qq1 (Qq1 h)))
def fresh(w:World):Obj:={ cls:=.type "set",dict:=none,data:=.set #[] 0 (.fresh 0 0 (led w)) }
def Wu(h:Heap){a:Addr}(e:h.get? a=some (fresh w)):qI P w h a []:=
 ⟨_, #[],0,_,e,⟨rfl,rfl,rfl⟩,rfl,⟨λ_ z=>by simp at z,⟨[],.nil,.rfl⟩,rfl,rfl,λz=>absurd rfl z⟩⟩
def ac2{l:Addr}{its:Array Value}{zs:List Str}{Q:Value->Shared->Prop}(hh:A.handled=none)(hl:s.heap.IsList l its)(hi:StrsAre its.toList zs)(hb:zs.length+1<scanBound)
  (h:∀(g:Heap) (tk:Nat),qI P w g s.heap.objs.size (yt zs)->(∀b o,s.heap.get? b=some o->g.get? b=some o)->Q (.ref s.heap.objs.size) { s with heap:=g,toks:=tk }) :
  wpAny (model P w) A (call (.type "set") [.ref l]) Q E s:=by
 obtain⟨c,tl,mro⟩:=PySem.F.called_set.mro;have made:=PySem.F.called_set.made;have sub:=PySem.F.called_set.sub;refine wpAny_call (codeAny_of_tree ?_);show wpAny _ _ (callAny (.type "set") _) _ _ _;refine Qq1 ⟨Code.quiet_builtin _ (by decide +kernel),Qkz PySem.F.entry_type_call ?_⟩;rw[Around.under_plain (weight_type_call_type "set" [.ref l] []) rfl];have c1:=PySem.F.called_set.notType;have c2:=PySem.F.called_set.canCreate;have c3:=PySem.F.typeCall_set_1 (.ref l)
 repeat (any_goals (first|assumption|wp_step))
 refine Qk4 (ZV (.ref l) (E:=E) (Q:=λv s1=>v = .ref s.heap.objs.size/\s1 = { s with heap:=s.heap.push (fresh w) }) ⟨rfl,rfl⟩) λr s1 hr=>?_;have hlen:its.size=zs.length:=by rw[<-Qz7];exact HF hi
 cases r with
 | error e=>exact hr
 | ok fl=>
  cases fl with
  | ret v=>
   obtain⟨rfl,rfl⟩:=hr;have e0:(s.heap.push (fresh w)).get? s.heap.objs.size=some (fresh w):=Qq7 _ rfl;have hT:Shared.TypeIs { s with heap:=s.heap.push (fresh w) } (.ref s.heap.objs.size) "set":=⟨_,e0,rfl⟩;have c4:=PySem.F.called_set.init.lookup;have c5:=PySem.F.called_set.init.bind (.ref s.heap.objs.size)
   repeat (any_goals (first|assumption|wp_step))
   refine Qk4 (codeAny_call_builtin (R:=wants (λr s2=>r = .none/\∃g tk,s2 = { s with heap:=g,toks:=tk }/\qI P w g s.heap.objs.size (yt zs)/\(∀b o,s.heap.get? b=some o->g.get? b=some o)) E)
    PySem.F.called_set.init.plain PySem.F.entry_set_init (check_set_init_1 hT ?_)) λr2 s2 hr2=>?_
   ·obtain⟨ol,hol,hcl,nl,hdl⟩:=hl;obtain⟨ocls,odict,odata,oslots⟩:=ol;simp only at hcl hdl;subst hcl;subst hdl;have hol':(s.heap.push (fresh w)).get? l=some { cls:=.type "list",dict:=odict,data:=.seq its nl,slots:=oslots }:=Qqj _ hol;have l1:(s.heap.push (fresh w)).IsList l its:=⟨_,hol',rfl,nl,rfl⟩;have n1:=PySem.F.sub_list_set;have n2:=PySem.F.sub_list_frozenset;have n3:(Value.type "list" == Value.type "dict")=false:=by decide
    have e1:(s.heap.push (fresh w)).get? s.heap.objs.size=some { cls:=.type "set",dict:=none,data:=.set #[] 0 (.fresh 0 0 (led w)) }:=e0;unfold Builtin.«set.__init__» noKeywords Builtin.Frozenset.updateFrom;generalize hPI:pyIter=PI
    wp_walk
    subst hPI;refine wpAny_pyIter_list l1 (Qqx (wpAny_runValue ?_));have lt:l<s.heap.objs.size:=Qq9 hol;have sz:(s.heap.push (fresh w)).objs.size=s.heap.objs.size+1:=Qjv _ _;have hh3:A.in1.in1.in1.handled=none:=by simp[hh]
    have a1:l≠(s.heap.push (fresh w)).objs.size:=by rw[sz];exact Qw0 (Qjw lt)
    have a2:s.heap.objs.size ∉ [(s.heap.push (fresh w)).objs.size,l]:=by rw[sz];simp only[Qqw,Qwv,Qjz,not_or];exact⟨Qw0 (Nat.lt_succ_self _),Nat.ne_of_gt lt⟩
    have hv:∀(i:Nat) (v:Value),its[i]? = some v->∃t,v = .str (zs.getD i ⟨#[]⟩) t:=by
     have:∀{vs:List Value} {ss:List Str},StrsAre vs ss->∀(i:Nat) (v:Value),vs[i]? = some v->∃t,v = .str (ss.getD i ⟨#[]⟩) t:=by
      intro vs ss q
      induction q with
      | nil=>intro i v z;simp at z
      | cons y t _ ih=>
       intro i v z;cases i with
       | zero=>simp at z;exact⟨t,z.symm⟩
       | succ i=>simpa using ih i v (by simpa using z)
     exact λi v z=>this hi i v (by rw[Array.getElem?_toList];exact z)
    refine fill ((Walks.list hh3 _ l a1 its).toS) a2 (val:=λi=>zs.getD i ⟨#[]⟩) hv (by omega) its.size 0 _ (by omega) ⟨⟨_,Qq7 _ rfl,rfl,rfl⟩,l1.push _⟩ (Wu _ (Qqj _ e0)) λs' m x=>?_;have es:seen (λi=>zs.getD i ⟨#[]⟩) its.size=yt zs:=by
     unfold seen yt
     congr 1
     rw[hlen];apply List.ext_getElem
     ·simp
     ·intro i h1 h2;simp[Qzj,h2]
    rw[es] at x;obtain⟨g,gn,dr,tk,os⟩:=s';have q1:gn=s.gens:=m.gens;have q2:dr=s.drawn:=m.drawn;have q3:os=s.os:=m.os;subst q1 q2 q3;refine Qq1 ?_;show wpAny _ _ (ret .none) _ _ _;refine Qq1 ⟨rfl,g,tk,rfl,x,λb o e=>?_⟩;have hb1:b<s.heap.objs.size:=Qq9 e;refine m.heap b o ?_ (Qqj _ (Qqj _ e));rw[sz];simp only[Qqw,Qwv,Qjz,not_or];exact⟨Qw0 hb1,Qw0 (Qjw hb1)⟩
   ·cases r2 with
    | error e=>exact hr2
    | ok fl2=>
     cases fl2 with
     | ret r=>
      obtain⟨rfl,g,tk,rfl,x,k⟩:=hr2
      repeat (any_goals (first|assumption|wp_step))
      exact h _ _ x k
     | _=>exact hr2.elim
  | _=>exact hr.elim
end
def sU:Slot "set_iterator" "__next__" "set_iterator.__next__":=
 .of (owner:="set_iterator") (n:="__next__") (by rw[typeLookup_type,builtinLookup_eq_fast];kernel_rfl) (by decide +kernel) (by decide +kernel) (by decide +kernel) (by first|exact .inl (by decide +kernel)|exact .inr (by decide +kernel)) (by rw[isSubtype_type];kernel_rfl)
def WR:entryFor table "set_iterator.__next__" = some Builtin.«set_iterator.__next__»:=entryFor_of_tree (by kernel_rfl)
def Iv:Manifest.owners.lookup (String.ofList ['r', 'o', 't', 'a', 'r', 'e', 't', 'i', '_', 't', 'e', 's'].reverse)=some Manifest.sig_set_iterator:=by kernel_rfl
def aa2(a:Value):argsOk "set_iterator.__next__" ⟨[a],[]⟩:=by
 unfold argsOk;rw[signature?_of (id:="set_iterator.__next__") (n:=['_', '_', 't', 'x', 'e', 'n', '_', '_']) (o:=['r', 'o', 't', 'a', 'r', 'e', 't', 'i', '_', 't', 'e', 's']) (by kernel_rfl) Iv]
 kernel_rfl
def NQ:Slot "set_iterator" "__iter__" "set_iterator.__iter__":=
 .of (owner:="set_iterator") (n:="__iter__") (by rw[typeLookup_type,builtinLookup_eq_fast];kernel_rfl) (by decide +kernel) (by decide +kernel) (by decide +kernel) (by first|exact .inl (by decide +kernel)|exact .inr (by decide +kernel)) (by rw[isSubtype_type];kernel_rfl)
def WT:entryFor table "set.__iter__" = some Builtin.«frozenset.__iter__»:=
 entryFor_alias (id':="frozenset.__iter__") (by kernel_rfl) rfl (by decide +kernel) (by kernel_rfl)
def WQ:entryFor table "set_iterator.__iter__" = some Builtin.«dict_keyiterator.__iter__»:=
 entryFor_alias (id':="dict_keyiterator.__iter__") (by kernel_rfl) rfl (by decide +kernel) (by kernel_rfl)
def aa1(a:Value):argsOk "set_iterator.__iter__" ⟨[a],[]⟩:=by
 unfold argsOk;rw[signature?_of (id:="set_iterator.__iter__") (n:=['_', '_', 'r', 'e', 't', 'i', '_', '_']) (o:=['r', 'o', 't', 'a', 'r', 'e', 't', 'i', '_', 't', 'e', 's']) (by kernel_rfl) Iv]
 kernel_rfl
def Pg(first:Value)(i:Nat)(a:Addr)(n ep:Nat):Obj:={ cls:=.type "set_iterator",data:=.fields #[first,.int i 0,.ref a,.int n 0,.int ep 0] }
section
variable{P:Program}{w:World}{A:Around}{E:Value->Shared->Prop}{s:Shared}
def O1{I a:Addr}{first:Value}{i n ep:Nat}{o:Obj}{es:Array (Int×Value)}{t:SetTable}{Q:Value->Shared->Prop}(hI:s.heap.get? I=some (Pg first i a n ep))(ho:s.heap.get? a=some o)(hd:o.data = .set es ep t)(hf:t.fits es.size=true)(hn:es.size=n)
  (h:wpAny (model P w) A (match first with
   | .int slot _=>(do match <-setNext a slot.toNat i ep with
     | some (x,next)=>(do setField (.ref I) 0 (rawInt next);setField (.ref I) 1 (rawInt (i+1));ret x)
     | none=>(do setField (.ref I) 2 .none;raiseNew (<-newExc (.type "StopIteration") [])))
   | v=>(do
        let some places <-seqItems? v|unsupported "internal:set_iterator"
        match places[i]? with
        | some (.int place _)=>(do let x <-setNextDrawn a place.toNat ep;setField (.ref I) 1 (rawInt (i+1));ret x)
        | some _=>unsupported "internal:set_iterator"
        | none=>(do setField (.ref I) 0 (rawInt 0);setField (.ref I) 2 .none;raiseNew (<-newExc (.type "StopIteration") [])))) (λfin s'=>∃v,fin = .done (.ret v)/\Q v s') E s) :
  wpAny (model P w) A (Builtin.«set_iterator.__next__» ⟨[.ref I],[]⟩) (λfin s'=>∃v,fin = .done (.ret v)/\Q v s') E s:=by
 unfold Builtin.«set_iterator.__next__» slotArgs;refine Qqx (Qq1 ?_);refine Qqx (wpAny_fieldsOf hI rfl ?_);dsimp only[Pg];refine Qqx (wpAny_setEntries_of ho hd hf ?_);rw[if_neg (by rw[hn];simp)];cases first<;>first|exact h|(simpa using h)
def N6{I a:Addr}{first:Value}{i n ep:Nat}{Q:Value->Shared->Prop}(hI:s.heap.get? I=some (Pg first i a n ep))(h:Q (.ref I) s):wpAny (model P w) A (pyIter (.ref I)) Q E s:=by have hT:s.TypeIs (.ref I) "set_iterator":=⟨_,hI,rfl⟩;refine wpAny_pyIter_slot hT NQ (Qz5 NQ hT WQ ?_ (aa1 _));show wpAny _ _ (ret (.ref I)) _ _ s;exact Qq1 ⟨_,rfl,"set_iterator",_,hT,sU.lookup,h⟩
def stop{Q:Fin->Shared->Prop}(hh:A.handled=none)(q:∀g e,(∀b o,s.heap.get? b=some o->g.get? b=some o)->(∃o,g.get? e=some o/\o.cls = .type "StopIteration")->E (.ref e) { s with heap:=g }) :
  wpAny (model P w) A (do raiseNew (<-newExc (.type "StopIteration") [])) Q E s:=by
 refine Qqx ?_;simp only[newExc,newTuple];refine Qqx (Qx7 ?_ (by size_fits));refine Qqx (m:=firstArgMember _ _) (wpAny_of_eq (a:=Value.none) (by first|rfl|(simp only[firstArgMember];rfl)) ?_);refine Qx7 ?_ (by size_fits);simp only[raiseNew];refine Qqx (wpAny_handled ?_);rw[hh];refine Qqx (Qq1 (wpAny_throw ?_));exact q _ _ (λb o e=>Qqj _ (Qqj _ e)) ⟨_,Qq7 _ rfl,rfl⟩
def OJ{I a:Addr}{first:Value}{i n ep:Nat}{Q:Option Value->Shared->Prop}(hI:s.heap.get? I=some (Pg first i a n ep))
  (h:wpAny (model P w) A.in1 (Builtin.«set_iterator.__next__» ⟨[.ref I],[]⟩) (λfin s'=>∃v,fin = .done (.ret v)/\Q (some v) s') (λe s'=>∃b,e = .ref b/\s'.TypeIs (.ref b) "StopIteration"/\Q none s') s):wpAny (model P w) A (pyNext (.ref I)) Q E s:=by
 have hT:s.TypeIs (.ref I) "set_iterator":=⟨_,hI,rfl⟩;unfold pyNext;refine Qqx (wpAny_attempt (wpAny_callSpecial?_slot (name:=Str.ofString "__next__") hT sU (Qz5 sU hT WR ?_ (aa2 _))));refine Qw9 h (λfin s' x=>?_) λe s' x=>?_
 ·obtain⟨v,rfl,y⟩:=x;exact⟨v,rfl,Qq1 y⟩
 ·obtain⟨b,rfl,ty,y⟩:=x;refine Qqx (wpAny_isInstance (T:="StopIteration") (b:=true) ty isSubtype_stop ?_);exact Qq1 y
structure Nr(P:Program)(w:World)(a:Addr)(o:Obj)(ep:Nat)(sl:Nat->Nat)(os:List Value):Prop where
 step:∀(A:Around) (E:Value->Shared->Prop) (s:Shared) (i:Nat) (v:Value) (Q:Option (Value×Nat)->Shared->Prop),s.heap.get? a=some o->os[i]? = some v->Q (some (v,sl (i+1))) s->wpAny (model P w) A (setNext a (sl i) i ep) Q E s
 stop:∀(A:Around) (E:Value->Shared->Prop) (s:Shared) (Q:Option (Value×Nat)->Shared->Prop),s.heap.get? a=some o->Q none s->wpAny (model P w) A (setNext a (sl os.length) os.length ep) Q E s
def Dg{I a:Addr}{o:Obj}{es:Array (Int×Value)}{ep:Nat}{t:SetTable}{sl:Nat->Nat}{os:List Value}(hh:A.handled=none)(hia:a≠I)(hd:o.data = .set es ep t)(hf:t.fits es.size=true)(hn:es.size=os.length)(B:Nr P w a o ep sl os) :
  WalksS P w A I [I,a] [I] (λg g'=>g'=g) os.length (λi v=>os[i]? = some v) (λi s=>s.heap.get? I=some (Pg (.int (sl i) 0) i a os.length ep)/\s.heap.get? a=some o) where
 sub:=λb z=>by simp at z;simp[z]
 grefl:=λ_=>rfl
 gtrans:=λ_ _ _ x y=>y.trans x
 frame:=λi s g tk st _ k=>⟨k I (by simp) _ st.1,k a (by simp) _ st.2⟩
 item:=λi s Q E hi st hQ=>by
  obtain⟨v,hv⟩:∃v,os[i]? = some v:=⟨os[i],by simp[hi]⟩;refine OJ st.1 (O1 st.1 st.2 hd hf hn ?_);dsimp only;refine Qqx ?_;rw[Qz9];refine B.step _ _ s i v _ st.2 hv ?_;dsimp only;refine Qqx (Qj4 st.1 (by simp) λg1 h1 e1=>?_);refine Qqx (Qj4 h1 (by simp) λg2 h2 e2=>?_);have kp:∀b u,b≠I->s.heap.get? b=some u->g2.get? b=some u:=λb u hb z=>(e2.2 b hb).trans ((e1.2 b hb).trans z);refine Qq1 ⟨v,rfl,hQ v _ hv ⟨?_,kp a _ hia st.2⟩ ⟨λb u hb z=>kp b u (λq=>hb (by simp[q])) z,rfl,rfl,rfl,Qq2 _⟩⟩;rw[h2];simp[Pg,rawInt]
 done:=λs Q E st hQ=>by
  refine OJ st.1 (O1 st.1 st.2 hd hf hn ?_);dsimp only;refine Qqx ?_;rw[Qz9];refine B.stop _ _ s _ st.2 ?_;dsimp only;refine Qqx (Qj4 st.1 (by simp) λg1 h1 e1=>?_);refine stop (s:={ s with heap:=g1 }) (by simpa using hh) λg e k he=>⟨e,rfl,he,?_⟩;exact hQ _ ⟨λb u hb z=>k b u ((e1.2 b (λq=>hb (by simp[q]))).trans z),rfl,rfl,rfl,Qq2 _⟩
 self:=λi s Q E st hQ=>N6 st.1 hQ
def Qw{I a T:Addr}{o oT:Obj}{es:Array (Int×Value)}{ep:Nat}{t:SetTable}{ps:List Nat}{os:List Value}(hh:A.handled=none)(hia:a≠I)(hit:T≠I)(hd:o.data = .set es ep t)(hf:t.fits es.size=true)(hn:es.size=os.length)
  {k:Nat} (hT:oT.data = .seq (ps.map λ(i:Nat)=>rawInt i).toArray k) (hp:ps.length=os.length) (ho:∀(i p:Nat) (v:Value),ps[i]? = some p->os[i]? = some v->∃h,es[p]? = some (h,v)) :
  WalksS P w A I [I,a,T] [I] (λg g'=>g'=g) os.length (λi v=>os[i]? = some v) (λi s=>s.heap.get? I=some (Pg (.ref T) i a os.length ep)/\s.heap.get? a=some o/\s.heap.get? T=some oT) where
 sub:=λb z=>by simp at z;simp[z]
 grefl:=λ_=>rfl
 gtrans:=λ_ _ _ x y=>y.trans x
 frame:=λi s g tk st _ k=>⟨k I (by simp) _ st.1,k a (by simp) _ st.2.1,k T (by simp) _ st.2.2⟩
 item:=λi s Q E hi st hQ=>by
  obtain⟨v,hv⟩:∃v,os[i]? = some v:=⟨os[i],by simp[hi]⟩;obtain⟨p,hpi⟩:∃p,ps[i]? = some p:=⟨ps[i]'(by omega),by simp[hp,hi]⟩;obtain⟨hs,hes⟩:=ho i p v hpi hv;refine OJ st.1 (O1 st.1 st.2.1 hd hf hn ?_);dsimp only;refine Qqx (wpAny_seqItems st.2.2 hT ?_);dsimp only;have hx:(ps.map λ(i:Nat)=>rawInt i).toArray[i]? = some (rawInt p):=by simp[hpi]
  rw[hx];dsimp only[rawInt];refine Qqx ?_;rw[Qz9];unfold setNextDrawn;refine Qqx (wpAny_setState_of st.2.1 hd hf ?_);dsimp only;rw[if_neg (by simp),hes];refine Qq1 ?_;refine Qqx (Qj4 st.1 (by simp) λg1 h1 e1=>?_);have kp:∀b u,b≠I->s.heap.get? b=some u->g1.get? b=some u:=λb u hb z=>(e1.2 b hb).trans z;refine Qq1 ⟨v,rfl,hQ v _ hv ⟨?_,kp a _ hia st.2.1,kp T _ hit st.2.2⟩ ⟨λb u hb z=>kp b u (λq=>hb (by simp[q])) z,rfl,rfl,rfl,Qq2 _⟩⟩;rw[h1];simp[Pg]
 done:=λs Q E st hQ=>by
  refine OJ st.1 (O1 st.1 st.2.1 hd hf hn ?_);dsimp only;refine Qqx (wpAny_seqItems st.2.2 hT ?_);dsimp only;have hx:(ps.map λ(i:Nat)=>rawInt i).toArray[os.length]? = none:=by simp[hp]
  rw[hx];dsimp only;refine Qqx (Qj4 st.1 (by simp) λg1 h1 e1=>?_);refine Qqx (Qj4 h1 (by simp) λg2 h2 e2=>?_);refine stop (s:={ s with heap:=g2 }) (by simpa using hh) λg e k he=>⟨e,rfl,he,?_⟩;exact hQ _ ⟨λb u hb z=>k b u ((e2.2 b (λq=>hb (by simp[q]))).trans ((e1.2 b (λq=>hb (by simp[q]))).trans z)),rfl,rfl,rfl,Qq2 _⟩
 self:=λi s Q E st hQ=>N6 st.1 hQ
end
theorem uX{α:Type}:∀{l:List α} {i:Nat} (h:i<l.length),(l[i]::l.eraseIdx i).Perm l
 | x::l,0,h=>by simp
 | x::l,i+1,h=>by
  have ih:=uX (l:=l) (i:=i) (by simpa using h);rw[List.getElem_cons_succ,List.eraseIdx_cons_succ];exact(List.Perm.swap _ _ _).trans (ih.cons x)
theorem Oj{α:Type}(next:Nat->Nat):∀(n k:Nat) (left:List α) (out:Array α),left.length=n->(pickOrder.go next n k left out).toList.Perm (out.toList++left)
 | 0,k,left,out,h=>by
  have:left=[]:=List.length_eq_zero_iff.mp h;subst this;simp[pickOrder.go]
 | n+1,k,left,out,h=>by
  have hl:next k % left.length<left.length:=Nat.mod_lt _ (by omega)
  have hx:left[next k % left.length]? = some left[next k % left.length]:=by simp[hl]
  unfold pickOrder.go;rw[hx];refine(Oj next n (k+1) _ _ (by rw[List.length_eraseIdx_of_lt hl];omega)).trans ?_;rw[Array.toList_push,Qww];refine List.Perm.append_left _ ?_;exact uX hl
def Rf{α:Type}(next:Nat->Nat)(xs:Array α):(pickOrder next xs).toList.Perm xs.toList:=by
 unfold pickOrder
 simpa using Oj next xs.size 0 xs.toList #[] (by simp)
section
variable{P:Program}{w:World}{A:Around}{E:Value->Shared->Prop}{s:Shared}
def wp_choose{src:Source}{n:Nat}{Q:Nat->Shared->Prop}(hn:n≠0)(h:∀i d,i<n->Q i { s with drawn:=d }):wpAny (model P w) A (choose src n) Q E s:=by intro Γ p _;show Sem.wp _ _ (.choose src n .pure) _ _ _ _;rw[Sem.wp];exact⟨hn,h _ _ (Nat.mod_lt _ (Nat.pos_of_ne_zero hn))⟩
theorem DY{α:Type}:∀(n:Nat) (xs:List α) (s:Shared) (Q:List α->Shared->Prop),xs.length=n->(∀ys d,ys.Perm xs->Q ys { s with drawn:=d })->wpAny (model P w) A (drawOrder n xs) Q E s
 | 0,xs,s,Q,h,q=>by
  have:xs=[]:=List.length_eq_zero_iff.mp h;subst this;unfold drawOrder;refine Qq1 ?_;have:=q [] s.drawn .rfl;cases s;exact this
 | n+1,x::xs,s,Q,h,q=>by
  unfold drawOrder;refine Qqx (wp_choose (by simp) λi d hi=>?_);have hx:(x::xs)[i]? = some ((x::xs)[i]):=by simp only[Qx4 hi]
  rw[hx];dsimp only;refine Qqx (DY n _ { s with drawn:=d } _ (by rw[List.length_eraseIdx_of_lt hi];simpa using h) λys d' p=>Qq1 ?_);exact q _ d' ((p.cons _).trans (uX hi))
def Xd{p:Array Nat}(h:p.size=1)(j:Nat):SetTable.below p j=if p.getD 0 j<j then 1 else 0:=by unfold SetTable.below;rw[h];unfold SetTable.below.go;rw[if_pos (by decide)];dsimp only;have:(0+1) / 2=0:=rfl;rw[this];split<;>rfl
def byText{Q:Bool->Shared->Prop}(h:Q (!led w) s):wpAny (model P w) A setsByText Q E s:=by unfold setsByText;refine Qqx (wpAny_askSetting (Qq1 ?_));rw[led,Bool.not_not] at h;exact h
def QV{a:Addr}{o:Obj}{es:Array (Int×Value)}{ep:Nat}{t:SetTable}(hd:o.data = .set es ep t)(hf:t.fits es.size=true)(hl:led w=false) :
  Nr P w a o ep (λ_=>0) ((pickOrder (w.params.setOrder a ep) es).toList.map (·.2)):=by
 have go:∀(A:Around) (E:Value->Shared->Prop) (s:Shared) (i:Nat) (Q:Option (Value×Nat)->Shared->Prop),s.heap.get? a=some o->Q (((pickOrder (w.params.setOrder a ep) es)[i]?).map λe=>(e.2,0)) s->wpAny (model P w) A (setNext a 0 i ep) Q E s:=by intro A E s i Q ho h;unfold setNext;refine Qqx (wpAny_setState_of ho hd hf ?_);dsimp only;refine Qqx (byText ?_);rw[hl];rw[if_pos (show(!false)=true from rfl),if_neg (by simp)];refine Qqx ?_;unfold setWalk;refine Qqx (wpAny_setState_of ho hd hf ?_);dsimp only;refine Qqx (byText ?_);rw[hl,if_pos (show(!false)=true from rfl)];exact Qqx (wpAny_askSetting (Qq1 (Qq1 h)))
 refine⟨λA E s i v Q ho hv h=>go A E s i Q ho ?_,λA E s Q ho h=>go A E s _ Q ho ?_⟩
 ·rw[Qx6,Array.getElem?_toList] at hv;obtain⟨e,he,rfl⟩:=Qw1.mp hv;rw[he];exact h
 ·have:(pickOrder (w.params.setOrder a ep) es)[((pickOrder (w.params.setOrder a ep) es).toList.map (·.2)).length]? = none:=by simp
  rw[this];exact h
def Ub{a:Addr}{o:Obj}{es:Array (Int×Value)}{ep:Nat}{t:SetTable}(hd:o.data = .set es ep t)(hf:t.fits es.size=true)(hw:led w=true)(hl:t.led=led w)(hz:¬es.size > 1) :
  Nr P w a o ep (λi=>if i=0 then 0 else t.place.getD 0 0+1) (es.toList.map (·.2)):=by
 have hp:t.place.size=es.size:=by simp only[SetTable.fits,Qwx,beq_iff_eq] at hf;exact hf.1
 have go:∀(A:Around) (E:Value->Shared->Prop) (s:Shared) (j i:Nat) (Q:Option (Value×Nat)->Shared->Prop),s.heap.get? a=some o->
   Q (match es[SetTable.below t.place j]?,t.place[SetTable.below t.place j]? with|some (_,x),some k=>some (x,k+1)|_,_=>none) s->wpAny (model P w) A (setNext a j i ep) Q E s:=by
  intro A E s j i Q ho h;unfold setNext;refine Qqx (wpAny_setState_of ho hd hf ?_);dsimp only;refine Qqx (byText ?_);rw[hw,if_neg (by simp)];show wpAny _ _ (if (!t.plain&&decide (es.size > 1))=true then _ else _) _ _ _;rw[if_neg (by rw[Qw6 hz];simp)];refine Qqx ?_;show wpAny _ _ (if (!t.led && !es.isEmpty)=true then _ else _) _ _ _;rw[if_neg (by rw[hl,hw];simp)];exact Qq1 (Qq1 h)
 have hc:es.size=0\/es.size=1:=by omega
 refine⟨λA E s i v Q ho hv h=>go A E s _ i Q ho ?_,λA E s Q ho h=>go A E s _ _ Q ho ?_⟩
 ·rcases hc with hc|hc
  ·have:es = #[]:=Array.size_eq_zero_iff.mp hc;subst this;simp at hv
  ·obtain⟨e,rfl⟩:∃e,es = #[e]:=Array.size_eq_one_iff.mp hc;obtain⟨p,pe⟩:∃p,t.place = #[p]:=Array.size_eq_one_iff.mp hp;have hi:i=0:=by
    rcases Nat.eq_zero_or_pos i with z|z
    ·exact z
    ·rw[Qjx (by simp;omega)] at hv;cases hv
   subst hi;simp at hv;subst hv;have hb:SetTable.below t.place 0=0:=by rw[Xd (by rw[pe];rfl)];simp
   simp only[if_pos];rw[hb,pe]
   simpa[pe] using h
 ·rcases hc with hc|hc
  ·have:es = #[]:=Array.size_eq_zero_iff.mp hc;subst this
   simpa using h
  ·obtain⟨e,rfl⟩:∃e,es = #[e]:=Array.size_eq_one_iff.mp hc;obtain⟨p,pe⟩:∃p,t.place = #[p]:=Array.size_eq_one_iff.mp hp;have hb:SetTable.below t.place (p+1)=1:=by rw[Xd (by rw[pe];rfl),pe];simp
   have hs:(if ([e].map (·.2)).length=0 then 0 else t.place.getD 0 0+1)=p+1:=by simp[pe]
   have hs':(if ((#[e]:Array (Int×Value)).toList.map (·.2)).length=0 then 0 else t.place.getD 0 0+1)=p+1:=hs;rw[hs',hb]
   simpa using h
def We{a:Addr}{ys:List Str}{Q:Value->Shared->Prop}(x:qI P w s.heap a ys)(hz:ys.length<64)
  (h:∀(g:Heap) (d:Drawn) (I:Addr) (fp:List Addr) (os:List Value) (St:Nat->Shared->Prop),(∀A':Around,A'.handled=none->WalksS P w A' I fp [I] (λg g'=>g'=g) os.length (λi v=>os[i]? = some v) St)->St 0 { s with heap:=g,drawn:=d }->
   (∀b∈fp,b=a\/s.heap.objs.size<=b)->s.heap.objs.size<=I->os.length=ys.length->(∃ss,StrsAre os ss/\ss.Perm ys)->(∀b o,s.heap.get? b=some o->g.get? b=some o)->Q (.ref I) { s with heap:=g,drawn:=d }) :
  wpAny (model P w) A (pyIter (.ref a)) Q E s:=by
 obtain⟨o,es,ep,t,ho,hx,hd,k⟩:=x;have hT:s.TypeIs (.ref a) "set":=⟨o,ho,hx.1⟩;have hlt:a<s.heap.objs.size:=Qq9 ho;have hn:es.size=ys.length:=k.size;obtain⟨ss,s1,s2⟩:=k.tx;refine wpAny_pyIter_slot hT PySem.F.slot_set_iter (Qz5 PySem.F.slot_set_iter hT WT ?_ (PySem.F.args_set_iter_1 _));unfold Builtin.«frozenset.__iter__» Builtin.Frozenset.slot0 slotArgs;simp only[List.isEmpty_nil,Bool.not_true,Bool.false_eq_true, ↓reduceIte,bind_assoc,Qj0,bne_self_eq_false];unfold Builtin.Frozenset.addrOf Builtin.Frozenset.sizeOf;refine Qqx (Qq1 ?_);dsimp only;refine Qqx (Qq1 ?_);refine Qqx (Qqx (wpAny_setEntries_of ho hd k.fit (Qq1 ?_)));refine Qqx ?_;unfold setDrawn;refine Qqx (wpAny_setState_of ho hd k.fit ?_);dsimp only;refine Qqx (byText (Qq1 ?_));show wpAny _ _ (if (!(!led w)&&(!t.plain&&decide (es.size > 1)))=true then _ else _) _ _ _;by_cases hl:led w=true
 ·by_cases hz1:es.size > 1
  ·have hp:t.plain=false:=k.pl (by omega);rw[if_pos (by rw[hl,hp,Qw2 hz1];rfl)];refine Qqx (DY _ _ s _ (by simp) λps d pp=>?_);refine Qqx (wpAny_newTuple ?_ (by rw[Qqz,pp.length_eq,List.length_range,hn];exact Qqy (Qj5 hz) (by decide)));refine Qqx (wpAny_setEpoch_of (Qqj _ ho) hd k.fit ?_);refine Qqx (Qx7 (Qq1 ⟨_,rfl,"set_iterator",_,⟨_,Qq7 _ rfl,rfl⟩,sU.lookup,?_⟩))
   let f:Nat->Value:=λp=>((es[p]?).map (·.2)).getD .none
   have ef:(List.range es.size).map f=es.toList.map (·.2):=by
    apply List.ext_getElem
    ·simp
    ·intro i h1 h2;have hi:i<es.size:=by simpa using h1
     simp[f,hi]
   have hos:(ps.map f).length=es.size:=by rw[Qqz,pp.length_eq,List.length_range]
   have hperm:(ps.map f).Perm (es.toList.map (·.2)):=by rw[<-ef];exact pp.map f
   obtain⟨rs,q1,q2⟩:=sH hperm s1;have sz:(s.heap.push { cls:=.type "tuple",data:=.seq (ps.map λ(i:Nat)=>rawInt i).toArray }).objs.size=s.heap.objs.size+1:=Qjv _ _;have e1:((s.heap.push { cls:=.type "tuple",data:=.seq (ps.map λ(i:Nat)=>rawInt i).toArray }).push (Pg (.ref s.heap.objs.size) 0 a es.size ep)).get? s.heap.objs.size=some { cls:=.type "tuple",data:=.seq (ps.map λ(i:Nat)=>rawInt i).toArray }:=
    Qqj _ (Qq7 _ rfl)
   have a1:a≠(s.heap.push { cls:=.type "tuple",data:=.seq (ps.map λ(i:Nat)=>rawInt i).toArray }).objs.size:=by rw[sz];exact Qw0 (Qjw hlt)
   have a2:s.heap.objs.size≠(s.heap.push { cls:=.type "tuple",data:=.seq (ps.map λ(i:Nat)=>rawInt i).toArray }).objs.size:=by rw[sz];exact Qw0 (Nat.lt_succ_self _)
   refine h _ d _ [_,a,s.heap.objs.size] (ps.map f) _ (λA' hA=>Qw (ps:=ps) hA a1 a2 hd k.fit hos.symm rfl (by rw[Qqz]) λi p v h1 h2=>?_) ⟨?_,Qqj _ (Qqj _ ho),e1⟩ (λb hb=>?_) (by rw[sz];exact Nat.le_succ _) (hos.trans hn) ⟨rs,q1,q2.trans s2⟩ λb u e=>Qqj _ (Qqj _ e)
   ·rw[Qx6,h1] at h2;simp only[Qk3,Qw4] at h2;have hm:p∈List.range es.size:=pp.mem_iff.mp (Qj7 h1);have hp:p<es.size:=Qxz.mp hm;refine⟨es[p].1,?_⟩;rw[<-h2];simp[f,hp]
   ·have:=Qq7 (s.heap.push { cls:=.type "tuple",data:=.seq (ps.map λ(i:Nat)=>rawInt i).toArray }) (o:=Pg (.ref s.heap.objs.size) 0 a (ps.map f).length ep) rfl;rw[hos] at this ⊢;exact this
   ·simp only[Qqw,Qwv,Qjz] at hb;rcases hb with rfl|rfl|rfl
    ·exact .inr (by rw[sz];exact Nat.le_succ _)
    ·exact .inl rfl
    ·exact .inr (Qq2 _)
  ·rw[if_neg (by rw[Qw6 hz1];simp)];refine Qqx (Qq1 ?_);refine Qqx (wpAny_setEpoch_of ho hd k.fit ?_);refine Qqx (Qx7 (Qq1 ⟨_,rfl,"set_iterator",_,⟨_,Qq7 _ rfl,rfl⟩,sU.lookup,?_⟩));have hos:(es.toList.map (·.2)).length=es.size:=by simp
   have e0:=Qq7 s.heap (o:=Pg (.int 0 0) 0 a (es.toList.map (·.2)).length ep) rfl;have:=h (s.heap.push (Pg (.int 0 0) 0 a (es.toList.map (·.2)).length ep)) s.drawn s.heap.objs.size [s.heap.objs.size,a] (es.toList.map (·.2)) _ (λA' hA=>Dg hA (Qw0 hlt) hd k.fit hos.symm (Ub hd k.fit hl k.ld hz1)) ⟨e0,Qqj _ ho⟩ (λb hb=>by
    simp only[Qqw,Qwv,Qjz] at hb;rcases hb with rfl|rfl
    ·exact .inr (Qq2 _)
    ·exact .inl rfl) (Qq2 _) (hos.trans hn) ⟨ss,s1,s2⟩ λb u e=>Qqj _ e
   rw[hos] at this;cases s;exact this
 ·have hl:led w=false:=by simpa using hl
  rw[if_neg (by rw[hl];simp)];refine Qqx (Qq1 ?_);refine Qqx (wpAny_setEpoch_of ho hd k.fit ?_);refine Qqx (Qx7 (Qq1 ⟨_,rfl,"set_iterator",_,⟨_,Qq7 _ rfl,rfl⟩,sU.lookup,?_⟩));have pk:=Rf (w.params.setOrder a ep) es;have hos:((pickOrder (w.params.setOrder a ep) es).toList.map (·.2)).length=es.size:=by rw[Qqz,pk.length_eq];simp
  obtain⟨rs,q1,q2⟩:=sH (pk.map (·.2)) s1;have e0:=Qq7 s.heap (o:=Pg (.int 0 0) 0 a ((pickOrder (w.params.setOrder a ep) es).toList.map (·.2)).length ep) rfl;have:=h (s.heap.push (Pg (.int 0 0) 0 a ((pickOrder (w.params.setOrder a ep) es).toList.map (·.2)).length ep)) s.drawn s.heap.objs.size [s.heap.objs.size,a] ((pickOrder (w.params.setOrder a ep) es).toList.map (·.2)) _ (λA' hA=>Dg hA (Qw0 hlt) hd k.fit hos.symm (QV hd k.fit hl)) ⟨e0,Qqj _ ho⟩ (λb hb=>by
   simp only[Qqw,Qwv,Qjz] at hb;rcases hb with rfl|rfl
   ·exact .inr (Qq2 _)
   ·exact .inl rfl) (Qq2 _) (hos.trans hn) ⟨rs,q1,q2.trans s2⟩ λb u e=>Qqj _ e
  rw[hos] at this;cases s;exact this
def Wi{r:Addr}{Q:Bool->Shared->Prop}(hT:s.TypeIs (.ref r) "set")(h:Q false s):wpAny (model P w) A (Builtin.List.listLengthHint (.ref r)) Q E s:=by
 unfold Builtin.List.listLengthHint;refine Qqx<|Qkx hT PySem.F.slot_set_len.lookup ?_;generalize hid:("set.__len__" : String)=id0
 wp_delta
 rw[show splitId id0=some ("set","__len__") from by subst hid;decide +kernel];subst hid;refine Qqx<|wpAny_isInstance (T:="set") (b:=true) hT (by rw[isSubtype_type];kernel_rfl) ?_;refine wpAny_ite_split (λz=>absurd z (by decide)) (λ_=>?_);refine wpAny_ite_split (λ_=>?_) (λz=>absurd (by decide +kernel) z);exact Qqx (wpAny_typeOf hT (Qq1 h))
def Wf{os:List Value}{acc:Array Value}(h:ItemsOf (λi v=>os[i]? = some v) acc os.length):acc.toList=os:=by
 apply List.ext_getElem?;intro i;rw[Array.getElem?_toList];by_cases hi:i<acc.size
 ·have e:acc[i]? = some acc[i]:=by simp[hi]
  rw[e,h.2 i _ e]
 ·have h1:acc[i]? = none:=by simp;omega
  have h2:os[i]? = none:=by simp;rw[<-h.1];omega
  rw[h1,h2]
def J1{a:Addr}{ys:List Str}{Q:List Value->Shared->Prop}(hh:A.handled=none)(x:qI P w s.heap a ys)(hz:ys.length<64)
  (h:∀(g:Heap) (d:Drawn) (tk:Nat) (os:List Value),(∃ss,StrsAre os ss/\ss.Perm ys)->os.length=ys.length->(∀b o,s.heap.get? b=some o->g.get? b=some o)->Q os { s with heap:=g,drawn:=d,toks:=tk }) :
  wpAny (model P w) A (collect (.ref a)) Q E s:=by
 have hT:∀h',qI P w h' a ys->Shared.TypeIs { s with heap:=h' } (.ref a) "set":=λh' ⟨o,_,_,_,e,r,_⟩=>⟨o,e,r.1⟩;have hlt:a<s.heap.objs.size:=let ⟨o,_,_,_,e,_⟩:=x;Qq9 e
 unfold collect;refine Qqx<|wpAny_runValue<|Qkz PySem.F.entry_proto_collect ?_;rw[Around.under_plainId PySem.F.plain_proto_collect _];show wpAny _ A.in1 (newList [] >>= λl=>again<|.builtin "list.__iadd__" ⟨[l,.ref a],[]⟩) _ _ s;refine Qqx<|Qx7<|Qq1 ⟨plainId_quiet PySem.F.plain_list_iadd _,Qkz PySem.F.entry_list_iadd ?_⟩;rw[Around.under_plainId PySem.F.plain_list_iadd _];have l0:(s.heap.push { cls:=.type "list",data:=.seq ([]:List Value).toArray }).get? s.heap.objs.size=some { cls:=.type "list",data:=.seq #[] }:=Qq7 _ rfl;have x0:qI P w (s.heap.push { cls:=.type "list",data:=.seq ([]:List Value).toArray }) a ys:=x.keep λo e=>Qqj _ e;show wpAny _ A.in1 (Builtin.List.listExtendWith (.ref s.heap.objs.size) (.ref a)<|.ref s.heap.objs.size) _ _ _;unfold Builtin.List.listExtendWith;refine Qqx<|wpAny_typeOf (T:="set") (hT _ x0) ?_;have n1:Builtin.List.listSameRef (.ref s.heap.objs.size) (.ref a)=false:=by simp[Builtin.List.listSameRef,Nat.ne_of_gt hlt]
 rw[if_neg (by rw[n1];decide)];refine Qqx<|We (s:={ s with heap:=s.heap.push { cls:=.type "list",data:=.seq ([]:List Value).toArray } }) x0 hz λg d I fp os St W st hfp hI hos hss kp=>?_;have sz:(s.heap.push { cls:=.type "list",data:=.seq ([]:List Value).toArray }).objs.size=s.heap.objs.size+1:=Qjv _ _;have kp0:∀b o,s.heap.get? b=some o->g.get? b=some o:=λb o e=>kp b o<|Qqj _ e;have l1:g.get? s.heap.objs.size=some { cls:=.type "list",data:=.seq #[] }:=kp _ _ l0;have hSf:s.heap.objs.size ∉ fp:=λz=>by
  rcases hfp _ z with e|e
  ·exact absurd e<|Nat.ne_of_gt hlt
  ·dsimp only at e;rw[sz] at e;exact absurd e<|Nat.not_succ_le_self _
 refine Qqx<|Qzz<|Wi (s:={ s with heap:=g,drawn:=d }) (let ⟨o,_,_,_,e,r,_⟩:=x.keep λo e=>kp0 _ o e;⟨o,e,r.1⟩) ?_;have W':=W A.in1 (by simpa using hh);have hn:os.length<=sizeLine:=by rw[hos];exact Qqy (Qj5 hz) (by decide)
 have key:∀g1 c,St 0 { s with heap:=g1,drawn:=d }->(∀b o,s.heap.get? b=some o->g1.get? b=some o)->g1.get? s.heap.objs.size=some { cls:=.type "list",data:=.seq #[] c }->
   codeAny (model P w) A (.builtin "list.extend.loop" ⟨[.ref s.heap.objs.size,.ref I,.ref s.heap.objs.size],[]⟩) (λr s'=>wants (λv s2=>wpAny (model P w) A ((match v with
    | .ref a=>do match (<-load a).data with
     | .seq xs _=>pure xs.toList
     | _=>unsupported "internal:collect"
    | _=>unsupported "internal:collect"):Sem (List Value)) Q E s2) E r s') { s with heap:=g1,drawn:=d }:=by
  intro g1 c st1 k1 l2;refine codeAny_extend_loopS W' hn s.heap.objs.size hSf (.ref s.heap.objs.size) os.length 0 _ #[] c rfl (Qzk _) st1 l2 (ItemsOf.nil _) λs' acc c' m hS hacc=>?_;show wpAny _ _ (load s.heap.objs.size >>= _) _ _ _;refine Qqx (wpAny_load hS (Qq1 ?_));rw[Wf hacc,Moved.eq_with m];refine h s'.heap d s'.toks os hss hos λb o e=>m.heap b o (λz=>?_) (k1 b o e);rcases Qqw.mp z with z|z
  ·exact absurd (Qq9 e) (by rw[z];exact Qz2 _)
  ·rw[Qwz.mp z] at e;have:=Qq9 e;dsimp only at hI;rw[sz] at hI;exact absurd (Qwy this (Qkk hI)) (Qz2 _)
 dsimp only;split
 ·refine Qqx (wpAny_rule (Qqx ?_));show wpAny _ _ (updateSeq s.heap.objs.size (·.push .none) >>= λ_=>updateSeq s.heap.objs.size (·.pop)) _ _ _;refine Qqx (wpAny_updateSeq l1 rfl ?_);have l2:=Heap.get?_update_self (Obj.mapSeq (·.push Value.none)) l1 rfl;refine wpAny_updateSeq (hz:=by seq_fits) l2 rfl ?_;have l3:=Heap.get?_update_self (Obj.mapSeq (·.pop)) l2 rfl;have oth:∀b o,b≠s.heap.objs.size->g.get? b=some o->((g.update s.heap.objs.size (Obj.mapSeq (·.push Value.none))).update s.heap.objs.size (Obj.mapSeq (·.pop))).get? b=some o:=λb o hb e=>
   (Heap.get?_update_other _ _ (Ne.symm hb)).trans ((Heap.get?_update_other _ _ (Ne.symm hb)).trans e)
  refine Qq1 ⟨plainId_quiet PySem.F.plain_extend_loop _,key _ _ ?_ (λb o e=>oth b o (Qw0 (Qq9 e)) (kp0 b o e)) l3⟩;exact W'.frame 0 { s with heap:=g,drawn:=d } _ _ st (Qq2 _) λb hb o e=>oth b o (λz=>hSf (z ▸ hb)) e
 ·exact Qq1 ⟨plainId_quiet PySem.F.plain_extend_loop _,key g _ st kp0 l1⟩
end
open PySem PySem.Spec PyProof.Rows L2 PySem.Builtin Ev
def _root_.L2.Inv.dr{X:Cx}{pins:List (Addr×Obj)}{σ:L2.St}{H:Hp}{s:Shared}(I:L2.Inv X pins σ H s)(d:Drawn):L2.Inv X pins σ H { s with drawn:=d }:=
 ⟨I.ok,I.os,I.bare,I.base,I.loc,I.cell,I.free,I.mz,I.pin,I.hok,I.len⟩
def Xm(P:Program)(w:World)(a:Addr)(ys:List Str):HO:=.ext λh=>qI P w h a ys
def agC(X:Cx):List V->Hp->VK->Prop:=λxs H Q=>∃(p:Addr) (zs:List (List Nat)),xs=[.ref p]/\lG X.K H p (zs.map λz=>V.str (Ev.strOf z))/\zs.length<64/\∀l,H l=none->Q (.ref l) (upd H l (Xm X.prog X.w l (yt (zs.map Ev.strOf))))
def Ux(X:Cx):List V->Hp->VK->Prop:=λxs H Q=>∃(p:Addr) (zs:List (List Nat)),xs=[.ref p]/\H p=some (Xm X.prog X.w p (zs.map Ev.strOf))/\zs.length<64/\∀l,H l=none->Q (.ref l) (upd H l (.lst ((fV zs).map λz=>V.str (Ev.strOf z))))
section
variable{X:Cx}{C:Cfg}{pos:Pos}
def W7(hc:X.calm=true):iu X (.type "set") (agC X):=by intro pins s σ H xs us Q I r h;obtain⟨p,zs,rfl,hq,hz,q⟩:=h;obtain⟨u,rfl,rx⟩:=vals1 r;cases rx;obtain⟨its,r',pl,_⟩:=I.list hq;have hS:StrsAre its (zs.map Ev.strOf):=ph r';refine ac2 (I.ok.hd hc) pl.isList (zs:=zs.map Ev.strOf) (by simpa using hS) (by rw[Qqz];exact Qzv (Nat.succ_le_of_lt hz) (by decide)) λg tk x k=>?_;refine⟨.ref s.heap.objs.size,_,I.laid (t':=tk) k (Qq2 _) (o:=Xm X.prog X.w s.heap.objs.size<|yt<|zs.map Ev.strOf) ⟨x,?_,λh1 h2 y kk=>y.keep kk⟩,rfl,q _<|I.hok.fresh<|Qq2 _⟩;obtain⟨o,_,_,_,e,_⟩:=x;exact⟨o,e⟩
def MN(hc:X.calm=true):iu X (.builtin "sorted") (Ux X):=by intro pins s σ H xs us Q I r h;obtain⟨p,zs,rfl,hq,hz,q⟩:=h;obtain⟨u,rfl,rx⟩:=vals1 r;cases rx;have x:qI X.prog X.w s.heap p (zs.map Ev.strOf):=(I.hok p _ hq).1;refine Calls.call_function_entry kind_sorted plain_sorted entry_sorted (args_sorted1 _) ?_;unfold Builtin.«sorted»;refine Qqx (m:=checkCount "sorted" 1 1 _) (Qq1 ?_);refine Qqx (J1 (A:=X.A.in1) (I.ok.hd hc) x (by rw[Qqz];exact hz) λh' d tk os hss hlen hk=>?_);obtain⟨ss,hS,pS⟩:=hss;rw[Qqz] at hlen;refine Qqx (wpAny_newList ?_ (by rw[hlen];exact Qqy (Qj5 hz) (by decide)));have hoL:(h'.push (seqObj "list" os.toArray 0)).get? h'.objs.size=some (seqObj "list" os.toArray 0):=Qq7 _ rfl;show wpAny _ _ _ _ _ { s with heap:=h'.push (seqObj "list" os.toArray 0),drawn:=d,toks:=tk };refine Qqx (Qzz (Qz5 slot_list_sort ⟨_,hoL,rfl⟩ entry_list_sort (list_sort_treeK strKind_oneLt hoL hS.keysOf (λv₁ v₂ rest e=>keyKind_strs (by rw[<-e];exact hS)) (by rw[hlen];exact hz) λst' b1 b2=>⟨_,rfl,?_⟩) (args_list_sort _)));obtain⟨ss',a1,a2,a3⟩:=sorted_out_str hS b1 b2;obtain⟨e,he⟩:=sortedHeap_at (out:=(arrOf st').map (·.2)) hoL;refine Qq1 ⟨_,rfl,?_⟩;have I1:L2.Inv X pins σ H { s with heap:=h',drawn:=d,toks:=tk }:=(I.kept hk).dr d;refine zW (s:={ s with heap:=h',drawn:=d,toks:=tk }) (tk:=tk) I1 hz q a1 (a2.trans pS) a3 (λb o e=>?_) (Qq2 _) he;have lt':=Qq9 e;rw[sortedHeap_old (Qw0 lt') (by rw[size_push'];exact Qjw lt')];exact Qqj _ e
end
def SQ(ys:List (List Nat))(x:List Nat):List (List Nat):=if x∈ys then ys else ys++[x]
def yu(zs:List (List Nat)):List (List Nat):=zs.foldl SQ []
def sJ{x y:List Nat}(h:Ev.strOf x=Ev.strOf y):x=y:=by
 have:=Qzw (λs:Str=>s.cps.toList) h
 simpa[Ev.strOf] using this
def Xh(ys:List (List Nat))(x:List Nat):(SQ ys x).map Ev.strOf=wG (ys.map Ev.strOf) (Ev.strOf x):=by
 unfold SQ wG;by_cases h:x∈ys
 ·rw[if_pos h,if_pos<|Qwk.mpr ⟨x,h,rfl⟩]
 ·rw[if_neg h,if_neg<|λz=>h (by obtain⟨y,hy,e⟩:=Qwk.mp z;rw[<-sJ e];exact hy),Qx1]
  rfl
theorem Hl:∀(zs ys:List (List Nat)),(zs.foldl SQ ys).map Ev.strOf=(zs.map Ev.strOf).foldl wG (ys.map Ev.strOf)
 | [],ys=>rfl
 | z::zs,ys=>by rw[Qx3,Hl zs,Xh,Qq8,Qx3]
def Dj(zs:List (List Nat)):(yu zs).map Ev.strOf=yt (zs.map Ev.strOf):=Hl zs []
theorem Di:∀(zs ys:List (List Nat)) (x:List Nat),x∈zs.foldl SQ ys↔x∈ys\/x∈zs
 | [],ys,x=>by simp
 | z::zs,ys,x=>by
  rw[Qx3,Di zs];unfold SQ;by_cases h:z∈ys
  ·rw[if_pos h,Qqw];constructor
   ·rintro(a|a)
    ·exact .inl a
    ·exact .inr<|.inr a
   ·rintro(a|rfl|a)
    ·exact .inl a
    ·exact .inl h
    ·exact .inr a
  ·rw[if_neg h,Qxx,Qwz,Qqw,or_assoc]
def Qx(zs:List (List Nat)):(yu zs).length<=zs.length:=by
 have h:=Hk (zs.map Ev.strOf) [];have e:=Qzw List.length<|Dj zs;rw[Qqz] at e;rw[e]
 simpa[yt] using h
end SX
namespace Ev
open PySem PySem.Spec PyProof.Rows L2 PySem.Builtin
def pH:D->Option D
 | .lst ds=>(gB ds).bind λzs=>if zs.length<64/\(∀z∈zs,z.length<=sizeLine) then some (.lst ((fV (SX.yu zs)).map .str)) else none
 | _=>none
section
variable{X:Cx}{C:Cfg}{pos p p2 pos2:Pos}{e:Expr}{a:Ev}
def Uw:List V->Hp->VK->Prop:=λxs H Q=>∃z:Str,xs=[.str z]/\z.length<=sizeLine/\∀l,H l=none->Q (.ref l) (upd H l (.tup (z.cps.toList.map λc=>V.str ⟨#[c]⟩)))
theorem zY:∀(cs:List Nat) (vs:List Value),vs.length=cs.length->(∀(j:Nat) (v:Value),vs[j]? = some v->∃(c:Nat) (u:Tok),cs[j]? = some c/\v=Value.str ⟨#[c]⟩ u)->Vals (cs.map λc=>V.str ⟨#[c]⟩) vs
 | [],vs,hl,_=>by rw[Qzy hl];exact .nil
 | c::cs,[],hl,_=>by simp at hl
 | c::cs,v::vs,hl,hv=>by
  obtain⟨c',u,e1,e2⟩:=hv 0 v rfl;simp at e1;subst e1 e2;exact .cons ⟨u,rfl⟩<|zY cs vs (by simpa using hl) λj w hw=>by simpa using hv (j+1) w (by simpa using hw)
def Sw(hh:X.calm=true):iu X (.type "tuple") Uw:=by
 intro pins s σ H xs us Q I r h;obtain⟨z,rfl,hz,q⟩:=h;obtain⟨u,rfl,⟨t,rfl⟩⟩:=vals1 r;refine call_tuple_str (I.ok.hd hh) z t (λh' tk acc kp hacc=>?_) (by simpa[Str.length] using hz);have I1:L2.Inv X pins σ H { s with heap:=h',toks:=tk }:=I.kept kp;have hv:Vals (z.cps.toList.map λc=>V.str ⟨#[c]⟩) acc.toList:=by obtain⟨hsz,hit⟩:=hacc;refine zY _ _ (by simpa using hsz) λj v hv=>?_;obtain⟨c,u,e1,e2⟩:=hit j v (by simpa using hv);exact⟨c,u,by simpa using e1,e2⟩
 have I2:=I1.laid (t':=tk) (h':=h'.push { cls:=.type "tuple",data:=.seq acc.toList.toArray }) (a:=h'.objs.size) (o:=.tup<|z.cps.toList.map λc=>V.str ⟨#[c]⟩) (λb o e=>Qqj _ e) (Qq2 _) ⟨by simpa[Str.length] using hz,acc.toList,hv,CV.new _ _⟩;have e:acc.toList.toArray=acc:=by simp
 rw[e] at I2;exact⟨.ref h'.objs.size,_,I2,rfl,q _<|I1.hok.fresh<|Qq2 _⟩
def Py:List D->Option D
 | [.str x]=>some (.tup (signs x))
 | _=>none
def aaM:CallD C Uw Py:=by
 intro Pr F env σ H ds d vs Q r hs h q;unfold Py at h;split at h
 ·rename_i x;cases h;obtain⟨v,rfl,hv⟩:=lu hs;obtain⟨rfl,hz⟩:=hv.str;refine⟨_,rfl,by rw[aU];exact hz,λl hl=>?_⟩;obtain⟨r2,s2⟩:=r.new hl;refine q _ _ _ r2 s2 ⟨by simpa[signs] using hz,l,_,rfl,qO.of aZ,?_⟩;have e:(strOf x).cps.toList=x:=by simp[strOf]
  rw[e];exact uD x
 ·cases h
structure PXL(X:Cx)(C:Cfg)(es:List Expr)(ev:dq):Prop where
 go:Nj X C es ev
def YW:PXL X C [] aj:=⟨Fv⟩
end
open PySem L2
def nr{α:Type}{a b:α}(h:a=b):a=b:=h
def bR{α β:Type}(a:α)(e:Env)(f:α->Env->R β):bindR (.ok a e) f=f a e:=nr rfl
def bO{α:Type}(a:α)(e:Env)(f:α->Env->Out):km (.ok a e) f=f a e:=nr rfl
def lR{α:Type}(a:α)(e:Env):fX (some a) e = .ok a e:=nr rfl
def stk{α:Type}(_:Env):R α:=.stuck
def rdO{α:Type}(o:Option (Option (Bool×D)))(f:Bool->D->R α):R α:=match o with
 | some (some (o,d))=>f o d
 | _=>.stuck
def rS{α:Type}(o:Bool)(d:D)(f:Bool->D->R α):rdO (some (some (o,d))) f=f o d:=nr rfl
def kRd(env:Env)(_:Bool)(d:D):R D:=.ok d env
def abU(env:Env)(o:Bool)(d:D):kRd env o d = .ok d env:=nr rfl
def WK(i:Nat)(env:Env):bz i env=rdO env[i]? (kRd env):=by unfold bz rdO;rfl
def Mq(g:D->D->Option D)(y:D)(e:Env)(_:Bool)(x:D):R D:=fX (g x y) e
def Mr(g:D->D->Option D)(i:Nat)(y:D)(e:Env):R D:=rdO e[i]? (Mq g y e)
def abW(g:D->D->Option D)(i:Nat)(b:Ev)(env:Env)(_:Bool)(_:D):R D:=bindR (b env) (Mr g i)
def V7(g:D->D->Option D)(y:D)(e:Env)(o:Bool)(x:D):Mq g y e o x=fX (g x y) e:=nr rfl
def V8(g:D->D->Option D)(i:Nat)(y:D)(e:Env):Mr g i y e=rdO e[i]? (Mq g y e):=nr rfl
def aaa(g:D->D->Option D)(i:Nat)(b:Ev)(env:Env)(o:Bool)(d:D):abW g i b env o d=bindR (b env) (Mr g i):=nr rfl
def WM(g:D->D->Option D)(i:Nat)(b:Ev)(env:Env):aA g i b env=rdO env[i]? (abW g i b env):=by unfold aA rdO;rfl
def agw(o:Out):Option D:=match o with
 | .rt false d _=>some d
 | .nx _=>some .non
 | _=>none
def ac5(n:Nat)(ev:cC)(ds:List D):dG n ev ds=agw (ev (envOf n ds)):=nr rfl
def dRt(d:D)(e:Env):agw (.rt false d e)=some d:=nr rfl
def zF{a b:List Nat}(h:a.length+b.length<=sizeLine):bK (.str a) (.str b)=some (.str (a++b)):=if_pos h
def aao{a b:List D}(h:a.length+b.length<=sizeLine):bK (.tup a) (.tup b)=some (.tup (a++b)):=if_pos h
def tD{a b:List D}(h:a.length+b.length<=sizeLine):bK (.lst a) (.lst b)=some (.lst (a++b)):=if_pos h
def Wo(xs:List D)(lo hi:Option Int):ae2 (.tup xs) lo hi=some (.tup (cutD xs lo hi)):=by
 show(if HT.fL xs.length 0 lo=0/\HT.fL xs.length xs.length hi=xs.length then some (D.tup xs) else some (D.tup<|cutD xs lo hi))=_;split
 ·rename_i h;unfold cutD;rw[h.1,h.2];simp
 ·rfl
def ahP(xs:List D)(k:Int):gM (.tup xs) (.int k)=ue xs k:=nr rfl
def ahQ(xs:List D)(k:Int):gM (.lst xs) (.int k)=ue xs k:=nr rfl
def atN{α:Type}(xs:List α)(k:Nat):ue xs (k:Int)=xs[k]?:=by
 cases h:xs[k]? with
 | some x=>exact dZ h
 | none=>
  have hl:=List.getElem?_eq_none_iff.mp h;unfold ue ixN;rw[if_pos (Int.natCast_nonneg k),if_neg (by omega)]
  rfl
def ae7(i j:Int):bK (.int i) (.int j)=some (.int (i+j)):=nr rfl
def ab2(a b:List Nat):nU (.str a) (.str b)=some (.bl (a == b)):=nr rfl
def ahL(a b:List Nat):Gm (.str a) (.str b)=some (.bl (!(a == b))):=nr rfl
def Wt(a b:Int):nU (.int a) (.int b)=some (.bl (a == b)):=nr rfl
def ahR(a b:Int):gGt (.int a) (.int b)=some (.bl (decide (b<a))):=nr rfl
def ahM(a b:List Nat):gLt (.str a) (.str b)=some (.bl (decide (a<b))):=nr rfl
def ae1(a b:Int):uO (.int a) (.int b)=some (.int (a - b)):=nr rfl
theorem ah0{α:Type}(p:α->Bool):∀l:List α,ou (l.map λa=>D.bl (p a))=some (l.map p)
 | []=>rfl
 | a::l=>by
  rw[Qq8];unfold ou;rw[ah0 p l]
  rfl
def JK{α:Type}(p:α->Bool)(l:List α):uQ [.lst (l.map λa=>D.bl (p a))]=some (.bl (l.all p)):=by show(ou _).map _=_;rw[ah0];simp[List.all_map]
def acV(n:Nat):iz 0 1 n=(List.range n).map λ(i:Nat)=>D.int (i:Int):=by
 unfold iz;apply Qz6;intro i _
 congr 1
 omega
def Yy{n:Nat}(h:n<2^62):nA [.int (n:Int)]=some ((List.range n).map λ(i:Nat)=>D.int (i:Int)):=by
 have hf:lD n=true:=by unfold lD;simp[Qwx,decide_eq_true_eq];omega
 show(if lD n=true then some (iz 0 1 (n:Int).toNat) else none)=_;rw[if_pos hf,Qz9,acV]
def ahv(d:D)(e:Env):Out:=.rt false d e
def aeL(d)(e):ahv d e = .rt false d e:=nr rfl
def Yq(a)(env):bA a env=km (a env) ahv:=nr rfl
def ab8(d)(env):jh d env = .ok d env:=nr rfl
def Qc(env):aj env = .ok [] env:=nr rfl
def Mp(d:D)(ds:List D)(e:Env):R (List D):=.ok (d::ds) e
def abV(r:dq)(d:D)(e:Env):R (List D):=bindR (r e) (Mp d)
def Jm(d)(ds)(e):Mp d ds e = .ok (d::ds) e:=nr rfl
def O8(r)(d)(e):abV r d e=bindR (r e) (Mp d):=nr rfl
def JT(a)(r)(env):aa a r env=bindR (a env) (abV r):=nr rfl
def V9(g:D->D->Option D)(x y:D)(e:Env):R D:=fX (g x y) e
def ahw(g:D->D->Option D)(b:Ev)(x:D)(e:Env):R D:=bindR (b e) (V9 g x)
def O9(g)(x y)(e):V9 g x y e=fX (g x y) e:=nr rfl
def V6(g)(b)(x)(e):ahw g b x e=bindR (b e) (V9 g x):=nr rfl
def Qd(g)(a b)(env):az g a b env=bindR (a env) (ahw g b):=nr rfl
def kUn{α β:Type}(g:α->Option β)(x:α)(e:Env):R β:=fX (g x) e
def abT{α β:Type}(g:α->Option β)(x)(e):kUn g x e=fX (g x) e:=nr rfl
def JV(g)(a)(env):aq g a env=bindR (a env) (kUn g):=nr rfl
def aaz(a)(env):dY a env=bindR (a env) (kUn nA):=nr rfl
def gt0{α:Type}(a)(l:List α):(a::l)[0]? = some a:=nr rfl
def gtS{α:Type}(a)(l:List α)(i):(a::l)[i+1]? = l[i]?:=nr rfl
theorem abR{α:Type}(enc)(ext:α->Env)(p)(out:α->D)(env:Env)(k:Nat):∀(l:List α) (vs:Env),vs.length=k->
  (∀a∈l,(ext a).length=k/\(∀vs:Env,vs.length=k->g (enc a) (env++vs)=some (env++ext a))/\c (env++ext a) = .ok (p a) (env++ext a)/\(p a=true->e (env++ext a) = .ok (out a) (env++ext a)))->
  ∃vs',vs'.length=k/\Cw g c e (l.map enc) (env++vs) = .ok ((l.filter p).map out) (env++vs')
 | [],vs,hv,_=>⟨vs,hv,rfl⟩
 | a::l,vs,hv,h=>by
  obtain⟨h1,h2,h3,h4⟩:=h a Qqv;obtain⟨vs',h5,h6⟩:=abR enc ext p out env k l (ext a) h1 λb hb=>h b<|Qq0 _ hb;refine⟨vs',h5,?_⟩;rw[Qq8];unfold Cw;rw[h2 vs hv];show bindR (c<|env++ext a) _=_;rw[h3,bR];cases hp:p a with
  | true=>rw[if_pos rfl,h4 hp,bR,h6,bR,List.filter_cons_of_pos hp,Qq8]
  | false=>rw[if_neg Qw3,h6,List.filter_cons_of_neg (by rw[hp];exact Qw3)]
def uU{α:Type}{lo n:Nat}(l:List α)(enc:α->D)(ext:α->Env)(p:α->Bool)(out:α->D)(hit:it env = .ok (l.map enc) aD)(hlo:aD.length=lo)
  (h:∀a∈l,(ext a).length=n - lo/\(∀vs:Env,vs.length=n - lo->g (enc a) (aD++vs)=some (aD++ext a))/\c (aD++ext a) = .ok (p a) (aD++ext a)/\(p a=true->e (aD++ext a) = .ok (out a) (aD++ext a)))
  (hz:l.length<=sizeLine):gb lo n it g c e env = .ok (.lst ((l.filter p).map out)) aD:=by
 obtain⟨vs',h5,h6⟩:=abR enc ext p out aD (n - lo) l (List.replicate (n - lo) none) Qzx h;have:=wC hit hlo h6<|Qqy (by rw[Qqz];exact List.length_filter_le _ _) hz;rw[this,<-hlo,List.take_left]
def o6{α:Type}{lo n:Nat}(l:List α)(enc:α->D)(out:α->D)(hit:it env = .ok (l.map enc) aD)(hlo:aD.length=lo)(hn:n=lo+1)
  (h:∀a∈l,e (aD++[some (false,enc a)]) = .ok (out a) (aD++[some (false,enc a)])) (hz:l.length<=sizeLine):gb lo n it (au lo) cP e env = .ok (.lst (l.map out)) aD:=by
 subst hn hlo;have:=uU (n:=aD.length+1) (g:=au aD.length) (c:=cP) l enc (λa=>[some (false,enc a)]) (λ_=>true) out hit rfl (λa ha=>⟨by simp,λvs hv=>?_,rfl,λ_=>h a ha⟩) hz
 ·rw[this,List.filter_eq_self.mpr<|λ_ _=>rfl]
 ·have hv:vs.length=1:=by omega
  obtain⟨v,rfl⟩:=List.length_eq_one_iff.mp hv;unfold au;rw[List.set_append_right _ _ (Qq2 _),Nat.sub_self]
  rfl
def Gs{α:Type}{lo n:Nat}{env aD:Env}(l:List α)(enc:α->D)(p:α->Bool)(out:α->D)(hit:it env = .ok (l.map enc) aD)(hlo:aD.length=lo)(hn:n=lo+1)
  (hc:∀a∈l,c (aD++[some (false,enc a)]) = .ok (p a) (aD++[some (false,enc a)]))
  (h:∀a∈l,p a=true->e (aD++[some (false,enc a)]) = .ok (out a) (aD++[some (false,enc a)])) (hz:l.length<=sizeLine):gb lo n it (au lo) c e env = .ok (.lst ((l.filter p).map out)) aD:=by
 subst hn hlo;refine uU l enc (λa=>[some (false,enc a)]) p out hit rfl (λa ha=>⟨by simp,λvs hv=>?_,hc a ha,λhp=>h a ha hp⟩) hz;have hv:vs.length=1:=by omega
 obtain⟨v,rfl⟩:=List.length_eq_one_iff.mp hv;unfold au;rw[List.set_append_right _ _ (Qq2 _),Nat.sub_self]
 rfl
open PySem PySem.Spec PyProof.Rows L2
section
variable{X:Cx}{C:Cfg}{pos:Pos}{x:Expr}{a:Ev}
def ae3:D->Option Int->Option Int->Option D
 | .str z,lo,hi=>some (.str (cutD z lo hi))
 | .tup xs,lo,hi=>some (.tup (cutD xs lo hi))
 | .lst xs,lo,hi=>some (.lst (cutD xs lo hi))
 | .arr xs,lo,hi=>some (.lst (cutD xs lo hi))
 | _,_,_=>none
def gk(a:Ev)(lo hi:Xx):Ev:=λenv=>bindR (a env) λd aD=>bindR (lo aD) λl eG=>bindR (hi eG) λu WN=>fX (ae3 d l u) WN
end
structure SX(X:Cx)(C:Cfg)(e:Expr)(ev:Ev):Prop where
 u:Ev.PX X C e ev
structure GZ(X:Cx)(C:Cfg)(e:Expr)(ev:Ev):Prop where
 u:Ev.Xr X C e ev
structure SXN(X:Cx)(C:Cfg)(e:Expr)(ev:Ev):Prop where
 u:Ev.XJ X C e ev
structure Kp(X:Cx)(C:Cfg)(e:Expr)(ev:gh):Prop where
 u:Ev.PXT X C e ev
structure SXW(X:Cx)(C:Cfg)(e:Expr)(ev:gh):Prop where
 u:Ev.PXW X C e ev
structure Kq(X:Cx)(C:Cfg)(e:List Expr)(ev:dq):Prop where
 u:Ev.Nj X C e ev
structure yo(X:Cx)(C:Cfg)(e:List Expr)(ev:dq):Prop where
 u:Ev.aba X C e ev
structure SXL(X:Cx)(C:Cfg)(e:List Expr)(ev:dq):Prop where
 u:Ev.PXL X C e ev
structure CZ(X:Cx)(C:Cfg)(e:Stmt)(ev:cC):Prop where
 u:Ev.Xo X C e ev
structure dR(X:Cx)(C:Cfg)(e:List Stmt)(ev:cC):Prop where
 u:Ev.Bx X C e ev
structure aa7(X:Cx)(C:Cfg)(e:List Expr)(ev:gh):Prop where
 u:Ev.S6 X C e ev
structure SXP(X:Cx)(C:Cfg)(e:Option Expr)(ev:Xx):Prop where
 u:Ev.PXP X C e ev
structure SXI(X:Cx)(C:Cfg)(tg e:Expr)(ev:dq):Prop where
 u:Ev.Xp X C tg e ev
structure SXG(X:Cx)(C:Cfg)(lo:Nat)(e:Expr)(ev:GV):Prop where
 u:Ev.XM X C lo e ev
structure aa8(X:Cx)(C:Cfg)(lo:Nat)(e:List Expr)(ev:XX):Prop where
 u:Ev.afI X C lo e ev
section
variable{X:Cx}{C:Cfg}{pos p px:Pos}{x y z:Expr}{a b c:Ev}{t u:gh}{i:Nat}{n:Str}{e:Expr}{es:List Expr}{ea:dq}{p2 pos2:Pos}
def ak(ha:SX X C e a)(hr:Kq X C es r)(hs:starEach (e::es) X.env=(false,eval e X.env)::starEach es X.env:=by rfl):Kq X C (e::es) (aa a r):=⟨Ev.Ac ha.u hr.u hs⟩
def aW(i)(hN:X.N[i]? = some n:=by rfl)(hv:wW X.env.scope n:=by first|exact .inl rfl|exact .inr (.inl rfl)|exact .inr (.inr rfl))(hd:jN n:=by decide)(hcd:t7 n:=by decide):SX X C (.Name n pos) (aM i):=⟨ade i hN hv hd hcd⟩
def fJ(i)(hr:Kq X C es r)(hN:X.N[i]? = some n:=by rfl)(hv:wW X.env.scope n:=by first|exact .inl rfl|exact .inr (.inl rfl)|exact .inr (.inr rfl))(hd:jN n:=by decide)(hcd:t7 n:=by decide)(hs:starEach (.Name n pos::es) X.env=(false,eval (.Name n pos) X.env)::starEach es X.env:=by rfl):Kq X C (.Name n pos::es) (aa (aM i) r):=ak (aW i hN hv hd hcd) hr hs
def ao  : Kq X C [] aj:=⟨Ev.Fv ⟩
def aN(h:SX X C e ev):GZ X C e ev:=⟨Ev.PX.b h.u⟩
def aK{i:Int}:SX X C (.Constant (.int i) j pos) (jh (.int i)):=⟨Ev.adl ⟩
def aC{st:Stmt}{rest:List Stmt}{a b:cC}(h1:CZ X C st a)(h2:dR X C rest b):dR X C (st::rest) (aP a b):=⟨(Io h1.u h2.u).imp λD σ H h=>by
 obtain⟨Pr,F,env,r,f⟩:=h;refine⟨Pr,F,env,r,?_⟩;unfold aP at f;cases e:a env with
 | nx e1=>rw[e] at f;exact λσ' H' F' r' s'=>⟨Pr,F',e1,r',f.mono s'⟩
 | rt o d e1=>rw[e] at f;cases o<;>exact f
 | bk e1=>rw[e] at f;exact f
 | ct e1=>rw[e] at f;exact f
 | stuck=>rw[e] at f;exact f⟩
def aF{st:Stmt}{a:cC}(h1:CZ X C st a):dR X C [st] a:=⟨zA h1.u⟩
def bh{lo:Nat}(i)(hnd:kO X.N=true:=by rfl)(hlo:Nat.ble lo i=true:=by rfl)(hfx:C.fx i=none:=by rfl)(hi:X.N[i]? = some n:=by rfl)(hx:Loc X.env.scope n:=by first|exact .inl rfl|exact .inr rfl)(hf:X.fn n=true\/X.env.scope.names.lookup n=some .local:=by first|exact .inl rfl|exact .inr rfl):SXG X C lo (.Name n pos) (au i):=⟨U8 (ig hnd) hi hx (Qjq hlo) hfx hf⟩
def aQ(z){x:Str}{j:Nat}(hz:x=strOf z:=by decide +kernel)(hl:z.length<=sizeLine:=by decide):SX X C (.Constant (.str x) j pos) (jh (.str z)):=⟨by
 subst hz;refine adH.imp λσ H Q h=>?_;obtain⟨Pr,F,env,env',d,r,e,q⟩:=h;cases e;exact q _ _ F r (aR.refl F) ⟨rfl,hl⟩⟩
def b7(i)(hN:X.N[i]? = some n:=by rfl)(hv:wW X.env.scope n:=by first|exact .inl rfl|exact .inr (.inl rfl)|exact .inr (.inr rfl))(hd:jN n:=by decide)(hcd:t7 n:=by decide):GZ X C (.Name n pos) (bz i):=⟨Y0 i hN hv hd hcd⟩
def cz{pos':Pos}(i)(he:SX X C e a)(hnd:kO X.N=true:=by rfl)(hfx:C.fx i=none:=by rfl)(hi:X.N[i]? = some n:=by rfl)(hx:Loc X.env.scope n:=by first|exact .inl rfl|exact .inr rfl)(hs:swapsWith e (some (.Name n pos')) pos.line X.env=pure false:=by rfl)(hf:X.fn n=true\/X.env.scope.names.lookup n=some .local:=by first|exact .inl rfl|exact .inr rfl):CZ X C (.Assign [.Name n pos'] e pos) (bF a (au i)):=⟨YK (ig hnd) hi hx hfx he.u hs hf⟩
def aV(h:SX X C e a):CZ X C (.Return (some e) pos) (bA a):=⟨(Vg h.u).imp λD σ H hq=>by
 obtain⟨Pr,F,env,r,f⟩:=hq;obtain⟨d,aD,e1,f1⟩:=cT f;exact⟨Pr,F,env,aD,d,r,e1,λv H1 F1 r1 s1 p1=>f1 v σ H1 F1 r1 s1 p1⟩⟩
def aY(h:GZ X C e a)(hs:BJ e X.env:=by rfl):yo X C [e] (aa a aj):=⟨(dX h.u jf hs).imp λσ H Q hq=>by
 obtain⟨Pr,F,env,env',ds,rl,e,q⟩:=hq;obtain⟨d1,aD,e1,e2⟩:=aO e;cases e2;exact⟨Pr,F,env,env',d1,rl,e1,λv H1 F1 r1 s1 p1=>q _ H1 F1 r1 s1 ⟨v,[],rfl,p1,rfl⟩⟩⟩
def bM(O:Own X.prog X.w X.K X.mg X.base n k ps (o9 X.K m g))(G:Good X C)(hr:gJ k' X.A)(ha:Kq X C (e::es) ea)(hn:∀env ds env',ea env = .ok ds env'->ds.length=m)(hk:Nat.ble k k'=true:=by rfl)(hg:Gl X n:=by rfl)(hdb:jN n:=by decide)(he:starEach (e::es) X.env=(false,eval e X.env)::starEach es X.env:=by rfl)(hpl:(backTo pos (starEach es X.env)).any (·.1)=false:=by rfl):SX X C (.Call (.Name n p) (e::es) [] pos) (aq g ea):=⟨by
 obtain⟨f,fd,h1,h2,h3,h4⟩:=O;rw[G.K] at h1;have h1':mY X.prog X.w X.K X.mg X.base BK k f fd ps (o9 C.K m g):=by rw[G.K];exact h1
 exact adf h1' (hr.mono<|Qjq hk) hg h2 h3 h4 ha.u hn hdb he hpl⟩
def cR(h:Kq X C es r):SX X C (.Tuple es k pos) (cU r):=⟨(adG h.u).imp λσ H Q hq=>by
 obtain⟨Pr,F,env,env',d,rl,e,q⟩:=hq;obtain⟨ds,aD,e1,e2⟩:=aO e;split at e2
 ·rename_i hz;cases e2;refine⟨Pr,F,env,env',ds,rl,e1,λvs H1 F1 r1 s1 p1=>⟨by rw[p1.length];exact hz,λp hp=>?_⟩⟩;obtain⟨r2,s2⟩:=r1.new hp;exact q _ _ _ r2 (s1.trans s2) ⟨hz,p,vs,rfl,qO.of aZ,bT.mono s2 _ _ p1⟩
 ·cases e2⟩
def bu{lo:Nat}(h1:SXG X C lo e g)(h2:aa8 X C lo es gs)(hs:(assignEach (e::es) X.env).map (·.2)=assign e X.env::(assignEach es X.env).map (·.2):=by rfl):aa8 X C lo (e::es) (bI g gs):=⟨(Vn h1.u h2.u hs).imp λv σ H Q h=>by
 obtain⟨Pr,F,env,env',ds,r,p,e,q⟩:=h;cases ds with
 | nil=>cases e
 | cons d ds=>
  obtain⟨u,w,rfl,p1,p2⟩:=p;obtain⟨aD,e1,e2⟩:=Qxy.mp e;refine⟨u,w,rfl,Pr,F,env,aD,d,r,p1,e1,λσ1 H1 F1 r1 s1 t1=>?_⟩;exact⟨Pr,F1,aD,env',ds,r1,bT.mono s1 _ _ p2,e2,λσ2 H2 F2 r2 s2 t2=>q σ2 H2 F2 r2 (s1.trans s2)<|t2.trans t1⟩⟩
def bN(h:SXN X C e ev):SX X C e ev:=⟨Ev.XJ.px h.u⟩
def dB(i)(G:Good X C)(hb:GZ X C y b)(hN:X.N[i]? = some n:=by rfl)(hv:wW X.env.scope n:=by first|exact .inl rfl|exact .inr (.inl rfl)|exact .inr (.inr rfl))(hs:wQ y:=by intro _ _;rfl)(hd:jN n:=by decide)(hcd:t7 n:=by decide):SX X C (.Subscript (.Name n px) y pos) (aA gM i b):=⟨adi i G.K hN hv hb.u hs hd hcd⟩
def iw{v:Str}{pv:Pos}(i:Nat)(O:Own X.prog X.w X.K X.mg X.base n k ps (vA X.K m g))(G:Good X C)(hr:gJ k' X.A)(ha:Kq X C es ea)(hn:∀env ds env',ea env = .ok ds env'->ds.length+1=m)(hk:Nat.ble k k'=true:=by rfl)(hN:X.N[i]? = some v:=by rfl)(hv:wW X.env.scope v:=by first|exact .inl rfl|exact .inr (.inl rfl)|exact .inr (.inr rfl))(hg:Gl X n:=by rfl)(hdb:jN n:=by decide)(he:starEach (.Name v pv::es) X.env=(false,eval (.Name v pv) X.env)::starEach es X.env:=by rfl)(hpl:(backTo pos (starEach es X.env)).any (·.1)=false:=by rfl)(hd:jN v:=by decide)(hcd:t7 v:=by decide):SX X C (.Call (.Name n p) (.Name v pv::es) [] pos) (dH g i ea):=⟨by
 obtain⟨f,fd,h1,h2,h3,h4⟩:=O;rw[G.K] at h1;have h1':mY X.prog X.w X.K X.mg X.base BK k f fd ps (vA C.K m g):=by rw[G.K];exact h1
 exact agY hN hv h1' (hr.mono<|Qjq hk) hg h2 h3 h4 ha.u hn hdb he hpl hd hcd⟩
def bW(o:Bi X C op g)(ha:SX X C x a)(hb:GZ X C y b):SX X C (.BinOp x op y pos) (az g a b):=⟨let ⟨_,h1,h2⟩:=o.ex;agW h1 h2 ha.u hb.u⟩
def cg(ha:SX X C e a)(hr:SXL X C es r)(hs:starEach (e::es) X.env=(false,eval e X.env)::starEach es X.env:=by rfl):SXL X C (e::es) (aa a r):=⟨⟨Ev.Ac ha.u hr.u.go hs⟩⟩
def c7(i)(o:Bi X C op g)(hb:GZ X C y b)(hN:X.N[i]? = some n:=by rfl)(hv:wW X.env.scope n:=by first|exact .inl rfl|exact .inr (.inl rfl)|exact .inr (.inr rfl))(hd:jN n:=by decide)(hcd:t7 n:=by decide):SX X C (.BinOp (.Name n px) op y pos) (aA g i b):=⟨let ⟨_,h1,h2⟩:=o.ex;adg i hN hv h1 h2 hb.u hd hcd⟩
def cI{c:Expr}{a b:List Stmt}{ea eb:cC}(hc:Kp X C c t)(ha:dR X C a ea)(hb:dR X C b eb):CZ X C (.If c a b pos) (d8 t ea eb):=⟨(abB hc.u ha.u hb.u).imp λD σ H h=>by
 obtain⟨Pr,F,env,r,f⟩:=h;obtain⟨k,aD,e1,f1⟩:=cT f;refine⟨Pr,F,env,aD,k,r,e1,λH1 F1 r1 s1=>?_⟩;split at f1
 ·rename_i hk;rw[if_pos hk];exact⟨Pr,F1,aD,r1,f1.mono s1⟩
 ·rename_i hk;rw[if_neg hk];exact⟨Pr,F1,aD,r1,f1.mono s1⟩⟩
def di(h:Kq X C es r):SXN X C (.List es pos) (cM r):=⟨Ev.Oe h.u⟩
def bJ  : dR X C [] b8:=⟨Ev.UT ⟩
def eE(G:Good X C)(h:SX X C x a):SXI X C tg x (gO a):=⟨YX G.K h.u⟩
def fM{b:Bool}:SX X C (.Constant (.bool b) j pos) (jh (.bl b)):=⟨Ev.agZ ⟩
def jm{elt tg iter:Expr}(N')(lo)(ok:nR X scope N')(G:Good X C)(hi:SXI X C tg iter it)(bg:∀X',kj X scope N' X'->SXG X' C lo tg g)(bc:∀X',kj X scope N' X'->aa7 X' C ifs cc)(be:∀X',kj X scope N' X'->SX X' C elt ee)(hs:∀x,foldedSetIterable iter X.env x=pure x:=by intro _;rfl):SXN X C (.ListComp elt [⟨tg,iter,ifs,0⟩] scope pos) (gb lo N'.length it g cc ee):=⟨Ev.aji N' lo ok G hi.u (λX1 h1=>(bg X1 h1).u) (λX1 h1=>(bc X1 h1).u) (λX1 h1=>(be X1 h1).u) hs⟩
def gA(G:Good X C)(hm:X.mg "len" = none)(ha:yo X C [e] ea)(hg:Gl X "len":=by rfl)(he:BJ e X.env:=by rfl):SX X C (.Call (.Name "len" p) [e] [] pos) (aq dD ea):=⟨nC (by rw[<-G.K];exact W8) afr hg hm PySem.boot_len ha.u (by decide) (by decide) he rfl⟩
def bZ(h:SX X C e a)(he:∀whole,isTrue e X.env whole=(do let v <-whole;standAt e.pos;holding [v] (truthy v)):=by intro _;rfl):Kp X C e (dw a):=⟨(adq h.u he).imp λσ H Q hq=>TX hq⟩
def dC{lo:Nat}:aa8 X C lo [] gG:=⟨Ev.U7 ⟩
def jG{lo:Nat}{k:Nat}(G:Good X C)(h:aa8 X C lo es gs)(hn:(assignEach es X.env).length=m:=by rfl)(hst:(assignEach es X.env).findIdx? (·.1)=none:=by rfl):SXG X C lo (.Tuple es k pos) (gj m gs):=⟨YZ G.calm G.K h.u hn hst⟩
def cZ:aa7 X C [] cP:=⟨Ev.U6 ⟩
def qd{tg iter:Expr}(G:Good X C)(hi:SXI X C tg iter it)(hg:SXG X C 0 tg g)(hb:dR X C body bs)(hp:PassesOwn (model X.prog X.w) X.A X.env X.xe:=by exact PassesOwn.never)(hs:∀x,foldedSetIterable iter X.env x=pure x:=by intro _;rfl):CZ X C (.For tg iter body [] pos) (jM it g bs):=⟨YM hp G.calm hi.u hg.u hb.u hs⟩
def jR(o:Cm X C op g)(ha:SX X C x a)(hb:GZ X C y b)(hm:behindInMarks op y=false:=by rfl):Kp X C (.Compare x [op] [y] pos) (dw (az g a b)):=⟨let ⟨_,h1,h2⟩:=o.ex;YJ h1 h2 ha.u hb.u hm⟩
def Ln{pos':Pos}(i)(he:SXN X C e a)(hnd:kO X.N=true:=by rfl)(hfx:C.fx i=none:=by rfl)(hi:X.N[i]? = some n:=by rfl)(hx:Loc X.env.scope n:=by first|exact .inl rfl|exact .inr rfl)(hs:swapsWith e (some (.Name n pos')) pos.line X.env=pure false:=by rfl)(hf:X.fn n=true\/X.env.scope.names.lookup n=some .local:=by first|exact .inl rfl|exact .inr rfl):CZ X C (.Assign [.Name n pos'] e pos) (lH i a):=⟨YL (ig hnd) hi hx hfx he.u hs hf⟩
def ji(G:Good X C)(hm:X.mg "tuple" = none)(ha:yo X C [e] ea)(hg:Gl X "tuple":=by rfl)(he:BJ e X.env:=by rfl):SX X C (.Call (.Name "tuple" p) [e] [] pos) (aq fZ ea):=⟨xQ (by rw[<-G.K];exact CK) W6 hg hm (by decide +kernel) ha.u (by decide) (by decide) he rfl⟩
def yq(G:Good X C)(ha:SX X C x a)(hb:GZ X C y b)(hs:wQ y:=by intro _ _;rfl):SX X C (.Subscript x y pos) (az gM a b):=⟨agX G.K ha.u hb.u hs⟩
def iT(i)(o:Cm X C op g)(hb:GZ X C y b)(hN:X.N[i]? = some n:=by rfl)(hv:wW X.env.scope n:=by first|exact .inl rfl|exact .inr (.inl rfl)|exact .inr (.inr rfl))(hm:behindInMarks op y=false:=by rfl)(hd:jN n:=by decide)(hcd:t7 n:=by decide):Kp X C (.Compare (.Name n px) [op] [y] pos) (dw (aA g i b)):=⟨by
 obtain⟨r,h1,h2⟩:=o.ex;exact(Og h1 (jF hN hv hd hcd) hb.u hm).imp λσ H Q h=>tM h2 σ H _<|TX h⟩
def lK(he:SX X C e a)(hg:SXG X C 0 tg g)(hs:swapsWithSole [tg] e pos.line X.env=pure false:=by rfl)(hw:swappedStores [tg] e X.env=pure none:=by rfl)(h1:(assignEach [tg] X.env).map (·.2)=[assign tg X.env]:=by rfl):CZ X C (.Assign [tg] e pos) (bF a g):=⟨(adx he.u hg.u hs hw h1).imp λD σ H h=>afy h⟩
def cY(h:SX X C e a):SXP X C (some e) (nT a):=⟨(Ze h.u).imp λσ H Q hq=>by
 obtain⟨Pr,F,env,env',o,r,e,q⟩:=hq;obtain⟨d,aD,e1,e2⟩:=aO e;refine⟨Pr,F,env,aD,d,r,e1,λv H1 F1 r1 s1 p1=>?_⟩;cases d with
 | int i=>cases e2;exact⟨i,p1,q H1 F1 r1 s1⟩
 | _=>cases e2⟩
def cj{a:gh}(h:Kp X C x a):Kp X C (.UnaryOp .Not x pos) (bV a):=⟨(adt h.u).imp λσ H Q hq=>by
 obtain⟨Pr,F,env,env',b,rl,e,q⟩:=hq;obtain⟨c,aD,e1,e2⟩:=aO e;cases e2;exact⟨Pr,F,env,env',c,rl,e1,λH1 F1 r1 s1=>q H1 F1 r1 s1⟩⟩
def j9{a:gh}(h:SXW X C e a):Kp X C e a:=⟨Ev.PXW.pt h.u⟩
def sY{tg:Expr}(hm:X.mg "range" = none)(ha:Kq X C [e] ea)(hl:∀env ds env',ea env = .ok ds env'->ds.length=1)(hg:Gl X "range":=by rfl)(hs:starEach [e] X.env=[(false,eval e X.env)]:=by rfl):SXI X C tg (.Call (.Name "range" p) [e] [] pos) (dY ea):=⟨Lx hg hm ha.u hl hs⟩
def mD(i)(o:Cm X C op g)(hb:GZ X C y b)(hN:X.N[i]? = some n:=by rfl)(hv:wW X.env.scope n:=by first|exact .inl rfl|exact .inr (.inl rfl)|exact .inr (.inr rfl))(hm:behindInMarks op y=false:=by rfl)(hd:jN n:=by decide)(hcd:t7 n:=by decide):SX X C (.Compare (.Name n px) [op] [y] pos) (aA g i b):=⟨by
 obtain⟨r,h1,h2⟩:=o.ex;exact(Oo h1 (jF hN hv hd hcd) hb.u hm).imp<|tM h2⟩
def il:SX X C (.Constant .none j pos) (jh .non):=⟨Ev.adh ⟩
def qg(ha:SX X C e a)(hr:yo X C es r)(hs:starEach (e::es) X.env=(false,eval e X.env)::starEach es X.env:=by rfl):yo X C (e::es) (aa a r):=⟨(dX ha.u hr.u hs).imp λσ H Q h=>by
  obtain⟨Pr,F,env,env',ds,rl,e,q⟩:=h;obtain⟨d1,aD,e1,e2⟩:=aO e;obtain⟨ds2,eG,e3,e4⟩:=aO e2;cases e4;refine⟨Pr,F,env,aD,d1,rl,e1,λv H1 F1 r1 s1 p1=>?_⟩;refine⟨Pr,F1,aD,env',ds2,r1,e3,λvs H2 F2 r2 s2 p2=>?_⟩;exact q _ H2 F2 r2 (s1.trans s2) ⟨v,vs,rfl,.inl<|Rep.mono s2 d1 v p1,p2⟩⟩
def mG(h:SX X C x a):SX X C (.BoolOp op [x] pos) a:=⟨adI h.u⟩
def ac4{apos cpos:Pos}(i)(G:Good X C)(he:SX X C e a)(hN:X.N[i]? = some n:=by rfl)(hv:wW X.env.scope n:=by first|exact .inl rfl|exact .inr (.inl rfl)|exact .inr (.inr rfl))(hs:swapsWith (.Call (.Attribute (.Name n px) "append" apos) [e] [] cpos) none pos.line X.env=pure false:=by rfl) (hfew:((backTo cpos (starEach [e] X.env)).all (λx=>!x.1)&&(backToKw cpos (keywordEach [] X.env)).all (λx=>x.1.isSome)
   && decide ([e].length+([]:List Keyword).length+(if ([]:List Keyword).isEmpty then 0 else 1)<30))=true:=by rfl) (hbase:attributeBase (.Name n px) "append" X.env (eval (.Name n px) X.env)=eval (.Name n px) X.env:=by rfl) (hline:(apos.endLine == cpos.line)=true:=by rfl) (hst:BJ e X.env:=by rfl) (hplain:(backTo cpos (starEach [] X.env)).any (·.1)=false:=by rfl) (hd:jN n:=by decide) (hcd:t7 n:=by decide):CZ X C (.Expr (.Call (.Attribute (.Name n px) "append" apos) [e] [] cpos) pos) (vq i a):=⟨YQ hN hv he.u G.K hs hfew hbase hline hst hplain hd hcd⟩
def iV  : SXP X C none iQ:=⟨Ev.U4 ⟩
def iW{rest:List Expr}(ha:SX X C x a)(hb:SX X C (.BoolOp .And (y::rest) pos) b):SX X C (.BoolOp .And (x::y::rest) pos) (jd a b):=⟨(adO ha.u hb.u).imp λσ H Q hq=>by
  obtain⟨Pr,F,env,env',k,rl,e,q⟩:=hq;obtain⟨c,aD,e1,e2⟩:=aO e;refine⟨Pr,F,env,aD,c,rl,e1,λv H1 F1 r1 s1 p1=>?_⟩;cases c with
  | bl z=>
   refine⟨z,p1,?_⟩;cases z with
   | true=>exact ahx ⟨Pr,F1,aD,env',k,r1,e2,λv2 H2 F2 r2 s2 p2=>q v2 H2 F2 r2 (s1.trans s2) p2⟩
   | false=>cases e2;exact ahy<|q _ H1 F1 r1 s1 rfl
  | _=>cases e2⟩
def iU{rest:List Expr}{a b:gh}(ha:Kp X C x a)(hb:SXW X C (.BoolOp .Or (y::rest) pos) b):SXW X C (.BoolOp .Or (x::y::rest) pos) (gQ a b):=⟨(pw_or ha.u hb.u).imp λσ H Q hq=>by
  obtain⟨Pr,F,env,env',k,rl,e,q⟩:=hq;obtain⟨c,aD,e1,e2⟩:=aO e;refine⟨Pr,F,env,aD,c,rl,e1,λH1 F1 r1 s1=>?_⟩;split at e2
  ·rename_i hc;rw[if_pos hc];cases e2;exact q H1 F1 r1 s1
  ·rename_i hc;rw[if_neg hc];exact⟨Pr,F1,aD,env',k,r1,e2,λH2 F2 r2 s2=>q H2 F2 r2<|s1.trans s2⟩⟩
def xm(G:Good X C)(hm:X.mg "all" = none)(ha:yo X C [e] ea)(hg:Gl X "all":=by rfl)(he:BJ e X.env:=by rfl):SX X C (.Call (.Name "all" p) [e] [] pos) (aq uQ ea):=⟨nC (by rw[<-G.K];exact SM G.calm) afs hg hm (by decide +kernel) ha.u (by decide) (by decide) he rfl⟩
def iC{a:gh}(h:Kp X C x a):SXW X C (.BoolOp .Or [x] pos) a:=⟨pw_or1 h.u⟩
def lE{p q pos:Pos}(hg:Gl X "isinstance")(hm:X.mg "isinstance" = none)(hgT:Gl X xT)(hmT:X.mg xT=none)(hvT:bootBuiltins xT=some (.type T))(hk:∀d,PySem.W.kitOne X.K (.type (TF d)) (.type T)=some (rY d T))(hK:X.K=C.K)(ha:SX X C e a)(hn:xT ≠ "__name__":=by decide)(hd:jN xT:=by decide)(he:starEach [e,.Name xT q] X.env=(false,eval e X.env)::starEach [.Name xT q] X.env:=by rfl):SX X C (.Call (.Name "isinstance" p) [e,.Name xT q] [] pos) (fj (oZ T) a):=⟨by
 refine(rN (W9 hk) hg hm boot_isinstance (dX ha.u (dX (Oq (v:=.ty T) hgT hmT hvT rfl hn hd) jf) he) (by decide) (by decide) he rfl).imp λσ H Q h=>?_;obtain⟨Pr,F,env,env',d,rl,e1,qq⟩:=h;obtain⟨d0,aD,e2,e3⟩:=aO e1;obtain⟨e4,rfl⟩:=cA e3;obtain⟨nc,rfl⟩:=aan e4;refine⟨Pr,F,env,env',d0,rl,e2,λv H1 F1 r1 s1 p1=>⟨d0,v,rfl,nc,?_,qq _ H1 F1 r1 s1 rfl⟩⟩;rw[hK];exact Rep.mono r1.fr d0 v p1⟩
def mZ{c:Expr}(h:Kp X C c t):aa7 X C [c] t:=⟨Zh h.u⟩
def aez(O:Own X.prog X.w X.K X.mg X.base n k ps (spN X.K m g))(G:Good X C)(hr:gJ k' X.A)(ha:Kq X C (e::es) ea)(hn:∀env ds env',ea env = .ok ds env'->ds.length=m)(hk:Nat.ble k k'=true:=by rfl)(hg:Gl X n:=by rfl)(hdb:jN n:=by decide)(he:starEach (e::es) X.env=(false,eval e X.env)::starEach es X.env:=by rfl)(hpl:(backTo pos (starEach es X.env)).any (·.1)=false:=by rfl):SXN X C (.Call (.Name n p) (e::es) [] pos) (aq g ea):=⟨by
 obtain⟨f,fd,h1,h2,h3,h4⟩:=O;rw[G.K] at h1;have h1':mY X.prog X.w X.K X.mg X.base BK k f fd ps (spN C.K m g):=by rw[G.K];exact h1
 exact YT h1' (hr.mono<|Qjq hk) hg h2 h3 h4 ha.u hn hdb he hpl⟩
def UL{rest:List Expr}{a b:gh}(ha:Kp X C x a)(hb:SXW X C (.BoolOp .And (y::rest) pos) b):SXW X C (.BoolOp .And (x::y::rest) pos) (uW a b):=⟨(pw_and ha.u hb.u).imp λσ H Q hq=>by
  obtain⟨Pr,F,env,env',k,rl,e,q⟩:=hq;obtain⟨c,aD,e1,e2⟩:=aO e;refine⟨Pr,F,env,aD,c,rl,e1,λH1 F1 r1 s1=>?_⟩;split at e2
  ·rename_i hc;rw[if_pos hc];exact⟨Pr,F1,aD,env',k,r1,e2,λH2 F2 r2 s2=>q H2 F2 r2<|s1.trans s2⟩
  ·rename_i hc;rw[if_neg hc];cases e2;exact q H1 F1 r1 s1⟩
def lL{x:Str}{u:Value}(d)(hg:Gl X x)(hm:X.mg x=some u)(rv:RelV v u)(hr:∀F,Rep C.K F d v)(hd:jN x:=by decide):SX X C (.Name x pos) (jh d):=⟨(Om hg hm rv hd).imp λσ H Q h=>by
  obtain⟨Pr,F,env,env',d,r,e,q⟩:=h;cases e;exact q _ _ F r (aR.refl F)<|hr F⟩
def jx{apos cpos:Pos}(G:Good X C)(ho:SX X C o a)(he:GZ X C e b)(hbase:attributeBase o "join" X.env (eval o X.env)=eval o X.env:=by rfl)(hs:BJ e X.env:=by rfl) (hfew:((backTo cpos (starEach [e] X.env)).all (λx=>!x.1)&&(backToKw cpos (keywordEach [] X.env)).all (λx=>x.1.isSome)
   && decide ([e].length+([]:List Keyword).length+(if ([]:List Keyword).isEmpty then 0 else 1)<30))=true:=by rfl) (hline:(apos.endLine == cpos.line)=true:=by rfl) (hplain:(backTo cpos (starEach [] X.env)).any (·.1)=false:=by rfl):SX X C (.Call (.Attribute o "join" apos) [e] [] cpos) (az fY a b):=⟨Y5 G.K ho.u he.u hbase hs hfew hline hplain⟩
def abo{lo hi:Option Expr}(G:Good X C)(ha:SX X C x a)(hl:SXP X C lo el)(hh:SXP X C hi eh):SX X C (.Subscript x (.Slice lo hi none p2) pos) (CG a el eh):=⟨agV G.K ha.u hl.u hh.u⟩
def Q6{a:gh}(h:Kp X C x a):SXW X C (.BoolOp .And [x] pos) a:=⟨pw_and1 h.u⟩
def Tp(ha:SX X C x a):SX X C (.UnaryOp .USub x pos) (fj aam a):=⟨agU acN acO ha.u⟩
def xj(o:Cm X C op g)(ha:SX X C x a)(hb:GZ X C y b)(hm:behindInMarks op y=false:=by rfl):SX X C (.Compare x [op] [y] pos) (az g a b):=⟨let ⟨_,h1,h2⟩:=o.ex;adm h1 h2 ha.u hb.u hm⟩
def Ab  : SXL X C [] aj:=⟨Ev.YW ⟩
def FT{a:dq}(h:SXL X C es a):SXN X C (.List es pos) (cM a):=⟨Ev.Oe h.u.go⟩
def Tt(i)(G:Good X C)(hb:GZ X C y b)(hN:X.N[i]? = some n:=by rfl)(hv:wW X.env.scope n:=by first|exact .inl rfl|exact .inr (.inl rfl)|exact .inr (.inr rfl))(hs:abb y:=by intro _ _;rfl)(hd:jN n:=by decide)(hcd:t7 n:=by decide):SX X C (.Subscript (.Name n px) y pos) (aA my i b):=⟨Va i G.u1 hN hv hb.u hs hd hcd⟩
def acz(G:Good X C)(hm:X.mg "max" = none)(ha:yo X C [e,e2] ea)(hg:Gl X "max":=by rfl)(he:starEach [e,e2] X.env=(false,eval e X.env)::starEach [e2] X.env:=by rfl)(hpl:(backTo pos (starEach [e2] X.env)).any (·.1)=false:=by rfl):SX X C (.Call (.Name "max" p) [e,e2] [] pos) (aq R6 ea):=⟨nC (SJ G.calm) afq hg hm (by decide +kernel) ha.u (by decide) (by decide) he hpl⟩
def Dr  : SXN X C (.Dict [] [] pos) Bc:=⟨Ev.U5 ⟩
def Tq(G:Good X C)(hm:X.mg "min" = none)(ha:yo X C [e,e2] ea)(hg:Gl X "min":=by rfl)(he:starEach [e,e2] X.env=(false,eval e X.env)::starEach [e2] X.env:=by rfl)(hpl:(backTo pos (starEach [e2] X.env)).any (·.1)=false:=by rfl):SX X C (.Call (.Name "min" p) [e,e2] [] pos) (aq JF ea):=⟨nC (Sy G.calm) afp hg hm (by decide +kernel) ha.u (by decide) (by decide) he hpl⟩
def Dd(G:Good X C)(hm:X.mg "sorted" = none)(ha:yo X C [e] ea)(hg:Gl X "sorted":=by rfl)(he:BJ e X.env:=by rfl):SX X C (.Call (.Name "sorted" p) [e] [] pos) (aq jB ea):=⟨Q8 G.K G.calm hg hm ha.u he rfl⟩
def U9{rest:List Expr}(ha:SX X C x a)(hb:SX X C (.BoolOp .Or (y::rest) pos) b):SX X C (.BoolOp .Or (x::y::rest) pos) (JQ a b):=⟨(ag1 ha.u hb.u).imp λσ H Q hq=>by
  obtain⟨Pr,F,env,env',k,rl,e,q⟩:=hq;obtain⟨c,aD,e1,e2⟩:=aO e;refine⟨Pr,F,env,aD,c,rl,e1,λv H1 F1 r1 s1 p1=>?_⟩;cases c with
  | bl z=>
   refine⟨z,p1,?_⟩;cases z with
   | true=>cases e2;exact ahx<|q _ H1 F1 r1 s1 rfl
   | false=>exact ahy ⟨Pr,F1,aD,env',k,r1,e2,λv2 H2 F2 r2 s2 p2=>q v2 H2 F2 r2 (s1.trans s2) p2⟩
  | _=>cases e2⟩
def aae{tg e2 e3:Expr}(hm:X.mg "range" = none)(ha:Kq X C [e,e2,e3] ea)(hl:∀env ds env',ea env = .ok ds env'->ds.length=3)(hg:Gl X "range":=by rfl)(hs:starEach [e,e2,e3] X.env=[(false,eval e X.env),(false,eval e2 X.env),(false,eval e3 X.env)]:=by rfl)(hs2:starEach [e2,e3] X.env=[(false,eval e2 X.env),(false,eval e3 X.env)]:=by rfl):SXI X C tg (.Call (.Name "range" p) [e,e2,e3] [] pos) (dY ea):=⟨Ls hg hm ha.u hl hs hs2⟩
def Yd(G:Good X C)(hm:X.mg "list" = none)(ha:yo X C [e] ea)(hg:Gl X "list":=by rfl)(he:BJ e X.env:=by rfl):SX X C (.Call (.Name "list" p) [e] [] pos) (aq DQ ea):=⟨xQ (by rw[<-G.K];exact MT G.calm) aaO hg hm (by decide +kernel) ha.u (by decide) (by decide) he rfl⟩
def abv{elt tg iter:Expr}(N'){spos py:Pos}(lo)(i)(ok:nR X scope N')(G:Good X C)(hi:SXI X C tg iter it)(bg:∀X',kj X scope N' X'->SXG X' C lo tg g)(bc:∀X',kj X scope N' X'->aa7 X' C ifs cc)(be:∀X',kj X scope N' X'->SX X' C elt ee)(hnd:kO X.N=true:=by rfl)(hfx:C.fx i=none:=by rfl)(hy:X.N[i]? = some n:=by rfl)(hx:Loc X.env.scope n:=by first|exact .inl rfl|exact .inr rfl)(hsw:swapsWith (.ListComp elt [⟨tg,iter,ifs,0⟩] scope pos) (some (.Name n py)) spos.line X.env=pure true:=by rfl)(hf:X.fn n=true\/X.env.scope.names.lookup n=some .local:=by first|exact .inl rfl|exact .inr rfl)(hs:∀x,foldedSetIterable iter X.env x=pure x:=by intro _;rfl):CZ X C (.Assign [.Name n py] (.ListComp elt [⟨tg,iter,ifs,0⟩] scope pos) spos) (lH i (gb lo N'.length it g cc ee)):=⟨Ev.ai2 N' lo i ok G hi.u (λX1 h1=>(bg X1 h1).u) (λX1 h1=>(bc X1 h1).u) (λX1 h1=>(be X1 h1).u) hnd hfx hy hx hsw hf hs⟩
def Pk{tg e2:Expr}(hm:X.mg "range" = none)(ha:Kq X C [e,e2] ea)(hl:∀env ds env',ea env = .ok ds env'->ds.length=2)(hg:Gl X "range":=by rfl)(hs:starEach [e,e2] X.env=[(false,eval e X.env),(false,eval e2 X.env)]:=by rfl)(hs2:starEach [e2] X.env=[(false,eval e2 X.env)]:=by rfl):SXI X C tg (.Call (.Name "range" p) [e,e2] [] pos) (dY ea):=⟨Lw hg hm ha.u hl hs hs2⟩
def Qv(G:Good X C)(hm:X.mg "divmod" = none)(ha:yo X C [e,e2] ea)(hg:Gl X "divmod":=by rfl)(he:starEach [e,e2] X.env=(false,eval e X.env)::starEach [e2] X.env:=by rfl)(hpl:(backTo pos (starEach [e2] X.env)).any (·.1)=false:=by rfl):SX X C (.Call (.Name "divmod" p) [e,e2] [] pos) (aq wu ea):=⟨nC J6 Sv hg hm (by decide +kernel) ha.u (by decide) (by decide) he hpl⟩
def Im(h:SXN X C e a):CZ X C (.Return (some e) pos) (zR a):=⟨(Vg h.u).imp λD σ H hq=>by
 obtain⟨Pr,F,env,r,f⟩:=hq;obtain⟨d,aD,e1,f1⟩:=cT f;exact⟨Pr,F,env,aD,d,r,e1,λv H1 F1 r1 s1 p1=>f1 v σ H1 F1 r1 s1 p1⟩⟩
def ahK{lo:Nat}(i)(h:SX X C ix ev)(hN:X.N[i]? = some n:=by rfl)(hv:wW X.env.scope n:=by first|exact .inl rfl|exact .inr (.inl rfl)|exact .inr (.inr rfl)) (ha:∀v,assign (.Subscript (.Name n px) ix pos) X.env v=(do
   let ov <-holding [v] (eval (.Name n px) X.env)
   let iv <-holding [v,ov] (eval ix X.env)
   standAt pos
   holding [v,ov,iv] (setItem ov iv v)
   release [v,ov,iv] []):=by intro _;rfl) (hd:jN n:=by decide) (hcd:t7 n:=by decide):SXG X C lo (.Subscript (.Name n px) ix pos) (aah i ev):=⟨adb hN hv h.u ha hd hcd⟩
def Yw{pos':Pos}(i)(G:Good X C)(hk:SX X C k ek)(he:SX X C e a)(hN:X.N[i]? = some n:=by rfl)(hv:wW X.env.scope n:=by first|exact .inl rfl|exact .inr (.inl rfl)|exact .inr (.inr rfl))(hs:swapsWith e (some (.Subscript (.Name n px) k pos')) pos.line X.env=pure false:=by rfl)(hd:jN n:=by decide)(hcd:t7 n:=by decide):CZ X C (.Assign [.Subscript (.Name n px) k pos'] e pos) (uv i ek a):=⟨U0 G.u1 hN hv hk.u he.u hs hd hcd⟩
def Yb(G:Good X C)(hm:X.mg "tuple" = none)(ha:yo X C [e] ea)(hg:Gl X "tuple":=by rfl)(he:BJ e X.env:=by rfl):SX X C (.Call (.Name "tuple" p) [e] [] pos) (aq Py ea):=⟨xQ (Sw G.calm) aaM hg hm (by decide +kernel) ha.u (by decide) (by decide) he rfl⟩
def m8{lo hi:Option Expr}(G:Good X C)(ha:SX X C x a)(hl:SXP X C lo el)(hh:SXP X C hi eh):SX X C (.Subscript x (.Slice lo hi none p2) pos) (gk a el eh):=⟨by
 have h:=Ip (pos:=pos) (p2:=p2) (Qq.or (Qq.or NT Lh)<|Qq.or (Qq.or Lh Uc) acY) ha.u hl.u hh.u;rw[G.K] at h;refine h.imp λσ H Q hq=>?_;obtain⟨Pr,F,env,env',d,r,e,q⟩:=hq;obtain⟨x,aD,e1,e2⟩:=aO e;obtain⟨l,eG,e3,e4⟩:=aO e2;obtain⟨u,WN,e5,e6⟩:=aO e4;obtain⟨e7,rfl⟩:=cA e6;refine⟨Pr,F,env,aD,x,r,e1,λv H1 F1 r1 s1 p1=>⟨Pr,F1,aD,eG,l,r1,e3,λH2 F2 r2 s2=>⟨Pr,F2,eG,env',u,r2,e5,λH3 F3 r3 s3=>?_⟩⟩⟩;have p3:=Rep.mono (s2.trans s3) _ _ p1;have q3:=λv H' F' r' s' p'=>q v H' F' r' (((s1.trans s2).trans s3).trans s') p';cases x with
 | str z=>
  cases e7;obtain⟨rfl,hz⟩:=p1;exact .inr<|.inr ⟨z,rfl,hz,q3 _ H3 F3 r3 (aR.refl _) ⟨rfl,Qqy (W2 _ _ _) hz⟩⟩
 | tup xs=>
  exact .inr<|.inl<|acZ r3 p3 (by rw[Wo];exact e7) q3
 | lst xs=>exact .inl<|Ud r3 (.inl p3) e7 q3
 | arr xs=>exact .inl<|Ud r3 (.inl p3) e7 q3
 | _=>cases e7⟩
def KJ(G:Good X C)(h1:X.mg "sorted" = none)(h2:X.mg "set" = none)(ha:SX X C e a)(g1:Gl X "sorted":=by rfl)(g2:Gl X "set":=by rfl)(he:BJ e X.env:=by rfl)(he2:starEach [.Call (.Name "set" p2) [e] [] pos2] X.env=(false,eval (.Call (.Name "set" p2) [e] [] pos2) X.env)::starEach [] X.env:=by rfl):SX X C (.Call (.Name "sorted" p) [.Call (.Name "set" p2) [e] [] pos2] [] pos) (fj pH a):=⟨by
 have i1:PE X (.Call (.Name "set" p2) [e] [] pos2) _:=Du (SX.W7 G.calm) g2 h2 (by decide +kernel) (dX ha.u jf he) (by decide) (by decide) he rfl;have i2:PE X (.Call (.Name "sorted" p) [.Call (.Name "set" p2) [e] [] pos2] [] pos) _:=rN (SX.MN G.calm) g1 h1 PyProof.Rows.boot_sorted (dX i1 jf he2) (by decide) (by decide) he2 rfl;refine i2.imp λσ H Q hq=>?_;obtain⟨Pr,F,env,env',d,r,e0,q⟩:=hq;obtain⟨x,aD,e1,e2⟩:=aO e0;obtain⟨e3,rfl⟩:=cA e2;refine⟨Pr,F,env,env',x,r,e1,λv H1 F1 r1 s1 p1=>?_⟩;unfold pH at e3;split at e3
 ·obtain⟨zs,e4,e5⟩:=Qxy.mp e3;split at e5
  ·rename_i hz;cases e5;obtain⟨z,b,ws,rfl,k1,k2⟩:=jg.lst r1.fr<|.inl p1;have e6:=kJ e4 k2;subst e6;show SX.agC X [.ref b] H1 λx H2=>SX.Ux X [x] H2 Q;refine⟨b,zs,rfl,by rw[G.K];exact lG.of k1,hz.1,λl hl=>?_⟩;rw[<-SX.Dj];have r2:=r1.fresh (o:=SX.Xm X.prog X.w l<|(SX.yu zs).map strOf) hl;have hz2:(SX.yu zs).length<64/\∀z∈SX.yu zs,z.length<=sizeLine:=
    ⟨Qzv (SX.Qx zs) hz.1,λz hm=>hz.2 z<|(SX.Di zs [] z).mp hm |>.resolve_left (by simp)⟩
   refine⟨l,SX.yu zs,rfl,aZ,hz2.1,λl2 hl2=>?_⟩;obtain⟨F2,r3,s2,p3⟩:=(r2.fresh hl2).keep<|Xv.of r2 hl2<|zV r2 hl2 hz2;exact q _ _ F2 r3 (s1.trans s2) p3
  ·cases e5
 ·cases e3⟩
def Ly{c x y:Expr}(hc:Kp X C c t)(ha:SX X C x a)(hb:SX X C y b):SX X C (.IfExp c x y pos) (My t a b):=⟨(Vr hc.u ha.u hb.u).imp λσ H Q hq=>by
 obtain⟨Pr,F,env,env',k,rl,e,q⟩:=hq;obtain⟨z,aD,e1,e2⟩:=aO e;refine⟨Pr,F,env,aD,z,rl,e1,λH1 F1 r1 s1=>?_⟩;split at e2
 ·rename_i hz;rw[if_pos hz];exact⟨Pr,F1,aD,env',k,r1,e2,λv2 H2 F2 r2 s2 p2=>q v2 H2 F2 r2 (s1.trans s2) p2⟩
 ·rename_i hz;rw[if_neg hz];exact⟨Pr,F1,aD,env',k,r1,e2,λv2 H2 F2 r2 s2 p2=>q v2 H2 F2 r2 (s1.trans s2) p2⟩⟩
def Y4(ha:SX X C x a):SX X C (.UnaryOp .Not x pos) (ab7 a):=⟨(adJ ha.u).imp λσ H Q hq=>by
 obtain⟨Pr,F,env,env',k,rl,e,q⟩:=hq;obtain⟨c,aD,e1,e2⟩:=aO e;refine⟨Pr,F,env,aD,c,rl,e1,λv H1 F1 r1 s1 p1=>?_⟩;cases c with
 | bl z=>cases e2;exact⟨z,p1,q _ H1 F1 r1 s1 rfl⟩
 | _=>cases e2⟩
end
end Ev
namespace L2
open PySem PySem.Spec PyProof.Rows
theorem O5{α:Type}(xs:List α):∀k,(List.replicate k xs).flatten.length=xs.length*k
 | 0=>rfl
 | k+1=>by rw[List.replicate_succ,List.flatten_cons,Qqq,O5 xs k,Nat.mul_succ];omega
end L2
namespace Ev
open PySem PySem.Spec PyProof.Rows L2
section
variable{X:Cx}{C:Cfg}
theorem bT.flat{K:Fg}(h:bT K F ds vs):∀k,bT K F (List.replicate k ds).flatten (List.replicate k vs).flatten
 | 0=>rfl
 | k+1=>by rw[List.replicate_succ,List.replicate_succ];exact h.append<|bT.flat h k
end
open PySem PySem.W PySem.Calls PyProof.Rows
section
variable{N:Nat}{r:Nat->Nat}
structure KB(N:Nat)(p:Array Nat):Prop where
 pos:1<=N
 perm:p.Perm (List.range N).toArray
end
end Ev
namespace ST
open PySem PyProof.Rows
section
variable{prog:Program}{w:World}{A:Around}{E:Value->Shared->Prop}{s:Shared}{kd:SortKind}{r:Keyed->Nat}{a₀:Array Keyed}
def Cmp(prog:Program)(w:World)(A:Around)(E:Value->Shared->Prop)(s:Shared)(kd:SortKind)(r:Keyed->Nat)(a₀:Array Keyed):Prop:=
 ∀x y,x∈a₀->y∈a₀->∀(st:SortSt) (Q:Option Bool->SortSt->Prop),kindOf st=kd->Q (some (decide (r x<r y))) st->wpS (model prog w) A E s (lt' x y) Q st
def bB(left:Bool)(r:Keyed->Nat)(key x:Keyed):Bool:=if left then decide (r x<r key) else !decide (r key<r x)
section
variable{left:Bool}{key:Keyed}{arr:Array Keyed}{base n:Nat}{st:SortSt}(C:Cmp prog w A E s kd r a₀)(hk:kindOf st=kd)(hkey:key∈a₀)(ajI:∀x∈arr,x∈a₀)(hb:base+n<=arr.size)
 (B:Nat->Bool) (hB:∀i (h:base+i<arr.size),i<n->bB left r key arr[base+i]=B i) (hm:∀i j,i<=j->j<n->B j=true->B i=true)
include C hk hkey ajI hb hB hm
end
end
section
variable{le:Keyed->Keyed->Prop}
structure J(le:Keyed->Keyed->Prop)(X Y out:List Keyed)(i j:Nat):Prop where
 hi:i<=X.length
 hj:j<=Y.length
 perm:out.Perm (X.take i++Y.take j)
 srt:out.Pairwise le
 low:∀x∈out,∀y∈X.drop i++Y.drop j,le x y
def Good(le:Keyed->Keyed->Prop)(X Y R:List Keyed):Prop:=R.Perm (X++Y)/\R.Pairwise le
end
section
variable{prog:Program}{w:World}{A:Around}{E:Value->Shared->Prop}{s:Shared}{kd:SortKind}{r:Keyed->Nat}{a₀:Array Keyed}
abbrev Tc(r:Keyed->Nat):Keyed->Keyed->Prop:=λx y=>r x<=r y
section
variable{a b:Array Keyed}{st:SortSt}(C:Cmp prog w A E s kd r a₀)(hk:kindOf st=kd)(ma:∀x∈a,x∈a₀)(mb:∀x∈b,x∈a₀)(hX:a.toList.Pairwise (Tc r))(hY:b.toList.Pairwise (Tc r))
 (hl:∀y∈b.toList,∀h:a.size - 1<a.toList.length,Tc r y a.toList[a.size - 1])
structure JS(r:Keyed->Nat)(a b o:Array Keyed)(i j:Nat):Prop where
 on:J (Tc r) a.toList b.toList o.toList i j
 hi:i+1<a.size
 hj:j<b.size
abbrev GD(r:Keyed->Nat)(a b R:Array Keyed):Prop:=Good (Tc r) a.toList b.toList R.toList
include hX in
include hX in
include hY hl in
include hY in
def P1(r:Keyed->Nat)(a b:Array Keyed)(n:Nat)(c:Option (Array Keyed))(o:Array Keyed)(i j:Nat):Prop:=match c with
 | some R=>GD r a b R
 | none=>JS r a b o i j/\n<=i+j
include C hk ma mb hX hY hl
end
end
section
variable{prog:Program}{w:World}{A:Around}{E:Value->Shared->Prop}{s:Shared}{kd:SortKind}{r:Keyed->Nat}{a₀:Array Keyed}
variable{a b:Array Keyed}{st:SortSt}(C:Cmp prog w A E s kd r a₀)(hk:kindOf st=kd)(ma:∀x∈a,x∈a₀)(mb:∀x∈b,x∈a₀)(hX:a.toList.Pairwise (Tc r))(hY:b.toList.Pairwise (Tc r))
 (hl:∀y∈b.toList,∀h:a.size - 1<a.toList.length,Tc r y a.toList[a.size - 1])
include C hk ma mb hX hY hl
end
abbrev H1:=Option (Array Keyed)×Nat×Nat×Array Keyed×Nat×Nat
abbrev H2:=Option (Array Keyed)×Nat×Nat×Array Keyed×Nat×Nat×Nat
abbrev H0:=Option (Array Keyed)×Nat×Nat×Array Keyed×Nat
abbrev geR(r:Keyed->Nat):Keyed->Keyed->Prop:=λx y=>r y<=r x
section
variable{prog:Program}{w:World}{A:Around}{E:Value->Shared->Prop}{s:Shared}{kd:SortKind}{r:Keyed->Nat}{a₀:Array Keyed}
variable{a b:Array Keyed}{st:SortSt}(C:Cmp prog w A E s kd r a₀)(hk:kindOf st=kd)(ma:∀x∈a,x∈a₀)(mb:∀x∈b,x∈a₀)(hX:a.toList.Pairwise (Tc r))(hY:b.toList.Pairwise (Tc r))
 (hl:∀y∈a.toList,∀h:0<b.toList.length,r b.toList[0]<=r y)
abbrev JH(r:Keyed->Nat)(a b o:Array Keyed)(m n:Nat):Prop:=J (geR r) a.toList.reverse b.toList.reverse o.toList (a.size - m) (b.size - n)
structure KS(r:Keyed->Nat)(a b o:Array Keyed)(m n:Nat):Prop where
 on:JH r a b o m n
 m0:0<m
 ml:m<=a.size
 n1:1<n
 nl:n<=b.size
include hX hY in
include hX hl in
include hX in
def P2(r:Keyed->Nat)(a b:Array Keyed)(k:Nat)(c:Option (Array Keyed))(m n:Nat)(o:Array Keyed):Prop:=match c with
 | some R=>GD r a b R
 | none=>KS r a b o m n/\m+n<=k
include C hk ma mb hX hY hl
end
section
variable{prog:Program}{w:World}{A:Around}{E:Value->Shared->Prop}{s:Shared}{kd:SortKind}{r:Keyed->Nat}{a₀:Array Keyed}
variable{a b:Array Keyed}{st:SortSt}(C:Cmp prog w A E s kd r a₀)(hk:kindOf st=kd)(ma:∀x∈a,x∈a₀)(mb:∀x∈b,x∈a₀)(hX:a.toList.Pairwise (Tc r))(hY:b.toList.Pairwise (Tc r))
 (hl:∀y∈a.toList,∀h:0<b.toList.length,r b.toList[0]<=r y)
include C hk ma mb hX hY hl
end
section
variable{prog:Program}{w:World}{A:Around}{E:Value->Shared->Prop}{s:Shared}{kd:SortKind}{r:Keyed->Nat}{a₀:Array Keyed}
structure Bs(kd:SortKind)(a₀:Array Keyed)(st:SortSt):Prop where
 perm:(arrOf st).Perm a₀
 fail:failedOf st=none
 kind:kindOf st=kd
abbrev A1:=Option (Option Nat)×Nat
abbrev A2:=Option (Option Nat)×Nat×Nat
def part(l:List Keyed)(b n:Nat):List Keyed:=(l.drop b).take n
end
end ST
namespace Ev
open PySem PySem.Spec PySem.W PySem.Calls PyProof.Rows L2
def FA(K:Fg)(x:Str)(st:Stmt):Prop:=∃(f:Addr) (oc kV doc pm cdv ct:Value) (od an:Option Addr) (osl:Array (Option Value)),PySem.W.nsIn K mainGlobals x=some (some (.ref f))/\
 K.lookup f=some ⟨oc,od,.func (PySem.W.fnOf x x (gw st) (cO st) (aL st) .none kV doc pm an cdv ct),osl⟩/\PySem.W.codeIn K cdv x=true/\PySem.W.keepIn K (.ref f)=true
theorem FA.mk{K:Fg}{st:Stmt}{oc kV doc pm cdv ct:Value}(a:PySem.W.nsIn K mainGlobals x=some (some (.ref f)))
  (l:K.lookup f=some ⟨oc,od,.func (PySem.W.fnOf x x (gw st) (cO st) (aL st) .none kV doc pm an cdv ct),osl⟩) (c:PySem.W.codeIn K cdv x=true) (k:PySem.W.keepIn K (.ref f)=true):FA K x st:=
 ⟨f,oc,kV,doc,pm,cdv,ct,od,an,osl,a,l,c,k⟩
theorem FA.at{K:Fg}{st:Stmt}(X:K.In h)(G:h.Ns mainGlobals mg)(F:FA K x st)
  (b:∀{kV doc pm} {an} {cdv ct} us,us.length=ps.length->bindArgs (PySem.W.fnOf x x (gw st) (cO st) (aL st) .none kV doc pm an cdv ct) ⟨us,[]⟩=pure (ps.zip us)):cV K mg x st ps:=by
 obtain⟨f,oc,kV,doc,pm,cdv,ct,od,an,osl,a,l,c,k⟩:=F;exact funAt X G a l c k<|λ_ _ _ _ _ _ us hl=>b us hl
theorem FA.law{K:Fg}{st:Stmt}(X:K.In h)(G:h.Ns mainGlobals mg)(hfa:mg x=some (.ref fa))(F:FA K x st)
  (b:∀{kV doc pm:Value} {an:Option Addr} {cdv ct:Value} (s:Shared) (v:Value),BindsTo s (PySem.W.fnOf x x (gw st) (cO st) (aL st) .none kV doc pm an cdv ct) ⟨[v],[]⟩ [(y,v)])
  (q:∀{fd:FuncData} (base:Heap),S8 K x x st fa fd->mY P w K mg base BK k fa fd [y] (o9 K 1 g)) :
  ∃fd:FuncData,(∀(s:Shared) (v:Value),BindsTo s fd ⟨[v],[]⟩ [(y,v)])/\∀base:Heap,K.In base->base.Ns mainGlobals mg->mY P w K mg base BK k fa fd [y] (o9 K 1 g):=by
 obtain⟨f,oc,kV,doc,pm,cdv,ct,od,an,osl,a,l,c,k⟩:=F;have e:=hfa.symm.trans<|Qk0 X G a;cases e;exact⟨_,b,λbase _ _=>q base<|Gq l c k⟩
open PySem PySem.Spec PyProof.Rows L2
section
variable{X:Cx}{C:Cfg}{pos apos cpos:Pos}
def zu:cC:=λ_=>.stuck
theorem uE{st:Stmt}:CZ X C st zu:=⟨λpins s σ H D I h=>by
 obtain⟨_,_,_,_,f⟩:=h;exact f.elim⟩
end
open PySem PySem.Spec PyProof.Rows L2 PySem.Builtin
instance (zs:List Int):Decidable (zs.Pairwise (·< ·)):=inferInstance
theorem Rel.grow{Pr F:Hp}(r:Rel C Pr F env σ H)(s:aR H H'):Rel C Pr F env σ H':=by refine⟨r.pr.trans s,r.fr.trans s,r.len,r.val,λj e he=>?_,r.apart,r.dj,r.fix⟩;obtain⟨a,h1,h2,h3,h4⟩:=r.own j e he;obtain⟨o,ho⟩:=h2.some;exact⟨a,h1,h2.mono (aR.refl F) (by rw[ho,s _ _ ho]),h3,h4⟩
theorem Rel.unset{Pr F:Hp}(r:Rel C Pr F env σ H)(hfx:C.fx i=none):Rel C Pr F (env.set i none) (σ.set i (some v)) H:=by
 have un:∀j x,(env.set i none)[j]? = some (some x)->j≠i/\env[j]? = some (some x):=λj x he=>by
  have hj:j≠i:=λz=>by
   subst z;have hl:j<env.length:=by
    have:=(Qq6.mp he).1
    rwa [Qw7] at this
   rw[Qwq hl] at he;cases he
  rw[Qq3 (Ne.symm hj)] at he;exact⟨hj,he⟩
 refine⟨r.pr,r.fr,by rw[Qw7,Qw7];exact r.len,λj e he=>?_,λj e he=>?_,λj k e f b hj hk g1 g2=>?_,r.dj,λj a hj=>?_⟩
 ·obtain⟨nj,he⟩:=un j _ he;rw[Qq3 (Ne.symm nj)];exact r.val j e he
 ·obtain⟨nj,he⟩:=un j _ he;rw[Qq3 (Ne.symm nj)];exact r.own j e he
 ·obtain⟨nj,hj⟩:=un j _ hj;obtain⟨nk,hk⟩:=un k _ hk;rw[Qq3 (Ne.symm nj)] at g1;rw[Qq3 (Ne.symm nk)] at g2;exact r.apart j k e f b hj hk g1 g2
 ·have hji:j≠i:=λz=>by rw[z,hfx] at hj;cases hj
  rw[Qq3 (Ne.symm hji)];exact r.fix j a hj
section
variable{X:Cx}{C:Cfg}
def JD:D->D->Option D
 | .lst z,.int i=>if 0<=i/\i<=100000/\z.length*i.toNat<=sizeLine then some (.lst (List.replicate i.toNat z).flatten) else none
 | _,_=>none
theorem ZM:pN C agD JD:=by
 intro Pr F env σ H x y d vx vy Q r px py e q;unfold JD at e;split at e
 ·rename_i z i;split at e
  ·rename_i hc;cases e;cases py.int;obtain⟨z1,a,vs,rfl,h1,h2⟩:=px.lst r.fr;refine⟨a,i,vs,rfl,rfl,h1,by omega,by omega,by rw[h2.length];exact hc.2.2,λp hp=>?_⟩;obtain⟨r2,s2⟩:=r.new hp;exact q _ _ _ r2 s2 ⟨by rw[O5];exact hc.2.2,p,_,rfl,aZ,bT.mono s2 _ _<|h2.flat _⟩
  ·cases e
 ·cases e
theorem afx:Bi X C .Mult JD:=⟨_,adZ,ZM⟩
end
theorem xP(he:SX X C e a)(hs:swapsWith e none pos.line X.env=pure false:=by rfl):CZ X C (.Expr e pos) (zU a):=⟨(Fw he.u hs).imp λD σ H hq=>by
 obtain⟨Pr,F,env,r,f⟩:=hq;obtain⟨d,aD,e1,f1⟩:=cT f;exact⟨Pr,F,env,aD,d,r,e1,λv H1 F1 r1 s1 p1=>f1 σ H1 F1 r1 s1⟩⟩
end Ev
namespace L2
open PySem PySem.Spec PySem.W PySem.Calls PyProof.Rows
theorem tY:∀ss n,Vals (ss.map V.str) (strsFrom n ss)
 | [],_=>.nil
 | s::ss,n=>.cons ⟨n,rfl⟩<|tY ss<|n+1
section
variable{X:Cx}
def ac7:V->List V->Hp->VK->Prop:=λx vs H Q=>∃z y,x = .str z/\vs=[.str y]/\(y.length == 0)=false/\z.length<=sizeLine/\(Txt.split z y).length<=sizeLine/\∀l,H l=none->Q (.ref l) (upd H l (.lst ((Txt.split z y).map .str)))
theorem VN:MtM X "str.split" ac7:=by
 intro pins s σ H x vs v us Q I rx rv h;obtain⟨z,y,rfl,rfl,hy,hz,hl,q⟩:=h;obtain⟨t,rfl⟩:=rx;obtain⟨u,rfl,t',rfl⟩:=rv.one;have hn:H s.heap.objs.size=none:=I.hok.fresh<|Qq2 _;have one:Txt.split z y=[z]->EP X pins σ Q (.ref s.heap.objs.size) { s with heap:=s.heap.push { cls:=Value.type "list",data:=Data.seq #[Value.str z t] } }:=λe=>by
  have q1:=q _ hn;rw[e] at q1;refine⟨.ref s.heap.objs.size,_,I.laid (λb o e=>Qqj _ e) (Qq2 _) (o:=.lst [.str z]) ⟨by show 1<=sizeLine;decide,[Value.str z t],0,.cons ⟨t,rfl⟩ .nil,?_⟩,rfl,q1⟩;exact Qq7 s.heap rfl
 by_cases c1:(decide (z.length<y.length)||decide (Builtin.Str.strKind z<Builtin.Str.strKind y))=true
 ·refine call_meets F.slot_str_split (Qkv s z t) F.entry_str_split (F.args_str_split_2 _ _) (meets_str_split_cannot_occur z y t t' c1) ?_;exact one (by unfold Txt.split;rw[if_pos c1])
 ·have c1':=Bool.eq_false_iff.mpr c1;by_cases c2:(Builtin.Str.occurrences z y 0 z.length<|z.length+1).isEmpty=true
  ·refine call_meets F.slot_str_split (Qkv s z t) F.entry_str_split (F.args_str_split_2 _ _) (meets_str_split_not_found z y t t' c1' hy c2) ?_;exact one (by unfold Txt.split;rw[if_neg c1,if_pos c2])
  ·have c2':=Bool.eq_false_iff.mpr c2;have e:Txt.split z y=Builtin.Str.partsBetween z (Builtin.Str.occurrences z y 0 z.length<|z.length+1) y.length:=by unfold Txt.split;rw[if_neg c1,if_neg c2]
   rw[e] at hl;refine call_meets F.slot_str_split (Qkv s z t) F.entry_str_split (F.args_str_split_2 _ _) (meets_str_split_sep z y t t' c1' hy c2' hz hl) ?_;have q1:=q _ hn;rw[e] at q1;generalize Builtin.Str.partsBetween z (Builtin.Str.occurrences z y 0 z.length<|z.length+1) y.length=ps at *;refine⟨.ref s.heap.objs.size,_,I.laid (λb o e=>Qqj _ e) (Qq2 _) (o:=.lst<|ps.map .str) ⟨by rw[Qqz];exact hl,strsFrom s.toks ps,0,tY ps _,?_⟩,rfl,q1⟩;exact Qq7 s.heap rfl
def YD:V->List V->Hp->VK->Prop:=λx vs H Q=>∃z y,x = .str z/\vs=[.str y]/\Q (.bl (decide (0+y.length<=z.length)&&Builtin.Str.subAt z y 0)) H
theorem RC:MtM X "str.startswith" YD:=by intro pins s σ H x vs v us Q I rx rv h;obtain⟨z,y,rfl,rfl,q⟩:=h;obtain⟨t,rfl⟩:=rx;obtain⟨u,rfl,t',rfl⟩:=rv.one;exact call_gives F.slot_str_startswith (Qkv s z t) F.entry_str_startswith (F.args_str_startswith_2 _ _) (gives_str_startswith z y t t') ⟨.bl _,H,I,rfl,q⟩
def agN:V->List V->Hp->VK->Prop:=λx vs H Q=>∃z y,x = .str z/\vs=[.str y]/\Q (.bl (decide (0+y.length<=z.length)&&Builtin.Str.subAt z y (z.length - y.length))) H
theorem ZZ:MtM X "str.endswith" agN:=by intro pins s σ H x vs v us Q I rx rv h;obtain⟨z,y,rfl,rfl,q⟩:=h;obtain⟨t,rfl⟩:=rx;obtain⟨u,rfl,t',rfl⟩:=rv.one;exact call_gives F.slot_str_endswith (Qkv s z t) F.entry_str_endswith (F.args_str_endswith_2 _ _) (gives_str_endswith z y t t') ⟨.bl _,H,I,rfl,q⟩
end
end L2
namespace Ev
open PySem PySem.Spec PySem.W PySem.Calls PyProof.Rows L2
def rn(x y:List Nat):List (List Nat):=(Txt.split (strOf x) (strOf y)).map λs=>s.cps.toList
def ik:D->D->Option D
 | .str x,.str y=>if y≠[]/\x.length<=sizeLine/\(rn x y).length<=sizeLine/\∀p∈rn x y,p.length<=sizeLine then some (.lst ((rn x y).map .str)) else none
 | _,_=>none
def sZ:D->D->Option D
 | .str x,.str y=>some (.bl (decide (0+(strOf y).length<=(strOf x).length)&&Builtin.Str.subAt (strOf x) (strOf y) 0))
 | _,_=>none
def DR:D->D->Option D
 | .str x,.str y=>some (.bl (decide (0+(strOf y).length<=(strOf x).length)&&Builtin.Str.subAt (strOf x) (strOf y) ((strOf x).length - (strOf y).length)))
 | _,_=>none
theorem yx{K:Fg}{F:Hp}:∀(ss:List Str),(∀p∈ss.map (λs=>s.cps.toList),p.length<=sizeLine)->bT K F ((ss.map λs=>s.cps.toList).map .str) (ss.map V.str)
 | [],_=>rfl
 | s::ss,h=>⟨V.str s,ss.map V.str,rfl,⟨by rw[sO],h _<|Qqv ..⟩,yx ss λp hp=>h p<|Qq0 _ hp⟩
section
variable{X:Cx}{C:Cfg}{o e:Expr}{a b:Ev}{apos cpos:Pos}
theorem pg(G:Good X C)(ho:SX X C o a)(he:GZ X C e b)(hbase:attributeBase o "split" X.env (eval o X.env)=eval o X.env:=by rfl)
  (hs:BJ e X.env:=by rfl)
  (hfew:((backTo cpos (starEach [e] X.env)).all (λx=>!x.1)&&(backToKw cpos (keywordEach [] X.env)).all (λx=>x.1.isSome)
   && decide ([e].length+([]:List Keyword).length+(if ([]:List Keyword).isEmpty then 0 else 1)<30))=true:=by rfl)
  (hline:(apos.endLine == cpos.line)=true:=by rfl) (hplain:(backTo cpos (starEach [] X.env)).any (·.1)=false:=by rfl) :
  SX X C (.Call (.Attribute o "split" apos) [e] [] cpos) (az ik a b):=⟨by
 refine(yC PySem.F.plainAttrs_str PySem.F.slot_str_split PySem.F.type_str_split VN ho.u (dX he.u jf hs) hbase hfew hline hs hplain).imp λσ H Q hq=>?_;obtain⟨Pr,F,env,env',d,r,e0,q⟩:=hq;obtain⟨x,aD,e1,e2⟩:=aO e0;obtain⟨y,eG,e3,e4⟩:=aO e2;obtain⟨e5,rfl⟩:=cA e4;unfold ik at e5;split at e5
 ·rename_i z y;split at e5
  ·rename_i hz;obtain⟨g1,g2,g3,g4⟩:=hz;cases e5;refine⟨Pr,F,env,aD,_,r,e1,λvx H1 F1 r1 s1 p1=>?_⟩;obtain⟨rfl,_⟩:=p1;refine⟨rfl,Pr,F1,aD,env',_,r1,e3,λvy H2 F2 r2 s2 p2=>?_⟩;obtain⟨rfl,_⟩:=p2.str;refine⟨strOf z,strOf y,rfl,rfl,?_,by rw[aU];exact g2,by unfold rn at g3;rw[Qqz] at g3;exact g3,λl hl=>?_⟩
   ·rw[aU,Qwj];exact λz=>g1<|List.length_eq_zero_iff.mp z
   ·obtain⟨F3,r3,s3,p3⟩:=(r2.fresh hl).keep<|Xv.of r2 hl<|show kh C.K F2 (upd H2 l<|.lst<|(Txt.split (strOf z)<|strOf y).map .str) (.lst<|(rn z y).map .str) l from⟨by rw[Qqz];exact g3,_,aZ,yx _ g4⟩;exact q _ _ F3 r3 (s1.trans<|s2.trans s3) p3
  ·cases e5
 ·cases e5⟩
theorem Qu(G:Good X C)(ho:SX X C o a)(he:GZ X C e b)(hbase:attributeBase o "startswith" X.env (eval o X.env)=eval o X.env:=by rfl)
  (hs:BJ e X.env:=by rfl)
  (hfew:((backTo cpos (starEach [e] X.env)).all (λx=>!x.1)&&(backToKw cpos (keywordEach [] X.env)).all (λx=>x.1.isSome)
   && decide ([e].length+([]:List Keyword).length+(if ([]:List Keyword).isEmpty then 0 else 1)<30))=true:=by rfl)
  (hline:(apos.endLine == cpos.line)=true:=by rfl) (hplain:(backTo cpos (starEach [] X.env)).any (·.1)=false:=by rfl) :
  SX X C (.Call (.Attribute o "startswith" apos) [e] [] cpos) (az sZ a b):=⟨by
 refine(yC PySem.F.plainAttrs_str PySem.F.slot_str_startswith PySem.F.type_str_startswith RC ho.u (dX he.u jf hs) hbase hfew hline hs hplain).imp λσ H Q hq=>?_;obtain⟨Pr,F,env,env',d,r,e0,q⟩:=hq;obtain⟨x,aD,e1,e2⟩:=aO e0;obtain⟨y,eG,e3,e4⟩:=aO e2;obtain⟨e5,rfl⟩:=cA e4;unfold sZ at e5;split at e5
 ·rename_i z y;cases e5;refine⟨Pr,F,env,aD,_,r,e1,λvx H1 F1 r1 s1 p1=>?_⟩;obtain⟨rfl,_⟩:=p1;refine⟨rfl,Pr,F1,aD,env',_,r1,e3,λvy H2 F2 r2 s2 p2=>?_⟩;obtain⟨rfl,_⟩:=p2.str;exact⟨strOf z,strOf y,rfl,rfl,q _ H2 F2 r2 (s1.trans s2) rfl⟩
 ·cases e5⟩
theorem Yg(G:Good X C)(ho:SX X C o a)(he:GZ X C e b)(hbase:attributeBase o "endswith" X.env (eval o X.env)=eval o X.env:=by rfl)
  (hs:BJ e X.env:=by rfl)
  (hfew:((backTo cpos (starEach [e] X.env)).all (λx=>!x.1)&&(backToKw cpos (keywordEach [] X.env)).all (λx=>x.1.isSome)
   && decide ([e].length+([]:List Keyword).length+(if ([]:List Keyword).isEmpty then 0 else 1)<30))=true:=by rfl)
  (hline:(apos.endLine == cpos.line)=true:=by rfl) (hplain:(backTo cpos (starEach [] X.env)).any (·.1)=false:=by rfl) :
  SX X C (.Call (.Attribute o "endswith" apos) [e] [] cpos) (az DR a b):=⟨by
 refine(yC PySem.F.plainAttrs_str PySem.F.slot_str_endswith PySem.F.type_str_endswith ZZ ho.u (dX he.u jf hs) hbase hfew hline hs hplain).imp λσ H Q hq=>?_;obtain⟨Pr,F,env,env',d,r,e0,q⟩:=hq;obtain⟨x,aD,e1,e2⟩:=aO e0;obtain⟨y,eG,e3,e4⟩:=aO e2;obtain⟨e5,rfl⟩:=cA e4;unfold DR at e5;split at e5
 ·rename_i z y;cases e5;refine⟨Pr,F,env,aD,_,r,e1,λvx H1 F1 r1 s1 p1=>?_⟩;obtain⟨rfl,_⟩:=p1;refine⟨rfl,Pr,F1,aD,env',_,r1,e3,λvy H2 F2 r2 s2 p2=>?_⟩;obtain⟨rfl,_⟩:=p2.str;exact⟨strOf z,strOf y,rfl,rfl,q _ H2 F2 r2 (s1.trans s2) rfl⟩
 ·cases e5⟩
end
end Ev
namespace L2
open PySem PySem.Spec PySem.W PySem.Calls PyProof.Rows
theorem Zq{X:Cx}{a b:Expr}{ta tb:TE}{c:Str}{j:Nat}{p1 p2 p3 pos:Pos}(ha:PE X a ta)(hb:PE X b tb) :
  PE X (.JoinedStr [.FormattedValue a (-1) none p1,.Constant (.str c) j p2,.FormattedValue b (-1) none p3] pos)
   (λσ H Q=>ta σ H λx H1=>∃u,x = .str u/\u.length<=sizeLine/\(u++c).length<=sizeLine/\tb σ H1 λy H2=>∃v,y = .str v/\v.length<=sizeLine/\(u++c++v).length<=sizeLine/\Q (.str (u++c++v)) H2):=by
 intro pins s σ H Q I h;refine JoinedStr_many<|joinParts_cons<|FormattedValue_plain<|fU (ha pins s σ H _ I h) λv s1 ⟨x,H1,I1,rx,u,ex,hu,hc,h1⟩=>?_;subst ex;obtain⟨t,rfl⟩:=rx;have e0:Str.empty++u=u:=by have h:=Ev.gU [] u.cps.toList;rw[Ev.sO,Qz4,Ev.sO] at h;exact h
 refine formatField_str (λt' tk=>?_) hu;show(Str.empty++u).length<=sizeLine/\_;rw[e0];refine⟨hu,joinParts_cons<|Calls.Constant_str ?_⟩;refine⟨hc,joinParts_consE<|joinParts_cons<|FormattedValue_plain<|fU (hb pins _ σ H1 _ (I1.tok _) h1) λv2 s2 ⟨y,H2,I2,ry,w,ey,hw,hl,h2⟩=>?_⟩;subst ey;obtain⟨t2,rfl⟩:=ry;refine formatField_str (λt' tk=>?_) hw;refine⟨hl,joinParts_nilE<|joinParts_nil ?_ hl⟩;exact⟨.str _,H2,I2.tok _,⟨_,rfl⟩,h2⟩
end L2
namespace Ev
open PySem PySem.Spec PySem.W PySem.Calls PyProof.Rows L2
def JR(c:List Nat)(a b:Ev):Ev:=λenv=>bindR (a env) λx e1=>bindR (b e1) λy e2=>match x,y with
 | .str u,.str v=>if u.length+c.length+v.length<=sizeLine then .ok (.str (u++c++v)) e2 else .stuck
 | _,_=>.stuck
theorem acG{X:Cx}{C:Cfg}{a b:Expr}{ea eb:Ev}(c:List Nat){cs:Str}{j:Nat}{p1 p2 p3 pos:Pos}(hc:cs=strOf c)(ha:SX X C a ea)(hb:SX X C b eb) :
  SX X C (.JoinedStr [.FormattedValue a (-1) none p1,.Constant (.str cs) j p2,.FormattedValue b (-1) none p3] pos) (JR c ea eb):=⟨by
 subst hc;refine(Zq ha.u hb.u).imp λσ H Q hq=>?_;obtain⟨Pr,F,env,env',d,r,e0,q⟩:=hq;obtain⟨x,aD,e1,e2⟩:=aO e0;obtain⟨y,eG,e3,e4⟩:=aO e2;split at e4
 ·rename_i u v;split at e4
  ·rename_i hl;cases e4;refine⟨Pr,F,env,aD,_,r,e1,λvx H1 F1 r1 s1 p1=>?_⟩;obtain⟨rfl,g1⟩:=p1;refine⟨strOf u,rfl,by rw[aU];exact g1,by rw[gU,aU,Qqq];omega,Pr,F1,aD,env',_,r1,e3,λvy H2 F2 r2 s2 p2=>?_⟩;obtain⟨rfl,g2⟩:=p2;refine⟨strOf v,rfl,by rw[aU];exact g2,by rw[gU,gU,aU,Qqq,Qqq];omega,?_⟩;rw[gU,gU];exact q _ H2 F2 r2 (s1.trans s2) ⟨rfl,by rw[Qqq,Qqq];omega⟩
  ·cases e4
 ·cases e4⟩
section
variable{X:Cx}
def ac9(K:Fg):V->List V->Hp->VK->Prop:=λx vs H Q=>∃sep xs p,x = .str (strOf sep)/\vs=[.ref p]/\qO K H p (xs.map λx=>V.str (strOf x))/\joinFits sep xs=true/\Q (.str (strOf (bQ sep xs))) H
theorem VP:MtR X "str.join" (ac9 X.K):=by
 intro pins s σ H x vs v us Q I rx rv h;obtain⟨sep,xs,p,rfl,rfl,hq,hf,q⟩:=h;obtain⟨t,rfl⟩:=rx;obtain⟨u,rfl,ru⟩:=vals1 rv;cases ru;obtain⟨its,r,pl,_⟩:=I.tuple hq;have hs:=ph r;refine join_tuple pl (by simpa using hs) ?_ λt' k=>?_
 ·have hf':=Qw5 hf;have e:((xs.map strOf).map (·.length))=xs.map List.length:=by
   rw[Qxk];apply Qz6;intro z _;exact aU z
  rw[e,aU,Qqz];exact hf'
 ·rw[Jo];exact⟨.str _,H,I.tok k,⟨t',rfl⟩,q⟩
def YF(K:Fg):V->List V->Hp->VK->Prop:=λx vs H Q=>∃a zs z j,x = .ref a/\vs=[.str (strOf z)]/\lG K H a (zs.map λy=>V.str (strOf y))/\je z zs=some j/\Q (.int j) H
theorem Jf:MtM X "list.index" (YF X.K):=by
 intro pins s σ H x vs v us Q I rx rv h;obtain⟨a,zs,z,j,rfl,rfl,hq,hp,q⟩:=h;cases rx;obtain⟨u,rfl,ru⟩:=rv.one;obtain⟨t,rfl⟩:=ru;obtain⟨its,r,ht,hz⟩:=I.list hq;obtain⟨hj,h1,h2⟩:=Ds hp;have hlen:its.length=zs.length:=by rw[<-r.length,Qqz]
 have key:∀m (hm:m<zs.length),∃tk,its[m]? = some (.str (strOf zs[m]) tk):=λm hm=>by
  obtain⟨w,e1,e2⟩:=r.get (i:=m) (x:=V.str (strOf zs[m])) (by simp[hm]);obtain⟨tk,rfl⟩:=e2;exact⟨tk,e1⟩
 have at':∀m (hm:m<zs.length) (hm':m<its.toArray.size),∃tk,its.toArray[m] = .str (strOf zs[m]) tk:=λm hm hm'=>by
  obtain⟨tk,e⟩:=key m hm;exact⟨tk,by simpa[Qq6] using (Qq6.mp e).2⟩
 let e:Value->Bool:=λy=>match y with|.str y _=>y == strOf z|_=>false
 obtain⟨o,ho,hc,n,hd⟩:=ht.isList;obtain⟨cls,dd,data,sl⟩:=o;simp only at hc hd;subst hc hd;have hjs:j<its.toArray.size:=by simpa[hlen] using hj
 refine call_meets F.slot_list_index ⟨_,ho,rfl⟩ F.entry_list_index (F.args_list_index_2 _ _) (SeqAt.list_indexAt a its.toArray n dd sl (.str (strOf z) t) e j hjs ?_ ?_ ?_) ⟨ho,λy hy=>?_,?_⟩
 ·have:zs.length<=sizeLine:=by rw[<-hlen,<-r.length] at *;exact hz
  rw[Qky] at this;omega
 ·obtain⟨tk,e1⟩:=at' j hj hjs;rw[e1,h1];show(strOf z == strOf z)=true;simp
 ·intro m hm hmj;have hm':m<zs.length:=by simpa[hlen] using hm
  obtain⟨tk,e1⟩:=at' m hm' hm;rw[e1];show(strOf zs[m] == strOf z)=false;rw[Qwj];intro e2;refine h2 m hm' hmj ?_;have:=Qzw (λs:Str=>s.cps.toList) e2
  simpa[strOf] using this
 ·obtain⟨m,hm,rfl⟩:=Array.mem_iff_getElem.mp hy;have hm':m<zs.length:=by simpa[hlen] using hm
  obtain⟨tk,e1⟩:=at' m hm' hm;rw[e1];exact SeqAt.EqAt.str_str _ tk _ t
 ·exact⟨.int j,H,I.tok _,⟨_,rfl⟩,q⟩
end
def uP(x y:D):Option D:=match x,y with
 | .str sep,.tup ds=>(match gB ds with
  | some xs=>if joinFits sep xs=true then some (.str (bQ sep xs)) else none
  | none=>none)
 | _,_=>none
def qw:D->D->Option D
 | .lst ds,.str z=>(gB ds).bind λzs=>(je z zs).map λj=>.int (j:Nat)
 | _,_=>none
section
variable{X:Cx}{C:Cfg}{o e:Expr}{a b:Ev}{apos cpos:Pos}
theorem Hi(G:Good X C)(ho:SX X C o a)(he:GZ X C e b)(hbase:attributeBase o "join" X.env (eval o X.env)=eval o X.env:=by rfl)
  (hs:BJ e X.env:=by rfl)
  (hfew:((backTo cpos (starEach [e] X.env)).all (λx=>!x.1)&&(backToKw cpos (keywordEach [] X.env)).all (λx=>x.1.isSome)
   && decide ([e].length+([]:List Keyword).length+(if ([]:List Keyword).isEmpty then 0 else 1)<30))=true:=by rfl)
  (hline:(apos.endLine == cpos.line)=true:=by rfl) (hplain:(backTo cpos (starEach [] X.env)).any (·.1)=false:=by rfl) :
  SX X C (.Call (.Attribute o "join" apos) [e] [] cpos) (az uP a b):=⟨by
 have h:=yC PySem.F.plainAttrs_str PySem.F.slot_str_join PySem.F.type_str_join VP ho.u (dX he.u jf hs) hbase hfew hline hs hplain;rw[G.K] at h;refine h.imp λσ H Q h=>?_;obtain⟨Pr,F,env,env',d,rl,e0,q⟩:=h;obtain⟨x,aD,e1,e2⟩:=aO e0;obtain⟨y,eG,e3,e4⟩:=aO e2;obtain⟨e5,rfl⟩:=cA e4;unfold uP at e5;split at e5
 ·rename_i sep ds;split at e5
  ·rename_i xs hxs;split at e5
   ·rename_i hf;cases e5;refine⟨Pr,F,env,aD,_,rl,e1,λvx H1 F1 r1 s1 p1=>?_⟩;obtain⟨rfl,_⟩:=p1;refine⟨rfl,Pr,F1,aD,env',_,r1,e3,λvy H2 F2 r2 s2 p2=>?_⟩;obtain⟨z,l,ws,rfl,h1,_,h2⟩:=p2.tup r2.fr;have e6:=kJ hxs h2;subst e6;exact⟨sep,xs,l,rfl,rfl,h1,hf,q _ H2 F2 r2 (s1.trans s2) ⟨rfl,Ax hf⟩⟩
   ·cases e5
  ·cases e5
 ·cases e5⟩
theorem De(G:Good X C)(ho:SX X C o a)(he:GZ X C e b)(hbase:attributeBase o "index" X.env (eval o X.env)=eval o X.env:=by rfl)
  (hs:BJ e X.env:=by rfl)
  (hfew:((backTo cpos (starEach [e] X.env)).all (λx=>!x.1)&&(backToKw cpos (keywordEach [] X.env)).all (λx=>x.1.isSome)
   && decide ([e].length+([]:List Keyword).length+(if ([]:List Keyword).isEmpty then 0 else 1)<30))=true:=by rfl)
  (hline:(apos.endLine == cpos.line)=true:=by rfl) (hplain:(backTo cpos (starEach [] X.env)).any (·.1)=false:=by rfl) :
  SX X C (.Call (.Attribute o "index" apos) [e] [] cpos) (az qw a b):=⟨by
 have h:=yC PySem.F.plainAttrs_list PySem.F.slot_list_index PySem.F.type_list_index Jf ho.u (dX he.u jf hs) hbase hfew hline hs hplain;rw[G.K] at h;refine h.imp λσ H Q hq=>?_;obtain⟨Pr,F,env,env',d,r,e0,q⟩:=hq;obtain⟨x,aD,e1,e2⟩:=aO e0;obtain⟨y,eG,e3,e4⟩:=aO e2;obtain⟨e5,rfl⟩:=cA e4;unfold qw at e5;split at e5
 ·rename_i ds z;obtain⟨zs,h1,h2⟩:=Qxy.mp e5;obtain⟨j,h3,rfl⟩:=Qw1.mp h2;refine⟨Pr,F,env,aD,_,r,e1,λvx H1 F1 r1 s1 p1=>?_⟩;obtain⟨hz,p,vs,rfl,h4,h5⟩:=p1;refine⟨.inl ⟨rfl,vs,lG.of<|r1.fr _ _ h4⟩,Pr,F1,aD,env',_,r1,e3,λvy H2 F2 r2 s2 p2=>?_⟩;obtain⟨rfl,_⟩:=p2.str;have e6:=kJ h1 h5;subst e6;exact⟨p,zs,z,j,rfl,rfl,lG.of<|r2.fr _ _<|s2 _ _ h4,h3,q _ H2 F2 r2 (s1.trans s2) rfl⟩
 ·cases e5⟩
end
open PySem PySem.Spec PyProof.Rows L2
theorem uH{X:Cx}{C:Cfg}(G:Good X C):Good X.uH C:=⟨G.K,G.calm,G.un⟩
theorem adv{X:Cx}{body:List Stmt}{h₀:ExceptHandler}{hs:List ExceptHandler}{pos:Pos}{tb:TS}(hbd:zq X.uH body tb):PS X (.Try body (h₀::hs) [] [] pos) tb:=by
 intro pins s σ H D I h;refine wpAny_Try_except<|Qw9 (hbd pins s σ H D (I.wish _) h) (λf s1 q=>?_) λ_ _ z=>False.elim z;cases f with
 | next=>exact wpAny_execs_nil q.fK
 | brk=>exact q.fK
 | cont=>exact q.fK
 | ret u=>exact q.fK
end Ev
namespace XC
open PySem PySem.Spec PyProof.Rows PySem.W
structure Cl(K:Frag)(C:Addr):Prop where
 ga:findIn K (.ref C) "__getattribute__" = some (some (.builtin "BaseException.__getattribute__"))
 gt:findIn K (.ref C) "__getattr__" = some none
 cl:findIn K (.ref C) "__class__" = some (some (.builtin "object.__class__"))
 ob:mroIn K C (.type "object")=some true
 be:mroIn K C (.type "BaseException")=some true
section
variable{prog:Program}{w:World}{A:Around}{E:Value->Shared->Prop}{h:Heap}{g:Array GenState}{d:Drawn}{t:Nat}{os:OsState}{K:Frag}{x C:Addr}{M:Model}{S:Addr}{o:Obj}
def At(x C:Addr)(h:Heap):Prop:=∃o,h.get? x=some o/\o.cls = .ref C
theorem At.type{M:Model}(I:At x C h):Looks M h (typeOf (.ref x)) (.ref C):=by obtain⟨o,h1,h2⟩:=I;exact h2 ▸ (Looks.ld h1).andThen .now
theorem get{tp:Value}{R:Result->Shared->Prop}(X:K.In h)(I:At x C h)(Z:Cl K C)(hq:R (.ok (.ret (.ref C))) ⟨h,g,d,t,os⟩) :
  codeAny (model prog w) A (.call (.builtin "getset_descriptor.__get__") ⟨[.builtin "object.__class__",.ref x,tp],[]⟩) R ⟨h,g,d,t,os⟩:=by
 have L0:=I.type (M:=model prog w);have L1:Looks (model prog w) h (isSubtype (.ref C) (.type (".".intercalate ("object.__class__".cutAt '.').dropLast))) true:=by rw[F.owner_object_class];exact looks_mroIn X Z.ob
 have hT:(⟨h,g,d,t,os⟩:Shared).TypeIs (.builtin "object.__class__") "getset_descriptor":=F.typeOf_object_class;refine codeAny_call_builtin F.slot_gs_get.plain F.entry_gs_get (F.slot_gs_get.check _ _ _ _ _ _ _ _ hT (F.args_gs_get _ _ _) ?_)
 repeat (any_goals (first|assumption|with_reducible refine L0.at ?_|with_reducible refine L1.at ?_|wp_step))
 refine⟨Code.quiet_builtin _ (by decide +kernel),Qkz F.entry_object_class ?_⟩
 repeat (any_goals (first|assumption|with_reducible refine L0.at ?_|wp_step))
theorem entry{tk:Tok}{Q:PySem.Fin->Shared->Prop}(X:K.In h)(I:At x C h)(Z:Cl K C)(hq:Q (.done (.ret (.ref C))) ⟨h,g,d,t,os⟩) :
  wpAny (model prog w) A (Builtin.«object.__getattribute__» ⟨[.ref x,.str "__class__" tk],[]⟩) Q E ⟨h,g,d,t,os⟩:=by
 have L0:=I.type (M:=model prog w);have L1:=looks_findIn (M:=model prog w) X Z.cl;have hT5:(⟨h,g,d,t,os⟩:Shared).TypeIs (.builtin "object.__class__") "getset_descriptor":=F.typeOf_object_class;have f5:=F.typeOf_object_class;have f6:=F.slot_gs_get.lookup;have f7:=F.slot_gs_set.lookup
 repeat (any_goals (first|assumption|with_reducible refine L0.at ?_|with_reducible refine L1.at ?_|wp_step))
 refine get X I Z ?_
 repeat (any_goals (first|assumption|wp_step))
theorem check{M:Model}{nameV:Value}{Q:Unit->Shared->Prop}(X:K.In h)(I:At x C h)(Z:Cl K C)(hq:Q () ⟨h,g,d,t,os⟩):wpAny M A (checkBuiltinCall "BaseException.__getattribute__" ⟨[.ref x,nameV],[]⟩) Q E ⟨h,g,d,t,os⟩:=by
 have hk:builtinKind "BaseException.__getattribute__" = some .slot:=by decide +kernel
 have hsplit:splitId "BaseException.__getattribute__" = some ("BaseException","__getattribute__"):=by decide +kernel
 have ha:=F.args_bexc_ga (.ref x) nameV;have L0:=I.type (M:=M);have L1:=looks_mroIn (M:=M) X Z.be;simp only[checkBuiltinCall,hk,hsplit];refine Qqx ?_;unfold isInstance
 repeat (any_goals (first|assumption|with_reducible refine L0.at ?_|with_reducible refine L1.at ?_|wp_step))
theorem by_{tk:Tok}{Q:Value->Shared->Prop}(X:K.In h)(I:At x C h)(Z:Cl K C)(hq:Q (.ref C) ⟨h,g,d,t,os⟩):wpAny (model prog w) A (getAttrBy (.ref x) (.str "__class__" tk) false) Q E ⟨h,g,d,t,os⟩:=by
 have L0:=I.type (M:=model prog w);have L1:=looks_findIn (M:=model prog w) X Z.ga;have L2:=looks_findIn (M:=model prog w) X Z.gt;have f3:=F.attr_ValueError.ga.bind<|.ref x;have hx2:(Value.builtin "BaseException.__getattribute__" == Value.builtin "object.__getattribute__")=false:=by decide +kernel
 have hx1:(onTheHeap (Value.ref C)&&Value.builtin "BaseException.__getattribute__" == Value.builtin "object.__getattribute__")=false:=by rw[hx2];rfl
 repeat (any_goals (first|assumption|with_reducible refine L0.at ?_|with_reducible refine L1.at ?_|with_reducible refine L2.at ?_|wp_step))
 refine codeAny_call_builtin F.attr_ValueError.ga.plain F.entry_bexc_ga<|check X I Z<|entry X I Z ?_
 repeat (any_goals (first|assumption|wp_step))
theorem attr{Q:Option Value->Shared->Prop}(X:K.In h)(I:At x C h)(Z:Cl K C)(hq:Q (some (.ref C)) ⟨h,g,d,t+1,os⟩):wpAny (model prog w) A (getAttr? (.ref x) "__class__") Q E ⟨h,g,d,t,os⟩:=by
 unfold getAttr? getAttrBy?
 repeat (any_goals (first|assumption|with_reducible apply by_ X I Z|wp_step))
theorem Cl.at(Z:Cl K C):∃c' d' cd sl,K.lookup C=some ⟨c',d',.cls cd,sl⟩:=by
 obtain⟨cd,q,_⟩:=Qxy.mp Z.ob;unfold clsIn at q;split at q
 ·rename_i ho;exact⟨_,_,_,_,ho⟩
 ·cases q
theorem ajn(Z:Cl K C):KitX K (.ref x) (.ref C) (At x C) where
 ty:=λ_ _ _ I=>I.type
 it:=λ_ _ X _=>by
  obtain⟨c',d',cd,sl,ho⟩:=Z.at;intro A' Q' E' s' k q;unfold isType loadHead;exact Qqx<|wpAny_loadPart (k _ _<|X _ _ ho)<|Qq1 q
 ne:=λh tp dd its n sl X htp=>by
  obtain⟨c',d',cd,sl',ho⟩:=Z.at;refine Bool.eq_false_iff.mpr λq=>?_;have e:=Value.ref.inj<|beq_iff_eq.mp q;subst e;have z:=X _ _ ho;rw[htp] at z;cases z
 ca:=λ{_ _ _ _ _ s} X I k=>by
  obtain⟨h,g,d,t,os⟩:=s;exact attr X I Z k
theorem isi{s:Shared}{c:Value}{b:Bool}{Q:Value->Shared->Prop}(Z:Cl K C)(X:K.In s.heap)(I:At x C s.heap)(e:kitOne K (.ref C) c=some b)(h:∀tk,Q (.bool b) { s with toks:=tk }) :
  wpAny (model prog w) A (call (.builtin "isinstance") [.ref x,c]) Q E s:=kia_one (ajn Z) X I e (λz=>nomatch z) h
theorem caught{Q:Bool->Shared->Prop}(X:K.In h)(ho:h.get? x=some o)(hc:o.cls = .ref C)(Z:Cl K S)(ty:typeIn K (.ref S)=some (.type "type"))(sub:mroIn K C (.ref S)=some true)(hq:Q true ⟨h,g,d,t,os⟩) :
  wpAny M A (excMatches (.ref x) (.ref S)) Q E ⟨h,g,d,t,os⟩:=by
 have L1:=looks_mroIn (M:=M) X Z.be;have L2:=looks_mroIn (M:=M) X sub;have L3:=looks_typeIn (M:=M) X ty;obtain⟨c',d',cd,sl,hS⟩:=Z.at;have hS':=X _ _ hS;have f:=tc_notTuple;unfold excMatches
 repeat (any_goals (first|assumption|with_reducible refine L1.at ?_|with_reducible refine L2.at ?_|with_reducible refine L3.at ?_|(with_reducible refine wpAny_loadPart_at ho ?_;rw[hc])|with_reducible refine wpAny_loadPart_at hS' ?_|wp_step))
end
open PySem PySem.Spec PyProof.Rows PySem.W Builtin Builtin.ObjectAttr
abbrev bmV:List Value:=[.type "ValueError",.type "Exception",.type "BaseException",.type "object"]
structure X3(K:Frag)(C S:Addr)(name:Str):Prop where
 z:Cl K C
 sa:findIn K (.ref C) "__setattr__" = some (some (.builtin "object.__setattr__"))
 no:findIn K (.ref C) name=some none
 cd:∃cd,clsIn K C=some cd/\cd.hasDict=true/\cd.mro = .ref C :: .ref S::bmV
section
variable{prog:Program}{w:World}{A:Around}{E:Value->Shared->Prop}{h:Heap}{g:Array GenState}{d:Drawn}{t:Nat}{os:OsState}{K:Frag}{x C S:Addr}{name:Str}{v:Value}{o:Obj}{vs:Array Value}{dx:Addr}{m:Str->Option Value}{nm q:Str}{N fI:Addr}{bs bm:List Value}{hdct:Bool}{sn:List Str}{sub:List Value}{ab:Bool}{col:Option Bool}{dd:Option Addr}{k0 k1 k2 k3 k5:Option Value}{s:Shared}{env:Env}
theorem T5{tk:Tok}{Q:PySem.Fin->Shared->Prop}(X:K.In h)(Z:X3 K C S name)(hx:h.get? x=some o)(hc:o.cls = .ref C)(hdn:o.dict=none)(hda:o.data = .fields vs)
  (hq:∀h' tk' dx,(∀b ob,b≠x->h.get? b=some ob->h'.get? b=some ob)->h'.get? x=some { o with dict:=some dx }->h.get? dx=none->dx≠x->h'.Ns1 dx (λy=>if y=name then some v else none)->Q (.done (.ret .none)) ⟨h',g,d,tk',os⟩) :
  wpAny (model prog w) A (Builtin.«object.__setattr__» ⟨[.ref x,.str name tk,v],[]⟩) Q E ⟨h,g,d,t,os⟩:=by
 obtain⟨cd,hcd,hhd,hmro⟩:=Z.cd;have L0:Looks (model prog w) h (typeOf (.ref x)) (.ref C):=At.type ⟨o,hx,hc⟩;have L1:=looks_findIn (M:=model prog w) X Z.no;have L2:Looks (model prog w) h (mroOf (.ref C)) cd.mro:=(looks_clsIn X hcd).andThen .now;have L3:=looks_clsIn (M:=model prog w) X hcd;have hpass:=PySem.F.store_ValueError.passes (.ref x);rw[osa_eq,refuse_eq];refine Qqx (Qqx (L0.at (Qqx (L2.at ?_))));rw[hmro,refuseLoop_ref,refuseLoop_ref,hpass];refine Qq1 (Qqx (L0.at (Qqx (L1.at (Qqx (Qq1 ?_))))));show wpAny _ _ (storeInOwnDict (.ref x) (.ref C) (.str name tk) name v false) _ _ _;unfold storeInOwnDict ownDictForStores
 repeat (any_goals (first|assumption|with_reducible refine wpAny_loadPart_at hx ?_|wp_step))
 obtain⟨oc,od,oda,osl⟩:=o;simp only at hc hdn hda;subst hc hdn hda;refine Qqx (L3.at ?_);rw[hhd];simp only[Bool.not_true,Bool.false_eq_true,if_false];rw[if_neg (by simp[typeHasDict])];have hx₁:(h.push { cls:=.type "dict",data:=.dict #[] }).get? x=some ⟨.ref C,none,.fields vs,osl⟩:=Qqj _ hx;have hxs:x≠h.objs.size:=Qw0 (Qq9 hx);refine Qqx (wpAny_alloc' (Qqx (wpAny_update' hx₁ ?_)));refine Qq1 ?_;have hgd:((h.push { cls:=.type "dict",data:=.dict #[] }).update x λo=>{ cls:=o.cls,dict:=some h.objs.size,data:=o.data,slots:=o.slots }).get? h.objs.size=some { cls:=.type "dict",data:=.dict #[] }:=
  (Heap.get?_update_ne _ _ _ _ hxs.symm).trans (Heap.get?_push_at rfl rfl)
 have hnd:((h.push { cls:=.type "dict",data:=.dict #[] }).update x λo=>{ cls:=o.cls,dict:=some h.objs.size,data:=o.data,slots:=o.slots }).Ns h.objs.size (λ_=>none):=
  ⟨_, #[],_,hgd,rfl,λe he=>absurd he (by simp),λ_=>rfl⟩
 show wpAny _ _ (storeInDict h.objs.size (.str name tk) name v) _ _ _;unfold storeInDict newKeyGuard;refine Qqx (Qq1 (Qqx (wpAny_nsSet1 (Heap.Ns1.of_empty hnd) λh' hn' hs=>?_)));obtain⟨oD,esD,epD,hoD,hdD,hcD⟩:=hn'.count (Within.cons name v Within.nil);refine Qqx (wpAny_lookBehind hoD (by rw[hdD];exact pastItsLine_dict (Qqy hcD (by rw[Qqk,Qj0,Qky];omega))) ?_)
 wp_walk
 refine hq h' _ h.objs.size (λb ob hbx hb=>(hs.2 b (Qw0 (Qq9 hb))).trans ((Heap.get?_update_ne _ _ _ _ hbx).trans (Qqj _ hb))) ?_ (Heap.get?_none_of_le (Qq2 _)) hxs.symm hn';exact(hs.2 x hxs).trans (Heap.get?_update_self _ hx₁ rfl)
theorem T6{nameV:Value}{M:Model}{Q:Unit->Shared->Prop}(X:K.In h)(Z:X3 K C S name)(hx:h.get? x=some o)(hc:o.cls = .ref C)(hq:Q () ⟨h,g,d,t,os⟩):wpAny M A (checkBuiltinCall "object.__setattr__" ⟨[.ref x,nameV,v],[]⟩) Q E ⟨h,g,d,t,os⟩:=by have L0:Looks M h (typeOf<|.ref x) (.ref C):=At.type ⟨o,hx,hc⟩;have sub:Looks M h (isInstance (.ref x)<|.type "object") true:=L0.andThen<|looks_mroIn X Z.z.ob;exact @check_slot M _ _ ⟨h,g,d,t,os⟩ "object.__setattr__" "object" "__setattr__" (.ref x) [nameV,v] [] _ PySem.F.store_ValueError.kind PySem.F.store_ValueError.split sub (PySem.F.store_ValueError.args (.ref x) nameV v) hq
theorem store{Q:Unit->Shared->Prop}(X:K.In h)(Z:X3 K C S name)(hx:h.get? x=some o)(hc:o.cls = .ref C)(hdn:o.dict=none)(hda:o.data = .fields vs)
  (hq:∀h' tk' dx,(∀b ob,b≠x->h.get? b=some ob->h'.get? b=some ob)->h'.get? x=some { o with dict:=some dx }->h.get? dx=none->dx≠x->h'.Ns1 dx (λy=>if y=name then some v else none)->Q () ⟨h',g,d,tk',os⟩) :
  wpAny (model prog w) A (setAttr (.ref x) name v) Q E ⟨h,g,d,t,os⟩:=by
 have L0:Looks (model prog w) h (typeOf<|.ref x) (.ref C):=At.type ⟨o,hx,hc⟩;have L1:=looks_findIn (M:=model prog w) X Z.sa;have f3:=PySem.F.store_ValueError.slot.bind<|.ref x;unfold setAttr callSpecial? specialOf
 repeat (any_goals (first|assumption|with_reducible refine L0.at ?_|with_reducible refine L1.at ?_|wp_step))
 refine codeAny_call_builtin PySem.F.store_ValueError.slot.plain PySem.F.store_ValueError.entry<|T6 X Z hx hc<|T5 X Z hx hc hdn hda λh' tk' dx q1 q2 q3 q4 q5=>?_
 repeat (any_goals (first|assumption|wp_step))
 exact hq h' tk' dx q1 q2 q3 q4 q5
theorem Z2{tk:Tok}{Q:PySem.Fin->Shared->Prop}(X:K.In h)(Z:X3 K C S name)(hx:h.get? x=some o)(hc:o.cls = .ref C)(hdn:o.dict=some dx)(hda:o.data = .fields vs)(hn:h.Ns dx m)(hm:m name=some v)(hq:Q (.done (.ret v)) ⟨h,g,d,t,os⟩) :
  wpAny (model prog w) A (Builtin.«object.__getattribute__» ⟨[.ref x,.str name tk],[]⟩) Q E ⟨h,g,d,t,os⟩:=by
 obtain⟨cd,hcd,hhd,hmro⟩:=Z.cd;have L0:Looks (model prog w) h (typeOf<|.ref x) (.ref C):=At.type ⟨o,hx,hc⟩;have L1:=looks_findIn (M:=model prog w) X Z.no;have L3:=looks_clsIn (M:=model prog w) X hcd;unfold Builtin.«object.__getattribute__»
 repeat (any_goals (first|assumption|with_reducible refine L0.at ?_|with_reducible refine L1.at ?_|with_reducible refine L3.at ?_|wp_step))
 obtain⟨oc,od,oda,osl⟩:=o;simp only at hc hdn hda;subst hc hdn hda;show wpAny _ _ (instanceDict x false) _ _ _;unfold instanceDict
 repeat (any_goals (first|assumption|with_reducible refine wpAny_loadPart_at hx ?_|with_reducible refine L3.at ?_|(with_reducible refine wpAny_nsGet hn ?_;rw[hm])|(unfold inDict;with_reducible refine wpAny_nsGet hn ?_;rw[hm])|wp_step))
theorem Z3{tk:Tok}{fill expr:Bool}{Q:Value->Shared->Prop}(X:K.In h)(Z:X3 K C S name)(hx:h.get? x=some o)(hc:o.cls = .ref C)(hdn:o.dict=some dx)(hda:o.data = .fields vs)(hn:h.Ns dx m)(hm:m name=some v)(hh:handedOut v=pure v)(hq:Q v ⟨h,g,d,t,os⟩) :
  wpAny (model prog w) A (getAttrBy (.ref x) (.str name tk) fill expr) Q E ⟨h,g,d,t,os⟩:=by
 have I:At x C h:=⟨o,hx,hc⟩;have L0:=I.type (M:=model prog w);have L1:=looks_findIn (M:=model prog w) X Z.z.ga;have L2:=looks_findIn (M:=model prog w) X Z.z.gt;have f3:=F.attr_ValueError.ga.bind<|.ref x;have hx0:(expr&&onTheHeap (Value.builtin "BaseException.__getattribute__"))=false:=by cases expr<;>rfl
 have hx2:(Value.builtin "BaseException.__getattribute__" == Value.builtin "object.__getattribute__")=false:=by decide +kernel
 have hx1:(onTheHeap (Value.ref C)&&Value.builtin "BaseException.__getattribute__" == Value.builtin "object.__getattribute__")=false:=by rw[hx2];rfl
 repeat (any_goals (first|assumption|with_reducible refine L0.at ?_|with_reducible refine L1.at ?_|with_reducible refine L2.at ?_|wp_step))
 refine codeAny_call_builtin F.attr_ValueError.ga.plain F.entry_bexc_ga<|check X I Z.z<|Z2 X Z hx hc hdn hda hn hm ?_
 repeat (any_goals (first|assumption|wp_step))
theorem load{expr:Bool}{Q:Value->Shared->Prop}(X:K.In h)(Z:X3 K C S name)(hx:h.get? x=some o)(hc:o.cls = .ref C)(hdn:o.dict=some dx)(hda:o.data = .fields vs)(hn:h.Ns dx m)(hm:m name=some v)(hh:handedOut v=pure v)(hq:Q v ⟨h,g,d,t+1,os⟩) :
  wpAny (model prog w) A (getAttr (.ref x) name expr) Q E ⟨h,g,d,t,os⟩:=by
 unfold getAttr
 repeat (any_goals (first|assumption|with_reducible apply Z3 X Z hx hc hdn hda hn hm hh|wp_step))
theorem made{rest:List Value}{Q:PySem.Fin->Shared->Prop}(X:K.In h)(T:OwnTail h bmV bm)(hC:h.get? C=some (excClassObj nm q C N bs bm hdct sn sub ab col dd k0 k1 k2 k3 k5 "ValueError.__new__"))(hi:findIn K (.ref C) "__init__" = some (some (.ref fI)))(hf:typeIn K (.ref fI)=some (.type "function"))
  (hq:∀h' e,Heap.MadeExcOf h h' e (.ref C) rest->wpAny (model prog w) A (call (.ref fI) (.ref e::rest)) (λr s'=>r = .none/\Q (.done (.ret (.ref e))) s') E ⟨h',g,d,t,os⟩) (hrest:rest.length<=sizeLine) :
  wpAny (model prog w) A (Builtin.«type.__call__» ⟨.ref C::rest,[]⟩) Q E ⟨h,g,d,t,os⟩:=by
 have F:=PySem.F.excBase_ValueError
 repeat (first|with_reducible refine wpAny_loadPart_at hC ?_|with_reducible refine wpAny_madeBy_exc hC ?_|wp_step)
 refine codeAny_call_builtin_code (Code.quiet_builtin _ F.quiet)<|wpAny_check_new_subU F F.hasB T hC ?_;refine codeAny_exc_new_subU F F.hasB F T hC ?_ hrest;show wpAny _ _ _ _ _ _;have hC₁:=Qqj { cls:=.ref C,data:=.fields #[.ref h.objs.size,.none,.none,.none,.bool false,.none] } (Qqj { cls:=.type "tuple",data:=.seq rest.toArray } hC);have X₁:K.In ((h.push { cls:=.type "tuple",data:=.seq rest.toArray }).push { cls:=.ref C,data:=.fields #[.ref h.objs.size,.none,.none,.none,.bool false,.none] }):=X.keeps λb o e=>Qqj _<|Qqj _ e;have hget:((h.push { cls:=.type "tuple",data:=.seq rest.toArray }).push { cls:=.ref C,data:=.fields #[.ref h.objs.size,.none,.none,.none,.bool false,.none] }).get? (h.objs.size+1)=some { cls:=.ref C,data:=.fields #[.ref h.objs.size,.none,.none,.none,.bool false,.none] }:=by heap_get
 have hcC:(Value.ref C::bm).contains (.ref C)=true:=by simp
 unfold isInstance
 repeat (first|with_reducible refine wpAny_loadPart_at hget ?_|(with_reducible refine wpAny_isSubtype_exc hC₁ ?_;rw[hcC])|wp_step)
 show wpAny _ _ (typeLookup (.ref C) _) _ _ _;refine(looks_findIn X₁ hi).at ?_;refine Qzz<|Qqx ?_;unfold bindSpecial;refine Qqx<|(looks_typeIn X₁ hf).at ?_;rw[if_pos (by decide)];refine Qq1<|Qqx<|Qw9 (hq _ (h.objs.size+1) ⟨λb o hb=>Qqj _<|Qqj _ hb,Heap.get?_none_of_le<|Nat.le_succ _,h.objs.size,hget,Heap.get?_none_of_le<|Qq2 _,?_⟩) (λr s' hr=>?_) λ_ _ z=>z
 ·exact Qqj _<|Heap.get?_push_at rfl rfl
 ·obtain⟨rfl,hQ⟩:=hr
  wp_walk
  exact hQ
theorem make{rest:List Value}{Q:Value->Shared->Prop}(X:K.In h)(T:OwnTail h bmV bm)(hC:h.get? C=some (excClassObj nm q C N bs bm hdct sn sub ab col dd k0 k1 k2 k3 k5 "ValueError.__new__"))(hi:findIn K (.ref C) "__init__" = some (some (.ref fI)))(hf:typeIn K (.ref fI)=some (.type "function"))
  (hq:∀h' e,Heap.MadeExcOf h h' e (.ref C) rest->wpAny (model prog w) (A.under (.builtin "type.__call__" ⟨.ref C::rest,[]⟩)) (call (.ref fI) (.ref e::rest)) (λr s'=>r = .none/\Q (.ref e) s') E ⟨h',g,d,t,os⟩) (hrest:rest.length<=sizeLine) :
  wpAny (model prog w) A (call (.ref C) rest) Q E ⟨h,g,d,t,os⟩:=by
 have f1:=tc_lookup;have f2:=tc_bind (.ref C);have hT:(⟨h,g,d,t,os⟩:Shared).TypeIs (.ref C) "type":=⟨_,hC,rfl⟩;refine wpAny_call (codeAny_of_tree ?_);show wpAny _ _ (callAny (.ref C) _) _ _ _
 repeat (any_goals (first|assumption|with_reducible refine wpAny_loadPart_at hC ?_|wp_step))
 refine⟨rfl,?_⟩;exact codeAny_call_builtin_at (Code.quiet_builtin _ (by decide +kernel)) entry_typeCall (wpAny_check_type_call_sub hC (made X T hC hi hf (λh' e hm=>hq h' e hm) hrest))
theorem Lr{M:Model}{x:Sem Value}{Q:Flow->Shared->Prop}(hbase:bm.contains (.type "BaseException")=true)(hh:A.handled=none)
  (h:wpAny M A x (λv s₁=>∃e ob,v = .ref e/\s₁.heap.get? C=some (excClassObj nm q C N bs bm hdct sn sub ab col dd k0 k1 k2 k3 k5 "ValueError.__new__")/\s₁.heap.get? e=some ob/\ob.cls = .ref C/\(∃vs,ob.data = .fields vs/\vs[1]? = some .none)/\E (.ref e) s₁) E s):wpAny M A (raiseStmt env (some x) none) Q E s:=by
 have hcB:(Value.ref C::bm).contains (.type "BaseException")=true:=by rw[List.contains_cons,hbase,Bool.or_true]
 unfold raiseStmt;refine Qqx<|Qw9 h (λv s₁ h₁=>?_) λ_ _ z=>z;obtain⟨e,ob,rfl,hC,he,hc,⟨vs,hd,h1⟩,hE⟩:=h₁;obtain⟨hp,g,d,tk,os⟩:=s₁;obtain⟨oc,od,oda,osl⟩:=ob;simp only at hc hd;subst hc hd;have ajD:∀Q',Q' false ⟨hp,g,d,tk,os⟩->wpAny M A (isType<|.ref e) Q' E ⟨hp,g,d,tk,os⟩:=λQ' q=>by
  unfold isType loadHead;refine Qqx<|wpAny_loadPart he ?_;exact Qq1 q
 repeat (first|with_reducible refine ajD _ ?_|with_reducible refine wpAny_loadPart_at he ?_|with_reducible refine wpAny_loadPart_at hC ?_|(with_reducible refine wpAny_isSubtype_exc hC ?_;rw[hcB])|wp_step)
 rw[h1];refine Qq1 ?_;rw[if_neg (by decide)];exact Qq1<|wpAny_raiseNew_none hh hE
theorem raises{x:Str}{np cpos pos:Pos}{args:List Expr}{Q:Flow->Shared->Prop}(hbase:bm.contains (.type "BaseException")=true)(hh:A.handled=none)(hplain:(backTo cpos (starEach args env)).any (·.1)=false)(hi:findIn K (.ref C) "__init__" = some (some (.ref fI)))(hf:typeIn K (.ref fI)=some (.type "function"))
  (h:wpAny (model prog w) A (eval (.Name x np) env) (λf s₁=>f = .ref C/\wpAny (model prog w) A (evalArgs (.ref C) true (backTo cpos (starEach args env)) [])
   (λa s₂=>a.kw=[]/\a.pos.length<=sizeLine/\s₂.heap.get? C=some (excClassObj nm q C N bs bm hdct sn sub ab col dd k0 k1 k2 k3 k5 "ValueError.__new__")/\K.In s₂.heap/\OwnTail s₂.heap bmV bm/\
    ∀h' e,Heap.MadeExcOf s₂.heap h' e (.ref C) a.pos->wpAny (model prog w) (A.under (.builtin "type.__call__" ⟨.ref C::a.pos,[]⟩)) (call (.ref fI) (.ref e::a.pos))
     (λr s₃=>r = .none/\s₃.heap.get? C=some (excClassObj nm q C N bs bm hdct sn sub ab col dd k0 k1 k2 k3 k5 "ValueError.__new__")/\(∃ob,s₃.heap.get? e=some ob/\ob.cls = .ref C/\∃vs,ob.data = .fields vs/\vs[1]? = some .none)/\E (.ref e) s₃) E { s₂ with heap:=h' }) E s₁) E s) :
  wpAny (model prog w) A (exec (.Raise (some (.Call (.Name x np) args [] cpos)) none pos) env) Q E s:=by
 rw[arm_exec_Raise];refine Qqx (wpAny_standAt (Lr (C:=C) (nm:=nm) (q:=q) (N:=N) (bs:=bs) (bm:=bm) (hdct:=hdct) (sn:=sn) (sub:=sub) (ab:=ab) (col:=col) (dd:=dd) (k0:=k0) (k1:=k1) (k2:=k2) (k3:=k3) (k5:=k5) hbase hh
  (Qqx<|Qw9 (wpAny_Call_ofName<|Qw9 h (λf s₁ h₁=>?_) λ_ _ z=>z) (λv s₃ h₃=>Qqx<|wpAny_standAt<|Qq1 h₃) λ_ _ z=>z)))
 obtain⟨rfl,h₁⟩:=h₁;unfold callWith;refine Qqx<|Qzz<|Qw9 h₁ (λa s₂ h₂=>Qqx<|wpAny_standAt ?_) λ_ _ z=>z;obtain⟨apos,akw⟩:=a;obtain⟨hkw,hlen,hC,X,T,h₂⟩:=h₂;obtain rfl:akw=[]:=hkw;obtain⟨hp,g,d,tk,os⟩:=s₂;simp only[hplain];refine Qqx<|wpAny_keeperOf_exc hC ?_;refine Qqx<|make X T hC hi hf (λh' e hm=>Qw9 (h₂ h' e hm) (λr s₃ hr=>⟨hr.1,Qqx<|Qzz<|wpAny_point<|Qq1 ?_⟩) λ_ _ z=>z) hlen;obtain⟨_,hC3,⟨ob,ho,hoc,hon⟩,hE⟩:=hr;exact⟨e,ob,rfl,hC3,ho,hoc,hon,hE⟩
end
def Hd(h B:Heap)(e:Addr)(fl:Value)(vs:Array Value):Prop:=∃T oT ts,vs[1]? = some (.ref T)/\B.get? T=none/\T≠e/\h.get? T=some oT/\oT.data = .fields ts/\ts[3]? = some fl
structure Fl(B:Heap)(l:List Env)(e:Addr)(cls:Value)(dd:Option Addr)(P:Array Value->Prop)(h:Heap):Prop where
 st:B.StaysIn h
 ne:B.get? e=none
 fr:h.FunFrames B l
 ob:∃oe vs,h.get? e=some oe/\oe.cls=cls/\oe.dict=dd/\oe.data = .fields vs/\P vs
section
variable{M:Model}{A:Around}{E:Value->Shared->Prop}{s:Shared}{B:Heap}{env:Env}{outer l:List Env}{L e:Addr}{cls:Value}{dd:Option Addr}
theorem entry_at{oe:Obj}{vs:Array Value}{head:Value}{hn:Bool}{Q:Unit->Shared->Prop}(hfr:A.frames=some (env::outer))(hl:s.heap.FunFrames B (env::outer))(hf:env.frame=some L)(st:B.StaysIn s.heap)(ne:B.get? e=none)
  (he:s.heap.get? e=some oe) (hc:oe.cls=cls) (hdd:oe.dict=dd) (hd:oe.data = .fields vs) (hz:1<vs.size) (h:∀h',Fl B (env::outer) e cls dd (Hd h' B e (rawInt L)) h'->s.heap.UpToSlots h'->Q () { s with heap:=h' }) :
  wpAny M A (do let a <-frameOf env;let pl <-entryPlaceOf L hn;let b <-EntryCells.newEntry head a .none (rawInt L) .none pl;setField (.ref e) 1 b) Q E s:=by
 have hene:e ∉ (env::outer).filterMap (·.frame):=λhm=>by
  obtain⟨_,o,ho,hnf⟩:=hl.mem hm;rw[he] at ho;cases ho;exact hnf vs hd
 refine Qqx<|wpAny_frameOf_fun hfr hl hf λh1 hs=>?_;refine Qqx<|wpAny_entryPlaceOf λpl hpl=>?_;unfold EntryCells.newEntry newFields;refine Qqx<|Qx7 ?_<|hpl.sizeOk5 _ _ _ _ _;have he1:h1.get? e=some oe:=(hs.2.1 e hene).trans he;have st1:B.StaysIn h1:=λb o q=>(hs.2.1 b λhm=>by rw[(hl.mem hm).1] at q;cases q).trans<|st b o q;generalize hN:({ cls:=.type "traceback",dict:=none,data:=.fields ([head,.ref L,.none,rawInt L,.none]++(if pl.isEmpty then List.replicate 6 Value.none else pl)).toArray }:Obj)=N;have hNf:∃ts,N.data = .fields ts/\ts[3]? = some (rawInt L)/\N.isFreed=false:=by subst hN;exact⟨_,rfl,by first|(simp;done)|(rcases hpl with rfl|⟨_,_,_,_,_,_,_,rfl⟩<;>simp),rfl⟩
 obtain⟨ts,hts,h3,ajE⟩:=hNf;have he2:=Qqj N he1;refine wpAny_setField he2 hd hz<|h _ ?_ ?_
 ·have hTe:h1.objs.size≠e:=Nat.ne_of_gt<|Qq9 he1;have hd3:=Obj.data_mapFields hd (·.setIfInBounds 1 (Value.ref h1.objs.size));have keep:∀b o,b≠e->h1.get? b=some o->((h1.push N).update e<|Obj.mapFields (·.setIfInBounds 1 (Value.ref h1.objs.size))).get? b=some o:=λb o hb q=>by
   rw[Heap.get?_update_other _ _ (Ne.symm hb)];exact Qqj _ q
  refine⟨λb o q=>keep b o (λz=>by rw[z,ne] at q;cases q)<|st1 b o q,ne,hl.of_keeps λb o hb hnf=>?_,_,_,Heap.get?_update_self _ he2<|Obj.isFreed_of_fields hd3,(Obj.cls_mapFields _ _).trans hc,?_,hd3,h1.objs.size,N,ts,by simp[hz],st1.fresh,hTe,?_,hts,h3⟩
  ·obtain⟨sl,q⟩:=hs.2.2 b o hb;exact⟨_,keep b _ (λz=>by rw[z,he] at hb;cases hb;exact hnf vs hd) q,rfl⟩
  ·rw[<-hdd];obtain⟨oc,od,oda,osl⟩:=oe;cases oda<;>rfl
  ·rw[Heap.get?_update_other _ _ (Ne.symm hTe)];exact Qq7 _ ajE
 ·intro b o hb hnf;obtain⟨sl,q⟩:=hs.2.2 b o hb;refine⟨sl,?_⟩;rw[Heap.get?_update_other _ _ (λz=>by rw[<-z,he] at hb;cases hb;exact hnf vs hd)];exact Qqj _ q
theorem ahj{Q:Unit->Shared->Prop}(hfr:A.frames=some (env::outer))(hf:env.frame=some L)(F:Fl B (env::outer) e cls dd (λvs=>vs[1]? = some .none) s.heap)
  (h:∀h',Fl B (env::outer) e cls dd (Hd h' B e (rawInt L)) h'->s.heap.UpToSlots h'->Q () { s with heap:=h' }):wpAny M A (noteFrame (.ref e) env) Q E s:=by
 obtain⟨st,ne,fr,oe,vs,he,hc,hdd,hd,h1⟩:=F;unfold noteFrame;simp only[hf];refine Qqx<|wpAny_field he hd h1 ?_;rw[if_neg (by decide)];exact entry_at hfr fr hf st ne he hc hdd hd (Array.getElem?_eq_some_iff.mp h1).1 h
theorem abH{Q:Unit->Shared->Prop}(hfr:A.frames=some (env::outer))(hf:env.frame=some L)(F:Fl B (env::outer) e cls dd (Hd s.heap B e .none) s.heap)
  (h:∀h',Fl B (env::outer) e cls dd (Hd h' B e (rawInt L)) h'->s.heap.UpToSlots h'->Q () { s with heap:=h' }):wpAny M A (noteFrame (.ref e) env) Q E s:=by
 obtain⟨st,ne,fr,oe,vs,he,hc,hdd,hd,T,oT,ts,h1,hnT,hTe,hT,hdT,h3⟩:=F;unfold noteFrame;simp only[hf];refine Qqx<|wpAny_field he hd h1 ?_;rw[if_pos (show(Value.ref T != Value.none)=true from by simp)];refine Qqx<|wpAny_field hT hdT h3 ?_;rw[if_neg (show ¬((Value.none == rawInt L)=true) from by simp[rawInt])];refine Qqx<|wpAny_setField hT hdT (Array.getElem?_eq_some_iff.mp h3).1 ?_;have oth:∀b,b≠T->(s.heap.update T<|Obj.mapFields (·.setIfInBounds 3 Value.none)).get? b=s.heap.get? b:=λb hb=>Heap.get?_update_other _ _<|Ne.symm hb;have nr:∀b o,s.heap.get? b=some o->(∀vs,o.data ≠ .fields vs)->b≠T:=λb o hb hn z=>by rw[z,hT] at hb;cases hb;exact hn ts hdT
 exact entry_at (s:={ s with heap:=_ }) hfr (fr.of_keeps λb o hb hn=>⟨o,(oth b<|nr b o hb hn).trans hb,rfl⟩) hf (λb o q=>(oth b λz=>by rw[z,hnT] at q;cases q).trans<|st b o q) ne ((oth e<|Ne.symm hTe).trans he) hc hdd hd (Array.getElem?_eq_some_iff.mp h1).1
  λh' f u=>h h' f λb o hb hn=>u b o ((oth b<|nr b o hb hn).trans hb) hn
theorem land{fl:Value}{Q:Unit->Shared->Prop}(F:Fl B l e cls dd (Hd s.heap B e fl) s.heap)(h:∀h',Fl B l e cls dd (Hd h' B e .none) h'->s.heap.UpToSlots h'->Q () { s with heap:=h' }):wpAny M A (setFlight (.ref e) none) Q E s:=by
 obtain⟨st,ne,fr,oe,vs,he,hc,hdd,hd,T,oT,ts,h1,hnT,hTe,hT,hdT,h3⟩:=F;have hz:3<ts.size:=(Array.getElem?_eq_some_iff.mp h3).1;have oth:∀b,b≠T->(s.heap.update T<|Obj.mapFields (·.setIfInBounds 3 ((none:Option Addr).elim Value.none λf=>rawInt f))).get? b=s.heap.get? b:=λb hb=>Heap.get?_update_other _ _<|Ne.symm hb;have nr:∀b o,s.heap.get? b=some o->(∀vs,o.data ≠ .fields vs)->b≠T:=λb o hb hn z=>by rw[z,hT] at hb;cases hb;exact hn ts hdT
 unfold setFlight;refine Qqx<|wpAny_field he hd h1 ?_;rw[if_pos (show(Value.ref T != Value.none)=true from by simp)];refine wpAny_setField hT hdT hz<|h _ ⟨λb o q=>(oth b λz=>by rw[z,hnT] at q;cases q).trans<|st b o q,ne,fr.of_keeps λb o hb hn=>⟨o,(oth b<|nr b o hb hn).trans hb,rfl⟩,oe,vs,(oth e<|Ne.symm hTe).trans he,hc,hdd,hd,T,_,_,h1,hnT,hTe,Heap.get?_update_self _ hT<|Obj.isFreed_of_fields<|Obj.data_mapFields hdT _,Obj.data_mapFields hdT _,by simp[hz]⟩ λb o hb hn=>⟨o.slots,(oth b<|nr b o hb hn).trans hb⟩
theorem Fl.out{P:Array Value->Prop}{h:Heap}(F:Fl B (env::outer) e cls dd P h):Fl B outer e cls dd P h:=⟨F.st,F.ne,F.fr.2.2,F.ob⟩
theorem Z6{Q:Unit->Shared->Prop}(hfr:A.frames=some (env::outer))(hf:env.frame=some L)(F:Fl B (env::outer) e cls dd (λvs=>vs[1]? = some .none) s.heap)(h:∀h',Fl B outer e cls dd (Hd h' B e .none) h'->s.heap.UpToSlots h'->Q () { s with heap:=h' }):wpAny M A (leaving env (.ref e)) Q E s:=by unfold leaving;exact Qqx<|ahj hfr hf F λh1 f1 u1=>land (s:={ s with heap:=h1 }) f1 λh2 f2 u2=>h h2 f2.out<|u1.trans u2
theorem Z5{Q:Unit->Shared->Prop}(hfr:A.frames=some (env::outer))(hf:env.frame=some L)(F:Fl B (env::outer) e cls dd (Hd s.heap B e .none) s.heap)(h:∀h',Fl B outer e cls dd (Hd h' B e .none) h'->s.heap.UpToSlots h'->Q () { s with heap:=h' }):wpAny M A (leaving env (.ref e)) Q E s:=by unfold leaving;exact Qqx<|abH hfr hf F λh1 f1 u1=>land (s:={ s with heap:=h1 }) f1 λh2 f2 u2=>h h2 f2.out<|u1.trans u2
end
end XC
namespace L2
open PySem PySem.Spec PyProof.Rows
theorem qJ.stays{P:Program}{w:World}{H:Hp}{h h':Heap}(x:qJ P w H h)(k:∀b u,H b≠none->h.get? b=some u->h'.get? b=some u):qJ P w H h':=λa o e=>
 (x a o e).stay (λb u hb q=>k b u (by
  rcases hb with rfl|hb
  ·rw[e];exact λz=>nomatch z
  ·rw[hb];exact λz=>nomatch z) q) (λ_ q=>q) λ_ _ q=>q
theorem gK.obj{P:Program}{w:World}{H:Hp}{h:Heap}{a:Addr}{o:HO}(x:gK P w H h a o):∃u,h.get? a=some u:=by
 cases o with
 | lst xs=>obtain⟨_,_,_,_,e⟩:=x;exact⟨_,e⟩
 | tup xs=>obtain⟨_,_,_,_,e,_⟩:=x;exact⟨_,e⟩
 | dK kvs=>obtain⟨_,_,_,_,_,_,_,e,_⟩:=x;exact⟨_,e⟩
 | dT kvs=>obtain⟨_,_,_,_,_,_,_,e,_⟩:=x;exact⟨_,e⟩
 | dN kvs=>obtain⟨_,_,_,_,_,_,_,e,_⟩:=x;exact⟨_,e⟩
 | set S n=>obtain⟨_,_,_,_,e,_⟩:=x;exact⟨_,e⟩
 | ins C dx fs=>obtain⟨_,_,_,e,_⟩:=x;exact⟨_,e⟩
 | own y=>exact x
 | xd fs=>obtain⟨_,⟨_,_,_,e,_⟩,_⟩:=x;exact⟨_,e⟩
 | rng lo hi=>obtain⟨_,_,_,e⟩:=x;exact⟨_,e⟩
 | rZ ob u=>exact⟨_,x.1⟩
 | tbl ps=>exact⟨_,x⟩
 | tab qs=>obtain⟨_,e,_⟩:=x;exact⟨_,e⟩
 | met f y=>exact⟨_,x⟩
 | ext φ=>exact x.2.1
structure wV(P:Program)(w:World)(outer:List Env)(H:Hp)(s:Shared)(C a:Addr)(dd:Option Addr)(H':Hp)(B:Heap)(s':Shared):Prop where
 os:s'.os=s.os
 bare:AllBare s'.gens
 same:aR H H'
 un:Un (frs outer) [] H H' s.heap s'.heap
 hok:qJ P w H' B
 fl:XC.Fl B outer a (.ref C) dd (XC.Hd s'.heap B a .none) s'.heap
 old:∀b o,s.heap.get? b=some o->H b=none->b ∉ frs outer->B.get? b=some o
def X4(P:Program)(w:World):X5:=λouter H s E e s'=>∃(a C:Addr) (dd:Option Addr) (H':Hp) (B:Heap),e = .ref a/\E (.ref C) dd H'/\wV P w outer H s C a dd H' B s'
structure qR(X:Cx):Prop where
 st:X.stack=X.env::X.outer
 fr:X.env.frame=some X.env.locals
 ex:X.ex=[]
section
variable{X:Cx}{pins:List (Addr×Obj)}{σ:St}{H:Hp}{s s':Shared}{h':Heap}{a C:Addr}{vs:List Value}{E E1:XK}{E':Value->Shared->Prop}
theorem qR.XD(T:qR X)(b:Addr):b ∉ X.ex:=by rw[T.ex];exact λz=>nomatch z
theorem qR.nf(T:qR X)(I:Inv X pins σ H s){b:Addr}{o:Obj}(e:X.s₀.heap.get? b=some o)(hb:b ∉ X.fs):b ∉ frs X.stack:=λhm=>by
 rw[T.st] at hm;unfold frs at hm;rw[Qz0,T.fr] at hm;rcases Qqw.mp hm with rfl|hm
 ·exact absurd (Qwy (Qq9 e) I.ok.above)<|Qz2 _
 ·exact hb hm
theorem qR.sub(T:qR X){b:Addr}(hb:b∈X.fs):b∈frs X.stack:=by rw[T.st];unfold frs;rw[Qz0,T.fr];exact Qq0 _ hb
theorem qR.abI(I:Inv X pins σ H s){b:Addr}{o:Obj}(e:X.s₀.heap.get? b=some o)(hb:b∈X.fs):∀vs,o.data ≠ .fields vs:=by obtain⟨_,o',ho,hd⟩:=I.ok.wA.mem hb;rw[e] at ho;cases ho;exact hd
theorem abp(I:Inv X pins σ H s)(T:qR X){H':Hp}{B h':Heap}(old:∀b o,X.s₀.heap.get? b=some o->X.H₀ b=none->b ∉ X.fs->B.get? b=some o)(st:B.StaysIn h')
  (slot:∀b o,X.s₀.heap.get? b=some o->X.H₀ b=none->b∈X.fs->∃sl,h'.get? b=some { o with slots:=sl }) (free:∀b o,X.s₀.heap.get? b=some o->X.H₀ b=none->H' b=none)
  (sm:aR X.H₀ H') (hok:qJ X.prog X.w H' B):Un X.fs [] X.H₀ H' X.s₀.heap h' where
 keep:=λb o e n hb _=>st b o<|old b o e n hb
 slot:=λb o e n hb _=>slot b o e n hb
 free:=λb o e n _=>free b o e n
 there:=λb o e _=>by
  by_cases n:X.H₀ b=none
  ·by_cases hb:b∈X.fs
   ·obtain⟨sl,q⟩:=slot b o e n hb;exact⟨_,q⟩
   ·exact⟨o,st b o<|old b o e n hb⟩
  ·cases q:X.H₀ b with
   | none=>exact absurd q n
   | some u=>
    obtain⟨v,hv⟩:=(hok b u<|sm b u q).obj;exact⟨v,st b v hv⟩
 tups:=λb xs q=>sm b _ q
 tV:=λb o u q=>sm b _ q
 xx:=λb ps q=>⟨#[],by rw[sm b _ q];simp⟩
 tabs:=λb qs q=>sm b _ q
theorem Inv.leave{dd:Option Addr}{oe:Obj}{fs:Array Value}(I:Inv X pins σ H s)(T:qR X)(sm:aR X.H₀ H)(hE:E (.ref C) dd H)(hn:H a=none)(hnew:X.s₀.heap.get? a=none)(he:s.heap.get? a=some oe)(hc:oe.cls = .ref C)(hdd:oe.dict=dd)(hd:oe.data = .fields fs)(h1:fs[1]? = some .none) :
  wpAny (model X.prog X.w) X.A (leaving X.env (.ref a)) (λ_ s''=>X4 X.prog X.w X.outer X.H₀ X.s₀ E (.ref a) s'') E' s:=by
 have nF:a ∉ frs X.stack:=λhm=>by
  obtain⟨_,o,ho,hnf⟩:=I.stack.mem hm;rw[he] at ho;cases ho;exact hnf fs hd
 have old:=λb o e n hb=>
  PySem.W.hideAll_get _ (I.base.keep b o e n hb<|T.XD b) (λz=>by
   rcases Qqw.mp z with z|z
   ·rw[z,hnew] at e;cases e
   ·exact T.nf I e hb z)
 have hok:=qJ.stays I.hok λb u n q=>PySem.W.hideAll_get _ q λhm=>by
  rcases Qqw.mp hm with z|z
  ·exact n<|z ▸ hn
  ·exact n<|I.Eu b z
 have ff:s.heap.FunFrames (PySem.W.hideAll s.heap (a::frs X.stack)) (X.env::X.outer):=by have:=I.stack;rw[T.st] at this ⊢;exact PySem.W.funFrames_hide this λenv he b hb=>Qq0 _<|List.mem_filterMap.mpr ⟨env,he,hb⟩
 refine XC.Z6 (by rw[I.ok.frames,T.st]) T.fr ⟨λb o q=>PySem.W.of_hideAll _ q,PySem.W.hideAll_none _<|Qqv ..,ff,oe,fs,he,hc,hdd,hd,h1⟩ λh' f x4=>⟨a,C,dd,H,_,rfl,hE,I.os,I.bare,sm,?_,hok,f,old⟩;refine abp I T old f.st (λb o e n hb=>?_) (λb o e n=>I.base.free b o e n<|T.XD b) sm hok;obtain⟨sl,e1⟩:=I.base.slot b o e n hb<|T.XD b;obtain⟨sl',e2⟩:=x4 b _ e1 (by have z:=qR.abI I e hb;exact z);exact⟨sl',e2⟩
theorem Inv.Z7{e:Value}(I:Inv X pins σ H s)(T:qR X)(sm:aR X.H₀ H)(hE:∀C dd H',E1 (.ref C) dd H'->E (.ref C) dd H')(hc:X4 X.prog X.w X.stack H s E1 e s') :
  wpAny (model X.prog X.w) X.A (leaving X.env e) (λ_ s''=>X4 X.prog X.w X.outer X.H₀ X.s₀ E e s'') E' s':=by
 obtain⟨a,C,dd,H',B,rfl,h1,f⟩:=hc;have old:=λb o e n hb=>
  f.old b o (I.base.keep b o e n hb<|T.XD b) (I.base.free b o e n<|T.XD b) (T.nf I e hb)
 have sm':=sm.trans f.same;refine XC.Z5 (by rw[I.ok.frames,T.st]) T.fr (by rw[<-T.st];exact f.fl) λh' x1 x2=>⟨a,C,dd,H',B,rfl,hE C dd H' h1,f.os.trans I.os,f.bare,sm',?_,f.hok,x1,old⟩;refine abp I T old x1.st (λb o e n hb=>?_) (λb o e n=>?_) sm' f.hok
 ·obtain⟨sl,e1⟩:=I.base.slot b o e n hb<|T.XD b;obtain⟨sl',e2⟩:=f.un.slot b _ e1 (I.base.free b o e n<|T.XD b) (T.sub hb)<|λz=>nomatch z;obtain⟨sl3,e3⟩:=x2 b _ e2 (by have z:=qR.abI I e hb;exact z);exact⟨sl3,e3⟩
 ·obtain⟨o',e1⟩:=I.base.there b o e<|T.XD b;exact f.un.free b o' e1 (I.base.free b o e n<|T.XD b)<|λz=>nomatch z
theorem Inv.Yk{φ:Heap->Prop}(I:Inv X pins σ H s)(ha:H a=some (.ext φ))(h0:X.H₀ a=none):Inv X pins σ (λb=>if b=a then none else H b) s:=by
 have up:∀{b} {u},b≠a->H b=some u->(λb=>if b=a then none else H b) b=some u:=λhb q=>by show(if _ then _ else _)=_;rw[if_neg hb];exact q
 have nn:∀{b},H b=none->(λb=>if b=a then none else H b) b=none:=λq=>by show(if _ then _ else _)=_;split;rfl;exact q
 have z0:∀{b} {u},X.H₀ b=some u->b≠a:=λq z=>by rw[z,h0] at q;cases q
 refine⟨I.ok,I.os,I.bare,⟨I.base.keep,I.base.slot,λb o e n hx=>nn<|I.base.free b o e n hx,I.base.there,λb xs q=>up (z0 q)<|I.base.tups b xs q,λb o u q=>up (z0 q)<|I.base.tV b o u q,λb ps q=>?_,λb qs q=>up (z0 q)<|I.base.tabs b qs q⟩,I.loc,I.cell,nn I.free,λx c e=>?_,λp hp=>?_,λb u e=>?_,I.len⟩
 ·obtain⟨more,e⟩:=I.base.xx b ps q;exact⟨more,up (z0 q) e⟩
 ·rcases I.mz x c e with q|⟨q1,o,u,q2⟩
  ·exact .inl<|nn q
  ·by_cases z:c=a
   ·exact .inl (by show(if _ then _ else _)=_;rw[if_pos z])
   ·exact .inr ⟨q1,o,u,up z q2⟩
 ·obtain⟨e,n,ne,nf,d⟩:=I.pin p hp;exact⟨e,nn n,ne,nf,d⟩
 ·by_cases z:b=a
  ·exfalso;have e':=e;rw[if_pos z] at e';cases e'
  ·have e':=e;rw[if_neg z] at e';refine(I.hok b u e').stay (λ_ _ _ q=>q) (λc q=>up (λy=>by rw[y,ha] at q;cases q) q) (λc xs q=>up (λy=>by rw[y,ha] at q;cases q) q) λc o' u' vs hd q=>up (λy=>by rw[y,ha] at q;cases q) q
abbrev Km(e:Addr)(o:Obj):HO:=.ext λh=>h.get? e=some o
theorem Ww{P:Program}{w:World}{H:Hp}{h:Heap}{e:Addr}{o:Obj}(q:h.get? e=some o):gK P w H h e (Km e o):=⟨q,⟨o,q⟩,λh1 h2 p k=>k o p⟩
theorem Inv.aiI{o od:Obj}{dx:Addr}{tk:Nat}(I:Inv X pins σ H s)(he:H a=some (Km a o))(k:∀b ob,b≠a->s.heap.get? b=some ob->h'.get? b=some ob)(h1:h'.get? a=some { o with dict:=some dx })(h2:s.heap.get? dx=none)(h3:dx≠a)(h4:h'.get? dx=some od) :
  H dx=none/\Inv X pins σ (upd (upd H a (Km a { o with dict:=some dx })) dx (.rZ od (.own dx))) { s with heap:=h',toks:=tk }:=by
 have hdx:H dx=none:=by
  cases q:H dx with
  | none=>rfl
  | some u=>
   obtain⟨v,hv⟩:=(I.hok dx u q).obj;rw[h2] at hv;cases hv
 refine⟨hdx,?_⟩;have up:∀{b} {u},b≠a->H b=some u->upd (upd H a<|Km a { o with dict:=some dx }) dx (.rZ od<|.own dx) b=some u:=λ{b u} z q=>by rw[bH (dm q hdx),bH z];exact q
 have na:∀{b},H b=none->b≠a:=λq z=>by rw[z,he] at q;cases q
 refine I.step (ch:=[]) (λ_ z=>nomatch z) (λb ob _ _ _ e n=>k b ob (na n) e) (λb ob _ _ _ e n=>⟨ob.slots,k b ob (na n) e⟩) (λb ob _ e n=>?_) (λb ob _ e=>?_) (λb xs q=>up (λz=>by rw[z,he] at q;cases q) q) (λb ob u q=>up (λz=>by rw[z,he] at q;cases q) q) (λb ps q=>⟨#[],by rw[up (λz=>by rw[z,he] at q;cases q) q];simp⟩) (λm hn=>?_) (λb u q=>?_) I.bare<|λb qs q=>up (λz=>by rw[z,he] at q;cases q) q
 ·rw[bH (λz=>by rw[z,h2] at e;cases e),bH<|na n];exact n
 ·by_cases z:b=a
  ·exact⟨_,by rw[z];exact h1⟩
  ·exact⟨ob,k b ob z e⟩
 ·obtain⟨oL,es,ep,hoL,r⟩:=hn;exact⟨oL,es,ep,k _ _ (na I.free) hoL,r⟩
 ·by_cases zd:b=dx
  ·subst zd;rw[aZ] at q;cases q;exact⟨h4,od,h4⟩
  ·rw[bH zd] at q;by_cases z:b=a
   ·subst z;rw[aZ] at q;cases q;exact Ww h1
   ·rw[bH z] at q;refine(I.hok b u q).stay (λc ob hc e=>k c ob (λy=>?_) e) (λc y=>up (λx=>by rw[x,he] at y;cases y) y) (λc xs y=>up (λx=>by rw[x,he] at y;cases y) y) λc _ _ _ _ y=>up (λx=>by rw[x,he] at y;cases y) y;rcases hc with hc|hc
    ·exact z<|hc ▸ y
    ·rw[y,he] at hc;cases hc
theorem Inv.Vy(I:Inv X pins σ H s)(T:qR X)(h:s.heap.get? a=none):X.s₀.heap.get? a=none:=by
 cases q:X.s₀.heap.get? a with
 | none=>rfl
 | some o=>
  obtain⟨o',e⟩:=I.base.there a o q<|T.XD a;rw[h] at e;cases e
theorem Inv.none_of(I:Inv X pins σ H s)(h:s.heap.get? a=none):H a=none:=by
 cases q:H a with
 | none=>rfl
 | some u=>
  obtain⟨v,hv⟩:=(I.hok a u q).obj;rw[h] at hv;cases hv
theorem Inv.laidN{o:HO}{tk:Nat}(I:Inv X pins σ H s)(k:∀b ob,s.heap.get? b=some ob->h'.get? b=some ob)(h2:s.heap.get? a=none)(new:gK X.prog X.w (upd H a o) h' a o):Inv X pins σ (upd H a o) { s with heap:=h',toks:=tk }:=by
 have hn:=I.none_of h2;have up:∀{b} {u},H b=some u->upd H a o b=some u:=λq=>by rw[bH (dm q hn)];exact q
 refine I.step (ch:=[]) (λ_ z=>nomatch z) (λb ob _ _ _ e _=>k b ob e) (λb ob _ _ _ e _=>⟨ob.slots,k b ob e⟩) (λb ob _ e n=>by rw[bH (λz=>by rw[z,h2] at e;cases e)];exact n) (λb ob _ e=>⟨ob,k b ob e⟩) (λb xs q=>up q) (λb ob u q=>up q) (λb ps q=>⟨#[],by rw[up q];simp⟩) (λm hn=>?_) (λb u q=>?_) I.bare<|λb qs q=>up q
 ·obtain⟨oL,es,ep,hoL,r⟩:=hn;exact⟨oL,es,ep,k _ _ hoL,r⟩
 ·by_cases z:b=a
  ·subst z;rw[aZ] at q;cases q;exact new
  ·rw[bH z] at q;exact(I.hok b u q).stay (λc ob _ e=>k c ob e) (λc y=>up y) (λc xs y=>up y) λc _ _ _ _ y=>up y
end
end L2
namespace Ev
open PySem PySem.Spec PyProof.Rows L2
def Ay:D->Bool
 | .lst _=>true
 | .dct _=>true
 | .mR _=>true
 | _=>false
theorem aev{K:Fg}{F H:Hp}{d:D}{a:Addr}(h:Ay d=false)(o:kh K F H d a):False:=by cases d<;>first|exact o.elim|cases h
def FX(R:D->Hp->Prop)(C:Cfg)(Pr F:Hp):Out->Prop
 | .rt true d env'=>Ay d=false/\∀σ' H' F',Rel C Pr F' env' σ' H'->aR F F'->R d H'
 | _=>True
theorem FX.mono{R:D->Hp->Prop}{C:Cfg}{Pr F F1:Hp}(s:aR F F1){o:Out}(h:FX R C Pr F o):FX R C Pr F1 o:=by
 unfold FX at h ⊢;split
 ·exact⟨h.1,λσ' H' F' r t=>h.2 σ' H' F' r<|s.trans t⟩
 ·trivial
def tX(R:D->Hp->Prop)(C:Cfg)(ev:cC):TS:=λD σ H=>∃(Pr F:Hp) (env:Env),Rel C Pr F env σ H/\Fin C Pr F D (ev env)/\FX R C Pr F (ev env)
def PR(R:D->Hp->Prop)(X:Cx)(C:Cfg)(st:Stmt)(ev:cC):Prop:=PS X st (tX R C ev)
def PRs(R:D->Hp->Prop)(X:Cx)(C:Cfg)(st:List Stmt)(ev:cC):Prop:=zq X st (tX R C ev)
section
variable{R:D->Hp->Prop}{X:Cx}{C:Cfg}{pos:Pos}
theorem Vh{st:Stmt}{t:TS}(h:PS X.uH st t):PS X st t:=λpins s σ H D I hw=>by
 refine Qw9 (h pins s σ H D (I.wish _) hw) (λf s1 q=>?_) λ_ _ z=>False.elim z;cases f with
 | next=>exact let ⟨σ',H',J,z⟩:=q;⟨σ',H',J.fK,z⟩
 | brk=>exact let ⟨σ',H',J,z⟩:=q;⟨σ',H',J.fK,z⟩
 | cont=>exact let ⟨σ',H',J,z⟩:=q;⟨σ',H',J.fK,z⟩
 | ret u=>exact let ⟨v,σ',H',J,z⟩:=q;⟨v,σ',H',J.fK,z⟩
theorem Vu{es:List Expr}{t:TA}(h:PA X.uH es t):PA X es t:=λpos pins s σ H Q I hw=>
 Qw9 (h pos pins s σ H Q (I.wish _) hw) (λ_ _ ⟨v,H',I',r,q⟩=>⟨v,H',I'.fK,r,q⟩) λ_ _ z=>False.elim z
theorem Oh{st:Stmt}{ev:cC}(h:Xo X.uH C st ev):PR R X C st ev:=(Vh h).imp λD σ H ⟨Pr,F,env,r,f,_⟩=>⟨Pr,F,env,r,f⟩
theorem xR{st:List Stmt}{ev:cC}(h:Bx X.uH C st ev):PRs R X C st ev:=(zq.uH h).imp λD σ H ⟨Pr,F,env,r,f,_⟩=>⟨Pr,F,env,r,f⟩
theorem sV{st:Stmt}{a:cC}(h1:PR R X C st a):PRs R X C [st] a:=zA h1
theorem pD{st:Stmt}{rest:List Stmt}{a b:cC}(h1:PR R X C st a)(h2:PRs R X C rest b):PRs R X C (st::rest) (aP a b):=(Io h1 h2).imp λD σ H h=>by
 obtain⟨Pr,F,env,r,f,x⟩:=h;refine⟨Pr,F,env,r,?_⟩;unfold aP at f x;cases e:a env with
 | nx e1=>rw[e] at f x;exact⟨λσ' H' F' r' s'=>⟨Pr,F',e1,r',f.mono s',x.mono s'⟩,trivial⟩
 | rt o d e1=>rw[e] at f x;cases o<;>exact⟨f,x⟩
 | bk e1=>rw[e] at f x;exact⟨f,x⟩
 | ct e1=>rw[e] at f x;exact⟨f,x⟩
 | stuck=>rw[e] at f;exact f.elim
theorem Vk{c:Expr}{a b:List Stmt}{t:gh}{ea eb:cC}(hc:PXT X.uH C c t)(ha:PRs R X C a ea)(hb:PRs R X C b eb):PR R X C (.If c a b pos) (d8 t ea eb):=(abB (PT.uH hc) ha hb).imp λD σ H h=>by
 obtain⟨Pr,F,env,r,f,x⟩:=h;obtain⟨k,e1,e2,f1⟩:=cT f;have x1:FX R C Pr F (if k=true then ea e1 else eb e1):=by unfold d8 at x;rw[e2] at x;exact x
 refine⟨Pr,F,env,e1,k,r,e2,λH1 F1 r1 s1=>?_⟩;cases k with
 | true=>exact⟨Pr,F1,e1,r1,f1.mono s1,x1.mono s1⟩
 | false=>exact⟨Pr,F1,e1,r1,f1.mono s1,x1.mono s1⟩
end
def exV:D->Option V
 | .non=>some .non
 | .int n=>some (.int n)
 | _=>none
def tW(t:Str)(d:D)(dd:Option Addr)(H:Hp):Prop:=match d with
 | .tup [d]=>∃(v:V) (w:Value) (dx:Addr) (od:Obj) (m:Str->Option Value),exV d=some v/\RelV v w/\dd=some dx/\H dx=some (.rZ od (.own dx))/\(∀h:Heap,h.get? dx=some od->h.Ns dx m)/\m t=some w
 | _=>dd=none
def G3(H:Hp)(dd:Option Addr):Prop:=∀dx,dd=some dx->H dx=none
abbrev Tf(P:Program)(w:World)(K:Fg)(mg:Str->Option Value)(base:Heap)(N:List Str)(qual:Str)(st:Stmt)(f:Addr)(cdv:Value)(A:Around)(outer:List PySem.Env)(s:Shared)(H:Hp)(E:XK):Cx:=Gv (X4 P w) P w K mg base N qual (aL st) f cdv A outer s H E
def EC(cl:Addr)(t:Str)(d:D)(H0:Hp):XK:=λv dd H=>v = .ref cl/\tW t d dd H/\G3 H0 dd
def spX(K:Fg)(n:Nat)(c:List D->Option D)(cl:Addr)(t:Str):Sp:=λvs H _ E=>∃(F:Hp) (ds:List D) (d:D),ds.length=n/\aR F H/\bT K F ds vs/\c ds=some d/\∀dd H',tW t d dd H'->G3 H dd->E (.ref cl) dd H'
def Ih(n:Nat)(ev:cC)(ds:List D):Option D:=match ev (envOf n ds) with
 | .rt true d _=>if Ay d=true then none else some d
 | _=>none
def tEX(R:D->Hp->Prop)(C:Cfg)(c:Ev):TE:=λσ H _=>∃(Pr F:Hp) (env env':Env) (d:D),Rel C Pr F env σ H/\c env = .ok d env'/\∀H' F',Rel C Pr F' env' σ H'->aR F F'->R d H'
def PXX(R:D->Hp->Prop)(X:Cx)(C:Cfg)(e:Expr)(c:Ev):Prop:=PE X e (tEX R C c)
def S7(P:Program)(w:World)(K:Fg)(mg:Str->Option Value)(base:Heap)(x:Str)(k:Nat)(ps:List Str)(sp:Sp):Prop:=
 ∃f fd,mY P w K mg base (X4 P w) k f fd ps sp/\mg x=some (.ref f)/\PySem.W.keepIn K (.ref f)=true/\Binds K fd ps []
abbrev RX(H:Hp)(d:D):D->Hp->Prop:=λd' H'=>d'=d/\aR H H'
section
variable{P:Program}{w:World}{K:Fg}{mg:Str->Option Value}{base:Heap}{x qual t:Str}{st:Stmt}{f:Addr}{fd:FuncData}{N ps:List Str}{k:Nat}{ev:cC}{cdv:Value}{A:Around}{outer:List PySem.Env}{s:Shared}{H:Hp}{E:XK}{cl:Addr}{d:D}{R:D->Hp->Prop}{X:Cx}{C:Cfg}{pos p:Pos}{e:Expr}{es:List Expr}{c:Ev}{n:Nat}
theorem Ek:qR (Tf P w K mg base N qual st f cdv A outer s H E):=⟨rfl,rfl,rfl⟩
theorem Dw(F:cV K mg x st ps)(S:bC N ps (aL st))(cl:Addr)(t:Str)
  (hb:∀(f:Addr) (cdv:Value) (A:Around) (outer:List PySem.Env) (s:Shared) (H:Hp) (E:XK) (d:D),gJ k (A.deeper (envOfC x (aL st) s.heap.objs.size f cdv))->(∀dd H',tW t d dd H'->G3 H dd->E (.ref cl) dd H')->Good (bx P w K mg base N x st f cdv A outer s H E) (C0 K)->
   PRs (RX H d) (Tf P w K mg base N x st f cdv A outer s H E) (C0 K) (cO st) ev) :
  S7 P w K mg base x (k+1) ps (spX K ps.length (Ih N.length ev) cl t):=by
 obtain⟨f,fd,h1,h2,h3⟩:=F;have kp:=h1.kp;refine⟨f,fd,?_,h2,kp,h3⟩;obtain⟨oc,od,kV,doc,pm,an,cdv,ct,osl,rfl,lk,hcd⟩:=h1.ex;refine ab5 lk hcd S (λvs H Q E h=>?_)<|λA outer s H vs Q E hr h=>?_
 ·obtain⟨F0,ds,d,hl,_,p,_⟩:=h;rw[p.length,hl]
 ·obtain⟨F0,ds,d,hl,sF,p,e,q⟩:=h;refine⟨_,hb f cdv A outer s H E d hr q<|vW rfl hr,Dz H F0,F0,envOf N.length ds,xO sF p,?_⟩;unfold Ih at e;split at e
  ·rename_i d' env' h1;rw[h1];split at e
   ·cases e
   ·rename_i ho;cases e;have ho':Ay d=false:=by cases z:Ay d with|false=>rfl|true=>exact absurd z ho
    exact⟨λa σ' H' F' r' s' n'=>(aev ho' n'.own).elim,ho',λσ' H' F' r' s'=>⟨rfl,aR.FJ r'.pr s' r'.fr sF⟩⟩
  ·cases e
theorem X7(hE:∀dd H',tW t d dd H'->G3 H dd->E (.ref cl) dd H')(pins:List (Addr×Obj))(σ:L2.St)(H0 H1:Hp)(s1:Shared)(b:Addr)(d':D)(dd:Option Addr)(oe:Obj)(fs:Array Value)(I:Inv (Tf P w K mg base N qual st f cdv A outer s H E) pins σ H1 s1)(r:RX H d d' H0)(sm:aR H0 H1)
  (v:tW t d' dd H1) (nw:G3 H dd) (hn:H1 b=none) (hw:s.heap.get? b=none) (he:s1.heap.get? b=some oe) (hc:oe.cls = .ref cl) (hdd:oe.dict=dd) (hd:oe.data = .fields fs) (h1:fs[1]? = some .none):(Tf P w K mg base N qual st f cdv A outer s H E).xe (.ref b) s1:=
 Inv.leave I Ek (r.2.trans sm) (hE _ _ (r.1 ▸ v) nw) hn hw he hc hdd hd h1
theorem af4(hE:∀dd H',tW t d dd H'->G3 H dd->E (.ref cl) dd H')(pins:List (Addr×Obj))(σ:L2.St)(H1:Hp)(s1:Shared)(e:Value)(s':Shared)(d':D)(I:Inv (Tf P w K mg base N qual st f cdv A outer s H E) pins σ H1 s1)(r:RX H d d' H1)
  (m:X4 P w (Tf P w K mg base N qual st f cdv A outer s H E).stack H1 s1 (EC cl t d' H1) e s'):(Tf P w K mg base N qual st f cdv A outer s H E).xe e s':=
 I.Z7 Ek r.2 (λC dd H' z=>by obtain⟨z,y,nw⟩:=z;cases z;exact hE _ _ (r.1 ▸ y) λdx e=>r.2.free<|nw dx e) m
def qy(cc:List D->Option D)(a:dq):Ev:=λenv=>bindR (a env) λds aD=>match cc ds with
 | some d=>.ok d aD
 | none=>.stuck
theorem UJ{cc:List D->Option D}{cl:Addr}{a:dq}{ps:List Str}(G:S7 X.prog X.w X.K X.mg X.base x k ps (spX C.K n cc cl t))(hr:gJ k X.A)(hg:Gl X x)(ha:Nj X.uH C (e::es) a)
  (hn:∀env ds env',a env = .ok ds env'->ds.length=n)
  (hxe:∀(pins:List (Addr×Obj)) (σ:L2.St) (H:Hp) (s:Shared) (e:Value) (s':Shared) (d:D),Inv X pins σ H s->R d H->X4 X.prog X.w X.stack H s (EC cl t d H) e s'->X.xe e s')
  (hdb:jN x:=by decide) (he:starEach (e::es) X.env=(false,eval e X.env)::starEach es X.env:=by rfl) (hpl:(backTo pos (starEach es X.env)).any (·.1)=false:=by rfl) :
  PXX R X C (.Call (.Name x p) (e::es) [] pos) (qy cc a):=by
 intro pins s σ H Q I h;obtain⟨Pr,F,env,env',d,r,e1,q⟩:=h;obtain⟨f,fd,G,hm,hk,hb⟩:=G;obtain⟨ds,aD,e2,e3⟩:=aO e1;split at e3
 ·rename_i d0 hc;cases e3;refine wpAny_Call_Name_kw<|sW I hg hm ?_ hdb;refine PySem.W.callWith_K I.ok.mod.Jl hk (fU (Vu ha pos pins s σ H (λvs H1=>spX C.K n cc cl t vs H1 Q (EC cl t d H1)/\R d H1) I
   ⟨Pr,F,env,env',ds,r,e2,λvs H' F' r' s' p'=>⟨⟨F',ds,d,hn _ _ _ e2,r'.fr,p',hc,λdd H' z nw=>⟨rfl,z,nw⟩⟩,q H' F' r' s'⟩⟩) λus s1 ⟨vs,H1,I1,rv,q1,hR⟩=>⟨I1.G5,?_⟩) he hpl
  have hl:us.length=ps.length:=by rw[<-rv.length];exact G.len _ _ _ _ q1
  have hb':=hb s1 us I1.G5 (by rw[Qx2];exact hl);rw[Qx2] at hb';refine wpAny_call<|Qk4 (G.run X.A X.stack s1 H1 ⟨us,[]⟩ us vs Q (EC cl t d H1) hr I1.env0 hb' rv q1) λr s' hq=>?_;cases r with
  | error e=>exact hxe pins σ H1 s1 e s' d I1 hR hq
  | ok fl=>
   cases fl with
   | ret u=>exact I1.after hq
   | next=>exact False.elim hq
   | brk=>exact False.elim hq
   | cont=>exact False.elim hq
 ·cases e3
def NB(c:Ev)(ev:cC):cC:=λenv=>match c env with
 | .ok d aD=>.rt true d aD
 | _=>ev env
theorem adz{ev:cC}(h:PXX R X C e c)(hn:Xo X.uH C (.Expr e pos) ev)(hs:swapsWith e none pos.line X.env=pure false:=by rfl):PR R X C (.Expr e pos) (NB c ev):=λpins s σ H D I z=>by
 obtain⟨Pr,F,env,r,f,y⟩:=z;unfold NB at f y;split at f
 ·rename_i d aD e1;rw[e1] at y;exact Fw h hs pins s σ H D I ⟨Pr,F,env,aD,d,r,e1,λH' F' r' s'=>y.2 σ H' F' r' s'⟩
 ·exact Vh hn pins s σ H D I ⟨Pr,F,env,r,f⟩
end
end Ev
namespace L2
open PySem PySem.Spec PyProof.Rows
theorem aiO{P:Program}{w:World}{fs:List Addr}{H H':Hp}{h B h':Heap}(old:∀b o,h.get? b=some o->H b=none->b ∉ fs->B.get? b=some o)(st:B.StaysIn h')
  (slot:∀b o,h.get? b=some o->H b=none->b∈fs->∃sl,h'.get? b=some { o with slots:=sl }) (free:∀b o,h.get? b=some o->H b=none->H' b=none)
  (sm:aR H H') (hok:qJ P w H' B):Un fs [] H H' h h' where
 keep:=λb o e n hb _=>st b o<|old b o e n hb
 slot:=λb o e n hb _=>slot b o e n hb
 free:=λb o e n _=>free b o e n
 there:=λb o e _=>by
  cases n:H b with
  | none=>
   by_cases hb:b∈fs
   ·obtain⟨sl,q⟩:=slot b o e n hb;exact⟨_,q⟩
   ·exact⟨o,st b o<|old b o e n hb⟩
  | some u=>
   obtain⟨v,hv⟩:=(hok b u<|sm b u n).obj;exact⟨v,st b v hv⟩
 tups:=λb xs q=>sm b _ q
 tV:=λb o u q=>sm b _ q
 xx:=λb ps q=>⟨#[],by rw[sm b _ q];simp⟩
 tabs:=λb qs q=>sm b _ q
section
variable{X:Cx}{pins:List (Addr×Obj)}{σ:St}{H H':Hp}{s s':Shared}{a C:Addr}{t:Option Addr}{B h':Heap}
theorem Inv.caught(I:Inv X pins σ H s)(f:wV X.prog X.w X.stack H s C a t H' B s'){Pv:Array Value->Prop}(fl:XC.Fl B X.stack a (.ref C) t Pv h')(up:s'.heap.UpToSlots h'):Inv X pins σ H' { s' with heap:=h' }:=by refine I.call' f.os (aiO f.old fl.st (λb o e n hb=>?_) (λb o e n=>f.un.free b o e n<|λz=>nomatch z) f.same f.hok) (f.hok.kept fl.st) f.bare<|λb z=>nomatch z;obtain⟨sl,e1⟩:=f.un.slot b o e n hb<|λz=>nomatch z;obtain⟨_,o',e2,hd⟩:=f.fl.fr.mem hb;rw[e1] at e2;cases e2;obtain⟨sl',e3⟩:=up b _ e1 hd;exact⟨sl',e3⟩
theorem wV.new(f:wV X.prog X.w X.stack H s C a t H' B s'):H' a=none:=by
 cases q:H' a with
 | none=>rfl
 | some u=>
  obtain⟨v,hv⟩:=(f.hok a u q).obj;rw[f.fl.ne] at hv;cases hv
theorem wV.ne(f:wV X.prog X.w X.stack H s C a t H' B s'){b:Addr}{o:Obj}(e:s.heap.get? b=some o)(n:H b=none)(hb:b ∉ frs X.stack):b≠a:=λz=>by
 have:=f.old b o e n hb;rw[z,f.fl.ne] at this;cases this
theorem wV.aeu(f:wV X.prog X.w X.stack H s C a t H' B s'):a ∉ frs X.stack:=λhb=>by
 obtain⟨_,o',e2,hd⟩:=f.fl.fr.mem hb;obtain⟨oe,vs,h1,_,_,h3,_⟩:=f.fl.ob;rw[e2] at h1;cases h1;exact hd _ h3
theorem Inv.known{oe:Obj}(T:qR X)(I:Inv X pins σ H s)(f:wV X.prog X.w X.stack H s C a t H' B s')(J:Inv X pins σ H' { s' with heap:=h' })(ho:h'.get? a=some oe) :
  Inv X pins σ (upd H' a (.rZ oe (.own a))) { s' with heap:=h' }:=by
 have hn:=f.new;have hnf:=f.aeu;have nL:a≠X.env.locals:=λz=>hnf (by rw[T.st];unfold frs;rw[Qz0,T.fr,z];exact Qqv);have up:∀{b} {u},H' b=some u->upd H' a (.rZ oe<|.own a) b=some u:=λ{b u} q=>by rw[bH (dm q hn)];exact q
 have un:∀{b},H' b=none->b≠a->upd H' a (.rZ oe<|.own a) b=none:=λ{b} q z=>by rw[bH z];exact q
 refine⟨J.ok,J.os,J.bare,⟨J.base.keep,J.base.slot,λb o e n hx=>un (J.base.free b o e n hx) ?_,J.base.there,λb xs q=>up<|J.base.tups b xs q,λb o u q=>up<|J.base.tV b o u q,λb ps q=>?_,λb qs q=>up<|J.base.tabs b qs q⟩,J.loc,J.cell,un J.free<|Ne.symm nL,λx c e=>?_,λp hp=>?_,λb u e=>?_,J.len⟩
 ·by_cases hb:b∈X.fs
  ·exact λz=>hnf<|z ▸ T.sub hb
  ·exact f.ne (I.base.keep b o e n hb hx) (I.base.free b o e n hx)<|T.nf I e hb
 ·obtain⟨more,e⟩:=J.base.xx b ps q;exact⟨more,up e⟩
 ·rcases J.mz x c e with q|⟨q1,o,u,q2⟩
  ·refine .inl<|un q λz=>?_;obtain⟨v,oc,hc,_⟩:=I.cell x c e;have n1:H c=none:=by
    cases q1:H c with
    | none=>rfl
    | some u=>rw[f.same c u q1] at q;cases q
   exact f.ne hc n1 (z ▸ hnf) z
  ·exact .inr ⟨q1,o,u,up q2⟩
 ·obtain⟨e,n,ne,nf,d⟩:=J.pin p hp;obtain⟨e',n',_,_,_⟩:=I.pin p hp;refine⟨e,un n<|f.ne e' n' λhm=>?_,ne,nf,d⟩;rw[T.st] at hm;unfold frs at hm;rw[Qz0,T.fr] at hm;rcases Qqw.mp hm with z|z
  ·exact ne z
  ·exact nf z
 ·by_cases hb:b=a
  ·subst hb;rw[aZ] at e;cases e;exact⟨ho,oe,ho⟩
  ·rw[bH hb] at e;exact(J.hok b u e).stay (λ_ _ _ q=>q) (λc q=>up q) (λc xs q=>up q) λc _ _ _ _ q=>up q
theorem Inv.gone{n:Str}{v:Option Value}{m:Str->Option Value}{tk:Nat}(I:Inv X pins σ H s)(hl:∀(i:Nat) (x:Str) (v:V),X.N[i]? = some x->σ[i]? = some (some v)->wW X.env.scope x->∃u,RelV v u/\Look X.env s.heap m x u)
  (hn:h'.Ns X.env.locals (λx=>if x=n then v else m x)) (hs:Heap.SameBut X.env.locals s.heap h') (no:∀(i:Nat) (v:V),X.N[i]? = some n->σ[i]? = some (some v)->False):Inv X pins σ H { s with heap:=h',toks:=tk }:=by
 have nl:∀{b} {o},X.s₀.heap.get? b=some o->b≠X.env.locals:=λe=>Qw0<|Qwy (Qq9 e) I.ok.above;refine⟨I.ok,I.os,I.bare,⟨λb o e q hb hx=>(hs.2 b<|nl e).trans<|I.base.keep b o e q hb hx,λb o e q hb hx=>?_,I.base.free,λb o e hx=>?_,I.base.tups,I.base.tV,I.base.xx,I.base.tabs⟩,⟨_,hn,λi x u e1 e2 e3=>?_⟩,λy c e=>?_,I.free,I.mz,λp hp=>?_,?_,I.len⟩
 ·obtain⟨sl,e1⟩:=I.base.slot b o e q hb hx;exact⟨sl,(hs.2 b<|nl e).trans e1⟩
 ·obtain⟨o',e1⟩:=I.base.there b o e hx;exact⟨o',(hs.2 b<|nl e).trans e1⟩
 ·obtain⟨u',r',q⟩:=hl i x u e1 e2 e3;refine⟨u',r',?_⟩;rcases q with ⟨k,e⟩|⟨k,c,e,z⟩
  ·refine .inl ⟨k,?_⟩;have:x≠n:=λz=>no i u (z ▸ e1) e2;simp[this,e]
  ·exact .inr ⟨k,c,e,z.sameBut hs<|I.cne x c e⟩
 ·obtain⟨w',z⟩:=I.cell y c e;exact⟨w',z.sameBut hs<|I.cne y c e⟩
 ·obtain⟨e,n,ne,nf,d⟩:=I.pin p hp;exact⟨(hs.2 p.1 ne).trans e,n,ne,nf,d⟩
 ·exact qJ.stays I.hok λb u q e=>(hs.2 b λz=>q<|z ▸ I.free).trans e
abbrev Cx.suite(X:Cx)(v:Value):Cx:={ X with A:=X.A.mark (some v),calm:=false,xe:=λ_ _=>False }
theorem Inv.suite(I:Inv X pins σ H s)(v:Value):Inv (X.suite v) pins σ H s:=
 ⟨⟨I.ok.mod,I.ok.kind,I.ok.glob,I.ok.blt,I.ok.above,I.ok.inj,I.ok.has,I.ok.cab,(λz=>nomatch z),I.ok.frames,I.ok.stk,I.ok.exf,I.ok.bs,I.ok.XH,I.ok.Rz,I.ok.R8,I.ok.wA,I.ok.frf⟩,I.os,I.bare,I.base,I.loc,I.cell,I.free,I.mz,I.pin,I.hok,I.len⟩
theorem Inv.behind{v:Value}(K:X.Ok)(I:Inv (X.suite v) pins σ H s):Inv X pins σ H s:=
 ⟨K,I.os,I.bare,I.base,I.loc,I.cell,I.free,I.mz,I.pin,I.hok,I.len⟩
end
end L2
namespace Ev
open PySem PySem.Spec PyProof.Rows L2
def xcV(n t:Str)(d:D):D:=match d with
 | .tup [d]=>.clo (.Nonlocal [n,t] ⟨0,0,0,0⟩) [d]
 | _=>.clo (.Nonlocal [n] ⟨0,0,0,0⟩) []
theorem X8{K:Fg}{F:Hp}{n t:Str}{d:D}{a c:Addr}{o:Obj}{u:HO}{fs:Array Value}(hn:PySem.W.nsIn K mainGlobals n=some (some (.ref c)))(ha:F a=some (.rZ o u))(hc:o.cls = .ref c)(hd:o.data = .fields fs)(hv:tW t d o.dict F):Rep K F (xcV n t d) (.ref a):=by
 by_cases z:∃d0,d = .tup [d0]
 ·obtain⟨d0,rfl⟩:=z;obtain⟨v,w,dx,od,m,h1,h2,h3,h4,h5,h6⟩:=hv;refine⟨a,[v],rfl,.inr<|.inr ⟨n,[t],_,o,u,c,fs,rfl,hn,ha,hc,hd,.inr ⟨t,v,w,dx,od,_,m,rfl,rfl,h2,h3,h4,h5,h6⟩⟩,?_⟩;have:Rep K F d0 v:=by
   unfold exV at h1;split at h1<;>cases h1<;>rfl
  exact⟨v,[],rfl,this,rfl⟩
 ·have e:xcV n t d = .clo (.Nonlocal [n] ⟨0,0,0,0⟩) []:=by
   unfold xcV;split
   ·rename_i d0;exact absurd ⟨d0,rfl⟩ z
   ·rfl
  rw[e];exact⟨a,[],rfl,.inr<|.inr ⟨n,[],_,o,u,c,fs,rfl,hn,ha,hc,hd,.inl ⟨rfl,rfl⟩⟩,rfl⟩
theorem Rel.drop{C:Cfg}{Pr F:Hp}{env:Env}{σ:L2.St}{H:Hp}{i:Nat}(r:Rel C Pr F env σ H)(hfx:C.fx i=none)(he:∀x,env[i]? ≠ some (some x)):Rel C Pr F env (σ.set i none) H:=by
 have g:∀j x v,env[j]? = some (some x)->σ[j]? = some v->(σ.set i none)[j]? = some v:=λj x v e q=>by
  rw[Qq3 (λz:i=j=>by subst z;exact he x e)];exact q
 have g':∀j x v,env[j]? = some (some x)->(σ.set i none)[j]? = some (some v)->σ[j]? = some (some v):=λj x v e q=>by
  rw[Qq3 (λz:i=j=>by subst z;exact he x e)] at q;exact q
 refine⟨r.pr,r.fr,by rw[Qw7];exact r.len,λj d e=>?_,λj d e=>?_,λj k d e a h1 h2 h3 h4=>r.apart j k d e a h1 h2 (g' _ _ _ h1 h3)<|g' _ _ _ h2 h4,r.dj,λj a e=>?_⟩
 ·obtain⟨v,h1,h2⟩:=r.val j d e;exact⟨v,g _ _ _ e h1,h2⟩
 ·obtain⟨a,h1,h2⟩:=r.own j d e;exact⟨a,g _ _ _ e h1,h2⟩
 ·rw[Qq3 (λz:i=j=>by subst z;rw[hfx] at e;cases e)];exact r.fix j a e
theorem Rel.held{C:Cfg}{Pr F:Hp}{env:Env}{σ:L2.St}{H H':Hp}{t:Str}{d:D}{dd:Option Addr}(r:Rel C Pr F env σ H)(s:aR H H')(v:tW t d dd H')(nw:G3 H dd):∃F',Rel C Pr F' env σ H'/\aR F F'/\tW t d dd F':=by
 by_cases z:∃d0,d = .tup [d0]
 ·obtain⟨d0,rfl⟩:=z;obtain⟨v,w,dx,od,m,h1,h2,h3,h4,h5,h6⟩:=v;have hn:=nw dx h3;obtain⟨r2,s2⟩:=Rel.new r hn;refine⟨_,r2.grow λb o e=>?_,s2,v,w,dx,od,m,h1,h2,h3,aZ,h5,h6⟩;by_cases y:b=dx
  ·subst y;rw[aZ] at e;cases e;exact h4
  ·rw[bH y] at e;exact s b o e
 ·refine⟨F,r.grow s,aR.refl F,?_⟩;unfold tW at v ⊢;split
  ·rename_i d0;exact absurd ⟨d0,rfl⟩ z
  ·split at v
   ·rename_i h _ _ ;exact absurd ⟨_,rfl⟩ z
   ·exact v
theorem tW.mono{t:Str}{d:D}{dd:Option Addr}{F F':Hp}(v:tW t d dd F)(s:aR F F'):tW t d dd F':=by
 unfold tW at v ⊢;split at v
 ·obtain⟨v,w,dx,od,m,h1,h2,h3,h4,h5,h6⟩:=v;exact⟨v,w,dx,od,m,h1,h2,h3,s _ _ h4,h5,h6⟩
 ·exact v
section
variable{X:Cx}{C:Cfg}{pos p:Pos}{x t:Str}{e:Expr}{es:List Expr}{c:Ev}{m k:Nat}{cl:Addr}
def afH(X:Cx)(C:Cfg)(st:Stmt)(c:Ev)(cl:Addr)(t:Str):Prop:=∀(pins:List (Addr×Obj)) (s:Shared) (σ:L2.St) (H Pr F:Hp) (env env':Env) (d:D) (E':Value->Shared->Prop),Inv X pins σ H s->Rel C Pr F env σ H->c env = .ok d env'->
 (∀(H1 F1:Hp) (s1:Shared) (v:Value) (s':Shared),Inv X pins σ H1 s1->Rel C Pr F1 env' σ H1->aR F F1->X4 X.prog X.w X.stack H1 s1 (EC cl t d H1) v s'->E' v s')->wpAny (model X.prog X.w) X.A (exec st X.env) (λ_ _=>False) E' s
theorem Uu{cc:List D->Option D}{a:dq}{ps:List Str}(G:S7 X.prog X.w X.K X.mg X.base x k ps (spX C.K m cc cl t))(hr:gJ k X.A)(hg:Gl X x)(ha:Nj X.uH C (e::es) a)
  (hn:∀env ds env',a env = .ok ds env'->ds.length=m) {pins:List (Addr×Obj)} {s:Shared} {σ:L2.St} {H Pr F:Hp} {env env':Env} {d:D} {E':Value->Shared->Prop} (I:Inv X pins σ H s) (r:Rel C Pr F env σ H) (e1:qy cc a env = .ok d env')
  (hxe:∀(H1 F1:Hp) (s1:Shared) (v:Value) (s':Shared),Inv X pins σ H1 s1->Rel C Pr F1 env' σ H1->aR F F1->X4 X.prog X.w X.stack H1 s1 (EC cl t d H1) v s'->E' v s')
  (hdb:jN x:=by decide) (he:starEach (e::es) X.env=(false,eval e X.env)::starEach es X.env:=by rfl) (hpl:(backTo pos (starEach es X.env)).any (·.1)=false:=by rfl) :
  wpAny (model X.prog X.w) X.A (eval (.Call (.Name x p) (e::es) [] pos) X.env) (λ_ _=>False) E' s:=by
 obtain⟨f,fd,G,hm,hk,hb⟩:=G;obtain⟨ds,aD,e2,e3⟩:=aO e1;split at e3
 ·rename_i d0 hc;cases e3;refine wpAny_Call_Name_kw<|sW I hg hm ?_ hdb;refine PySem.W.callWith_K I.ok.mod.Jl hk (Qw9 (ha pos pins s σ H (λvs H1=>∃F1,Rel C Pr F1 env' σ H1/\aR F F1/\spX C.K m cc cl t vs H1 (λ_ _=>False) (EC cl t d H1)) (I.wish _)
   ⟨Pr,F,env,env',ds,r,e2,λvs H' F' r' s' p'=>⟨F',r',s',F',ds,d,hn _ _ _ e2,r'.fr,p',hc,λdd H' z nw=>⟨rfl,z,nw⟩⟩⟩) (λus s1 ⟨vs,H1,I1,rv,F1,r1,sF,q1⟩=>⟨I1.fK.G5,?_⟩) λ_ _ z=>False.elim z) he hpl
  have I1:=I1.fK;have hl:us.length=ps.length:=by rw[<-rv.length];exact G.len _ _ _ _ q1
  have hb':=hb s1 us I1.G5 (by rw[Qx2];exact hl);rw[Qx2] at hb';refine wpAny_call<|Qk4 (G.run X.A X.stack s1 H1 ⟨us,[]⟩ us vs _ (EC cl t d H1) hr I1.env0 hb' rv q1) λr s' hq=>?_;cases r with
  | error e=>exact hxe H1 F1 s1 e s' I1 r1 sF hq
  | ok fl=>
   cases fl with
   | ret u=>obtain⟨_,_,_,_,_,_,_,z⟩:=hq;exact z.elim
   | next=>exact False.elim hq
   | brk=>exact False.elim hq
   | cont=>exact False.elim hq
 ·cases e3
theorem Ut{cc:List D->Option D}{a:dq}{ps:List Str}{spos:Pos}(G:S7 X.prog X.w X.K X.mg X.base x k ps (spX C.K m cc cl t))(hr:gJ k X.A)(hg:Gl X x)(ha:Nj X.uH C (e::es) a)
  (hn:∀env ds env',a env = .ok ds env'->ds.length=m) (hdb:jN x:=by decide) (he:starEach (e::es) X.env=(false,eval e X.env)::starEach es X.env:=by rfl) (hpl:(backTo pos (starEach es X.env)).any (·.1)=false:=by rfl)
  (hs:swapsWith (.Call (.Name x p) (e::es) [] pos) none spos.line X.env=pure false:=by rfl):afH X C (.Expr (.Call (.Name x p) (e::es) [] pos) spos) (qy cc a) cl t:=
 λ_ _ _ _ _ _ _ _ _ _ I r e1 hxe=>wpAny_Expr_any (fU (Uu G hr hg ha hn I r e1 hxe hdb he hpl) λ_ _ z=>z.elim) I.quiet hs
def HH(ev:cC)(c:Ev)(iy jn:Nat)(cn t:Str):cC:=λenv=>match c env with
 | .ok d env'=>.nx ((env'.set jn none).set iy (some (false,xcV cn t d)))
 | _=>ev env
structure Below(K:Fg)(mg:Str->Option Value)(S cn:Str)(cl:Addr):Prop where
 at_:∃Sa,mg S=some (.ref Sa)/\XC.Cl K Sa/\PySem.W.typeIn K (.ref Sa)=some (.type "type")/\PySem.W.mroIn K cl (.ref Sa)=some true
 nm:PySem.W.nsIn K mainGlobals cn=some (some (.ref cl))
theorem agr{st:Stmt}{ev:cC}{iy jn:Nat}{S cn n y:Str}{np yp np2 ap hp:Pos}(T:qR X)(hK:X.K=C.K)(W:Below X.K X.mg S cn cl)(hb:Bx X.uH C [st] ev)(hx:afH X C st c cl t)(hN:X.N.Nodup)(hjn:X.N[jn]? = some n)(hiy:X.N[iy]? = some y)
  (hij:iy≠jn) (hn:X.env.scope.names.lookup n=some .local) (hy:X.env.scope.names.lookup y=some .local) (fjn:C.fx jn=none) (fiy:C.fx iy=none) (gl:Gl X S) (hd:jN S:=by decide) (hd1:jN n:=by decide) (hd2:t7 n:=by decide)
  (hsw:swapsWith (.Name n np2) (some (.Name y yp)) ap.line X.env=pure false:=by rfl) :
  Xo X C (.Try [st] [.ExceptHandler (some (.Name S np)) (some n) [.Assign [.Name y yp] (.Name n np2) ap] hp] [] [] pos) (HH ev c iy jn cn t):=by
 intro pins s σ H D I h;obtain⟨Pr,F,env,r,f⟩:=h;unfold HH at f;split at f
 ·rename_i d env' hc;refine wpAny_Try_except<|wpAny_execs_cons<|Qw9 (hx pins s σ H Pr F env env' d _ I r hc λH1 F1 s1 v s' I1 r1 sF cx=>?_) (λ_ _ z=>z.elim) λ_ _ z=>z;obtain⟨a,Cc,dd,H',B,rfl,hE,fl⟩:=cx;obtain⟨hE,hv,nw⟩:=hE;cases hE;obtain⟨Sa,hS,Z,ty,sub⟩:=W.at_;obtain⟨hp',g',dr',tk',os'⟩:=s';have fl0:=fl.fl;rw[T.st] at fl0;refine XC.abH (by rw[I.ok.frames,T.st]) T.fr fl0 λh4 held up4=>?_;refine XC.land held λh5 afc up5=>?_;have I5:=I1.caught fl (h':=h5) (by rw[T.st];exact afc)<|up4.trans up5;obtain⟨oe,_,hoe,hcls,_⟩:=afc.ob;refine wpAny_handleBy_cons (codeAny_handlers_test<|Calls.Name_function_global I5.ok.kind gl (Calls.loadGlobal_global (by rw[I5.ok.glob];exact I5.mod.glob.keeps I5.bk) hS ?_) hd) (by intro q;cases q);refine XC.caught I5.G5 hoe hcls Z ty sub<|codeAny_handlers_suite_as ?_;refine XC.land afc λh6 ahT up6=>?_;have I6:=I1.caught fl (h':=h6) (by rw[T.st];exact ahT)<|(up4.trans up5).trans up6;obtain⟨oe6,vs6,ho6,hc6,ajF,hd6,_⟩:=ahT.ob;have I7:=Inv.known T I1 fl I6 ho6;refine rm I7 hN hjn (.inl hn) (v:=.ref a) rfl (λs8 I8=>?_) (.inr hn);have hσ:jn<σ.length:=by rw[I.len];exact(Qq6.mp hjn).1
  refine Qw9 ((zA<|Lz (X:=X.suite<|.ref a) hN hiy (.inl hy) (jF (X:=X.suite<|.ref a) hjn (.inl hn) hd1 hd2) hsw<|.inr hy) pins s8 _ _
   { nx:=λσ' H''=>σ'=(σ.set jn<|some<|.ref a).set iy (some<|.ref a)/\H''=upd H' a (.rZ oe6<|.own a),rt:=λ_ _=>False } (I8.suite _) ⟨.ref a,Qwq hσ,rfl,rfl⟩) (λf9 s9 q9=>?_) λ_ _ z=>z.elim
  cases f9 with
  | next=>
   obtain⟨σ9,H9,J9,rfl,rfl⟩:=q9;have I9:=J9.behind I.ok;have I9':=I9.weak (σ':=((σ.set jn<|some<|.ref a).set iy<|some (.ref a)).set jn none) (by rw[Qw7]) (λi v q=>by
    by_cases z:jn=i
    ·subst z;rw[Qwq (by rw[Qw7,Qw7];exact hσ)] at q;cases q
    ·rw[Qq3 z] at q;exact q)
   obtain⟨m9,hm9,hl9⟩:=I9'.loc;refine wpAny_nameGoes_keeps (m:=m9) hn hm9 (by rw[I.ok.kind];rfl) λh10 v10 hNs hsb=>?_;have I10:=I9'.gone (tk:=s9.toks+1) hl9 hNs hsb (λi v q1 q2=>by
    have z:jn=i:=Ai hN hjn q1;subst z;rw[Qwq (by rw[Qw7,Qw7];exact hσ)] at q2;cases q2)
   obtain⟨F2,r2,sF1,hv2⟩:=r1.held fl.same hv nw;obtain⟨r2,sF2⟩:=Rel.new (a:=a) (o:=.rZ oe6 (.own a)) r2 fl.new;have rp:Rep C.K (upd F2 a (.rZ oe6 (.own a))) (xcV cn t d) (.ref a):=X8 (by rw[<-hK];exact W.nm) aZ hc6 hd6 (by rw[ajF];exact hv2.mono sF2);refine⟨_,_,I10,f _ _ _ ((((r2.unset (i:=jn) (v:=.ref a) fjn).put (i:=iy) fiy rp)).drop fjn λx q=>?_) ((sF.trans sF1).trans sF2)⟩;rw[Qq3 hij,List.getElem?_set] at q;split at q
   ·split at q<;>cases q
   ·rename_i z;exact z rfl
  | brk=>obtain⟨_,_,_,z⟩:=q9;exact z.elim
  | cont=>obtain⟨_,_,_,z⟩:=q9;exact z.elim
  | ret u=>obtain⟨_,_,_,_,_,z⟩:=q9;exact z.elim
 ·exact adv hb pins s σ H D I ⟨Pr,F,env,r,f⟩
end
def wg(T:Str->Option Bool)(d:D):Option D:=match d with
 | .clo (.Nonlocal (n::_) _) _=>(T n).map .bl
 | _=>none
theorem PJ{T:Str->Option Bool}{d e:D}(h:wg T d=some e):∃n r p ds b,d = .clo (.Nonlocal (n::r) p) ds/\T n=some b/\e = .bl b:=by
 unfold wg at h;split at h
 ·obtain⟨b,h1,h2⟩:=Qw1.mp h;exact⟨_,_,_,_,b,rfl,h1,h2.symm⟩
 ·cases h
theorem acr{K:Fg}{F H:Hp}{n:Str}{r:List Str}{p0:Pos}{ds:List D}{v:V}{P:Program}{w:World}{h:Heap}(hr:Rep K F (.clo (.Nonlocal (n::r) p0) ds) v)(s:aR F H)(ok:qJ P w H h):∃a c,v = .ref a/\PySem.W.nsIn K mainGlobals n=some (some (.ref c))/\XC.At a c h:=by
 obtain⟨a,vs,rfl,q,_⟩:=hr;rcases q with ⟨_,z⟩|⟨_,_,_,_,_,_,z,_⟩|⟨n',r',p',o,u,c,fs,z,h1,h2,h3,_⟩
 ·cases z
 ·cases z
 ·cases z;exact⟨a,c,rfl,h1,o,(ok a _<|s _ _ h2).1,h3⟩
section
variable{X:Cx}{C:Cfg}
theorem J5{T:Str->Option Bool}{y:V}{cv:Value}(ry:∀u,RelV y u->u=cv)(hk:∀n b c,T n=some b->PySem.W.nsIn X.K mainGlobals n=some (some (.ref c))->XC.Cl X.K c/\PySem.W.kitOne X.K (.ref c) cv=some b) :
  iu X (.builtin "isinstance") (λxs H Q=>∃n r p0 ds b x,xs=[x,y]/\T n=some b/\Rep X.K H (.clo (.Nonlocal (n::r) p0) ds) x/\Q (.bl b) H):=by
 intro pins s σ H xs us Q I r h;obtain⟨n,r0,p0,ds,b,x,rfl,hT,hr,q⟩:=h;obtain⟨u,w,rfl,r1,r2⟩:=vals2 r;obtain⟨a,c,rfl,h1,h2⟩:=acr hr (aR.refl H) I.hok;cases r1;rw[ry w r2];obtain⟨Z,e⟩:=hk n b c hT h1;exact XC.isi Z I.G5 h2 e λtk=>⟨.bl _,H,I.tok tk,rfl,q⟩
theorem adk{T:Str->Option Bool}{xT:Str}{e:Expr}{a:Ev}{p q pos:Pos}{cl:Addr}(hg:Gl X "isinstance")(hm:X.mg "isinstance" = none)(hgT:Gl X xT)(hmT:X.mg xT=some (.ref cl))
  (hk:∀n b c,T n=some b->PySem.W.nsIn X.K mainGlobals n=some (some (.ref c))->XC.Cl X.K c/\PySem.W.kitOne X.K (.ref c) (.ref cl)=some b) (hK:X.K=C.K) (ha:PX X C e a) (hd:jN xT:=by decide)
  (he:starEach [e,.Name xT q] X.env=(false,eval e X.env)::starEach [.Name xT q] X.env:=by rfl) :
  PX X C (.Call (.Name "isinstance" p) [e,.Name xT q] [] pos) (fj (wg T) a):=by
 refine(rN (J5 (y:=.ref cl) (λu r=>r) hk) hg hm boot_isinstance (dX ha (dX (Om (v:=.ref cl) hgT hmT rfl hd) jf) he) (by decide) (by decide) he rfl).imp λσ H Q h=>?_;obtain⟨Pr,F,env,env',d,rl,e1,qq⟩:=h;obtain⟨d0,aD,e2,e3⟩:=aO e1;obtain⟨e4,rfl⟩:=cA e3;obtain⟨n,r0,p0,ds,b,rfl,hT,rfl⟩:=PJ e4;refine⟨Pr,F,env,env',_,rl,e2,λv H1 F1 r1 s1 p1=>⟨n,r0,p0,ds,b,v,rfl,hT,?_,qq _ H1 F1 r1 s1 rfl⟩⟩;rw[hK];exact Rep.mono r1.fr _ v p1
theorem Y6{T:Str->Option Bool}{B:String}{xT:Str}{e:Expr}{a:Ev}{p q pos:Pos}(hg:Gl X "isinstance")(hm:X.mg "isinstance" = none)(hgT:Gl X xT)(hmT:X.mg xT=none)(hvT:bootBuiltins xT=some (.type B))
  (hk:∀n b c,T n=some b->PySem.W.nsIn X.K mainGlobals n=some (some (.ref c))->XC.Cl X.K c/\PySem.W.kitOne X.K (.ref c) (.type B)=some b) (hK:X.K=C.K) (ha:PX X C e a) (hn:xT ≠ "__name__":=by decide) (hd:jN xT:=by decide)
  (he:starEach [e,.Name xT q] X.env=(false,eval e X.env)::starEach [.Name xT q] X.env:=by rfl) :
  PX X C (.Call (.Name "isinstance" p) [e,.Name xT q] [] pos) (fj (wg T) a):=by
 refine(rN (J5 (y:=.ty B) (λu r=>r) hk) hg hm boot_isinstance (dX ha (dX (Oq (v:=.ty B) hgT hmT hvT rfl hn hd) jf) he) (by decide) (by decide) he rfl).imp λσ H Q h=>?_;obtain⟨Pr,F,env,env',d,rl,e1,qq⟩:=h;obtain⟨d0,aD,e2,e3⟩:=aO e1;obtain⟨e4,rfl⟩:=cA e3;obtain⟨n,r0,p0,ds,b,rfl,hT,rfl⟩:=PJ e4;refine⟨Pr,F,env,env',_,rl,e2,λv H1 F1 r1 s1 p1=>⟨n,r0,p0,ds,b,v,rfl,hT,?_,qq _ H1 F1 r1 s1 rfl⟩⟩;rw[hK];exact Rep.mono r1.fr _ v p1
def JB(cn t:Str)(d:D):Option D:=match d with
 | .clo (.Nonlocal [n,t'] _) [d0]=>if n=cn/\t'=t then some d0 else none
 | _=>none
theorem Wq{cn t:Str}{d e:D}(h:JB cn t d=some e):∃p,d = .clo (.Nonlocal [cn,t] p) [e]:=by
 unfold JB at h;split at h
 ·split at h
  ·rename_i z;cases h;obtain⟨rfl,rfl⟩:=z;exact⟨_,rfl⟩
  ·cases h
 ·cases h
def Ni(K:Fg)(cn t:Str):Prop:=∀c,PySem.W.nsIn K mainGlobals cn=some (some (.ref c))->∃S,XC.X3 K c S t
theorem adR{v:V}{w:Value}(r:RelV v w):PySem.handedOut w=pure w:=by
 cases v with
 | non=>cases r;rfl
 | bl b=>cases r;rfl
 | int i=>obtain⟨t,rfl⟩:=r;rfl
 | str i=>obtain⟨t,rfl⟩:=r;rfl
 | byt i=>obtain⟨t,rfl⟩:=r;rfl
 | flt i=>obtain⟨t,rfl⟩:=r;rfl
 | ref a=>cases r;rfl
 | ty n=>cases r;rfl
end
def aiW(cl:Addr)(t:Str):TS:=λD σ H=>∃(e:Addr) (v:V) (o:Obj) (fs:Array Value),σ[0]? = some (some (.ref e))/\σ[1]? = some (some v)/\H e=some (Km e o)/\o.cls = .ref cl/\o.dict=none/\o.data = .fields fs/\
 ∀(dx:Addr) (od:Obj) (w:Value) (m:Str->Option Value),H dx=none->dx≠e->RelV v w->(∀h:Heap,h.get? dx=some od->h.Ns dx m)->m t=some w->D.nx σ (upd (upd H e (Km e { o with dict:=some dx })) dx (.rZ od (.own dx)))
theorem adw{X:Cx}{cl S:Addr}{a b t:Str}{p1 p2 p3 p4:Pos}(Z:XC.X3 X.K cl S t)(h0:X.N[0]? = some a)(h1:X.N[1]? = some b)(v0:wW X.env.scope a)(v1:wW X.env.scope b)(da:(a == ("__debug__" : Str))=false)(ca:(a == ("__classdict__" : Str))=false)(db:(b == ("__debug__" : Str))=false)(cb:(b == ("__classdict__" : Str))=false)
  (hs:swapsWith (.Name b p3) (some (.Attribute (.Name a p1) t p2)) p4.line X.env=pure false):PS X (.Assign [.Attribute (.Name a p1) t p2] (.Name b p3) p4) (aiW cl t):=by
 intro pins s σ H D I h;obtain⟨e,v,o,fs,e0,e1,he,hc,hdn,hda,hq⟩:=h;refine plainObj_wpAny_Assign_Attribute (fU (jF h1 v1 db cb pins s σ H (λy H1=>y=v/\H1=H) I ⟨v,e1,rfl,rfl⟩) λu s1 ⟨y,H1,I1,ry,hy,hH⟩=>?_) hs;subst hy hH;refine fU (jF h0 v0 da ca pins s1 σ H1 (λx H2=>x = .ref e/\H2=H1) I1 ⟨.ref e,e0,rfl,rfl⟩) λov s2 ⟨x,H2,I2,rx,hx,hH⟩=>?_;subst hx hH;cases rx;obtain⟨hp,g,dr,tk,os⟩:=s2;refine XC.store I2.G5 Z (I2.hok e _ he).1 hc hdn hda λh' tk' dx q1 q2 q3 q4 q5=>?_;obtain⟨od,es,ep,hod,_⟩:=q5.ns;have J:=I2.aiI (tk:=tk') he q1 q2 q3 q4 hod;exact⟨σ,_,J.2,hq dx od u _ J.1 q4 ry (λh hh=>q5.ns.at λo ho=>by rw[hod] at ho;cases ho;exact hh)<|if_pos rfl⟩
def spI(cl:Addr)(t:Str):Sp:=λvs H Q _=>∃(e:Addr) (v:V) (o:Obj) (fs:Array Value),vs=[.ref e,v]/\H e=some (Km e o)/\o.cls = .ref cl/\o.dict=none/\o.data = .fields fs/\
 ∀(dx:Addr) (od:Obj) (w:Value) (m:Str->Option Value),H dx=none->dx≠e->RelV v w->(∀h:Heap,h.get? dx=some od->h.Ns dx m)->m t=some w->Q .non (upd (upd H e (Km e { o with dict:=some dx })) dx (.rZ od (.own dx)))
def Qt(P:Program)(w:World)(K:Fg)(mg:Str->Option Value)(base:Heap)(k:Nat)(fI cl:Addr)(t:Str):Prop:=∃fd ps,mY P w K mg base BK k fI fd ps (spI cl t)/\Binds K fd ps []
theorem aeT{P:Program}{w:World}{K:Fg}{mg:Str->Option Value}{base:Heap}{k:Nat}{fI cl S:Addr}{fd:FuncData}{a b t qual:Str}{st:Stmt}{p1 p2 p3 p4:Pos}(F:S8 K "__init__" qual st fI fd)(hb:Binds K fd [a,b] [])(sc:bC [a,b] [a,b] (aL st))(hbd:cO st=[.Assign [.Attribute (.Name a p1) t p2] (.Name b p3) p4])
  (Z:XC.X3 K cl S t) (da:jN a:=by decide) (ca:t7 a:=by decide) (db:jN b:=by decide) (cb:t7 b:=by decide)
  (hs:∀env:PySem.Env,swapsWith (.Name b p3) (some (.Attribute (.Name a p1) t p2)) p4.line env=pure false:=by intro _;rfl):Qt P w K mg base (k+1) fI cl t:=by
 refine⟨fd,[a,b],S8.ok F sc (λvs H Q E h=>?_) λcdv A outer s H vs Q E hr h=>?_,hb⟩
 ·obtain⟨e,v,o,fs,rfl,_⟩:=h;rfl
 ·obtain⟨e,v,o,fs,rfl,he,hc,hdn,hda,hq⟩:=h;rw[hbd];refine⟨_,zA<|adw Z rfl rfl ?_ ?_ da ca db cb (hs _),e,v,o,fs,rfl,rfl,he,hc,hdn,hda,λdx od w m h1 h2 h3 h4 h5=>hq dx od w m h1 h2 h3 h4 h5⟩
  ·exact(sc.par a Qqv).elim .inl λz=>.inr<|.inl z
  ·exact(sc.par b<|Qq0 _ Qqv).elim .inl λz=>.inr<|.inl z
def afM(K:Fg)(c:Addr):Prop:=∀base:Heap,K.In base->∃(nm q:Str) (N:Addr) (bs bm:List Value) (hdct:Bool) (sn:List Str) (sub:List Value) (ab:Bool) (col:Option Bool) (dd:Option Addr) (k0 k1 k2 k3 k5:Option Value),
 base.get? c=some (excClassObj nm q c N bs bm hdct sn sub ab col dd k0 k1 k2 k3 k5 "ValueError.__new__")/\OwnTail base XC.bmV bm/\bm.contains (.type "BaseException")=true
structure afN(K:Fg)(mg:Str->Option Value)(x:Str)(c fI:Addr):Prop where
 at_:mg x=some (.ref c)
 ob:afM K c
 ini:PySem.W.findIn K (.ref c) "__init__" = some (some (.ref fI))
 ty:PySem.W.typeIn K (.ref fI)=some (.type "function")
def ni(a:Ev):cC:=λenv=>km (a env) λd aD=>match exV d with
 | some _=>.rt true (.tup [d]) aD
 | none=>.stuck
theorem aay{K:Fg}{F:Hp}{d:D}{v v':V}(h:exV d=some v)(r:Rep K F d v'):v'=v:=by
 unfold exV at h;split at h
 ·cases h;exact r
 ·cases h;exact r
 ·cases h
abbrev exN(c t:Addr)(dd:Option Addr):Obj:={ cls:=.ref c,dict:=dd,data:=.fields #[.ref t,.none,.none,.none,.bool false,.none] }
section
variable{R:D->Hp->Prop}{X:Cx}{C:Cfg}{pos np cpos:Pos}{x t:Str}{e:Expr}{a:Ev}{k:Nat}{c fI:Addr}
theorem Rb(T:qR X)(hx:afN X.K X.mg x c fI)(G:Qt X.prog X.w X.K X.mg X.base k fI c t)(hr:gJ (k+1) X.A)(hc:X.calm=true)(hg:Gl X x)(ha:PX X.uH C e a)
  (hR:∀d H,R d H->aR X.H₀ H)
  (hxe:∀(pins:List (Addr×Obj)) (σ:L2.St) (H0 H1:Hp) (s1:Shared) (b:Addr) (d':D) (dd:Option Addr) (oe:Obj) (fs:Array Value),Inv X pins σ H1 s1->R d' H0->aR H0 H1->tW t d' dd H1->G3 X.H₀ dd->H1 b=none->X.s₀.heap.get? b=none->s1.heap.get? b=some oe->oe.cls = .ref c->oe.dict=dd->oe.data = .fields fs->fs[1]? = some .none->X.xe (.ref b) s1)
  (hdb:jN x:=by decide) (he:BJ e X.env:=by rfl) :
  PR R X C (.Raise (some (.Call (.Name x np) [e] [] cpos)) none pos) (ni a):=by
 intro pins s σ H D I h;obtain⟨Pr,F,env,r,f,y⟩:=h;obtain⟨d,aD,e1,f1⟩:=cT f;unfold ni at y;rw[e1] at y;cases ev:exV d with
 | none=>rw[ev] at f1;exact f1.elim
 | some v0=>
  have y1:FX R C Pr F (.rt true (.tup [d]) aD):=by simp only[km,ev] at y;exact y
  obtain⟨nm,q,N,bs,bm,hdct,sn,sub,ab,col,dd,k0,k1,k2,k3,k5,hC,hT,hB⟩:=hx.ob X.base I.mod.Jl;obtain⟨fd,ps,G,hb⟩:=G;refine XC.raises (C:=c) (nm:=nm) (q:=q) (N:=N) (bs:=bs) (bm:=bm) (hdct:=hdct) (sn:=sn) (sub:=sub) (ab:=ab) (col:=col) (dd:=dd) (k0:=k0) (k1:=k1) (k2:=k2) (k3:=k3) (k5:=k5) (K:=X.K) (fI:=fI)
   hB (I.ok.hd hc) (by rw[he];rfl) hx.ini hx.ty (sW I hg hx.at_ ⟨rfl,?_⟩ hdb)
  have hxa:(aa a aj) env = .ok [d] aD:=by unfold aa aj;rw[e1];rfl
  have go:=Vu (Ac (C:=C) ha Fv he) cpos pins s σ H (λvs H1=>vs=[v0]/\R (.tup [d]) H1) I ⟨Pr,F,env,aD,[d],r,hxa,λvs H' F' r' s' p'=>by
   obtain⟨v',vs',rfl,z2,z3⟩:=p';cases z3;exact⟨by rw[aay ev z2],y1.2 σ H' F' r' s'⟩⟩
  rw[he] at go ⊢;refine Calls.evalArgs_plain<|Qw9 go (λus s2 ⟨vs,H1,I1,rv,hvs,hr1⟩=>?_) λ_ _ z=>z;subst hvs;obtain⟨u0,rfl,rv0⟩:=vals1 rv;refine⟨rfl,by show 1<=sizeLine;rw[Qky];omega,I1.bk _ _ hC,I1.G5,hT.keeps I1.bk,λh' b m=>?_⟩;obtain⟨m1,m2,tt,m3,m4,m5⟩:=m;have hnb:=I1.none_of m2;have I2:=I1.laidN (a:=b) (o:=Km b<|exN c tt none) (tk:=s2.toks) (h':=h') m1 m2<|Ww m3;have rv2:Vals [.ref b,v0] [.ref b,u0]:=.cons rfl (.cons rv0 .nil);have hq:spI c t [.ref b,v0] (upd H1 b<|Km b<|exN c tt none) (λv H'=>v = .non/\∃dx od w m,upd H1 b (Km b<|exN c tt none) dx=none/\dx≠b/\RelV v0 w/\(∀h:Heap,h.get? dx=some od->h.Ns dx m)/\m t=some w/\H'=upd (upd (upd H1 b<|Km b<|exN c tt none) b<|Km b<|exN c tt (some dx)) dx (.rZ od (.own dx))) (λ_ _ _=>False):=
   ⟨b,v0,_,_,rfl,aZ,rfl,rfl,rfl,λdx od w m h1 h2 h3 h4 h5=>⟨rfl,dx,od,w,m,h1,h2,h3,h4,h5,rfl⟩⟩
  have hb':=hb _ [.ref b,u0] I2.G5 (by rw[Qx2];exact(Vals.length rv2).symm.trans (G.len _ _ _ _ hq));rw[Qx2] at hb';refine wpAny_call (Qk4 (G.run _ X.stack _ _ ⟨[.ref b,u0],[]⟩ [.ref b,u0] _ _ _ (hr.make c [u0] []) (I2.env0.make c [u0] []) hb' rv2 hq) λr s3 hq3=>?_);cases r with
  | error e=>exact hq3.elim
  | ok fl=>
   cases fl with
   | next=>exact False.elim hq3
   | brk=>exact False.elim hq3
   | cont=>exact False.elim hq3
   | ret u=>
    obtain⟨v3,H3,I3,rv3,rfl,dx,od,w,m,n1,n2,n3,n4,n5,rfl⟩:=I2.after hq3;cases rv3;have hsm:=hR _ _ hr1;have hb0:X.H₀ b=none:=hsm.free hnb;have hbE:upd (upd (upd H1 b (Km b (exN c tt none))) b (Km b (exN c tt (some dx)))) dx (.rZ od (.own dx)) b=some (Km b (exN c tt (some dx))):=by rw[bH (Ne.symm n2),aZ]
    have I4:=I3.Yk hbE hb0;have hH1:H1 dx=none:=by rw[bH n2] at n1;exact n1
    have g3:=(I3.hok b _ hbE).1;refine⟨rfl,I3.bk _ _ hC,⟨_,g3,rfl,_,rfl,rfl⟩,hxe pins σ H1 _ s3 b _ (some dx) _ _ I4 hr1 (λb' o' z=>?_) ⟨v0,w,dx,od,m,ev,n3,rfl,?_,n4,n5⟩ (λdx' z=>by cases z;exact hsm.free hH1) (by simp) (I1.Vy T m2) g3 rfl rfl rfl rfl⟩
    ·have z1:b'≠b:=λz2=>by rw[z2,hnb] at z;cases z
     have z2:b'≠dx:=λz2=>by rw[z2,hH1] at z;cases z
     show(if b'=b then none else _)=_;rw[if_neg z1,bH z2,bH z1,bH z1];exact z
    ·show(if dx=b then none else _)=_;rw[if_neg n2,aZ]
theorem adB{tg iter:Expr}{wi:TI}(h:PI X.uH tg iter wi):PI X tg iter wi:=λpins s σ H R I hw=>
 Qw9 (h pins s σ H R (I.wish _) hw) (λ_ _ q=>Qw9 q (λ_ _ ⟨it,fp,tn,J,H',e,I',T,t0,f,r⟩=>⟨it,fp,tn,J,H',e,I'.fK,T,t0,f,r⟩) λ_ _ z=>False.elim z) λ_ _ z=>False.elim z
theorem adE{tg:Expr}{g:TG}(h:PG X.uH tg g):PG X tg g:=λpins s σ H v u Q I r hw=>
 Qw9 (h pins s σ H v u Q (I.wish _) r hw) (λ_ _ ⟨σ',H',I',q⟩=>⟨σ',H',I'.fK,q⟩) λ_ _ z=>False.elim z
theorem ady{tg iter:Expr}{body:List Stmt}{it:dq}{g:GV}{b:cC}(hp:PassesOwn (model X.prog X.w) X.A X.env X.xe)(hc:X.calm=true)(hi:Xp X.uH C tg iter it)(hg:XM X.uH C 0 tg g)(hb:PRs R X C body b)
  (hs:∀x,foldedSetIterable iter X.env x=pure x:=by intro _;rfl):PR R X C (.For tg iter body [] pos) (jM it g b):=(Vi hp hc (adB hi) (adE hg) hb hs).imp λD σ H h=>by
 obtain⟨Pr,F,env,r,f,x⟩:=h;obtain⟨ds,aD,e1,f1⟩:=cT f;have x1:FX R C Pr F (jr g b ds aD):=by unfold jM at x;rw[e1] at x;exact x
 refine⟨Pr,F,env,aD,ds,r,e1,λJ H1 F1 r1 s1 y1=>?_⟩;refine⟨λi m σ' H'=>m=ds.length - i/\i<=ds.length/\∃F' env',Rel C Pr F' env' σ' H'/\aR F1 F'/\Fin C Pr F' D (jr g b (ds.drop i) env')/\FX R C Pr F' (jr g b (ds.drop i) env'),⟨ds.length,rfl,Qzk _,F1,aD,r1,aR.refl _,f1.mono s1,x1.mono s1⟩,?_⟩;rintro i m σ' H' ⟨rfl,hi,F',env',r',s',f',x'⟩;by_cases hl:i<ds.length
 ·have hd:=Qx4 hl;have hdr:=Qj6 hl;have yy:=y1 i H'<|s'.trans r'.fr;refine .inr ⟨(yy.2 _ hd).1,λσ2 H2=>∃F' env',Rel C Pr F' env' σ2 H2/\aR F1 F'/\Fin C Pr F' D (jr g b (ds.drop<|i+1) env')/\FX R C Pr F' (jr g b (ds.drop<|i+1) env'),λσ2 H2 h2=>⟨ds.length - (i+1),by omega,rfl,hl,h2⟩,λx H2 hy=>?_⟩;obtain⟨F2,r2,s2,p2⟩:=o8.item r' s' y1 hd hy;rw[hdr] at f' x';have f2:=f'.mono s2;have x2:=x'.mono s2;unfold jr at f2 x2;cases eg:g ds[i] env' with
  | none=>rw[eg] at f2;exact f2.elim
  | some e2=>
   rw[eg] at f2 x2;refine⟨Pr,F2,env',e2,ds[i],r2,p2,eg,λσ3 H3 F3 r3 s3 _=>⟨Pr,F3,e2,r3,?_⟩⟩;simp at f2 x2;have s13:=(s'.trans s2).trans s3;cases eb:b e2 with
   | nx e3=>rw[eb] at f2 x2;exact⟨λσ4 H4 F4 r4 s4=>⟨F4,e3,r4,s13.trans s4,f2.mono<|s3.trans s4,x2.mono<|s3.trans s4⟩,trivial⟩
   | ct e3=>rw[eb] at f2 x2;exact⟨λσ4 H4 F4 r4 s4=>⟨F4,e3,r4,s13.trans s4,f2.mono<|s3.trans s4,x2.mono<|s3.trans s4⟩,trivial⟩
   | bk e3=>rw[eb] at f2;exact⟨λσ4 H4 F4 r4 s4=>f2 σ4 H4 F4 r4<|s3.trans s4,trivial⟩
   | rt o d e3=>rw[eb] at f2 x2;cases o<;>exact⟨λv σ4 H4 F4 r4 s4 p4=>f2 v σ4 H4 F4 r4 (s3.trans s4) p4,x2.mono s3⟩
   | stuck=>rw[eb] at f2;exact f2.elim
 ·have e:i=ds.length:=by omega
  subst e;rw[List.drop_length] at f';exact .inl ⟨(y1 _ H'<|s'.trans r'.fr).1 (Qjx<|Qq2 _) rfl,f' σ' H' F' r'<|aR.refl F'⟩
end
def Te(cn:Str)(b:Bool):Str->Option Bool:=λn=>if n=cn then some b else none
theorem Wg{cn n:Str}{b b':Bool}(h:Te cn b n=some b'):n=cn/\b=b':=by
 unfold Te at h;split at h
 ·rename_i z;cases h;exact⟨z,rfl⟩
 ·cases h
def XF(K:Fg)(x:Str):Addr:=match PySem.W.nsIn K mainGlobals x with
 | some (some (.ref c))=>c
 | _=>0
theorem W3{K:Fg}{x:Str}{c:Addr}(h:PySem.W.nsIn K mainGlobals x=some (some (.ref c))):XF K x=c:=by unfold XF;rw[h]
def wU(K:Fg)(mg:Str->Option Value)(cn x:Str)(b:Bool):Prop:=∃cl,mg x=some (.ref cl)/\∀c,PySem.W.nsIn K mainGlobals cn=some (some (.ref c))->XC.Cl K c/\PySem.W.kitOne K (.ref c) (.ref cl)=some b
def afL(K:Fg)(cn:Str)(B:String)(b:Bool):Prop:=∀c,PySem.W.nsIn K mainGlobals cn=some (some (.ref c))->XC.Cl K c/\PySem.W.kitOne K (.ref c) (.type B)=some b
structure XG(K:Fg)(x t qual:Str)(st:Stmt)(c S fI:Addr):Prop where
 nm:PySem.W.nsIn K mainGlobals x=some (some (.ref c))
 lk:∃(nm q:Str) (N:Addr) (bs:List Value) (sn:List Str) (sub:List Value) (ab:Bool) (col:Option Bool) (dd:Option Addr) (k0 k1 k2 k3 k5:Option Value),K.lookup c=some (excClassObj nm q c N bs (.ref S::XC.bmV) true sn sub ab col dd k0 k1 k2 k3 k5 "ValueError.__new__")
 cl:XC.Cl K c
 sa:PySem.W.findIn K (.ref c) "__setattr__" = some (some (.builtin "object.__setattr__"))
 no:PySem.W.findIn K (.ref c) t=some none
 up:PySem.W.excIn K S XC.bmV "ValueError.__new__" = true
 ini:PySem.W.findIn K (.ref c) "__init__" = some (some (.ref fI))
 ty:PySem.W.typeIn K (.ref fI)=some (.type "function")
 fn:∃(oc kV doc pm cdv ct:Value) (od an:Option Addr) (osl:Array (Option Value)),K.lookup fI=some ⟨oc,od,.func (PySem.W.fnOf "__init__" qual (gw st) (cO st) (aL st) .none kV doc pm an cdv ct),osl⟩/\PySem.W.codeIn K cdv qual=true
 kp:PySem.W.keepIn K (.ref fI)=true
section
variable{K:Fg}{h:Heap}{mg:Str->Option Value}{x t qual y:Str}{st:Stmt}{c S fI cy:Addr}{b:Bool}{P:Program}{w:World}{base:Heap}{f:Addr}{N:List Str}{k:Nat}{cdv:Value}{A:Around}{outer:List PySem.Env}{s:Shared}{H:Hp}{E:XK}{cl:Addr}{d:D}{pos np cpos:Pos}{e:Expr}{a:Ev}{C:Cfg}{X:Cx}{p q:Pos}{ea:dq}
theorem XG.cla(F:XG K x t qual st c S fI):XC.X3 K c S t:=by refine⟨F.cl,F.sa,F.no,?_⟩;obtain⟨nm,q,N,bs,sn,sub,ab,col,dd,k0,k1,k2,k3,k5,lk⟩:=F.lk;unfold PySem.W.clsIn;rw[lk];unfold excClassObj;exact⟨_,rfl,rfl,rfl⟩
theorem XG.exc(F:XG K x t qual st c S fI)(X:K.In h)(G:h.Ns mainGlobals mg):afN K mg x c fI:=by
 refine⟨Qk0 X G F.nm,λbase KB=>?_,F.ini,F.ty⟩;obtain⟨nm,q,N,bs,sn,sub,ab,col,dd,k0,k1,k2,k3,k5,lk⟩:=F.lk;refine⟨nm,q,N,bs,_,true,sn,sub,ab,col,dd,k0,k1,k2,k3,k5,KB _ _ lk,?_,by rfl⟩;have q:=F.up;unfold PySem.W.excIn at q;split at q
 ·rename_i dd cd sl ho;split at q
  ·rename_i C' bm k0 k1 k2 k3 n k5 hm hs;simp[Qwx,beq_iff_eq,Bool.not_eq_true'] at q;obtain⟨⟨⟨⟨⟨rfl,rfl⟩,hdel⟩,ht⟩,hok⟩,hni⟩:=q;exact .own (KB _ _ ho) (.of_isNs<|PySem.W.isNs_of_in KB hok) (PySem.W.nsMap_none_of_in KB hok hni) .base
  ·cases q
 ·cases q
theorem XG.ajv{P:Program}{w:World}{base:Heap}{k:Nat}{a b:Str}{p1 p2 p3 p4:Pos}(F:XG K x t qual st c S fI)
  (hb:∀{kV doc pm:Value} {an:Option Addr} {cdv ct:Value} (us:List Value),us.length=[a,b].length->bindArgs (PySem.W.fnOf "__init__" qual (gw st) (cO st) (aL st) .none kV doc pm an cdv ct) ⟨us,[]⟩=pure ([a,b].zip us))
  (sc:bC [a,b] [a,b] (aL st)) (hbd:cO st=[.Assign [.Attribute (.Name a p1) t p2] (.Name b p3) p4]) (da:jN a:=by decide) (ca:t7 a:=by decide) (db:jN b:=by decide) (cb:t7 b:=by decide)
  (hs:∀env:PySem.Env,swapsWith (.Name b p3) (some (.Attribute (.Name a p1) t p2)) p4.line env=pure false:=by intro _;rfl):Qt P w K mg base (k+1) fI c t:=by
 obtain⟨oc,kV,doc,pm,cdv,ct,od,an,osl,l,cd⟩:=F.fn;exact aeT (Gq l cd F.kp) (.all λus hl=>hb us hl) sc hbd F.cla da ca db cb hs
structure XK1(K:Fg)(mg:Str->Option Value)(x t:Str)(cl:Addr):Prop where
 all:∃fI,afN K mg x cl fI/\∀(P:Program) (w:World) (base:Heap) (k:Nat),Qt P w K mg base (k+1) fI cl t
theorem XG.raises{a b:Str}{p1 p2 p3 p4:Pos}(F:XG K x t qual st c S fI)(X:K.In h)(G:h.Ns mainGlobals mg)
  (hb:∀{kV doc pm:Value} {an:Option Addr} {cdv ct:Value} (us:List Value),us.length=[a,b].length->bindArgs (PySem.W.fnOf "__init__" qual (gw st) (cO st) (aL st) .none kV doc pm an cdv ct) ⟨us,[]⟩=pure ([a,b].zip us))
  (sc:bC [a,b] [a,b] (aL st)) (hbd:cO st=[.Assign [.Attribute (.Name a p1) t p2] (.Name b p3) p4]) (da:jN a:=by decide) (ca:t7 a:=by decide) (db:jN b:=by decide) (cb:t7 b:=by decide)
  (hs:∀env:PySem.Env,swapsWith (.Name b p3) (some (.Attribute (.Name a p1) t p2)) p4.line env=pure false:=by intro _;rfl):XK1 K mg x t (XF K x):=by
 rw[W3 F.nm];exact⟨fI,F.exc X G,λP w base k=>F.ajv hb sc hbd da ca db cb hs⟩
theorem XG.below(F:XG K x t qual st c S fI)(X:K.In h)(G:h.Ns mainGlobals mg)(hS:PySem.W.nsIn K mainGlobals y=some (some (.ref S)))(Z:XC.Cl K S)(ty:PySem.W.typeIn K (.ref S)=some (.type "type"))(sub:PySem.W.mroIn K c (.ref S)=some true):Below K mg y x (XF K x):=by rw[W3 F.nm];exact⟨⟨S,Qk0 X G hS,Z,ty,sub⟩,F.nm⟩
theorem XG.isx(F:XG K x t qual st c S fI)(X:K.In h)(G:h.Ns mainGlobals mg)(hS:PySem.W.nsIn K mainGlobals y=some (some (.ref cy)))(k:PySem.W.kitOne K (.ref c) (.ref cy)=some b):wU K mg x y b:=
 ⟨cy,Qk0 X G hS,λc' h'=>by rw[F.nm] at h';cases h';exact⟨F.cl,k⟩⟩
theorem XG.isB{B:String}(F:XG K x t qual st c S fI)(k:PySem.W.kitOne K (.ref c) (.type B)=some b):afL K x B b:=
 λc' h'=>by rw[F.nm] at h';cases h';exact⟨F.cl,k⟩
theorem XG.part(F:XG K x t qual st c S fI):Ni K x t:=λc' h'=>by rw[F.nm] at h';cases h';exact⟨S,F.cla⟩
theorem Vj(Z:XK1 K mg x t cl)(hr:gJ (k+2) (A.deeper (envOfC qual (aL st) s.heap.objs.size f cdv)))(hE:∀dd H',tW t d dd H'->G3 H dd->E (.ref cl) dd H')(ha:PX (bx P w K mg base N qual st f cdv A outer s H E) C e a)
  (hg:Gl (Tf P w K mg base N qual st f cdv A outer s H E) x:=by rfl) (hdb:jN x:=by decide) (he:starEach [e] (Tf P w K mg base N qual st f cdv A outer s H E).env=(false,eval e (Tf P w K mg base N qual st f cdv A outer s H E).env)::starEach [] (Tf P w K mg base N qual st f cdv A outer s H E).env:=by rfl) :
  PR (RX H d) (Tf P w K mg base N qual st f cdv A outer s H E) C (.Raise (some (.Call (.Name x np) [e] [] cpos)) none pos) (ni a):=by
 obtain⟨fI,h1,h2⟩:=Z.all;exact Rb Ek h1 (h2 P w base k) hr rfl hg ha (λd' H' r=>r.2) (λpins σ H0 H1 s1 b d' dd oe fs I r sm v nw hn hw e1 e2 e3 e4 e5=>X7 hE pins σ H0 H1 s1 b d' dd oe fs I r sm v nw hn hw e1 e2 e3 e4 e5) hdb he
theorem uq{xT cn:Str}{b:Bool}(G:Good X C)(hm:X.mg "isinstance" = none)(h:wU X.K X.mg cn xT b)(ha:SX X C e a)(hg:Gl X "isinstance":=by rfl)(hgT:Gl X xT:=by rfl)(hd:jN xT:=by decide)
  (he:starEach [e,.Name xT q] X.env=(false,eval e X.env)::starEach [.Name xT q] X.env:=by rfl):SX X C (.Call (.Name "isinstance" p) [e,.Name xT q] [] pos) (fj (wg (Te cn b)) a):=by
 obtain⟨cl,h1,h2⟩:=h;exact⟨Ev.adk hg hm hgT h1 (λn b' c z k=>by obtain⟨rfl,rfl⟩:=Wg z;exact h2 c k) G.K ha.u hd he⟩
theorem Ye{xT cn:Str}{B:String}{b:Bool}(hv:bootBuiltins xT=some (.type B))(G:Good X C)(hm:X.mg "isinstance" = none)(hmT:X.mg xT=none)(h:afL X.K cn B b)(ha:SX X C e a)(hg:Gl X "isinstance":=by rfl)(hgT:Gl X xT:=by rfl)(hn:xT ≠ "__name__":=by decide)(hd:jN xT:=by decide)
  (he:starEach [e,.Name xT q] X.env=(false,eval e X.env)::starEach [.Name xT q] X.env:=by rfl):SX X C (.Call (.Name "isinstance" p) [e,.Name xT q] [] pos) (fj (wg (Te cn b)) a):=
 ⟨Ev.Y6 hg hm hgT hmT hv (λn b' c z k=>by obtain⟨rfl,rfl⟩:=Wg z;exact h c k) G.K ha.u hn hd he⟩
theorem Nx{cn:Str}(G:Good X C)(h:Ni X.K cn t)(ha:SX X C e a)(hb:attributeBase e t X.env (eval e X.env)=eval e X.env:=by rfl):SX X C (.Attribute e t pos) (fj (JB cn t) a):=⟨by
 intro pins s σ H Q I h;obtain⟨Pr,F,env,env',d,rl,e1,qq⟩:=h;obtain⟨d0,aD,e2,e3⟩:=aO e1;obtain⟨e4,rfl⟩:=cA e3;obtain⟨p0,rfl⟩:=Wq e4;refine aa0 hb<|fU (ha.u pins s σ H (λv H1=>∃F1,Rel C Pr F1 env' σ H1/\aR F F1/\Rep C.K F1 (.clo (.Nonlocal [cn,t] p0) [d]) v) I ⟨Pr,F,env,env',_,rl,e2,λv H1 F1 r1 s1 p1=>⟨F1,r1,s1,p1⟩⟩) λu s1 ⟨v,H1,I1,rv,F1,r1,sF,hr⟩=>?_;obtain⟨b,vs,rfl,q,hds⟩:=hr;rcases q with ⟨_,z⟩|⟨_,_,_,_,_,_,z,_⟩|⟨n',r',p',o,u',c,fs,z,h1,h2,h3,h4,h5⟩
 ·cases z
 ·cases z
 ·cases z;rcases h5 with ⟨z,_⟩|⟨x,v,w,dx,od,ud,m,hx,rfl,hrv,hdd,hF,hns,hm⟩
  ·cases z
  ·cases hx;cases rv;obtain⟨S,Z⟩:=h c (by rw[G.K];exact h1);obtain⟨hp,g,dr,tk,os⟩:=s1;have g1:=(I1.hok b _<|r1.fr _ _ h2).1;have g2:=(I1.hok dx _<|r1.fr _ _ hF).1;refine XC.load I1.G5 Z g1 h3 hdd h4 (hns _ g2) hm (adR hrv) ⟨v,H1,I1.tok _,hrv,qq v H1 F1 r1 sF ?_⟩;obtain⟨v',vs',z1,z2,z3⟩:=hds;cases z1;exact z2⟩
theorem Yv{st:Stmt}{ev:cC}{c:Ev}(iy jn:Nat){cl:Addr}{S cn n y:Str}{np yp np2 ap hp:Pos}(T:qR X)(G:Good X C)(W:Below X.K X.mg S cn cl)(hb:Good X.uH C->dR X.uH C [st] ev)(hx:afH X C st c cl t)(hnd:kO X.N=true:=by rfl)(hjn:X.N[jn]? = some n:=by rfl)(hiy:X.N[iy]? = some y:=by rfl)
  (hij:iy≠jn:=by decide) (hn:X.env.scope.names.lookup n=some .local:=by rfl) (hy:X.env.scope.names.lookup y=some .local:=by rfl) (fjn:C.fx jn=none:=by rfl) (fiy:C.fx iy=none:=by rfl) (gl:Gl X S:=by rfl) (hd:jN S:=by decide) (hd1:jN n:=by decide) (hd2:t7 n:=by decide)
  (hsw:swapsWith (.Name n np2) (some (.Name y yp)) ap.line X.env=pure false:=by rfl) :
  CZ X C (.Try [st] [.ExceptHandler (some (.Name S np)) (some n) [.Assign [.Name y yp] (.Name n np2) ap] hp] [] [] pos) (HH ev c iy jn cn t):=⟨Ev.agr T G.K W (hb<|uH G).u hx (ig hnd) hjn hiy hij hn hy fjn fiy gl hd hd1 hd2 hsw⟩
end
open PySem PySem.Spec PySem.W PySem.Calls PyProof.Rows L2
def QJ:List Bool->Int
 | []=>0
 | b::r=>(if b=true then 1 else 0)+QJ r
theorem vJ(f:Nat->Int):∀n,preSum f (n+1)=f 0+preSum (λi=>f (i+1)) n
 | 0=>by simp[preSum]
 | n+1=>by
  show preSum f (n+1)+f (n+1)=_;rw[vJ f n];show _=f 0+(preSum (λi=>f<|i+1) n+f (n+1));omega
theorem Ad:∀bs:List Bool,preSum (λi=>if bs.getD i false=true then 1 else 0) bs.length=QJ bs
 | []=>rfl
 | b::r=>by
  rw[Qqk,vJ];have:=Ad r;simp only[List.getD_cons_zero,List.getD_cons_succ,QJ];rw[this]
def Ae(b:Bool):List Bool->Option Nat
 | []=>none
 | c::r=>if c=b then some 0 else (Ae b r).map (·+ 1)
theorem Dt{b:Bool}:∀{bs:List Bool} {j:Nat},Ae b bs=some j->∃hj:j<bs.length,bs[j]=b/\∀m (hm:m<bs.length),m<j->bs[m]≠b
 | [],_,h=>by cases h
 | c::r,j,h=>by
  unfold Ae at h;split at h
  ·rename_i z;cases h;exact⟨Nat.succ_pos _,z,λm hm hm0=>absurd hm0<|Nat.not_lt_zero _⟩
  ·rename_i z;obtain⟨k,h1,rfl⟩:=Qw1.mp h;obtain⟨hk,h2,h3⟩:=Dt h1;refine⟨Nat.succ_lt_succ hk,h2,λm hm hm0=>?_⟩;cases m with
   | zero=>exact z
   | succ m=>exact h3 m (Nat.lt_of_succ_lt_succ hm)<|Nat.lt_of_succ_lt_succ hm0
section
variable{X:Cx}{C:Cfg}{o e:Expr}{a b:Ev}{apos cpos p pos:Pos}{ea:dq}
theorem Sx(hc:X.calm=true):iu X (.builtin "sum") (λxs H Q=>∃(p:Addr) (bs:List Bool),xs=[.ref p]/\lG X.K H p (bs.map V.bl)/\Q (.int (QJ bs)) H):=by
 intro pins s σ H xs us Q I r h;obtain⟨p,bs,rfl,hq,q⟩:=h;obtain⟨u,rfl,rx⟩:=vals1 r;cases rx;obtain⟨its,rv,pl,_⟩:=I.list hq;have e:=vd rv;subst e;refine call_sum_walkAnyB<|wpAny_pyIter_list pl.isList ?_;have hlt:p<s.heap.objs.size:=by obtain⟨o,e,_⟩:=pl.isList;exact Qq9 e
 refine⟨s.heap.objs.size,_,_,_,_,_,_,λi=>if bs.getD i false=true then 1 else 0,rfl,(Walks.list (show X.A.in1.handled=none from I.ok.hd hc) s.heap.objs.size p (Qw0 hlt) (bs.map Value.bool).toArray).toS,⟨⟨_,Qq7 _ rfl,rfl,rfl⟩,by obtain⟨o,e,rr⟩:=pl.isList;exact⟨o,Qqj _ e,rr⟩⟩,?_,?_,λs' tk hk=>?_⟩
 ·intro b hb;show b<(s.heap.push _).objs.size;rw[Qjv];rcases Qqw.mp hb with rfl|hb
  ·exact Nat.lt_succ_self _
  ·rcases Qqw.mp hb with rfl|hb
   ·exact Qjw hlt
   ·cases hb
 ·intro i v hv;have hv:=hv;rw[List.getElem?_toArray,Qx6] at hv;cases hb:bs[i]? with
  | none=>rw[hb] at hv;cases hv
  | some b=>
   rw[hb] at hv;cases hv;refine .inr ⟨b,rfl,?_⟩;have this:bs.getD i false=b:=by simp[Qzj,hb]
   simp only[this]
 ·obtain⟨h',g',d',t',os'⟩:=s';obtain⟨k1,k2,k3,k4,k5⟩:=hk;simp only at k1 k2 k3 k4 k5;subst k2 k3 k4;have I1:Inv X pins σ H { s with heap:=h',toks:=t' }:=I.kept λb o e=>k1 b o (by simp;exact Qw0<|Qq9 e)<|Qqj _ e;refine⟨.int _,H,I1,⟨tk,rfl⟩,?_⟩;have e2:(bs.map Value.bool).toArray.size=bs.length:=by simp
  rw[e2,Ad];exact q
def Pz:List D->Option D
 | [.lst ds]=>(ou ds).map λbs=>.int (QJ bs)
 | _=>none
theorem aaN:CallD C (λxs H Q=>∃(p:Addr) (bs:List Bool),xs=[.ref p]/\lG C.K H p (bs.map V.bl)/\Q (.int (QJ bs)) H) Pz:=by
 intro Pr F env σ H ds d vs Q r hs h q;unfold Pz at h;split at h
 ·rename_i es;cases e:ou es with
  | none=>rw[e] at h;cases h
  | some bs=>
   rw[e] at h;cases h;obtain⟨v,rfl,hv⟩:=lu hs;obtain⟨z,a,ws,rfl,h1,h2⟩:=hv.lst r.fr;have e2:=vI e h2;subst e2;exact⟨a,bs,rfl,lG.of h1,q _ H F r (aR.refl F) rfl⟩
 ·cases h
def YG(K:Fg):V->List V->Hp->VK->Prop:=λx vs H Q=>∃a bs b j,x = .ref a/\vs=[.bl b]/\lG K H a (bs.map V.bl)/\Ae b bs=some j/\Q (.int (j:Nat)) H
theorem FW:MtM X "list.index" (YG X.K):=by
 intro pins s σ H x vs v us Q I rx rv h;obtain⟨a,bs,b,j,rfl,rfl,hq,hp,q⟩:=h;cases rx;obtain⟨u,rfl,ru⟩:=rv.one;cases ru;obtain⟨its,r,ht,hz⟩:=I.list hq;have e:=vd r;subst e;obtain⟨hj,h1,h2⟩:=Dt hp
 let e:Value->Bool:=λy=>match y with|.bool y=>y == b|_=>false
 obtain⟨o,ho,hc,n,hd⟩:=ht.isList;obtain⟨cls,dd,data,sl⟩:=o;simp at hc hd;subst hc hd;have hjs:j<(bs.map Value.bool).toArray.size:=by simpa using hj
 have at':∀m (hm:m<bs.length) (hm':m<(bs.map Value.bool).toArray.size),(bs.map Value.bool).toArray[m] = .bool bs[m]:=λm hm hm'=>by simp
 refine call_meets F.slot_list_index ⟨_,ho,rfl⟩ F.entry_list_index (F.args_list_index_2 _ _) (SeqAt.list_indexAt a (bs.map Value.bool).toArray n dd sl (.bool b) e j hjs ?_ ?_ ?_) ⟨ho,λy hy=>?_,?_⟩
 ·have:bs.length<=sizeLine:=by simpa using hz
  rw[Qky] at this;omega
 ·rw[at' j hj hjs,h1];show(b == b)=true;simp
 ·intro m hm hmj;have hm':m<bs.length:=by simpa using hm
  rw[at' m hm' hm];show(bs[m] == b)=false;rw[Qwj];exact h2 m hm' hmj
 ·obtain⟨m,hm,rfl⟩:=Array.mem_iff_getElem.mp hy;have hm':m<bs.length:=by simpa using hm
  rw[at' m hm' hm];exact PySem.SeqAt.EqAt.bool_bool _ _
 ·exact⟨.int j,H,I.tok _,⟨_,rfl⟩,q⟩
def Bb:D->D->Option D
 | .lst ds,.bl b=>(ou ds).bind λbs=>(Ae b bs).map λj=>.int (j:Nat)
 | _,_=>none
theorem Yc(G:Good X C)(hm:X.mg "sum" = none)(ha:yo X C [e] ea)(hg:Gl X "sum":=by rfl)(he:BJ e X.env:=by rfl):SX X C (.Call (.Name "sum" p) [e] [] pos) (aq Pz ea):=⟨nC (by rw[<-G.K];exact Sx G.calm) aaN hg hm (by decide +kernel) ha.u (by decide) (by decide) he rfl⟩
theorem KQ(G:Good X C)(ho:SX X C o a)(he:GZ X C e b)(hbase:attributeBase o "index" X.env (eval o X.env)=eval o X.env:=by rfl)
  (hs:BJ e X.env:=by rfl)
  (hfew:((backTo cpos (starEach [e] X.env)).all (λx=>!x.1)&&(backToKw cpos (keywordEach [] X.env)).all (λx=>x.1.isSome)
   && decide ([e].length+([]:List Keyword).length+(if ([]:List Keyword).isEmpty then 0 else 1)<30))=true:=by rfl)
  (hline:(apos.endLine == cpos.line)=true:=by rfl) (hplain:(backTo cpos (starEach [] X.env)).any (·.1)=false:=by rfl) :
  SX X C (.Call (.Attribute o "index" apos) [e] [] cpos) (az Bb a b):=⟨by
 have h:=yC PySem.F.plainAttrs_list PySem.F.slot_list_index PySem.F.type_list_index FW ho.u (dX he.u jf hs) hbase hfew hline hs hplain;rw[G.K] at h;refine h.imp λσ H Q hq=>?_;obtain⟨Pr,F,env,env',d,r,e0,q⟩:=hq;obtain⟨x,aD,e1,e2⟩:=aO e0;obtain⟨y,eG,e3,e4⟩:=aO e2;obtain⟨e5,rfl⟩:=cA e4;unfold Bb at e5;split at e5
 ·rename_i ds z;obtain⟨zs,h1,h2⟩:=Qxy.mp e5;obtain⟨j,h3,rfl⟩:=Qw1.mp h2;refine⟨Pr,F,env,aD,_,r,e1,λvx H1 F1 r1 s1 p1=>?_⟩;obtain⟨hz,p,vs,rfl,h4,h5⟩:=p1;refine⟨.inl ⟨rfl,vs,lG.of<|r1.fr _ _ h4⟩,Pr,F1,aD,env',_,r1,e3,λvy H2 F2 r2 s2 p2=>?_⟩;have hvy:vy = .bl z:=by
   rcases p2 with p2|⟨_,_,p2⟩
   ·exact p2
   ·exact p2.elim
  subst hvy;have e6:=vI h1 h5;subst e6;exact⟨p,zs,z,j,rfl,rfl,lG.of<|r2.fr _ _<|s2 _ _ h4,h3,q _ H2 F2 r2 (s1.trans s2) rfl⟩
 ·cases e5⟩
end
end Ev
namespace L2
open PySem PySem.Spec PyProof.Rows
theorem Ho{α:Type}{t:Sem α}{Q Q':α->Shared->Prop}{M:Model}{A:Around}{E:Value->Shared->Prop}{s:Shared}(h:wpAny M A t Q E s)(hp:0<s.toks)(k:∀a s',0<s'.toks->Q a s'->Q' a s'):wpAny M A t Q' E s:=
 Qw9 (wpAny_toks_of hp h) (λa s' h=>k a s' h.1 h.2) λ_ _ x=>x.2
def G9(X:Cx)(e:Expr)(t:TE):Prop:=
 ∀(pins:List (Addr×Obj)) (s:Shared) (σ:St) (H:Hp) (Q:VK),Inv X pins σ H s->0<s.toks->t σ H Q->wpAny (model X.prog X.w) X.A (eval e X.env) (EP X pins σ Q) X.xe s
def XR(X:Cx)(es:List Expr)(t:TA):Prop:=
 ∀(pos:Pos) (pins:List (Addr×Obj)) (s:Shared) (σ:St) (H:Hp) (Q:List V->Hp->Prop),Inv X pins σ H s->0<s.toks->t σ H Q->wpAny (model X.prog X.w) X.A (spliced (backTo pos (starEach es X.env))) (AP X pins σ Q) X.xe s
def PSp(X:Cx)(st:Stmt)(t:TS):Prop:=
 ∀(pins:List (Addr×Obj)) (s:Shared) (σ:St) (H:Hp) (D:Ends),Inv X pins σ H s->0<s.toks->t D σ H->wpAny (model X.prog X.w) X.A (exec st X.env) (SP X pins D) X.xe s
def Kf(X:Cx)(st:List Stmt)(t:TS):Prop:=
 ∀(pins:List (Addr×Obj)) (s:Shared) (σ:St) (H:Hp) (D:Ends),Inv X pins σ H s->0<s.toks->t D σ H->wpAny (model X.prog X.w) X.A (execs st X.env) (SP X pins D) X.xe s
section
variable{X:Cx}{e o:Expr}{es:List Expr}{te to:TE}{t:TA}{st:Stmt}{sts:List Stmt}{ts tt:TS}{pos apos cpos:Pos}{a b:Expr}{ta tb:TE}
theorem PE.p(h:PE X e te):G9 X e te:=λpins s σ H Q I _ q=>h pins s σ H Q I q
theorem PA.p(h:PA X es t):XR X es t:=λpos pins s σ H Q I _ q=>h pos pins s σ H Q I q
theorem PS.p(h:PS X st ts):PSp X st ts:=λpins s σ H D I _ q=>h pins s σ H D I q
theorem zq.p(h:zq X sts ts):Kf X sts ts:=λpins s σ H D I _ q=>h pins s σ H D I q
theorem Iu(ha:G9 X e te)(hr:XR X es t)(hs:starEach (e::es) X.env=(false,eval e X.env)::starEach es X.env:=by rfl):XR X (e::es) (abr te t):=by intro pos pins s σ H Q I hp h;rw[hs];show wpAny _ _ (spliced ((false,eval e X.env)::backTo pos (starEach es X.env))) _ _ s;refine Calls.spliced_cons<|Ho (ha pins s σ H _ I hp h) hp λu s1 hp1 ⟨x,H1,I1,r1,q1⟩=>?_;exact fU (hr pos pins s1 σ H1 _ I1 hp1 q1) λus s2 ⟨xs,H2,I2,r2,q2⟩=>⟨x::xs,H2,I2,.cons r1 r2,q2⟩
theorem Ra(h1:PSp X st ts)(h2:Kf X sts tt):Kf X (st::sts) (acR ts tt):=by
 intro pins s σ H D I hp h;refine wpAny_execs_cons<|Ho (h1 pins s σ H _ I hp h) hp λf s1 hp1 q=>?_;cases f with
 | next=>obtain⟨σ1,H1,I1,q1⟩:=q;exact h2 pins s1 σ1 H1 D I1 hp1 q1
 | ret v=>exact q
 | brk=>exact q
 | cont=>exact q
def agd(a b:Str)(to:TE):TE:=λσ H Q=>to σ H λx H1=>∃w:Str,x = .str w/\w.length+(w.length+1)*b.length<=16777216/\Q (.str (Txt.replace w a b)) H1
theorem Vo{a b:Str}{j1 j2:Nat}{p1 p2:Pos}(ho:PE X o to)(hab:(a == b)=false)
  (hbase:attributeBase o "replace" X.env (eval o X.env)=eval o X.env:=by rfl)
  (hfew:((backTo cpos (starEach [.Constant (.str a) j1 p1,.Constant (.str b) j2 p2] X.env)).all (λx=>!x.1)&&(backToKw cpos (keywordEach [] X.env)).all (λx=>x.1.isSome)
   && decide (([.Constant (.str a) j1 p1,.Constant (.str b) j2 p2]:List Expr).length+([]:List Keyword).length+(if ([]:List Keyword).isEmpty then 0 else 1)<30))=true:=by rfl)
  (hline:(apos.endLine == cpos.line)=true:=by rfl) :
  G9 X (.Call (.Attribute o "replace" apos) [.Constant (.str a) j1 p1,.Constant (.str b) j2 p2] [] cpos) (agd a b to):=by
 intro pins s σ H Q I hp h;refine wpAny_Call_method_late hbase hfew hline rfl (Ho (ho pins s σ H _ I h) hp λv s1 hp1 ⟨x,H1,I1,r1,w,ew,hf,q1⟩=>?_);subst ew;obtain⟨t,rfl⟩:=r1;refine⟨"str","str.replace",PySem.F.plainAttrs_str,PySem.F.slot_str_replace,PySem.F.type_str_replace,Qkv _ _ _,(λ_ z=>nomatch z),?_⟩;refine Calls.callWith_builtin rfl (Calls.evalArgs_plain ?_);show wpAny _ _ (spliced ((false,eval (.Constant (.str a) j1 p1) X.env)::(false,eval (.Constant (.str b) j2 p2) X.env)::[])) _ _ s1;refine Calls.spliced_cons<|Calls.Constant_str<|Calls.spliced_cons<|Calls.Constant_str<|Calls.spliced_nil ?_;exact SC.replace (Nat.pos_iff_ne_zero.mp hp1) (Nat.succ_ne_zero _) (Qw0<|Nat.lt_succ_self _) hab hf λt' k=>⟨.str _,H1,I1.tok k,⟨t',rfl⟩,q1⟩
theorem G9.imp{t t':TE}(h:G9 X e t)(i:∀σ H Q,t' σ H Q->t σ H Q):G9 X e t':=λpins s σ H Q I hp q=>h pins s σ H Q I hp (i σ H Q q)
theorem XR.imp{t t':TA}(h:XR X es t)(i:∀σ H Q,t' σ H Q->t σ H Q):XR X es t':=λpos pins s σ H Q I hp q=>h pos pins s σ H Q I hp (i σ H Q q)
theorem PSp.imp{st:Stmt}{t t':TS}(h:PSp X st t)(i:∀D σ H,t' D σ H->t D σ H):PSp X st t':=λpins s σ H D I hp q=>h pins s σ H D I hp (i D σ H q)
theorem Kf.imp{st:List Stmt}{t t':TS}(h:Kf X st t)(i:∀D σ H,t' D σ H->t D σ H):Kf X st t':=λpins s σ H D I hp q=>h pins s σ H D I hp (i D σ H q)
theorem Zo(h:XR X es t):G9 X (.List es pos) (agj t):=by intro pins s σ H Q I hp hq;refine wpAny_List_spliced (fU (h pos pins s σ H _ I hp hq) λus s1 ⟨xs,H1,I1,r,z,q⟩=>⟨by rw[<-r.length];exact z,?_⟩);have hf:H1 s1.heap.objs.size=none:=I1.hok.fresh (Qq2 _);refine⟨.ref s1.heap.objs.size,upd H1 s1.heap.objs.size (.lst xs),I1.laid (t':=s1.toks) (λb u e=>Qqj _ e) (Qq2 _) ?_,rfl,q _ hf⟩;exact⟨z,us,0,r,Qq7 _ rfl⟩
theorem Vp{op:Operator}{r:R2}(ho:mX X (binaryOp op) r)(ha:G9 X a ta)(hb:G9 X b tb):G9 X (.BinOp a op b pos) (Yn r ta tb):=by intro pins s σ H Q I hp h;refine wpAny_BinOp (Ho (ha pins s σ H _ I hp h) hp λv s1 hp1 ⟨x,H1,I1,r1,q1⟩=>fU (hb pins s1 σ H1 _ I1 hp1 q1) λu s2 ⟨y,H2,I2,r2,q2⟩=>?_);exact ho pins s2 σ H2 x y v u Q I2 r1 r2 q2
theorem Zc{i:Nat}{x:Str}{pos':Pos}(hN:X.N.Nodup)(hi:X.N[i]? = some x)(hx:Loc X.env.scope x)(he:G9 X e te)(hs:swapsWith e (some (.Name x pos')) pos.line X.env=pure false:=by rfl)(hf:X.fn x=true\/X.env.scope.names.lookup x=some .local:=by first|exact .inl rfl|exact .inr rfl|assumption) :
  PSp X (.Assign [.Name x pos'] e pos) (QH te (Ba i)):=by
 intro pins s σ H D I hp h;refine wpAny_Assign_Name (fU (he pins s σ H _ I hp h) λv s1 ⟨y,H1,I1,r1,q1⟩=>?_) hs;exact rm I1 hN hi hx r1 (λs2 I2=>⟨_,H1,I2,q1⟩) hf
end
end L2
namespace Ev
open PySem PySem.Spec PyProof.Rows L2
def G8(X:Cx)(C:Cfg)(e:Expr)(ev:Ev):Prop:=G9 X e (tE C ev)
def Xq(X:Cx)(C:Cfg)(e:Expr)(ev:Ev):Prop:=G9 X e (tRd C ev)
def Xu(X:Cx)(C:Cfg)(es:List Expr)(ev:dq):Prop:=XR X es (tA C ev)
def Xn(X:Cx)(C:Cfg)(st:Stmt)(ev:cC):Prop:=PSp X st (tS C ev)
def Qs(X:Cx)(C:Cfg)(st:List Stmt)(ev:cC):Prop:=Kf X st (tS C ev)
section
variable{X:Cx}{C:Cfg}{pos:Pos}{e:Expr}{es:List Expr}{a:Ev}{r:dq}
theorem G8.b{ev:Ev}(h:G8 X C e ev):Xq X C e ev:=G9.imp h λσ H Q hq=>by
 obtain⟨Pr,F,env,env',d,r,e,q⟩:=hq;exact⟨Pr,F,env,env',d,r,e,λv H' F' r' s' p'=>q v H' F' r' s' (.inl p')⟩
theorem Od(h:Xu X C es r):G8 X C (.List es pos) (cM r):=(Zo h).imp λσ H Q hq=>by
 obtain⟨Pr,F,env,env',d,rl,e,q⟩:=hq;obtain⟨ds,aD,e1,e2⟩:=aO e;split at e2
 ·rename_i hz;cases e2;refine⟨Pr,F,env,env',ds,rl,e1,λvs H1 F1 r1 s1 p1=>⟨by rw[p1.length];exact hz,λp hp=>?_⟩⟩;obtain⟨r2,s2⟩:=r1.new (o:=.lst vs) hp;exact q _ _ _ r2 (s1.trans s2) ⟨hz,p,vs,rfl,aZ,bT.mono s2 _ _ p1⟩
 ·cases e2
theorem pC(ha:G8 X C e a)(hr:Xu X C es r)(hs:starEach (e::es) X.env=(false,eval e X.env)::starEach es X.env:=by rfl):Xu X C (e::es) (aa a r):=(Iu ha hr hs).imp λσ H Q hq=>by
 obtain⟨Pr,F,env,env',ds,rl,e,q⟩:=hq;obtain⟨d,aD,e1,e2⟩:=aO e;obtain⟨ds2,eG,e3,e4⟩:=aO e2;cases e4;exact⟨Pr,F,env,aD,d,rl,e1,λv H1 F1 r1 s1 p1=>⟨Pr,F1,aD,env',ds2,r1,e3,λvs H2 F2 r2 s2 p2=>q (v::vs) H2 F2 r2 (s1.trans s2) ⟨v,vs,rfl,Rep.mono s2 _ _ p1,p2⟩⟩⟩
theorem YS{op:Operator}{r:R2}{g:D->D->Option D}{y:Expr}{b:Ev}{px:Pos}(i:Nat){x:Str}(hN:X.N[i]? = some x)(hv:wW X.env.scope x)(ho:mX X (binaryOp op) r)(o:pN C r g)(hb:Xq X C y b)
  (hd:jN x:=by decide) (hcd:t7 x:=by decide):G8 X C (.BinOp (.Name x px) op y pos) (aA g i b):=
 (Vp ho (PE.p (jF hN hv hd hcd)) hb).imp (tM o)
theorem UW{i:Nat}{x:Str}{pos':Pos}(hN:X.N.Nodup)(hi:X.N[i]? = some x)(hx:Loc X.env.scope x)(hfx:C.fx i=none)(he:G8 X C e a)(hs:swapsWith e (some (.Name x pos')) pos.line X.env=pure false:=by rfl)(hf:X.fn x=true\/X.env.scope.names.lookup x=some .local:=by first|exact .inl rfl|exact .inr rfl|assumption) :
  Xn X C (.Assign [.Name x pos'] e pos) (bF a (au i)):=(Zc hN hi hx he hs hf).imp λD σ H h=>by
 obtain⟨Pr,F,env,r,f⟩:=h;obtain⟨d,aD,e1,f1⟩:=cT f;exact⟨Pr,F,env,aD,d,r,e1,λv H1 F1 r1 s1 p1=>f1 _ H1 F1 (r1.put hfx p1) s1⟩
theorem dh{st:Stmt}{rest:List Stmt}{a b:cC}(h1:Xn X C st a)(h2:Qs X C rest b):Qs X C (st::rest) (aP a b):=(Ra h1 h2).imp λD σ H h=>by
 obtain⟨Pr,F,env,r,f⟩:=h;refine⟨Pr,F,env,r,?_⟩;unfold aP at f;cases e:a env with
 | nx e1=>rw[e] at f;exact λσ' H' F' r' s'=>⟨Pr,F',e1,r',f.mono s'⟩
 | rt o d e1=>rw[e] at f;cases o<;>exact f
 | bk e1=>rw[e] at f;exact f
 | ct e1=>rw[e] at f;exact f
 | stuck=>rw[e] at f;exact f
def nZ(x a b:List Nat):List Nat:=(Txt.replace (strOf x) (strOf a) (strOf b)).cps.toList
def PB(a b:List Nat):D->Option D
 | .str x=>if x.length+(x.length+1)*b.length<=16777216/\(nZ x a b).length<=sizeLine then some (.str (nZ x a b)) else none
 | _=>none
theorem U3{o:Expr}{x:Ev}(a b:List Nat){sa sb:Str}{j1 j2:Nat}{p1 p2 apos cpos:Pos}(ho:PX X C o x)(ea:sa=strOf a)(eb:sb=strOf b)(hab:(sa == sb)=false)
  (hbase:attributeBase o "replace" X.env (eval o X.env)=eval o X.env:=by rfl)
  (hfew:((backTo cpos (starEach [.Constant (.str sa) j1 p1,.Constant (.str sb) j2 p2] X.env)).all (λx=>!x.1)&&(backToKw cpos (keywordEach [] X.env)).all (λx=>x.1.isSome)
   && decide (([.Constant (.str sa) j1 p1,.Constant (.str sb) j2 p2]:List Expr).length+([]:List Keyword).length+(if ([]:List Keyword).isEmpty then 0 else 1)<30))=true:=by rfl)
  (hline:(apos.endLine == cpos.line)=true:=by rfl) :
  G8 X C (.Call (.Attribute o "replace" apos) [.Constant (.str sa) j1 p1,.Constant (.str sb) j2 p2] [] cpos) (fj (PB a b) x):=(Vo (a:=sa) (b:=sb) ho hab hbase hfew hline).imp λσ H Q hq=>by
 obtain⟨Pr,F,env,env',d,rl,e,q⟩:=hq;obtain⟨y,aD,e1,e2⟩:=aO e;obtain⟨e3,rfl⟩:=cA e2;unfold PB at e3;split at e3
 ·rename_i z;split at e3
  ·rename_i hz;cases e3;refine⟨Pr,F,env,env',_,rl,e1,λv H1 F1 r1 s1 p1=>⟨strOf z,p1.1,?_,q _ H1 F1 r1 s1 ?_⟩⟩
   ·rw[eb,aU,aU];exact hz.1
   ·have e5:strOf (nZ z a b)=Txt.replace (strOf z) sa sb:=by rw[ea,eb];unfold nZ strOf;simp
    exact⟨by rw[e5],hz.2⟩
  ·cases e3
 ·cases e3
end
end Ev
namespace L2
open PySem PySem.Spec PyProof.Rows
def XQ(X:Cx)(e:Expr)(t:TE):Prop:=
 ∀(pins:List (Addr×Obj)) (s:Shared) (σ:St) (H:Hp) (Q:VK),Inv X pins σ H s->t σ H Q->wpAny (model X.prog X.w) X.A (eval e X.env) (λv s'=>0<s'.toks/\EP X pins σ Q v s') X.xe s
def PSq(X:Cx)(st:Stmt)(t:TS):Prop:=
 ∀(pins:List (Addr×Obj)) (s:Shared) (σ:St) (H:Hp) (D:Ends),Inv X pins σ H s->t D σ H->wpAny (model X.prog X.w) X.A (exec st X.env) (λf s'=>0<s'.toks/\SP X pins D f s') X.xe s
section
variable{X:Cx}{a b e:Expr}{ta tb te:TE}{pos:Pos}{st:Stmt}{sts:List Stmt}{ts tt:TS}
theorem XQ.imp{t t':TE}(h:XQ X e t)(i:∀σ H Q,t' σ H Q->t σ H Q):XQ X e t':=λpins s σ H Q I q=>h pins s σ H Q I (i σ H Q q)
theorem PSq.imp{t t':TS}(h:PSq X st t)(i:∀D σ H,t' D σ H->t D σ H):PSq X st t':=λpins s σ H D I q=>h pins s σ H D I (i D σ H q)
theorem Za{i:Nat}{x:Str}{pos':Pos}(hN:X.N.Nodup)(hi:X.N[i]? = some x)(hx:Loc X.env.scope x)(he:XQ X e te)(hs:swapsWith e (some (.Name x pos')) pos.line X.env=pure false:=by rfl)(hf:X.fn x=true\/X.env.scope.names.lookup x=some .local:=by first|exact .inl rfl|exact .inr rfl|assumption) :
  PSq X (.Assign [.Name x pos'] e pos) (QH te (Ba i)):=by
 intro pins s σ H D I h;refine wpAny_Assign_Name (fU (he pins s σ H _ I h) λv s1 ⟨hp,y,H1,I1,r1,q1⟩=>?_) hs;exact Ho (rm (Q:=λ_ s2=>SP X pins D .next s2) I1 hN hi hx r1 (λs2 I2=>⟨_,H1,I2,q1⟩) hf) hp λ_ _ p q=>⟨p,q⟩
theorem Q9(h1:PSq X st ts)(h2:Kf X sts tt):zq X (st::sts) (acR ts tt):=by
 intro pins s σ H D I h;refine wpAny_execs_cons (fU (h1 pins s σ H _ I h) λf s1 ⟨hp1,q⟩=>?_);cases f with
 | next=>obtain⟨σ1,H1,I1,q1⟩:=q;exact h2 pins s1 σ1 H1 D I1 hp1 q1
 | ret v=>exact q
 | brk=>exact q
 | cont=>exact q
end
end L2
namespace Ev
open PySem PySem.Spec PyProof.Rows L2
section
variable{X:Cx}{C:Cfg}{pos p:Pos}{x:Expr}{a:Ev}{px:Pos}{e y:Expr}{b:Ev}{n:Str}{es:List Expr}{r:dq}
theorem p_x(h:SX X C e a):G8 X C e a:=PE.p h.u
theorem p_a(h:Kq X C es r):Xu X C es r:=PA.p h.u
theorem S9{st:Stmt}{ev:cC}(h:CZ X C st ev):Xn X C st ev:=PS.p h.u
theorem aja{st:List Stmt}{ev:cC}(h:dR X C st ev):Qs X C st ev:=zq.p h.u
theorem adQ{op:Operator}{g:D->D->Option D}(i:Nat)(o:Bi X C op g)(hb:Xq X C y b)(hN:X.N[i]? = some n:=by rfl)(hv:wW X.env.scope n:=by first|exact .inl rfl|exact .inr (.inl rfl)|exact .inr (.inr rfl))(hd:jN n:=by decide)(hcd:t7 n:=by decide):G8 X C (.BinOp (.Name n px) op y pos) (aA g i b):=
 let ⟨_,h1,h2⟩:=o.ex;YS i hN hv h1 h2 hb hd hcd
theorem ag4{pos':Pos}(i:Nat)(he:G8 X C e a)(hnd:kO X.N=true:=by rfl)(hfx:C.fx i=none:=by rfl)(hi:X.N[i]? = some n:=by rfl)(hx:Loc X.env.scope n:=by first|exact .inl rfl|exact .inr rfl)(hs:swapsWith e (some (.Name n pos')) pos.line X.env=pure false:=by rfl)(hf:X.fn n=true\/X.env.scope.names.lookup n=some .local:=by first|exact .inl rfl|exact .inr rfl) :
  Xn X C (.Assign [.Name n pos'] e pos) (bF a (au i)):=UW (ig hnd) hi hx hfx he hs hf
theorem s_q{st:Stmt}{rest:List Stmt}{ua ub:cC}(h1:PSq X st (tS C ua))(h2:Qs X C rest ub):dR X C (st::rest) (aP ua ub):=⟨(Q9 h1 h2).imp λD σ H h=>by
 obtain⟨Pr,F,env,r,f⟩:=h;refine⟨Pr,F,env,r,?_⟩;unfold aP at f;cases e:ua env with
 | nx e1=>rw[e] at f;exact λσ' H' F' r' s'=>⟨Pr,F',e1,r',f.mono s'⟩
 | rt o d e1=>rw[e] at f;cases o<;>exact f
 | bk e1=>rw[e] at f;exact f
 | ct e1=>rw[e] at f;exact f
 | stuck=>rw[e] at f;exact f⟩
end
end Ev
namespace L2
open PySem PySem.Spec PyProof.Rows
def XN(X:Cx)(e:Expr)(t:TT):Prop:=
 ∀(pins:List (Addr×Obj)) (s:Shared) (σ:St) (H:Hp) (Q:Bool->Hp->Prop),Inv X pins σ H s->0<s.toks->t σ H Q->wpAny (model X.prog X.w) X.A (isTrue e X.env (eval e X.env)) (TP X pins σ Q) X.xe s
section
variable{X:Cx}{a b e o:Expr}{es rest:List Expr}{ta tb te to:TE}{tt tu:TT}{t:TA}{pos p apos cpos:Pos}{ts us:TS}
theorem XN.imp{t t':TT}(h:XN X e t)(i:∀σ H Q,t' σ H Q->t σ H Q):XN X e t':=λpins s σ H Q I hp q=>h pins s σ H Q I hp (i σ H Q q)
theorem Y7(h:G9 X e te)(he:∀whole,isTrue e X.env whole=(do let v <-whole;standAt e.pos;holding [v] (truthy v)):=by intro _;rfl):XN X e (tB te):=by intro pins s σ H Q I hp hw;refine isTrue_plain (fU (h pins s σ H _ I hp hw) λv s1 ⟨x,H1,I1,r1,q1⟩=>?_) (he _);obtain⟨d,rfl,q⟩:=q1;cases r1;exact Qjy ⟨H1,I1,q⟩
theorem Y8(ha:XN X a tt):XN X (.UnaryOp .Not a pos) (agh tt):=λpins s σ H Q I hp h=>isTrue_not (ha pins s σ H (λc H1=>Q (!c) H1) I hp h)
theorem adp(ha:XN X a tt)(hb:PW X (.BoolOp .Or (b::rest) pos) tu):XN X (.BoolOp .Or (a::b::rest) pos) (tOr tt tu):=by
 intro pins s σ H Q I hp h;refine isTrue_or (fU (ha pins s σ H _ I hp h) λc s1 ⟨H1,I1,q1⟩=>?_);cases c with
 | true=>exact⟨H1,I1,q1⟩
 | false=>exact hb _ pins s1 σ H1 Q I1 q1
theorem adu{c:Expr}{a b:List Stmt}(hc:XN X c tt)(ha:zq X a ts)(hb:zq X b us):PSp X (.If c a b pos) (agk tt ts us):=by
 intro pins s σ H D I hp h;refine wpAny_If (fU (hc pins s σ H _ I hp h) λd s1 ⟨H1,I1,q1⟩=>?_);cases d with
 | true=>exact ha pins s1 σ H1 D I1 q1
 | false=>exact hb pins s1 σ H1 D I1 q1
theorem Vq{k:Nat}{f:Addr}{fd:FuncData}{ps:List Str}{sp}{CX}{E}{x:Str}{ds WW}(F:mY X.prog X.w X.K X.mg X.base CX k f fd ps sp)(hr:gJ k X.A)(hg:Gl X x)(hm:X.mg x=some (.ref f))(hk:PySem.W.keepIn X.K (.ref f)=true)(hb:Binds X.K fd ps ds)(hd:Vals WW ds)(hx:Passes CX X E)
  (ha:XR X (e::es) t) (hdb:jN x:=by decide) (he:starEach (e::es) X.env=(false,eval e X.env)::starEach es X.env:=by rfl) (hpl:(backTo pos (starEach es X.env)).any (·.1)=false:=by rfl) :
  G9 X (.Call (.Name x p) (e::es) [] pos) (abt sp WW E t):=by
 intro pins s σ H Q I hp h;refine wpAny_Call_Name_kw (sW I hg hm ?_ hdb);refine PySem.W.callWith_K (h₀:=X.base) I.ok.mod.Jl hk (fU (ha pos pins s σ H _ I hp h) λus s1 ⟨vs,H1,I1,r,q⟩=>⟨I1.G5,?_⟩) he hpl;exact Uq F hr hb hd hx I1 r q
theorem Ol{z:Str}{j:Nat}:XQ X (.Constant (.str z) j pos) (tC (.str z)):=λ_ _ _ H _ I h=>Calls.Constant_str ⟨Nat.succ_pos _,.str z,H,I.tok _,⟨_,rfl⟩,h⟩
theorem adN{T:String}{name:Str}{id:String}{r:V->List V->Hp->VK->Prop}(pa:PlainAttrs T)(slot:Slot T name id)(hty:typeOf (.builtin id)=pure (.type "method_descriptor"))(hm:MtR X id r)(ho:XQ X o to)(ha:XR X (e::es) t)
  (hbase:attributeBase o name X.env (eval o X.env)=eval o X.env:=by rfl)
  (hfew:((backTo cpos (starEach (e::es) X.env)).all (λx=>!x.1)&&(backToKw cpos (keywordEach [] X.env)).all (λx=>x.1.isSome)
   && decide ((e::es).length+([]:List Keyword).length+(if ([]:List Keyword).isEmpty then 0 else 1)<30))=true:=by rfl)
  (hline:(apos.endLine == cpos.line)=true:=by rfl) (hs:starEach (e::es) X.env=(false,eval e X.env)::starEach es X.env:=by rfl) (hplain:(backTo cpos (starEach es X.env)).any (·.1)=false:=by rfl) :
  PE X (.Call (.Attribute o name apos) (e::es) [] cpos) (tBM X.K T r to t):=by
 intro pins s σ H Q I h;refine wpAny_Call_method_late hbase hfew hline rfl (fU (ho pins s σ H _ I h) λv s1 ⟨hp,x,H1,I1,r1,ty,q1⟩=>?_);obtain⟨h1,h2⟩:=Tz I1 r1 ty;refine⟨T,id,pa,slot,hty,h1,h2,?_⟩;have hA:=ha cpos pins s1 σ H1 _ I1 hp q1;rw[hs] at hA ⊢;refine Calls.callWith_builtin (by show(false||(backTo cpos (starEach es X.env)).any (·.1))=false;rw[hplain]<;>rfl) (Calls.evalArgs_plain ?_);exact fU hA λus s2 ⟨vs,H2,I2,r2,q2⟩=>hm pins s2 σ H2 x vs v us Q I2 r1 r2 q2
end
end L2
namespace Ev
open PySem PySem.Spec PyProof.Rows L2
def S5(X:Cx)(C:Cfg)(e:Expr)(ev:gh):Prop:=XN X e (tT C ev)
section
variable{X:Cx}{C:Cfg}{pos p apos cpos:Pos}{e x y:Expr}{es rest:List Expr}{a b:Ev}{r:dq}{t u:gh}
theorem aiR(h:G8 X C e a)(he:∀whole,isTrue e X.env whole=(do let v <-whole;standAt e.pos;holding [v] (truthy v)):=by intro _;rfl):S5 X C e (dw a):=(Y7 h he).imp λσ H Q hq=>by
 obtain⟨Pr,F,env,env',k,rl,e,q⟩:=hq;obtain⟨d,aD,e1,e2⟩:=aO e;cases d with
 | bl z=>
  cases e2;exact⟨Pr,F,env,env',.bl k,rl,e1,λv H1 F1 r1 s1 p1=>⟨k,p1,q H1 F1 r1 s1⟩⟩
 | _=>cases e2
theorem acP(h:S5 X C x t):S5 X C (.UnaryOp .Not x pos) (bV t):=(Y8 h).imp λσ H Q hq=>by
 obtain⟨Pr,F,env,env',b,rl,e,q⟩:=hq;obtain⟨c,aD,e1,e2⟩:=aO e;cases e2;exact⟨Pr,F,env,env',c,rl,e1,λH1 F1 r1 s1=>q H1 F1 r1 s1⟩
theorem aga(ha:S5 X C x t)(hb:PXW X C (.BoolOp .Or (y::rest) pos) u):S5 X C (.BoolOp .Or (x::y::rest) pos) (gQ t u):=
 (adp ha hb).imp λσ H Q hq=>by
  obtain⟨Pr,F,env,env',k,rl,e,q⟩:=hq;obtain⟨c,aD,e1,e2⟩:=aO e;refine⟨Pr,F,env,aD,c,rl,e1,λH1 F1 r1 s1=>?_⟩;split at e2
  ·rename_i hc;rw[if_pos hc];cases e2;exact q H1 F1 r1 s1
  ·rename_i hc;rw[if_neg hc];exact⟨Pr,F1,aD,env',k,r1,e2,λH2 F2 r2 s2=>q H2 F2 r2 (s1.trans s2)⟩
theorem ajb{c:Expr}{sa sb:List Stmt}{ea eb:cC}(hc:S5 X C c t)(ha:dR X C sa ea)(hb:dR X C sb eb):Xn X C (.If c sa sb pos) (d8 t ea eb):=(adu hc ha.u hb.u).imp λD σ H h=>by
 obtain⟨Pr,F,env,r,f⟩:=h;obtain⟨k,aD,e1,f1⟩:=cT f;refine⟨Pr,F,env,aD,k,r,e1,λH1 F1 r1 s1=>?_⟩;split at f1
 ·rename_i hk;rw[if_pos hk];exact⟨Pr,F1,aD,r1,f1.mono s1⟩
 ·rename_i hk;rw[if_neg hk];exact⟨Pr,F1,aD,r1,f1.mono s1⟩
end
end Ev
namespace L2
open PySem PySem.Spec PyProof.Rows
section
variable{X:Cx}{o x e:Expr}{to tx:TE}{pos pb p1 p2 apos cpos:Pos}{a c:Str}{j1 j2:Nat}
def acS(a c:Str)(to tx:TE):TE:=λσ H Q=>to σ H λu H1=>∃w:Str,u = .str w/\tx σ H1 λy H2=>∃z:Str,y = .str z/\(z.length == 0)=false/\z.length+c.length<=sizeLine/\(a == z++c)=false/\w.length+(w.length+1)*(z++c).length<=16777216/\Q (.str (Txt.replace w a (z++c))) H2
theorem Rj(ho:PE X o to)(hx:PE X x tx)(hc:(c.length == 0)=false)
  (hbase:attributeBase o "replace" X.env (eval o X.env)=eval o X.env:=by rfl)
  (hfew:((backTo cpos (starEach [.Constant (.str a) j1 p1,.BinOp x .Add (.Constant (.str c) j2 p2) pb] X.env)).all (λx=>!x.1)&&(backToKw cpos (keywordEach [] X.env)).all (λx=>x.1.isSome)
   && decide (([.Constant (.str a) j1 p1,.BinOp x .Add (.Constant (.str c) j2 p2) pb]:List Expr).length+([]:List Keyword).length+(if ([]:List Keyword).isEmpty then 0 else 1)<30))=true:=by rfl)
  (hline:(apos.endLine == cpos.line)=true:=by rfl) :
  G9 X (.Call (.Attribute o "replace" apos) [.Constant (.str a) j1 p1,.BinOp x .Add (.Constant (.str c) j2 p2) pb] [] cpos) (acS a c to tx):=by
 intro pins s σ H Q I hp h;refine wpAny_Call_method_late hbase hfew hline rfl (Ho (ho pins s σ H _ I h) hp λv s1 hp1 ⟨u,H1,I1,r1,w,ew,q1⟩=>?_);subst ew;obtain⟨t,rfl⟩:=r1;refine⟨"str","str.replace",PySem.F.plainAttrs_str,PySem.F.slot_str_replace,PySem.F.type_str_replace,Qkv _ _ _,(λ_ z=>nomatch z),?_⟩;refine Calls.callWith_builtin rfl (Calls.evalArgs_plain ?_);show wpAny _ _ (spliced ((false,eval (.Constant (.str a) j1 p1) X.env)::(false,eval (.BinOp x .Add (.Constant (.str c) j2 p2) pb) X.env)::[])) _ _ s1;refine Calls.spliced_cons (Calls.Constant_str (Calls.spliced_cons (wpAny_BinOp ?_)));have hx1:=wpAny_toks_of (n:=s1.toks+1) (Qq2 (s1.toks+1)) (hx pins { s1 with toks:=s1.toks+1 } σ H1 _ (I1.tok _) q1);refine Qw9 hx1 (λy s2 ⟨ht,yv,H2,I2,r2,z,ez,hz,hzl,haz,hf,q2⟩=>?_) λ_ _ x=>x.2;subst ez;obtain⟨t2,rfl⟩:=r2;refine Calls.Constant_str (P.add_str ?_);rw[hz,hc];refine⟨?_,Calls.spliced_nil ?_⟩
 ·have e:(z++c).length=z.length+c.length:=by show(z.cps++c.cps).size=_;rw[Array.size_append];rfl
  rw[e];exact hzl
 ·exact SC.replace (Nat.pos_iff_ne_zero.mp hp1) (Nat.succ_ne_zero _) (show s1.toks≠s2.toks+1 by omega) haz hf λt' k=>⟨.str _,H2,I2.tok k,⟨t',rfl⟩,q2⟩
def Dn(x y z:Str):Str:=if ((Builtin.Str.occurrences x y 0 x.length 2).isEmpty||(y.length == 0&&z.length == 0))=true then x else Builtin.Str.glued z (Builtin.Str.partsBetween x (Builtin.Str.occurrences x y 0 x.length 2) y.length)
open Builtin Builtin.Str in
theorem Jx(x y z:Str)(t u v q:Tok)(h0:(u == 0||v == 0)=false)(huv:(u == v)=false)(hyz:(y == z)=false)(hl:tooLong (x.length+(occurrences x y 0 x.length 2).length*z.length)=false) :
  Gives («str.replace» ⟨[.str x t,.str y u,.str z v,.int 2 q],[]⟩) (if ((occurrences x y 0 x.length 2).isEmpty||(y.length == 0&&z.length == 0))=true then .val (.str x t) else .str (glued z (partsBetween x (occurrences x y 0 x.length 2) y.length))):=by
 show Gives (if ((occurrences x y 0 x.length 2).isEmpty||(y.length == 0&&z.length == 0))=true then (do rule "str.replace.nothing";ret (.str x t)) else
     (do let same <-isSame (.str y u) (.str z v)
         if same=true then (do rule "str.replace.old-is-new";ret (.str x t)) else
          if tooLong (x.length+(occurrences x y 0 x.length 2).length*z.length)=true then unsupported "str.replace:memory" else
          retStr (glued z (partsBetween x (occurrences x y 0 x.length 2) y.length)))) _
 cases hc:((occurrences x y 0 x.length 2).isEmpty||(y.length == 0&&z.length == 0))
 ·rw[isSame_str_other y z u v h0 huv hyz,hl];exact .of_eq rfl
 ·exact .rule (.of_eq rfl)
def acT(a b:Str)(to:TE):TE:=λσ H Q=>to σ H λx H1=>∃w:Str,x = .str w/\w.length+2*b.length<=16777216/\(Dn w a b).length<=sizeLine/\Q (.str (Dn w a b)) H1
theorem Rk{b:Str}{j3:Nat}{p3:Pos}(ho:PE X o to)(hab:(a == b)=false)
  (hbase:attributeBase o "replace" X.env (eval o X.env)=eval o X.env:=by rfl)
  (hfew:((backTo cpos (starEach [.Constant (.str a) j1 p1,.Constant (.str b) j2 p2,.Constant (.int 2) j3 p3] X.env)).all (λx=>!x.1)&&(backToKw cpos (keywordEach [] X.env)).all (λx=>x.1.isSome)
   && decide (([.Constant (.str a) j1 p1,.Constant (.str b) j2 p2,.Constant (.int 2) j3 p3]:List Expr).length+([]:List Keyword).length+(if ([]:List Keyword).isEmpty then 0 else 1)<30))=true:=by rfl)
  (hline:(apos.endLine == cpos.line)=true:=by rfl) :
  G9 X (.Call (.Attribute o "replace" apos) [.Constant (.str a) j1 p1,.Constant (.str b) j2 p2,.Constant (.int 2) j3 p3] [] cpos) (acT a b to):=by
 intro pins s σ H Q I hp h;refine wpAny_Call_method_late hbase hfew hline rfl (Ho (ho pins s σ H _ I h) hp λv s1 hp1 ⟨x,H1,I1,r1,w,ew,hf,hz,q1⟩=>?_);subst ew;obtain⟨t,rfl⟩:=r1;refine⟨"str","str.replace",PySem.F.plainAttrs_str,PySem.F.slot_str_replace,PySem.F.type_str_replace,Qkv _ _ _,(λ_ z=>nomatch z),?_⟩;refine Calls.callWith_builtin rfl (Calls.evalArgs_plain ?_);show wpAny _ _ (spliced ((false,eval (.Constant (.str a) j1 p1) X.env)::(false,eval (.Constant (.str b) j2 p2) X.env)::(false,eval (.Constant (.int 2) j3 p3) X.env)::[])) _ _ s1;refine Calls.spliced_cons (Calls.Constant_str (Calls.spliced_cons (Calls.Constant_str (Calls.spliced_cons (wpAny_Constant_int (Calls.spliced_nil ?_))))));have hl:Builtin.Str.tooLong (w.length+(Builtin.Str.occurrences w a 0 w.length 2).length*b.length)=false:=by have h1:=StrLaws.occ_length_le w a 0 w.length 2;have h2:(Builtin.Str.occurrences w a 0 w.length 2).length*b.length<=2*b.length:=Nat.mul_le_mul_right _ h1;unfold Builtin.Str.tooLong sizeLine;exact Qw6 (by omega)
 refine call_gives PySem.F.slot_str_replace (Qkv _ _ _) PySem.F.entry_str_replace (PySem.F.args_str_replace_4 _ _ _ _) (Jx w a b t _ _ _ (by have:=Nat.pos_iff_ne_zero.mp hp1;simp[this]) (by simp) hab hl) ?_;unfold Dn at q1 hz;cases hc:((Builtin.Str.occurrences w a 0 w.length 2).isEmpty||(a.length == 0&&b.length == 0))
 ·rw[hc] at q1 hz;simp only[Bool.false_eq_true,if_false] at q1 hz ⊢;exact⟨hz,.str _,H1,I1.tok _,⟨_,rfl⟩,q1⟩
 ·rw[hc] at q1;simp only[if_true] at q1 ⊢;exact⟨.str _,H1,I1.tok _,⟨_,rfl⟩,q1⟩
end
end L2
namespace Ev
open PySem PySem.Spec PyProof.Rows L2
section
variable{X:Cx}{C:Cfg}{pos p pb p1 p2 p3 apos cpos:Pos}{o e x y:Expr}{es:List Expr}{a b:Ev}{r:dq}{j1 j2 j3:Nat}{sa sb:Str}
def qe(x u v:List Nat):List Nat:=(Dn (strOf x) (strOf u) (strOf v)).cps.toList
def Gj(u v:List Nat):D->Option D
 | .str x=>if x.length+2*v.length<=16777216/\(qe x u v).length<=sizeLine then some (.str (qe x u v)) else none
 | _=>none
theorem xF(z c:List Nat):strOf (z++c)=strOf z++strOf c:=by show(⟨(z++c).toArray⟩:Str)=⟨z.toArray++c.toArray⟩;simp
def Gi(u c:List Nat):D->D->Option D
 | .str w,.str z=>if z≠[]/\z.length+c.length<=sizeLine/\u≠z++c/\w.length+(w.length+1)*(z++c).length<=16777216/\(nZ w u (z++c)).length<=sizeLine then some (.str (nZ w u (z++c))) else none
 | _,_=>none
theorem Zy(u v:List Nat)(ho:SX X C o a)(ea:sa=strOf u)(eb:sb=strOf v)(hab:(sa == sb)=false)
  (hbase:attributeBase o "replace" X.env (eval o X.env)=eval o X.env:=by rfl)
  (hfew:((backTo cpos (starEach [.Constant (.str sa) j1 p1,.Constant (.str sb) j2 p2,.Constant (.int 2) j3 p3] X.env)).all (λx=>!x.1)&&(backToKw cpos (keywordEach [] X.env)).all (λx=>x.1.isSome)
   && decide (([.Constant (.str sa) j1 p1,.Constant (.str sb) j2 p2,.Constant (.int 2) j3 p3]:List Expr).length+([]:List Keyword).length+(if ([]:List Keyword).isEmpty then 0 else 1)<30))=true:=by rfl)
  (hline:(apos.endLine == cpos.line)=true:=by rfl) :
  G8 X C (.Call (.Attribute o "replace" apos) [.Constant (.str sa) j1 p1,.Constant (.str sb) j2 p2,.Constant (.int 2) j3 p3] [] cpos) (fj (Gj u v) a):=(Rk (a:=sa) (b:=sb) ho.u hab hbase hfew hline).imp λσ H Q hq=>by
 obtain⟨Pr,F,env,env',d,rl,e,q⟩:=hq;obtain⟨y,aD,e1,e2⟩:=aO e;obtain⟨e3,rfl⟩:=cA e2;unfold Gj at e3;split at e3
 ·rename_i z;split at e3
  ·rename_i hz;cases e3;have e5:strOf (qe z u v)=Dn (strOf z) sa sb:=by rw[ea,eb];unfold qe strOf;simp
   have e6:(Dn (strOf z) sa sb).length=(qe z u v).length:=by rw[<-e5,aU]
   refine⟨Pr,F,env,env',_,rl,e1,λw H1 F1 r1 s1 p1=>⟨strOf z,p1.1,?_,by rw[e6];exact hz.2,?_⟩⟩
   ·rw[eb,aU,aU];exact hz.1
   ·rw[<-e5];exact q _ H1 F1 r1 s1 ⟨rfl,hz.2⟩
  ·cases e3
 ·cases e3
theorem Zx(u c:List Nat)(ho:SX X C o a)(hx:SX X C x b)(ea:sa=strOf u)(eb:sb=strOf c)(hc:(sb.length == 0)=false)
  (hbase:attributeBase o "replace" X.env (eval o X.env)=eval o X.env:=by rfl)
  (hfew:((backTo cpos (starEach [.Constant (.str sa) j1 p1,.BinOp x .Add (.Constant (.str sb) j2 p2) pb] X.env)).all (λx=>!x.1)&&(backToKw cpos (keywordEach [] X.env)).all (λx=>x.1.isSome)
   && decide (([.Constant (.str sa) j1 p1,.BinOp x .Add (.Constant (.str sb) j2 p2) pb]:List Expr).length+([]:List Keyword).length+(if ([]:List Keyword).isEmpty then 0 else 1)<30))=true:=by rfl)
  (hline:(apos.endLine == cpos.line)=true:=by rfl) :
  G8 X C (.Call (.Attribute o "replace" apos) [.Constant (.str sa) j1 p1,.BinOp x .Add (.Constant (.str sb) j2 p2) pb] [] cpos) (az (Gi u c) a b):=(Rj (a:=sa) (c:=sb) ho.u hx.u hc hbase hfew hline).imp λσ H Q hq=>by
 obtain⟨Pr,F,env,env',d,rl,e,q⟩:=hq;obtain⟨w0,aD,e1,e2⟩:=aO e;obtain⟨z0,eG,e3,e4⟩:=aO e2;obtain⟨e5,rfl⟩:=cA e4;unfold Gi at e5;split at e5
 ·rename_i w z;split at e5
  ·rename_i hz;cases e5;obtain⟨h1,h2,h3,h4,h5⟩:=hz;refine⟨Pr,F,env,aD,_,rl,e1,λvx H1 F1 r1 s1 p1=>⟨strOf w,p1.1,Pr,F1,aD,env',_,r1,e3,λvy H2 F2 r2 s2 p2=>⟨strOf z,p2.1,?_,?_,?_,?_,?_⟩⟩⟩
   ·rw[aU];cases z with|nil=>exact absurd rfl h1|cons _ _=>rfl
   ·rw[eb,aU,aU];exact h2
   ·rw[ea,eb,<-xF,Qwj];intro z;have:=Qzw (λs:Str=>s.cps.toList) z;simp only[strOf] at this;exact h3 (by simpa using this)
   ·rw[eb,<-xF,aU,aU];exact h4
   ·have e7:strOf (nZ w u (z++c))=Txt.replace (strOf w) sa (strOf z++sb):=by rw[ea,eb,<-xF];unfold nZ strOf;simp
    rw[<-e7];exact q _ H2 F2 r2 (s1.trans s2) ⟨rfl,h5⟩
  ·cases e5
 ·cases e5
theorem ag5{op:Operator}{g:D->D->Option D}(o:Bi X C op g)(ha:SX X C x a)(hb:Xq X C y b):G8 X C (.BinOp x op y pos) (az g a b):=let ⟨_,h1,h2⟩:=o.ex;(Vp h1 (PE.p ha.u) hb).imp (ym h2)
theorem adP{n:Str}{k k':Nat}{m:Nat}{ps:List Str}{g:List D->Option D}(O:Own X.prog X.w X.K X.mg X.base n k ps (o9 X.K m g))(G:Good X C)(hr:gJ k' X.A)(hk:Nat.ble k k'=true)(ha:Xu X C (e::es) r)(hn:∀env ds env',r env = .ok ds env'->ds.length=m)
  (hg:Gl X n:=by rfl) (hdb:jN n:=by decide) (he:starEach (e::es) X.env=(false,eval e X.env)::starEach es X.env:=by rfl) (hpl:(backTo pos (starEach es X.env)).any (·.1)=false:=by rfl):G8 X C (.Call (.Name n p) (e::es) [] pos) (aq g r):=by
 obtain⟨f,fd,h1,h2,h3,h4⟩:=O;rw[G.K] at h1;have h1':mY X.prog X.w X.K X.mg X.base BK k f fd ps (o9 C.K m g):=by rw[G.K];exact h1
 refine(Vq h1' (hr.mono (Qjq hk)) hg h2 h3 h4 .nil Ot ha hdb he hpl).imp λσ H Q hq=>?_;obtain⟨Pr,F,env,env',d,r,e,q⟩:=hq;obtain⟨ds,e1,e2⟩:=uV e;refine⟨Pr,F,env,env',ds,r,e1,λvs H1 F1 r1 s1 p1=>?_⟩;show o9 C.K m g (vs++[]) H1 Q E0;rw[Qx2];exact⟨F1,ds,d,hn _ _ _ e1,r1.fr,p1,e2,λv H2 F2 t1 t2 t3 t4 p2=>q v H2 F2 (r1.after t1 t2 t3 t4) (s1.trans t3) p2⟩
theorem jxJ(z:List Nat)(G:Good X C)(hz:sa=strOf z)(he:Xq X C e b)(hl:z.length<=sizeLine:=by decide)(hbase:attributeBase (.Constant (.str sa) j1 p1) "join" X.env (eval (.Constant (.str sa) j1 p1) X.env)=eval (.Constant (.str sa) j1 p1) X.env:=by rfl)
  (hs:BJ e X.env:=by rfl)
  (hfew:((backTo cpos (starEach [e] X.env)).all (λx=>!x.1)&&(backToKw cpos (keywordEach [] X.env)).all (λx=>x.1.isSome)
   && decide ([e].length+([]:List Keyword).length+(if ([]:List Keyword).isEmpty then 0 else 1)<30))=true:=by rfl)
  (hline:(apos.endLine == cpos.line)=true:=by rfl) (hplain:(backTo cpos (starEach [] X.env)).any (·.1)=false:=by rfl) :
  SX X C (.Call (.Attribute (.Constant (.str sa) j1 p1) "join" apos) [e] [] cpos) (az fY (jh (.str z)) b):=by
 have ho:XQ X (.Constant (.str sa) j1 p1) (tE C (jh (.str z))):=Ol.imp λσ H Q h=>by
  obtain⟨Pr,F,env,env',d,r,e,q⟩:=h;cases e;subst hz;exact q _ _ F r (aR.refl F) ⟨rfl,hl⟩
 refine⟨(adN PySem.F.plainAttrs_str PySem.F.slot_str_join PySem.F.type_str_join O3 ho (Iu he (PA.p jf) hs) hbase hfew hline hs hplain).imp λσ H Q h=>?_⟩;have hK:=G.K;obtain⟨Pr,F,env,env',d,rl,e0,q⟩:=h;obtain⟨x,aD,e1,e2⟩:=aO e0;obtain⟨y,eG,e3,e4⟩:=aO e2;obtain⟨e5,rfl⟩:=cA e4;unfold fY at e5;split at e5
 ·rename_i sep ds;split at e5
  ·rename_i xs hxs;split at e5
   ·rename_i hf;cases e5;refine⟨Pr,F,env,aD,_,rl,e1,λvx H1 F1 r1 s1 p1=>?_⟩;obtain⟨rfl,_⟩:=p1;refine⟨rfl,Pr,F1,aD,env',_,r1,e3,λvy H2 F2 r2 s2 p2=>?_⟩;obtain⟨z,l,ws,rfl,h1,h2⟩:=p2.lst r2.fr;have e6:=kJ hxs h2;subst e6;exact⟨sep,xs,l,rfl,rfl,lG.of h1,hf,q _ H2 F2 r2 (s1.trans s2) ⟨rfl,Ax hf⟩⟩
   ·cases e5
  ·cases e5
 ·cases e5
end
theorem _root_.L2.adF{X:Cx}{a b:Expr}{ta tb:TE}{pos:Pos}{op:Operator}{r:R2}(ho:mX X (binaryOp op) r)(ha:PE X a ta)(hb:XQ X b tb):XQ X (.BinOp a op b pos) (Yn r ta tb):=by intro pins s σ H Q I h;refine wpAny_BinOp (fU (ha pins s σ H _ I h) λv s1 ⟨x,H1,I1,r1,q1⟩=>fU (hb pins s1 σ H1 _ I1 q1) λu s2 ⟨hp,y,H2,I2,r2,q2⟩=>?_);exact Ho (ho pins s2 σ H2 x y v u Q I2 r1 r2 q2) hp λ_ _ p q=>⟨p,q⟩
section
variable{X:Cx}{C:Cfg}{pos pos' qp p:Pos}{x:Expr}{a:Ev}{n sa:Str}{j:Nat}
theorem agT(i:Nat)(z:List Nat)(G:Good X C)(ha:SX X C x a)(hz:sa=strOf z)(hl:z.length<=sizeLine:=by decide)(hnd:kO X.N=true:=by rfl)(hfx:C.fx i=none:=by rfl)(hi:X.N[i]? = some n:=by rfl)(hx:Loc X.env.scope n:=by first|exact .inl rfl|exact .inr rfl)
  (hf:X.fn n=true\/X.env.scope.names.lookup n=some .local:=by first|exact .inl rfl|exact .inr rfl|assumption) (hs:swapsWith (.BinOp x .Add (.Constant (.str sa) j p) qp) (some (.Name n pos')) pos.line X.env=pure false:=by rfl) :
  PSq X (.Assign [.Name n pos'] (.BinOp x .Add (.Constant (.str sa) j p) qp) pos) (tS C (bF (az bK a (jh (.str z))) (au i))):=by
 have hb:XQ X (.Constant (.str sa) j p) (tRd C (jh (.str z))):=Ol.imp λσ H Q h=>by
  obtain⟨Pr,F,env,env',d,r,e,q⟩:=h;cases e;subst hz;exact q _ _ F r (aR.refl F) (.inl ⟨rfl,hl⟩)
 obtain⟨_,h1,h2⟩:=(cB G).ex;refine(Za (ig hnd) hi hx ((adF h1 ha.u hb).imp (ym h2)) hs hf).imp λD σ H h=>?_;obtain⟨Pr,F,env,r,f⟩:=h;obtain⟨d,aD,e1,f1⟩:=cT f;exact⟨Pr,F,env,aD,d,r,e1,λv H1 F1 r1 s1 p1=>f1 _ H1 F1 (r1.put hfx p1) s1⟩
end
theorem gP{g:D->D->Option D}{i:Nat}{b:Ev}{env e2:Env}{x y d:D}(h1:env[i]? = some (some (false,x)))(h2:b env = .ok y e2)(h4:e2[i]? = some (some (false,x)))(h3:g x y=some d):aA g i b env = .ok d e2:=jQ h1 h2 h4 h3
theorem alF{g:D->D->Option D}{i:Nat}{b:Ev}{env e2:Env}{x y d:D}(h1:env[i]? = some (some (true,x)))(h2:b env = .ok y e2)(h4:e2[i]? = some (some (true,x)))(h3:g x y=some d):aA g i b env = .ok d e2:=jQ h1 h2 h4 h3
theorem agp{i:Nat}{a:Ev}{env e:Env}{d:D}{xs:List D}(h0:env[i]? = some (some (true,.lst xs)))(h1:a env = .ok d e)(h2:e[i]? = some (some (true,.lst xs)))(hz:xs.length<sizeLine):vq i a env = .nx (e.set i (some (true,.lst (xs++[d])))):=by unfold vq;rw[h0];simp only[h1,km,h2,if_pos hz]
theorem akF{f:List D->Option (D×D)}{i:Nat}{a:dq}{env e1:Env}{ds:List D}{x d x':D}(h0:env[i]? = some (some (true,x)))(h1:a env = .ok ds e1)(h2:e1[i]? = some (some (true,x)))(h3:f (x::ds)=some (d,x')):dH f i a env = .ok d (e1.set i (some (true,x'))):=g8 h0 h1 h2 h3
theorem Xz:1<=sizeLine:=by decide
theorem X6:2<=sizeLine:=by decide
theorem zz3:3<=sizeLine:=by decide
theorem zz4:4<=sizeLine:=by decide
theorem zz5:5<=sizeLine:=by decide
theorem zz6:6<=sizeLine:=by decide
theorem zz7:7<=sizeLine:=by decide
end Ev
abbrev OD:=Option (Bool×Ev.D)
abbrev Zf(d:Ev.D):OD:=some (false,d)
abbrev Zt(d:Ev.D):OD:=some (true,d)
abbrev Zs(w:List Nat):OD:=some (false,.str w)
abbrev Zb(b:Bool):OD:=some (false,.bl b)
abbrev Zl(l:List Ev.D):OD:=some (true,.lst l)
abbrev Zv(i:Nat)(a:Ev.dq):Ev.dq:=Ev.aa (Ev.aM i) a
abbrev Zi(i:Int):Ev.Ev:=Ev.jh (.int i)
abbrev Zw(w:List Nat):Ev.Ev:=Ev.jh (.str w)
abbrev LD:=List Ev.D->Option Ev.D
abbrev Zn:OD:=none
abbrev Ng:List PySem.Str:=["sounds","thing"]
abbrev Xi:List PySem.Str:=["stock","text"]
abbrev Zq2:List PySem.Str:=["_law_pack_here","_law_sounds_here"]
abbrev Zq3:List PySem.Str:=["stock","thing"]
abbrev Zq4:List PySem.Str:=["_law_pack_here"]
abbrev Zq5:List PySem.Str:=["_law_stock_here"]
abbrev Zq6:List PySem.Str:=["_law_signs_here"]
abbrev Zq7:List PySem.Str:=["_law_order_here"]
abbrev Zq8:List PySem.Str:=["_law_sounds_here"]
abbrev Zq9:List PySem.Str:=["_law_pack_here","_law_size"]
abbrev afE:List PySem.Str:=["_law_pack_here","_law_sounds_here","_law_most"]
abbrev afD:List PySem.Str:=["_law_stock_here","_law_text","_law_part"]
abbrev afC:List PySem.Str:=["_law_stock_here","_law_parts","_law_good"]
abbrev afB:List PySem.Str:=["_law_pack_here","_law_stock_here","_law_order_here"]
abbrev ah5:List PySem.Str:=["_law_script","_law_k","_law_pack_here","_law_stock_here"]
namespace jL
open Ev
section
def nJ:Ev:=gb 1 2 (dY (aa (az uO (aq dD (aa (bz 0) aj)) (Zi 1)) aj)) (au 1) cP (az gLt (aA gM 0 (bz 1)) (aA gM 0 (aA bK 1 (Zi 1))))
def zL:cC:=bA (aq uQ (aa (nJ) aj))
def mQ:LD:=dG 1 zL
def pK:cC:=bA (jd (fj (oZ "tuple") (aM 0)) (az nU (aq dD (aa (bz 0) aj)) (Zi 2)))
def m7:LD:=dG 1 pK
def jW:Ev:=gb 1 3 (gO (aM 0)) (gj 2 (bI (au 1) (bI (au 2) gG))) cP (aM 1)
def oA:cC:=bA (aq fZ (aa (jW) aj))
def lN:LD:=dG 1 oA
def iG:Ev:=gb 4 5 (gO (aM 1)) (au 4) cP (aA R7 4 (bz 3))
def nH:Ev:=gb 2 4 (gO (aM 0)) (gj 2 (bI (au 2) (bI (au 3) gG))) (dw (aq uQ (aa (iG) aj))) (aM 2)
def oE:cC:=bA (aq fZ (aa (nH) aj))
def n6:LD:=dG 2 oE
def fP:cC:=aP (d8 (bV (dw (aq m7 (Zv 1 aj)))) (bA (jh (.bl false))) b8) (aP (bF (aM 1) (gj 2 (bI (au 2) (bI (au 3) gG)))) (bA (jd (aA R7 2 (bz 0)) (jd (JQ (aA R7 3 (bz 0)) (aA nU 3 (Zw []))) (aA Gm 2 (bz 3))))))
def jC:LD:=dG 4 fP
def ju:cC:=bA (jd (aq m7 (Zv 1 aj)) (jd (az nU (aA gM 1 (Zi 0)) (Zw [])) (az R7 (aA gM 1 (Zi 1)) (bz 0))))
def eU:LD:=dG 2 ju
def fc:Ev:=gb 2 3 (gO (aM 1)) (au 2) cP (aq jC (Zv 0 (Zv 2 aj)))
def eZ:Ev:=gb 2 4 (gO (aM 1)) (gj 2 (bI (au 2) (bI (au 3) gG))) cP (aM 2)
def jw:cC:=aP (d8 (gQ (bV (dw (fj (oZ "tuple") (aM 1)))) (dw (az nU (aq dD (aa (bz 1) aj)) (Zi 0)))) (bA (jh (.bl false))) b8) (aP (d8 (uW (dw (az nU (aq dD (aa (bz 1) aj)) (Zi 1))) (dw (aq eU (Zv 0 (aa (aA gM 1 (Zi 0)) aj))))) (bA (jh (.bl true))) b8) (bA (jd (aq uQ (aa (fc) aj)) (aq mQ (aa (eZ) aj)))))
def lF:LD:=dG 2 jw
def iI:Ev:=gb 2 3 (gO (aM 1)) (au 2) cP (JQ (aA nU 2 (Zw [35])) (aA R7 2 (bz 0)))
def oJ:cC:=aP (d8 (dw (aA gIs 1 (jh .non))) (bA (jh (.bl true))) b8) (aP (d8 (gQ (bV (dw (fj (oZ "tuple") (aM 1)))) (dw (az nU (aq dD (aa (bz 1) aj)) (Zi 0)))) (bA (jh (.bl false))) b8) (bA (jd (aq uQ (aa (iI) aj)) (aq mQ (Zv 1 aj)))))
def lQ:LD:=dG 2 oJ
def pJ:cC:=aP (d8 (gQ (bV (dw (fj (oZ "tuple") (aM 1)))) (dw (az Gm (aq dD (aa (bz 1) aj)) (Zi 4)))) (bA (jh (.bl false))) b8) (aP (bF (aM 1) (gj 4 (bI (au 2) (bI (au 3) (bI (au 4) (bI (au 5) gG)))))) (aP (bF (aq lN (Zv 0 aj)) (au 6)) (bA (jd (aA R7 2 (jh (.tup [(.str [111,110,99,101]),(.str [97,108,111,110,103])]))) (jd (aq lF (Zv 6 (Zv 3 aj))) (jd (aq lQ (Zv 6 (Zv 4 aj))) (aq lQ (Zv 6 (Zv 5 aj)))))))))
def lr:LD:=dG 7 pJ
def t8:Ev:=gb 4 5 (gO (aM 3)) (au 4) cP (aq lr (Zv 0 (Zv 4 aj)))
def uZ:cC:=aP (d8 (bV (dw (aq m7 (Zv 1 aj)))) (bA (jh (.bl false))) b8) (aP (bF (aM 1) (gj 2 (bI (au 2) (bI (au 3) gG)))) (aP (d8 (gQ (dw (aA jH 2 (jh (.tup [(.str [108,101,102,116]),(.str [114,105,103,104,116])])))) (gQ (bV (dw (fj (oZ "tuple") (aM 3)))) (dw (az gGt (aq dD (aa (bz 3) aj)) (Zi 4))))) (bA (jh (.bl false))) b8) (bA (aq uQ (aa (t8) aj)))))
def jK:LD:=dG 4 uZ
def Kd:cC:=d8 (bV (dw (fj (oZ "str") (aM 0)))) (zu) b8
def n8:LD:=dG 1 Kd
def GF:cC:=d8 (bV (dw (fj (oZ "str") (aM 0)))) (ni (jh .non)) b8
def qY:LD:=Ih 1 GF
def mV:cC:=bA (My (dw (aA nU 0 (Zw []))) (Zw [48]) (aM 0))
def gY:LD:=dG 1 mV
def mW:cC:=bA (My (dw (aA gIs 0 (jh .non))) (Zw [42]) (az uP (Zw []) (bz 0)))
def gZ:LD:=dG 1 mW
def iH:Ev:=gb 6 8 (gO (aM 2)) (gj 2 (bI (au 6) (bI (au 7) gG))) cP (JR [62] (aq gY (Zv 6 aj)) (aq gY (Zv 7 aj)))
def oF:cC:=aP (bF (aM 0) (gj 4 (bI (au 1) (bI (au 2) (bI (au 3) (bI (au 4) gG)))))) (aP (lH 5 (iH)) (bA (az fY (Zw [32]) (az bK (az bK (cM (Zv 1 aj)) (bz 5)) (cM (aa (Zw [47]) (aa (aq gZ (Zv 3 aj)) (aa (Zw [95]) (aa (aq gZ (Zv 4 aj)) aj)))))))))
def jO:LD:=dG 6 oF
def j6:cC:=aP (d8 (dw (aA nU 0 (Zw []))) (bA (jh .non)) b8) (bA (My (dw (aA nU 0 (Zw [48]))) (Zw []) (aM 0)))
def j0:LD:=dG 1 j6
def jb:cC:=aP (d8 (dw (aA nU 1 (Zw [42]))) (bA (jh .non)) b8) (aP (d8 (gQ (bV (dw (az sZ (aM 1) (Zw [91])))) (bV (dw (az DR (aM 1) (Zw [93]))))) (bA (aq Py (aa (bz 1) aj))) b8) (bA (aq n6 (Zv 0 (aa (az ik (gk (aM 1) (nT (Zi 1)) (nT (fj aam (Zi 1)))) (Zw [32])) aj)))))
def eF:LD:=dG 2 jb
def jz:Ev:=gb 8 9 (gO (az ik (aM 7) (Zw [62]))) (au 8) cP (aq j0 (Zv 8 aj))
def jy:Ev:=gb 7 8 (gO (gk (aM 2) (nT (Zi 1)) (nT (aM 3)))) (au 7) cP (aq fZ (aa (jz) aj))
def j7:cC:=aP (bF (az ik (aM 1) (Zw [32])) (au 2)) (aP (d8 (gQ (dw (az jH (Zw [47]) (bz 2))) (dw (az jH (Zw [95]) (bz 2)))) (bA (jh .non)) b8) (aP (bF (az qw (aM 2) (Zw [47])) (au 3)) (aP (bF (az qw (aM 2) (Zw [95])) (au 4)) (aP (bF (aq fZ (aa (jy) aj)) (au 5)) (aP (bF (aq eF (Zv 0 (aa (az fY (Zw [32]) (gk (aM 2) (nT (aA bK 3 (Zi 1))) (nT (aM 4)))) aj))) (au 6)) (bA (cU (aa (aA gM 2 (Zi 0)) (Zv 5 (Zv 6 (aa (aq eF (Zv 0 (aa (az fY (Zw [32]) (gk (aM 2) (nT (aA bK 4 (Zi 1))) iQ)) aj))) aj)))))))))))
def cW:LD:=dG 7 j7
def qK:Ev:=gb 3 4 (gO (aM 2)) (au 3) cP (aq jO (Zv 3 aj))
def qF:cC:=aP (bF (aM 0) (gj 2 (bI (au 1) (bI (au 2) gG)))) (bA (az fY (Zw [59,32]) (az bK (cM (Zv 1 aj)) (qK))))
def mO:LD:=dG 3 qF
def jA:cC:=aP (bF (cU (aa (aA gM 2 (Zi 0)) (aa (az bK (aA gM 3 (Zi 1)) (cU (aa (aq cW (Zv 0 (aa (aA gM 2 (bz 4)) aj))) aj))) aj))) (au 3)) (d8 (bV (dw (aq jK (Zv 0 (Zv 3 aj))))) (zu) b8)
def d7:cC:=aP (bF (cU (aa (aA gM 2 (Zi 0)) (aa (az bK (aA gM 3 (Zi 1)) (cU (aa (aq cW (Zv 0 (aa (aA gM 2 (bz 4)) aj))) aj))) aj))) (au 3)) (d8 (bV (dw (aq jK (Zv 0 (Zv 3 aj))))) (ni (aM 4)) b8)
def qG:cC:=aP (zU (aq n8 (Zv 1 aj))) (aP (bF (az ik (aM 1) (Zw [59,32])) (au 2)) (aP (bF (cU (aa (aA gM 2 (Zi 0)) (aa (cU aj) aj))) (au 3)) (aP (d8 (bV (dw (aq jK (Zv 0 (Zv 3 aj))))) (zu) b8) (aP (jM (dY (aa (Zi 1) (aa (aq dD (aa (bz 2) aj)) aj))) (au 4) (jA)) (bA (aM 3))))))
def j4:LD:=dG 5 qG
def dM:cC:=aP (NB (qy qY (Zv 1 aj)) (zU (aq n8 (Zv 1 aj)))) (aP (bF (az ik (aM 1) (Zw [59,32])) (au 2)) (aP (bF (cU (aa (aA gM 2 (Zi 0)) (aa (cU aj) aj))) (au 3)) (aP (d8 (bV (dw (aq jK (Zv 0 (Zv 3 aj))))) (ni (Zi 0)) b8) (aP (jM (dY (aa (Zi 1) (aa (aq dD (aa (bz 2) aj)) aj))) (au 4) (d7)) (bA (aM 3))))))
def fQ:LD:=Ih 5 dM
def oH:cC:=bA (az R5 (aA pI 0 (Zi 262406895267124108351839057402211873468251940277165213587343)) (az Mv (Zi 10) (Zi 60)))
def iM:LD:=dG 1 oH
def Cy:cC:=bF (az bK (aA pI 2 (az Mv (Zi 10) (Zi 60))) (aq iM (aa (az gM (az bK (CG (aM 0) (nT (aM 3)) (nT (aA bK 3 (Zi 1)))) (cM (aa (az bK (az pI (Zi 7919) (bz 3)) (Zi 61)) aj))) (Zi 0)) aj))) (au 2)
def lz:cC:=aP (bF (Zi 0) (au 2)) (aP (jM (gO (cM (aa (aA bK 1 (Zi 1)) (Zv 1 aj)))) (au 3) (Cy)) (zR (cM (Zv 2 aj))))
def lg:LD:=runN 4 lz
def iR:cC:=aP (bF (aq wu (aa (aA gM 0 (Zi 0)) (aa (bz 1) aj))) (gj 2 (bI (aah 0 (Zi 0)) (bI (au 2) gG)))) (bA (aM 2))
def bf:List D->Option (D×D):=jc 3 iR
def fH:Ev:=gb 4 5 (dY (aa (az bK (Zi 1) (dH bf 0 (aa (Zi 4) aj))) aj)) (au 4) cP (aA gM 1 (az R5 (aA bK 2 (aA pI 3 (bz 4))) (Zi 26)))
def ie:cC:=aP (bF (Zw [97,98,99,100,101,102,103,104,105,106,107,108,109,110,111,112,113,114,115,116,117,118,119,120,121,122]) (au 1)) (aP (bF (cU (aa (dH bf 0 (aa (Zi 26) aj)) (aa (az bK (Zi 1) (dH bf 0 (aa (Zi 25) aj))) aj))) (gj 2 (bI (au 2) (bI (au 3) gG)))) (bA (az fY (Zw []) (fj pH (fH)))))
def fB:List D->Option (D×D):=jc 4 ie
def nM:Ev:=gb 7 8 (dY (aa (Zi 5) aj)) (au 7) (dw (az nU (az JG (aA Gh 5 (bz 7)) (Zi 1)) (Zi 1))) (aA gM 2 (bz 7))
def iJ:cC:=aP (bF (dH bf 0 (aa (Zi 32) aj)) (au 5)) (aP (bF (aq jB (aa (nM) aj)) (au 6)) (vq 3 (cU (Zv 4 (aa (aq fZ (aa (CG (aM 6) iQ (nT (Zi 4))) aj)) aj)))))
def oG:cC:=aP (bF (dH fB 0 aj) (au 1)) (aP (bF (cM (aa (Zw [115,116,111,112]) (aa (Zw [115,116,111,112,115]) (aa (Zw [115]) (aa (Zw [111,112,101,110]) (aa (Zw [97,98,99,100,101,102,103,104]) aj)))))) (au 2)) (aP (lH 3 (cM aj)) (aP (jM (gO (aM 1)) (au 4) (iJ)) (bA (aq fZ (aa (bz 3) aj))))))
def jP:List D->Option (D×D):=jc 7 oG
def zg:Ev:=jL.jW
def GJ:cC:=bA (az fY (Zw []) (zg))
def iY:LD:=dG 1 GJ
def nO:Ev:=gb 4 5 (dY (aa (aq dD (aa (bz 3) aj)) aj)) (au 4) (dw (az nU (az JG (aA Gh 2 (bz 4)) (Zi 1)) (Zi 1))) (aA gM 3 (bz 4))
def gR:cC:=aP (d8 (dw (az nU (dH bf 0 (aa (Zi 2) aj)) (Zi 0))) (bA (jh .non)) b8) (aP (bF (az bK (Zi 1) (dH bf 0 (aa (az uO (az R4 (Zi 2) (aq dD (aa (bz 1) aj))) (Zi 1)) aj))) (au 2)) (aP (bF (az bK (Zw [35]) (bz 1)) (au 3)) (bA (aq fZ (aa (nO) aj)))))
def dO:List D->Option (D×D):=jc 4 gR
def kY:Ev:=gb 6 7 (gO (az bK (aq DQ (aa (bz 1) aj)) (cM (aa (Zw []) aj)))) (au 6) (dw (aA Gm 6 (bz 4))) (aM 6)
def kZ:cC:=aP (bF (aA gM 1 (dH bf 0 (aa (aq dD (aa (bz 1) aj)) aj))) (au 4)) (aP (lH 5 (kY)) (uv 2 (aM 4) (aA gM 5 (dH bf 0 (aa (aq dD (aa (bz 5) aj)) aj)))))
def kW:Ev:=gb 6 7 (gO (aq jB (aa (bz 2) aj))) (au 6) cP (cU (Zv 6 (aa (aA my 2 (bz 6)) aj)))
def eY:cC:=aP (d8 (dw (az nU (dH bf 0 (aa (Zi 5) aj)) (Zi 0))) (bA (cU (aa (cU (aa (Zw []) (aa (aA gM 1 (dH bf 0 (aa (aq dD (aa (bz 1) aj)) aj))) aj))) aj))) b8) (aP (lH 2 (Bc)) (aP (jM (dY (aa (az bK (Zi 1) (dH bf 0 (aa (Zi 3) aj))) aj)) (au 3) (kZ)) (bA (aq fZ (aa (kW) aj)))))
def eV:List D->Option (D×D):=jc 6 eY
def qH:cC:=aP (bF (az gM (cM (aa (Zw [111,110,99,101]) (aa (Zw [97,108,111,110,103]) aj))) (dH bf 0 (aa (Zi 2) aj))) (au 2)) (aP (bF (dH eV 0 (Zv 1 aj)) (au 3)) (bA (cU (Zv 2 (Zv 3 (aa (dH dO 0 (Zv 1 aj)) (aa (dH dO 0 (Zv 1 aj)) aj)))))))
def jJ:List D->Option (D×D):=jc 4 qH
def Ao:Ev:=gb 4 5 (dY (aa (dH bf 0 (aa (aA bK 2 (Zi 1)) aj)) aj)) (au 4) cP (dH jJ 0 (Zv 1 aj))
def yK:cC:=aP (bF (az gM (cM (aa (Zw [108,101,102,116]) (aa (Zw [114,105,103,104,116]) aj))) (dH bf 0 (aa (Zi 2) aj))) (au 3)) (bA (cU (Zv 3 (aa (aq fZ (aa (Ao) aj)) aj))))
def lO:List D->Option (D×D):=jc 4 yK
def gH:cC:=aP (d8 (dw (aA gIs 0 (jh .non))) (bA (Zw [42])) b8) (bA (az uP (Zw []) (bz 0)))
def cN:LD:=dG 1 gH
def cH:cC:=bF (az bK (az bK (az bK (aA bK 5 (Zw [32])) (az gM (aA bK 6 (Zw [48])) (Zi 0))) (Zw [62])) (az gM (aA bK 7 (Zw [48])) (Zi 0))) (au 5)
def jD:cC:=aP (bF (aM 0) (gj 4 (bI (au 1) (bI (au 2) (bI (au 3) (bI (au 4) gG)))))) (aP (bF (aM 1) (au 5)) (aP (jM (gO (aM 2)) (gj 2 (bI (au 6) (bI (au 7) gG))) (cH)) (bA (az bK (az bK (az bK (aA bK 5 (Zw [32,47,32])) (aq cN (Zv 3 aj))) (Zw [32,95,32])) (aq cN (Zv 4 aj))))))
def fO:LD:=dG 8 jD
def mq:Ev:=gb 1 2 (gO (aA gM 0 (Zi 1))) (au 1) cP (aq fO (Zv 1 aj))
def lA:cC:=bA (az fY (Zw [59,32]) (az bK (cM (aa (aA gM 0 (Zi 0)) aj)) (mq)))
def lq:LD:=dG 1 lA
def M7:cC:=aP (bF (cM (aa (fj (wg (Te "NoText" true)) (aM 0)) (aa (fj (wg (Te "NoText" false)) (aM 0)) (aa (fj (wg (Te "NoText" false)) (aM 0)) (aa (fj (wg (Te "NoText" false)) (aM 0)) aj))))) (au 1)) (aP (bF (aA bK 1 (cM (aa (fj (wg (Te "NoText" false)) (aM 0)) (aa (fj (wg (Te "NoText" false)) (aM 0)) (aa (fj (wg (Te "NoText" false)) (aM 0)) aj))))) (au 1)) (aP (d8 (gQ (bV (dw (fj (wg (Te "NoText" true)) (aM 0)))) (dw (az Gm (aq Pz (aa (bz 1) aj)) (Zi 1)))) (bA (jh .non)) b8) (bA (az Bb (aM 1) (jh (.bl true))))))
def uT:LD:=dG 2 M7
def o7:cC:=aP (bF (jh .non) (au 3)) (aP (HH (zU (aq j4 (Zv 0 (Zv 1 aj)))) (qy fQ (Zv 0 (Zv 1 aj))) 3 4 "NoText" "part") (bA (jd (aA Gp 3 (jh .non)) (jd (az nU (aq uT (Zv 3 aj)) (Zi 0)) (jd (az nU (fj (JB "NoText" "part") (aM 3)) (bz 2)) (ab7 (fj (oZ "bool") (fj (JB "NoText" "part") (aM 3)))))))))
def bj:LD:=dG 5 o7
def mJ:Ev:=gb 1 2 (gO (Zw [113,118,109,101,104,97,98,99,100,102,103])) (au 1) (dw (aA jH 1 (bz 0))) (aM 1)
def tO:cC:=bA (az gM (mJ) (Zi 0))
def m6:LD:=dG 1 tO
def rR:Ev:=gb 7 9 (gO (aM 0)) (gj 2 (bI (au 7) (bI (au 8) gG))) (dw (aA R7 3 (bz 8))) (aM 7)
def iK:cC:=aP (bF (aq fZ (aa (rR) aj)) (au 4)) (aP (bF (az fY (Zw [59,32]) (az bK (gk (aM 1) iQ (nT (Zi 1))) (cM (aa (az (Gi [95,32,42] [93]) (aM 2) (az bK (Zw [95,32,91]) (bz 3))) aj)))) (au 5)) (aP (bF (cU (aa (Zw [111,110,99,101]) (aa (cU (aa (cU (aa (az gM (aA gM 0 (Zi 0)) (Zi 0)) (aa (Zw []) aj))) aj)) (aa (jh .non) (Zv 4 aj))))) (au 6)) (d8 (dw (aA nU 4 (cU aj))) (d8 (bV (dw (aq bj (Zv 0 (Zv 5 (aa (Zi 1) aj)))))) (bA (jh (.bl false))) b8) (d8 (dw (az Gm (aq j4 (Zv 0 (Zv 5 aj))) (cU (aa (aA gM 1 (Zi 0)) (aa (cU (Zv 6 aj)) aj))))) (bA (jh (.bl false))) b8))))
def j8:cC:=aP (jM (gO (cM (aa (Zw [115,116,111,112]) (aa (Zw [115]) (aa (Zw [111,112,101,110]) aj))))) (au 3) (iK)) (bA (jh (.bl true)))
def j5:LD:=dG 7 j8
def jY:cC:=d8 (bV (dw (aq bj (Zv 1 (aa (az fY (Zw [59,32]) (az bK (cM (Zv 8 aj)) (gk (aM 4) (nT (Zi 1)) iQ))) (aa (Zi 0) aj)))))) (bA (jh (.bl false))) b8
def jX:cC:=aP (bF (az bK (az bK (gk (aM 4) iQ (nT (aM 9))) (cM (Zv 8 aj))) (gk (aM 4) (nT (aM 9)) iQ)) (au 11)) (d8 (bV (dw (aq bj (Zv 1 (aa (az fY (Zw [59,32]) (gk (aM 11) iQ (nT (Zi 5)))) (aa (aq JF (Zv 9 (aa (az uO (aq dD (aa (bz 11) aj)) (Zi 1)) aj))) aj)))))) (bA (jh (.bl false))) b8)
def sE:cC:=aP (bF (aq lq (Zv 2 aj)) (au 3)) (aP (bF (az ik (aM 3) (Zw [59,32])) (au 4)) (aP (bF (az bK (az bK (Zw [111,110,99,101,32]) (az gM (aA gM 1 (Zi 0)) (Zi 0))) (Zw [62,48,32,47,32,42,32,95,32,42])) (au 5)) (aP (bF (aq m6 (aa (aq iY (Zv 1 aj)) aj)) (au 6)) (aP (bF (aq j4 (Zv 1 (Zv 3 aj))) (au 7)) (aP (d8 (gQ (dw (az Gm (aq mO (Zv 2 aj)) (bz 3))) (gQ (dw (aA Gm 7 (bz 2))) (gQ (bV (dw (fj (oZ "tuple") (aM 7)))) (bV (dw (fj (oZ "tuple") (aA gM 7 (Zi 1)))))))) (bA (jh (.bl false))) b8) (aP (jM (gO (cM (aa (Zw []) (aa (Zw [76,101,102,116]) (aa (Zw [98,111,116,104]) (aa (Zw [108,101,102,116,32]) (aa (Zw [32,114,105,103,104,116]) (aa (Zw [108,101,102,116,59]) (aa (Zw [114,105,103,104,116,58]) (Zv 5 (aa (Zw [48]) (aa (Zw [108,101,102,116,44]) aj)))))))))))) (au 8) (jY)) (aP (bF (az bK (Zi 1) (dH bf 0 (aa (aq dD (aa (bz 4) aj)) aj))) (au 9)) (aP (bF (cM (aa (Zw []) (aa (Zw [32]) (aa (Zw [108,101,102,116]) (aa (aA bK 5 (Zw [59])) (aa (az bK (Zw [32]) (bz 5)) (aa (aA bK 5 (Zw [32])) (aa (gk (aM 5) iQ (nT (fj aam (Zi 1)))) (aa (az bK (az bK (Zw [111,110,99,101,32]) (bz 6)) (Zw [62,48,32,47,32,42,32,95,32,42])) aj))))))))) (au 10)) (aP (bF (aA bK 10 (cM (aa (fj (PB [111,110,99,101] [108,101,102,116]) (aM 5)) aj))) (au 10)) (aP (jM (gO (aM 10)) (au 8) (jX)) (aP (d8 (bV (dw (aq j5 (Zv 1 (Zv 4 (Zv 5 aj)))))) (bA (jh (.bl false))) b8) (aP (bF (az fY (Zw [59,32]) (az bK (gk (aM 4) iQ (nT (Zi 1))) (az JD (cM (Zv 5 aj)) (Zi 5)))) (au 12)) (aP (d8 (gQ (bV (dw (aq bj (Zv 1 (aa (fj (Gj [59,32,111,110,99,101] [59,32,111,110,101,115]) (aM 12)) (aa (Zi 1) aj)))))) (bV (dw (aq bj (Zv 1 (aa (aA bK 12 (Zw [120])) (aa (Zi 5) aj))))))) (bA (jh (.bl false))) b8) (aP (d8 (gQ (bV (dw (aq bj (Zv 1 (Zv 12 (aa (Zi 5) aj)))))) (bV (dw (aq bj (Zv 1 (aa (aA bK 3 (Zw [59,32])) (aa (aq dD (aa (bz 4) aj)) aj))))))) (bA (jh (.bl false))) b8) (aP (d8 (bV (dw (aq bj (Zv 1 (aa (aA bK 12 (Zw [59,32,120])) (aa (Zi 5) aj)))))) (bA (jh (.bl false))) b8) (aP (d8 (gQ (bV (dw (aq bj (Zv 1 (aa (aA bK 3 (Zw [10])) (aa (az uO (aq dD (aa (bz 4) aj)) (Zi 1)) aj)))))) (bV (dw (aq bj (Zv 1 (aa (az bK (Zw [10]) (bz 3)) (aa (Zi 0) aj))))))) (bA (jh (.bl false))) b8) (bA (aq bj (Zv 1 (aa (aA bK 3 (Zw [59])) (aa (az uO (aq dD (aa (bz 4) aj)) (Zi 1)) aj)))))))))))))))))))))
def oh:List D->Option (D×D):=jc 13 sE
def vU:cC:=aP (lH 2 (aq lg (Zv 0 (Zv 1 aj)))) (aP (bF (dH jP 2 aj) (au 3)) (d8 (bV (dw (dH oh 2 (Zv 3 (aa (dH lO 2 (aa (aq iY (Zv 3 aj)) (aa (Zi 3) aj))) aj))))) (bA (jh (.bl false))) b8))
def Jk:Ev:=gb 4 5 (gO (cM (aa (jh .non) (aa (Zi 7) (aa (jh (.bl true)) (aa (cU aj) (aa (cM (aa (Zw [108,101,102,116]) aj)) (aa (Bc) aj)))))))) (au 4) cP (aq bj (aa (cU (aa (cU (aa (Zw [97]) (aa (cU aj) aj))) aj)) (Zv 4 (aa (jh .non) aj))))
def ace:cC:=aP (jM (dY (aa (Zi 0) (aa (aq R6 (aa (Zi 1) (aa (aq JF (aa (aq dD (aa (bz 0) aj)) (aa (Zi 16) aj))) aj))) (aa (Zi 2) aj)))) (au 1) (vU)) (bA (aq uQ (aa (Jk) aj)))
def P0:LD:=dG 4 ace
end
open PySem PySem.Spec PyProof.Rows L2 Ev
def top(i:Nat):Stmt:=PySem.Challenge.pw_soundrules_k74_orders_written.main.body.getD i (.Pass ⟨0,0,0,0⟩)
abbrev Fp:Stmt:=top 11
abbrev xN:Stmt:=top 12
abbrev rA:Stmt:=top 13
abbrev rB:Stmt:=top 14
abbrev lZ:Stmt:=top 19
abbrev oU:Stmt:=top 20
abbrev oX:Stmt:=top 21
abbrev rM:Stmt:=top 22
abbrev xM:Stmt:=top 23
abbrev uB:Stmt:=top 24
abbrev rD:Stmt:=top 28
abbrev pW:Stmt:=top 29
abbrev pX:Stmt:=top 30
abbrev rC:Stmt:=top 31
abbrev pZ:Stmt:=top 32
abbrev p6:Stmt:=top 33
abbrev p7:Stmt:=top 34
abbrev pY:Stmt:=top 35
abbrev p8:Stmt:=top 36
abbrev rJ:Stmt:=top 38
abbrev uA:Stmt:=top 39
abbrev ux:Stmt:=top 40
abbrev jE:Stmt:=top 41
abbrev rE:Stmt:=top 42
abbrev qb:Stmt:=top 43
abbrev rF:Stmt:=top 44
abbrev oW:Stmt:=top 45
abbrev uz:Stmt:=top 46
abbrev rH:Stmt:=top 47
abbrev kE:Stmt:=top 48
abbrev lY:Stmt:=top 49
abbrev kI:Stmt:=top 50
abbrev uy:Stmt:=top 51
abbrev oV:Stmt:=top 52
abbrev xK:Stmt:=top 53
abbrev jT:Stmt:=top 54
abbrev rG:Stmt:=top 55
abbrev Up:Stmt:=top 56
abbrev rK:Stmt:=inClass (top 6) 0
theorem Yu:bC ["self","part"] ["self","part"] (aL rK):=gW
structure Top(K:Fg)(mg:Str->Option Value):Prop where
 Cv:mg "ValueError" = none
 xZ:mg "all" = none
 ZX:mg "bool" = none
 RB:mg "divmod" = none
 bU:mg "isinstance" = none
 gC:mg "len" = none
 ZW:mg "list" = none
 aey:mg "max" = none
 VL:mg "min" = none
 jU:mg "range" = none
 aex:mg "set" = none
 xY:mg "sorted" = none
 VJ:mg "str" = none
 aew:mg "sum" = none
 du:mg "tuple" = none
 rW:∀d:D,PySem.W.kitOne K (.type (TF d)) (.type "bool")=some (rY d "bool")
 sX:∀d:D,PySem.W.kitOne K (.type (TF d)) (.type "str")=some (rY d "str")
 gF:∀d:D,PySem.W.kitOne K (.type (TF d)) (.type "tuple")=some (rY d "tuple")
 xg:XK1 K mg "NoText" "part" (XF K "NoText")
 pt:Ni K "NoText" "part"
 CN:Below K mg "SoundError" "NoText" (XF K "NoText")
 RV:wU K mg "NoText" "NoCall" false
 RT:wU K mg "NoText" "NoKept" false
 Ju:wU K mg "NoText" "NoNumber" false
 RQ:wU K mg "NoText" "NoSide" false
 Jt:wU K mg "NoText" "NoSource" false
 RP:wU K mg "NoText" "NoText" true
 Ms:wU K mg "NoText" "TooMany" false
 Cz:afL K "NoText" "ValueError" true
 eQ:Glb K mg "ALL_FITS" (.str [42])
 vX:Glb K mg "EDGE" (.str [35])
 jq:Glb K mg "MOST_RULES" (.int 4)
 eO:Glb K mg "NO_SOUND" (.str [48])
 jZ:Glb K mg "SIDES" (.tup [(.str [108,101,102,116]),(.str [114,105,103,104,116])])
 mK:Glb K mg "WAYS" (.tup [(.str [111,110,99,101]),(.str [97,108,111,110,103])])
 Ym:cV K mg "rises" Fp ["things"]
 QG:cV K mg "is_pair" xN ["thing"]
 Hq:cV K mg "sounds_of" rA ["stock"]
 Hr:cV K mg "sounds_by" rB ["stock","marks"]
 za:cV K mg "changes_sound" lZ Ng
 BL:cV K mg "puts_one_in" oU Ng
 BV:cV K mg "are_changes" oX Ng
 Hy:cV K mg "are_signs" rM Ng
 QF:cV K mg "is_rule" xM Zq3
 La:cV K mg "is_order" uB Zq3
 yw:cV K mg "need_text" rD ["thing"]
 El:cV K mg "show_sound" pW ["sound"]
 Em:cV K mg "show_signs" pX ["signs"]
 Hs:cV K mg "show_rule" rC ["rule"]
 Eo:cV K mg "read_sound" pZ ["text"]
 Ep:cV K mg "read_signs" p6 Xi
 Er:cV K mg "read_parts" p7 Xi
 En:cV K mg "show_order" pY ["order"]
 vm:cV K mg "read_order" p8 Xi
 Hx:cV K mg "_law_mixed" rJ ["_law_cell"]
 K9:cV K mg "_law_pack" uA ["_law_script","_law_k"]
 K6:cV K mg "_law_take" ux Zq9
 ur:cV K mg "_law_drawn_sounds" jE Zq4
 Ht:cV K mg "_law_stock" rE Zq4
 Es:cV K mg "_law_sounds" qb Zq5
 Hu:cV K mg "_law_signs" rF Zq2
 BR:cV K mg "_law_changes" oW Zq2
 K8:cV K mg "_law_rule" uz Zq2
 Hw:cV K mg "_law_order" rH afE
 xA:cV K mg "_law_signs_text" kE Zq6
 yZ:cV K mg "_law_rule_text" lY ["_law_rule_here"]
 xB:cV K mg "_law_order_text" kI Zq7
 K7:cV K mg "_law_sort" uy ["_law_e"]
 BP:cV K mg "_law_refused" oV afD
 QD:cV K mg "_law_out" xK Zq8
 vo:cV K mg "_law_marks_right" jT afC
 Hv:cV K mg "_law_right" rG afB
section
variable{P:Program}{w:World}{K:Fg}{mg:Str->Option Value}{base:Heap}(Z:Top K mg)
theorem Uo:bC ["things"] ["things"] (aL Fp):=gW
include Z in
theorem Oz:Own P w K mg base "rises" 1 ["things"] (o9 K 1 mQ):=by exact cu (k:=0) Z.Ym Uo (λf cdv A outer s H E hr G=>(dR.u (aF (aV (xm G Z.xZ (aY (aN (bN (jm ["things","at"] 1 fD G (sY Z.jU (ak (bW Kc (gA G Z.gC (aY (b7 0))) (aN aK)) ao) (bw len0)) (λX1 h1=>by obtain⟨_,_,_,_,_,rfl⟩:=h1;exact bh 1) (λ_ _=>cZ) (λX1 h1=>by have G:=G.at h1;obtain⟨_,_,_,_,_,rfl⟩:=h1;exact(xj ajQ (dB 0 G (b7 1)) (aN (dB 0 G (aN (c7 1 (cB G) (aN aK))))))))))))))))
theorem Lk:bC ["thing"] ["thing"] (aL xN):=gW
include Z in
theorem xX:Own P w K mg base "is_pair" 1 ["thing"] (o9 K 1 m7):=by exact cu (k:=0) Z.QG Lk (λf cdv A outer s H E hr G=>(dR.u (aF (aV (iW (lE (T:="tuple") rfl Z.bU rfl Z.du (by decide +kernel) Z.gF G.K (aW 0)) (mG (xj (qQ G) (gA G Z.gC (aY (b7 0))) (aN aK))))))))
theorem Ez:bC ["stock"] ["stock"] (aL rA):=gW
include Z in
theorem Iw:Own P w K mg base "sounds_of" 1 ["stock"] (o9 K 1 lN):=by exact cu (k:=0) Z.Hq Ez (λf cdv A outer s H E hr G=>(dR.u (aF (aV (ji G Z.du (aY (aN (bN (jm ["stock","sound","marks"] 1 fD G (eE G (aW 0)) (λX1 h1=>by have G:=G.at h1;obtain⟨_,_,_,_,_,rfl⟩:=h1;exact(jG G (bu (bh 1) (bu (bh 2) dC)))) (λ_ _=>cZ) (λX1 h1=>by obtain⟨_,_,_,_,_,rfl⟩:=h1;exact aW 1))))))))))
theorem EY:bC ["stock","marks"] ["stock","marks"] (aL rB):=gW
include Z in
theorem IK:Own P w K mg base "sounds_by" 1 ["stock","marks"] (o9 K 2 n6):=by exact cu (k:=0) Z.Hr EY (λf cdv A outer s H E hr G=>(dR.u (aF (aV (ji G Z.du (aY (aN (bN (jm ["stock","marks","sound","own"] 2 fD G (eE G (aW 0)) (λX1 h1=>by have G:=G.at h1;obtain⟨_,_,_,_,_,rfl⟩:=h1;exact(jG G (bu (bh 2) (bu (bh 3) dC)))) (λX1 h1=>by have G:=G.at h1;obtain⟨_,_,_,_,_,rfl⟩:=h1;exact(mZ (bZ (xm G Z.xZ (aY (aN (bN (jm ["stock","marks","sound","own","mark"] 4 fD G (eE G (aW 1)) (λX1 h1=>by obtain⟨_,_,_,_,_,rfl⟩:=h1;exact bh 4) (λ_ _=>cZ) (λX1 h1=>by have G:=G.at h1;obtain⟨_,_,_,_,_,rfl⟩:=h1;exact(mD 4 (M4 G) (b7 3))))))))))) (λX1 h1=>by obtain⟨_,_,_,_,_,rfl⟩:=h1;exact aW 2))))))))))
theorem xJ:bC ["sounds","thing","old","new"] Ng (aL lZ):=gW
include Z in
theorem zf:Own P w K mg base "changes_sound" 2 Ng (o9 K 2 jC):=by
 exact cu (k:=1) Z.za xJ (λf cdv A outer s H E hr G=>(dR.u (aC (cI (cj (bZ (bM (xX Z) G hr (fJ 1 ao) (bw len0)))) (aF (aV fM)) bJ)
   (aC (lK (aW 1) (jG G (bu (bh 2) (bu (bh 3) dC))))
   (aF (aV (iW (mD 2 (M4 G) (b7 0)) (iW (U9 (mD 3 (M4 G) (b7 0)) (mG (mD 3 (qQ G) (aN (aQ []))))) (mG (mD 2 (M3 G) (b7 3)))))))))))
theorem zZ:bC Ng Ng (aL oU):=gW
include Z in
theorem Cq:Own P w K mg base "puts_one_in" 2 Ng (o9 K 2 eU):=by exact cu (k:=1) Z.BL zZ (λf cdv A outer s H E hr G=>(dR.u (aF (aV (iW (bM (xX Z) G hr (fJ 1 ao) (bw len0)) (iW (xj (qQ G) (dB 1 G (aN aK)) (aN (aQ []))) (mG (xj (M4 G) (dB 1 G (aN aK)) (b7 0)))))))))
theorem z9:bC Ng Ng (aL oX):=gW
include Z in
theorem Cu:Own P w K mg base "are_changes" 3 Ng (o9 K 2 lF):=by
 exact cu (k:=2) Z.BV z9 (λf cdv A outer s H E hr G=>(dR.u (aC (cI (j9 (iU (cj (bZ (lE (T:="tuple") rfl Z.bU rfl Z.du (by decide +kernel) Z.gF G.K (aW 1)))) (iC (jR (qQ G) (gA G Z.gC (aY (b7 1))) (aN aK))))) (aF (aV fM)) bJ)
   (aC (cI (j9 (UL (jR (qQ G) (gA G Z.gC (aY (b7 1))) (aN aK)) (Q6 (bZ (bM (Cq Z) G hr (fJ 0 (ak (dB 1 G (aN aK)) ao)) (bw (bw len0))))))) (aF (aV fM)) bJ)
   (aF (aV (iW (xm G Z.xZ (aY (aN (bN (jm ["sounds","thing","change"] 2 fD G (eE G (aW 1)) (λX1 h1=>by obtain⟨_,_,_,_,_,rfl⟩:=h1;exact bh 2) (λ_ _=>cZ) (λX1 h1=>by have G:=G.at h1;obtain⟨_,_,_,_,_,rfl⟩:=h1;exact(bM (zf Z) G hr (fJ 0 (fJ 2 ao)) (bw (bw len0))))))))) (mG (bM (Oz Z) G hr (ak (bN (jm ["sounds","thing","old","new"] 2 fD G (eE G (aW 1)) (λX1 h1=>by have G:=G.at h1;obtain⟨_,_,_,_,_,rfl⟩:=h1;exact(jG G (bu (bh 2) (bu (bh 3) dC)))) (λ_ _=>cZ) (λX1 h1=>by obtain⟨_,_,_,_,_,rfl⟩:=h1;exact aW 2))) ao) (bw len0))))))))))
theorem Fo:bC Ng Ng (aL rM):=gW
include Z in
theorem yF:Own P w K mg base "are_signs" 2 Ng (o9 K 2 lQ):=by
 obtain⟨aiM,aiQ,vX⟩:=Z.vX;exact cu (k:=1) Z.Hy Fo (λf cdv A outer s H E hr G=>(dR.u (aC (cI (iT 1 aft (aN il)) (aF (aV fM)) bJ)
   (aC (cI (j9 (iU (cj (bZ (lE (T:="tuple") rfl Z.bU rfl Z.du (by decide +kernel) Z.gF G.K (aW 1)))) (iC (jR (qQ G) (gA G Z.gC (aY (b7 1))) (aN aK))))) (aF (aV fM)) bJ)
   (aF (aV (iW (xm G Z.xZ (aY (aN (bN (jm ["sounds","thing","sign"] 2 fD G (eE G (aW 1)) (λX1 h1=>by obtain⟨_,_,_,_,_,rfl⟩:=h1;exact bh 2) (λ_ _=>cZ) (λX1 h1=>by have G:=G.at h1;obtain⟨_,_,_,_,_,rfl⟩:=h1;exact(U9 (mD 2 (qQ G) (aN (lL (.str [35]) rfl vX.1 vX.2.1 (λF=>vX.2.2 F)))) (mG (mD 2 (M4 G) (b7 0)))))))))) (mG (bM (Oz Z) G hr (fJ 1 ao) (bw len0))))))))))
theorem Lj:bC ["stock","thing","way","changes","left","right","sounds"] Zq3 (aL xM):=gW
include Z in
theorem Ry:Own P w K mg base "is_rule" 4 Zq3 (o9 K 2 lr):=by
 obtain⟨aiL,aiP,mK⟩:=Z.mK;exact cu (k:=3) Z.QF Lj (λf cdv A outer s H E hr G=>(dR.u (aC (cI (j9 (iU (cj (bZ (lE (T:="tuple") rfl Z.bU rfl Z.du (by decide +kernel) Z.gF G.K (aW 1)))) (iC (jR (M3 G) (gA G Z.gC (aY (b7 1))) (aN aK))))) (aF (aV fM)) bJ)
   (aC (lK (aW 1) (jG G (bu (bh 2) (bu (bh 3) (bu (bh 4) (bu (bh 5) dC))))))
   (aC (cz 6 (bM (Iw Z) G hr (fJ 0 ao) (bw len0)))
   (aF (aV (iW (mD 2 (M4 G) (aN (lL (.tup [(.str [111,110,99,101]),(.str [97,108,111,110,103])]) rfl mK.1 mK.2.1 (λF=>mK.2.2 F)))) (iW (bM (Cu Z) G hr (fJ 6 (fJ 3 ao)) (bw (bw len0))) (iW (bM (yF Z) G hr (fJ 6 (fJ 4 ao)) (bw (bw len0))) (mG (bM (yF Z) G hr (fJ 6 (fJ 5 ao)) (bw (bw len0))))))))))))))
theorem Ie:bC ["stock","thing","side","rules"] Zq3 (aL uB):=gW
include Z in
theorem qj:Own P w K mg base "is_order" 5 Zq3 (o9 K 2 jK):=by
 obtain⟨Yi,Yl,jq⟩:=Z.jq;obtain⟨aie,aif,jZ⟩:=Z.jZ;exact cu (k:=4) Z.La Ie (λf cdv A outer s H E hr G=>(dR.u (aC (cI (cj (bZ (bM (xX Z) G hr (fJ 1 ao) (bw len0)))) (aF (aV fM)) bJ)
   (aC (lK (aW 1) (jG G (bu (bh 2) (bu (bh 3) dC))))
   (aC (cI (j9 (iU (iT 2 (zJ G) (aN (lL (.tup [(.str [108,101,102,116]),(.str [114,105,103,104,116])]) rfl jZ.1 jZ.2.1 (λF=>jZ.2.2 F)))) (iU (cj (bZ (lE (T:="tuple") rfl Z.bU rfl Z.du (by decide +kernel) Z.gF G.K (aW 3)))) (iC (jR ajR (gA G Z.gC (aY (b7 3))) (aN (lL (.int 4) rfl jq.1 jq.2.1 (λF=>jq.2.2 F)))))))) (aF (aV fM)) bJ)
   (aF (aV (xm G Z.xZ (aY (aN (bN (jm ["stock","thing","side","rules","rule"] 4 fD G (eE G (aW 3)) (λX1 h1=>by obtain⟨_,_,_,_,_,rfl⟩:=h1;exact bh 4) (λ_ _=>cZ) (λX1 h1=>by have G:=G.at h1;obtain⟨_,_,_,_,_,rfl⟩:=h1;exact(bM (Ry Z) G hr (fJ 0 (fJ 4 ao)) (bw (bw len0))))))))))))))))
theorem vB:bC ["thing"] ["thing"] (aL rD):=gW
include Z in
theorem Fy:S7 P w K mg base "need_text" 3 ["thing"] (spX K 1 qY (XF K "NoText") "part"):=by exact Dw (k:=2) Z.yw vB (XF K "NoText") "part" (λf cdv A outer s H E d hr hE G=>(sV (Vk (Kp.u (cj (bZ (lE (T:="str") rfl Z.bU rfl Z.VJ (by decide +kernel) Z.sX G.K (aW 0))))) (sV (Vj (k:=0) Z.xg (hr.mono (by decide)) hE (SX.u il))) (xR (dR.u bJ)))))
include Z in
theorem yD:Own P w K mg base "need_text" 3 ["thing"] (o9 K 1 n8):=by exact cu (k:=2) Z.yw vB (λf cdv A outer s H E hr G=>(dR.u (aF (cI (cj (bZ (lE (T:="str") rfl Z.bU rfl Z.VJ (by decide +kernel) Z.sX G.K (aW 0)))) (aF uE) bJ))))
theorem BX:bC ["sound"] ["sound"] (aL pW):=gW
include Z in
theorem vL:Own P w K mg base "show_sound" 1 ["sound"] (o9 K 1 gY):=by obtain⟨KR,KZ,eO⟩:=Z.eO;exact cu (k:=0) Z.El BX (λf cdv A outer s H E hr G=>(dR.u (aF (aV (Ly (iT 0 (qQ G) (aN (aQ []))) (lL (.str [48]) rfl eO.1 eO.2.1 (λF=>eO.2.2 F)) (aW 0))))))
theorem BZ:bC ["signs"] ["signs"] (aL pX):=gW
include Z in
theorem vM:Own P w K mg base "show_signs" 1 ["signs"] (o9 K 1 gZ):=by obtain⟨KY,K1,eQ⟩:=Z.eQ;exact cu (k:=0) Z.Em BZ (λf cdv A outer s H E hr G=>(dR.u (aF (aV (Ly (iT 0 aft (aN il)) (lL (.str [42]) rfl eQ.1 eQ.2.1 (λF=>eQ.2.2 F)) (Hi G (aQ []) (b7 0)))))))
theorem Fb:bC ["rule","way","changes","left","right","shown"] ["rule"] (aL rC):=gW
include Z in
theorem IV:Own P w K mg base "show_rule" 2 ["rule"] (o9 K 1 jO):=by
 exact cu (k:=1) Z.Hs Fb (λf cdv A outer s H E hr G=>(dR.u (aC (lK (aW 0) (jG G (bu (bh 1) (bu (bh 2) (bu (bh 3) (bu (bh 4) dC))))))
   (aC (abv ["rule","way","changes","left","right","shown","old","new"] 6 5 fD G (eE G (aW 2)) (λX1 h1=>by have G:=G.at h1;obtain⟨_,_,_,_,_,rfl⟩:=h1;exact(jG G (bu (bh 6) (bu (bh 7) dC)))) (λ_ _=>cZ) (λX1 h1=>by have G:=G.at h1;obtain⟨_,_,_,_,_,rfl⟩:=h1;exact(acG [62] (by decide +kernel) (bM (vL Z) G hr (fJ 6 ao) (bw len0)) (bM (vL Z) G hr (fJ 7 ao) (bw len0)))))
   (aF (aV (jx G (aQ [32]) (aN (bW (cB G) (bW (cB G) (bN (di (fJ 1 ao))) (b7 5)) (aN (bN (di (ak (aQ [47]) (ak (bM (vM Z) G hr (fJ 3 ao) (bw len0)) (ak (aQ [95]) (ak (bM (vM Z) G hr (fJ 4 ao) (bw len0)) ao))))))))))))))))
theorem Ce:bC ["text"] ["text"] (aL pZ):=gW
include Z in
theorem FP:Own P w K mg base "read_sound" 1 ["text"] (o9 K 1 j0):=by
 obtain⟨KR,KZ,eO⟩:=Z.eO;exact cu (k:=0) Z.Eo Ce (λf cdv A outer s H E hr G=>(dR.u (aC (cI (iT 0 (qQ G) (aN (aQ []))) (aF (aV il)) bJ)
   (aF (aV (Ly (iT 0 (qQ G) (aN (lL (.str [48]) rfl eO.1 eO.2.1 (λF=>eO.2.2 F)))) (aQ []) (aW 0)))))))
theorem Cg:bC Xi Xi (aL p6):=gW
include Z in
theorem vN:Own P w K mg base "read_signs" 2 Xi (o9 K 2 eF):=by
 obtain⟨KY,K1,eQ⟩:=Z.eQ;exact cu (k:=1) Z.Ep Cg (λf cdv A outer s H E hr G=>(dR.u (aC (cI (iT 1 (qQ G) (aN (lL (.str [42]) rfl eQ.1 eQ.2.1 (λF=>eQ.2.2 F)))) (aF (aV il)) bJ)
   (aC (cI (j9 (iU (cj (bZ (Qu G (aW 1) (aN (aQ [91]))))) (iC (cj (bZ (Yg G (aW 1) (aN (aQ [93])))))))) (aF (aV (Yb G Z.du (aY (b7 1))))) bJ)
   (aF (aV (bM (IK Z) G hr (fJ 0 (ak (pg G (m8 G (aW 1) (cY aK) (cY (Tp aK))) (aN (aQ [32]))) ao)) (bw (bw len0)))))))))
theorem Ci:bC ["stock","text","words","slash","line","changes","left"] Xi (aL p7):=gW
include Z in
theorem vO:Own P w K mg base "read_parts" 3 Xi (o9 K 2 cW):=by
 exact cu (k:=2) Z.Er Ci (λf cdv A outer s H E hr G=>(dR.u (aC (cz 2 (pg G (aW 1) (aN (aQ [32]))))
   (aC (cI (j9 (iU (jR (zJ G) (aQ [47]) (b7 2)) (iC (jR (zJ G) (aQ [95]) (b7 2))))) (aF (aV il)) bJ)
   (aC (cz 3 (De G (aW 2) (aN (aQ [47]))))
   (aC (cz 4 (De G (aW 2) (aN (aQ [95]))))
   (aC (cz 5 (ji G Z.du (aY (aN (bN (jm ["stock","text","words","slash","line","changes","left","word"] 7 fD G (eE G (m8 G (aW 2) (cY aK) (cY (aW 3)))) (λX1 h1=>by obtain⟨_,_,_,_,_,rfl⟩:=h1;exact bh 7) (λ_ _=>cZ) (λX1 h1=>by have G:=G.at h1;obtain⟨_,_,_,_,_,rfl⟩:=h1;exact(ji G Z.du (aY (aN (bN (jm ["stock","text","words","slash","line","changes","left","word","side"] 8 fD G (eE G (pg G (aW 7) (aN (aQ [62])))) (λX1 h1=>by obtain⟨_,_,_,_,_,rfl⟩:=h1;exact bh 8) (λ_ _=>cZ) (λX1 h1=>by have G:=G.at h1;obtain⟨_,_,_,_,_,rfl⟩:=h1;exact(bM (FP Z) G hr (fJ 8 ao) (bw len0)))))))))))))))
   (aC (cz 6 (bM (vN Z) G hr (fJ 0 (ak (jx G (aQ [32]) (aN (m8 G (aW 2) (cY (c7 3 (cB G) (aN aK))) (cY (aW 4))))) ao)) (bw (bw len0))))
   (aF (aV (cR (ak (dB 2 G (aN aK)) (fJ 5 (fJ 6 (ak (bM (vN Z) G hr (fJ 0 (ak (jx G (aQ [32]) (aN (m8 G (aW 2) (cY (c7 4 (cB G) (aN aK))) iV))) ao)) (bw (bw len0))) ao)))))))))))))))
theorem Ca:bC ["order","side","rules"] ["order"] (aL pY):=gW
include Z in
theorem FN:Own P w K mg base "show_order" 3 ["order"] (o9 K 1 mO):=by
 exact cu (k:=2) Z.En Ca (λf cdv A outer s H E hr G=>(dR.u (aC (lK (aW 0) (jG G (bu (bh 1) (bu (bh 2) dC))))
   (aF (aV (jx G (aQ [59,32]) (aN (bW (cB G) (bN (di (fJ 1 ao))) (aN (bN (jm ["order","side","rules","rule"] 3 fD G (eE G (aW 2)) (λX1 h1=>by obtain⟨_,_,_,_,_,rfl⟩:=h1;exact bh 3) (λ_ _=>cZ) (λX1 h1=>by have G:=G.at h1;obtain⟨_,_,_,_,_,rfl⟩:=h1;exact(bM (IV Z) G hr (fJ 3 ao) (bw len0))))))))))))))
theorem t6:bC ["stock","text","parts","order","number"] Xi (aL p8):=gW
include Z in
theorem Cp:S7 P w K mg base "read_order" 6 Xi (spX K 2 fQ (XF K "NoText") "part"):=by
 exact Dw (k:=5) Z.vm t6 (XF K "NoText") "part" (λf cdv A outer s H E d hr hE G=>(pD (adz (UJ (Fy Z) (hr.mono (by decide)) rfl (Kq.u (fJ 1 ao)) (bw len0) (af4 hE)) (CZ.u (xP (bM (yD Z) G hr (fJ 1 ao) (bw len0)))))
   (pD (Oh (CZ.u (cz 2 (pg G (aW 1) (aN (aQ [59,32]))))))
   (pD (Oh (CZ.u (cz 3 (cR (ak (dB 2 G (aN aK)) (ak (cR ao) ao))))))
   (pD (Vk (Kp.u (cj (bZ (bM (qj Z) G hr (fJ 0 (fJ 3 ao)) (bw (bw len0)))))) (sV (Vj (k:=0) Z.xg (hr.mono (by decide)) hE (SX.u aK))) (xR (dR.u bJ)))
   (pD (ady PySem.PassesOwn.leaving rfl (SXI.u (Pk Z.jU (ak aK (ak (gA G Z.gC (aY (b7 2))) ao)) (bw (bw len0)))) (SXG.u (bh 4)) (pD (Oh (CZ.u (cz 3 (cR (ak (dB 2 G (aN aK)) (ak (bW (cB G) (dB 3 G (aN aK)) (aN (cR (ak (bM (vO Z) G hr (fJ 0 (ak (dB 2 G (b7 4)) ao)) (bw (bw len0))) ao)))) ao))))))
   (sV (Vk (Kp.u (cj (bZ (bM (qj Z) G hr (fJ 0 (fJ 3 ao)) (bw (bw len0)))))) (sV (Vj (k:=0) Z.xg (hr.mono (by decide)) hE (SX.u (aW 4)))) (xR (dR.u bJ))))))
   (sV (Oh (CZ.u (aV (aW 3)))))))))))
include Z in
theorem qi:Own P w K mg base "read_order" 6 Xi (o9 K 2 j4):=by
 exact cu (k:=5) Z.vm t6 (λf cdv A outer s H E hr G=>(dR.u (aC (xP (bM (yD Z) G hr (fJ 1 ao) (bw len0)))
   (aC (cz 2 (pg G (aW 1) (aN (aQ [59,32]))))
   (aC (cz 3 (cR (ak (dB 2 G (aN aK)) (ak (cR ao) ao))))
   (aC (cI (cj (bZ (bM (qj Z) G hr (fJ 0 (fJ 3 ao)) (bw (bw len0))))) (aF uE) bJ)
   (aC (qd G (Pk Z.jU (ak aK (ak (gA G Z.gC (aY (b7 2))) ao)) (bw (bw len0))) (bh 4) (aC (cz 3 (cR (ak (dB 2 G (aN aK)) (ak (bW (cB G) (dB 3 G (aN aK)) (aN (cR (ak (bM (vO Z) G hr (fJ 0 (ak (dB 2 G (b7 4)) ao)) (bw (bw len0))) ao)))) ao))))
   (aF (cI (cj (bZ (bM (qj Z) G hr (fJ 0 (fJ 3 ao)) (bw (bw len0))))) (aF uE) bJ))))
   (aF (aV (aW 3))))))))))
theorem Fj:bC ["_law_cell"] ["_law_cell"] (aL rJ):=gW
include Z in
theorem Jc:Own P w K mg base "_law_mixed" 1 ["_law_cell"] (o9 K 1 iM):=by exact cu (k:=0) Z.Hx Fj (λf cdv A outer s H E hr G=>(dR.u (aF (aV (bW acd (c7 0 Qo (aN aK)) (aN (bW acb aK (aN aK))))))))
theorem HY:bC ["_law_script","_law_k","_law_found","_law_at"] ["_law_script","_law_k"] (aL uA):=gW
include Z in
theorem Mf:Own P w K mg base "_law_pack" 2 ["_law_script","_law_k"] (spN K 2 lg):=by
 exact Zz (k:=1) Z.K9 HY (λf cdv A outer s H E hr G=>(dR.u (aC (cz 2 aK)
   (aC (qd G (eE G (bN (di (ak (c7 1 (cB G) (aN aK)) (fJ 1 ao))))) (bh 3) (aF (cz 2 (bW (cB G) (c7 2 Qo (aN (bW acb aK (aN aK)))) (aN (bM (Jc Z) G hr (ak (yq G (bW (cB G) (abo G (aW 0) (cY (aW 3)) (cY (c7 3 (cB G) (aN aK)))) (aN (bN (di (ak (bW (cB G) (bW Qo aK (b7 3)) (aN aK)) ao))))) (aN aK)) ao) (bw len0)))))))
   (aF (Im (di (fJ 2 ao))))))))
theorem HS:bC ["_law_pack_here","_law_size","_law_digit"] Zq9 (aL ux):=gW
include Z in
theorem cX:Own P w K mg base "_law_take" 1 Zq9 (vA K 2 bf):=by
 exact rO (k:=0) Z.K6 HS (λf cdv A outer s H E a hr G=>(dR.u (aC (lK (Qv G Z.RB (qg (dB 0 G (aN aK)) (aY (b7 1)))) (jG G (bu (ahK 0 aK) (bu (bh 2) dC))))
   (aF (aV (aW 2))))))
theorem tQ:bC ["_law_pack_here","_law_letters","_law_at","_law_by"] Zq4 (aL jE):=gW
include Z in
theorem uG:Own P w K mg base "_law_drawn_sounds" 2 Zq4 (vA K 1 fB):=by
 exact rO (k:=1) Z.ur tQ (λf cdv A outer s H E a hr G=>(dR.u (aC (cz 1 (aQ [97,98,99,100,101,102,103,104,105,106,107,108,109,110,111,112,113,114,115,116,117,118,119,120,121,122]))
   (aC (lK (cR (ak (iw 0 (cX Z) G hr (ak aK ao) (iD (bw len0))) (ak (bW (cB G) aK (aN (iw 0 (cX Z) G hr (ak aK ao) (iD (bw len0))))) ao))) (jG G (bu (bh 2) (bu (bh 3) dC))))
   (aF (aV (jx G (aQ []) (aN (KJ G Z.xY Z.aex (bN (jm ["_law_pack_here","_law_letters","_law_at","_law_by","_law_k"] 4 fD G (sY Z.jU (ak (bW (cB G) aK (aN (iw 0 (cX Z) G hr (ak aK ao) (iD (bw len0))))) ao) (bw len0)) (λX1 h1=>by obtain⟨_,_,_,_,_,rfl⟩:=h1;exact bh 4) (λ_ _=>cZ) (λX1 h1=>by have G:=G.at h1;obtain⟨_,_,_,_,_,rfl⟩:=h1;exact(dB 1 G (aN (bW acd (c7 2 (cB G) (aN (c7 3 Qo (b7 4)))) (aN aK))))))))))))))))
theorem Fd:bC ["_law_pack_here","_law_sounds_here","_law_known","_law_found","_law_sound","_law_number","_law_marks"] Zq4 (aL rE):=gW
include Z in
theorem IW:Own P w K mg base "_law_stock" 3 Zq4 (vA K 1 jP):=by
 exact rO (k:=2) Z.Ht Fd (λf cdv A outer s H E a hr G=>(dR.u (aC (cz 1 (iw 0 (uG Z) G hr ao (iD len0)))
   (aC (cz 2 (bN (di (ak (aQ [115,116,111,112]) (ak (aQ [115,116,111,112,115]) (ak (aQ [115]) (ak (aQ [111,112,101,110]) (ak (aQ [97,98,99,100,101,102,103,104]) ao))))))))
   (aC (Ln 3 (di ao))
   (aC (qd G (eE G (aW 1)) (bh 4) (aC (cz 5 (iw 0 (cX Z) G hr (ak aK ao) (iD (bw len0))))
   (aC (cz 6 (Dd G Z.xY (aY (aN (bN (jm ["_law_pack_here","_law_sounds_here","_law_known","_law_found","_law_sound","_law_number","_law_marks","_law_k"] 7 fD G (sY Z.jU (ak aK ao) (bw len0)) (λX1 h1=>by obtain⟨_,_,_,_,_,rfl⟩:=h1;exact bh 7) (λX1 h1=>by have G:=G.at h1;obtain⟨_,_,_,_,_,rfl⟩:=h1;exact(mZ (jR (qQ G) (bW acf (c7 5 aca (b7 7)) (aN aK)) (aN aK)))) (λX1 h1=>by have G:=G.at h1;obtain⟨_,_,_,_,_,rfl⟩:=h1;exact(dB 2 G (b7 7)))))))))
   (aF (ac4 3 G (cR (fJ 4 (ak (ji G Z.du (aY (aN (abo G (aW 6) iV (cY aK))))) ao))))))))
   (aF (aV (ji G Z.du (aY (b7 3)))))))))))
theorem Cj:bC Zq5 Zq5 (aL qb):=gW
include Z in
theorem vP:Own P w K mg base "_law_sounds" 1 Zq5 (o9 K 1 iY):=by exact cu (k:=0) Z.Es Cj (λf cdv A outer s H E hr G=>(dR.u (aF (aV (jx G (aQ []) (aN (bN (jm ["_law_stock_here","_law_sound","_law_marks"] 1 fD G (eE G (aW 0)) (λX1 h1=>by have G:=G.at h1;obtain⟨_,_,_,_,_,rfl⟩:=h1;exact(jG G (bu (bh 1) (bu (bh 2) dC)))) (λ_ _=>cZ) (λX1 h1=>by obtain⟨_,_,_,_,_,rfl⟩:=h1;exact aW 1)))))))))
theorem Fe:bC ["_law_pack_here","_law_sounds_here","_law_number","_law_signs_here"] Zq2 (aL rF):=gW
include Z in
theorem yE:Own P w K mg base "_law_signs" 2 Zq2 (vA K 2 dO):=by
 exact rO (k:=1) Z.Hu Fe (λf cdv A outer s H E a hr G=>(dR.u (aC (cI (jR (qQ G) (iw 0 (cX Z) G hr (ak aK ao) (iD (bw len0))) (aN aK)) (aF (aV il)) bJ)
   (aC (cz 2 (bW (cB G) aK (aN (iw 0 (cX Z) G hr (ak (bW Kc (bW ah4 aK (aN (gA G Z.gC (aY (b7 1))))) (aN aK)) ao) (iD (bw len0))))))
   (aC (cz 3 (bW (cB G) (aQ [35]) (b7 1)))
   (aF (aV (ji G Z.du (aY (aN (bN (jm ["_law_pack_here","_law_sounds_here","_law_number","_law_signs_here","_law_k"] 4 fD G (sY Z.jU (ak (gA G Z.gC (aY (b7 3))) ao) (bw len0)) (λX1 h1=>by obtain⟨_,_,_,_,_,rfl⟩:=h1;exact bh 4) (λX1 h1=>by have G:=G.at h1;obtain⟨_,_,_,_,_,rfl⟩:=h1;exact(mZ (jR (qQ G) (bW acf (c7 2 aca (b7 4)) (aN aK)) (aN aK)))) (λX1 h1=>by have G:=G.at h1;obtain⟨_,_,_,_,_,rfl⟩:=h1;exact(dB 3 G (b7 4)))))))))))))))
theorem z8:bC ["_law_pack_here","_law_sounds_here","_law_found","_law_turn","_law_one","_law_others"] Zq2 (aL oW):=gW
include Z in
theorem Cr:Own P w K mg base "_law_changes" 2 Zq2 (vA K 2 eV):=by
 exact rO (k:=1) Z.BR z8 (λf cdv A outer s H E a hr G=>(dR.u (aC (cI (jR (qQ G) (iw 0 (cX Z) G hr (ak aK ao) (iD (bw len0))) (aN aK)) (aF (aV (cR (ak (cR (ak (aQ []) (ak (dB 1 G (aN (iw 0 (cX Z) G hr (ak (gA G Z.gC (aY (b7 1))) ao) (iD (bw len0))))) ao))) ao)))) bJ)
   (aC (Ln 2 Dr)
   (aC (qd G (sY Z.jU (ak (bW (cB G) aK (aN (iw 0 (cX Z) G hr (ak aK ao) (iD (bw len0))))) ao) (bw len0)) (bh 3) (aC (cz 4 (dB 1 G (aN (iw 0 (cX Z) G hr (ak (gA G Z.gC (aY (b7 1))) ao) (iD (bw len0))))))
   (aC (abv ["_law_pack_here","_law_sounds_here","_law_found","_law_turn","_law_one","_law_others","_law_sound"] 6 5 fD G (eE G (bW (cB G) (Yd G Z.ZW (aY (b7 1))) (aN (bN (di (ak (aQ []) ao)))))) (λX1 h1=>by obtain⟨_,_,_,_,_,rfl⟩:=h1;exact bh 6) (λX1 h1=>by have G:=G.at h1;obtain⟨_,_,_,_,_,rfl⟩:=h1;exact(mZ (iT 6 (M3 G) (b7 4)))) (λX1 h1=>by obtain⟨_,_,_,_,_,rfl⟩:=h1;exact aW 6))
   (aF (Yw 2 G (aW 4) (dB 5 G (aN (iw 0 (cX Z) G hr (ak (gA G Z.gC (aY (b7 5))) ao) (iD (bw len0))))))))))
   (aF (aV (ji G Z.du (aY (aN (bN (jm ["_law_pack_here","_law_sounds_here","_law_found","_law_turn","%4","_law_others","_law_one"] 6 fD G (eE G (Dd G Z.xY (aY (b7 2)))) (λX1 h1=>by obtain⟨_,_,_,_,_,rfl⟩:=h1;exact bh 6) (λ_ _=>cZ) (λX1 h1=>by have G:=G.at h1;obtain⟨_,_,_,_,_,rfl⟩:=h1;exact(cR (fJ 6 (ak (Tt 2 G (b7 6)) ao))))))))))))))))
theorem HX:bC ["_law_pack_here","_law_sounds_here","_law_how","_law_changes_here"] Zq2 (aL uz):=gW
include Z in
theorem Ma:Own P w K mg base "_law_rule" 3 Zq2 (vA K 2 jJ):=by
 exact rO (k:=2) Z.K8 HX (λf cdv A outer s H E a hr G=>(dR.u (aC (cz 2 (yq G (bN (di (ak (aQ [111,110,99,101]) (ak (aQ [97,108,111,110,103]) ao)))) (aN (iw 0 (cX Z) G hr (ak aK ao) (iD (bw len0))))))
   (aC (cz 3 (iw 0 (Cr Z) G hr (fJ 1 ao) (iD (bw len0))))
   (aF (aV (cR (fJ 2 (fJ 3 (ak (iw 0 (yE Z) G hr (fJ 1 ao) (iD (bw len0))) (ak (iw 0 (yE Z) G hr (fJ 1 ao) (iD (bw len0))) ao)))))))))))
theorem Fi:bC ["_law_pack_here","_law_sounds_here","_law_most","_law_side"] afE (aL rH):=gW
include Z in
theorem Jb:Own P w K mg base "_law_order" 4 afE (vA K 3 lO):=by
 exact rO (k:=3) Z.Hw Fi (λf cdv A outer s H E a hr G=>(dR.u (aC (cz 3 (yq G (bN (di (ak (aQ [108,101,102,116]) (ak (aQ [114,105,103,104,116]) ao)))) (aN (iw 0 (cX Z) G hr (ak aK ao) (iD (bw len0))))))
   (aF (aV (cR (fJ 3 (ak (ji G Z.du (aY (aN (bN (jm ["_law_pack_here","_law_sounds_here","_law_most","_law_side","_law_turn"] 4 fD G (sY Z.jU (ak (iw 0 (cX Z) G hr (ak (c7 2 (cB G) (aN aK)) ao) (iD (bw len0))) ao) (bw len0)) (λX1 h1=>by obtain⟨_,_,_,_,_,rfl⟩:=h1;exact bh 4) (λ_ _=>cZ) (λX1 h1=>by have G:=G.at h1;obtain⟨_,_,_,_,_,rfl⟩:=h1;exact(iw 0 (Ma Z) G hr (fJ 1 ao) (iD (bw len0))))))))) ao))))))))
theorem vC:bC Zq6 Zq6 (aL kE):=gW
include Z in
theorem pG:Own P w K mg base "_law_signs_text" 1 Zq6 (o9 K 1 cN):=by
 exact cu (k:=0) Z.xA vC (λf cdv A outer s H E hr G=>(dR.u (aC (cI (iT 0 aft (aN il)) (aF (aV (aQ [42]))) bJ)
   (aF (aV (Hi G (aQ []) (b7 0)))))))
theorem xH:bC ["_law_rule_here","_law_how","_law_changes_here","_law_first","_law_second","_law_found","_law_one","_law_other"] ["_law_rule_here"] (aL lY):=gW
include Z in
theorem zc:Own P w K mg base "_law_rule_text" 2 ["_law_rule_here"] (o9 K 1 fO):=by
 exact cu (k:=1) Z.yZ xH (λf cdv A outer s H E hr G=>(dR.u (aC (lK (aW 0) (jG G (bu (bh 1) (bu (bh 2) (bu (bh 3) (bu (bh 4) dC))))))
   (aC (cz 5 (aW 1))
   (aC (qd G (eE G (aW 2)) (jG G (bu (bh 6) (bu (bh 7) dC))) (aF (cz 5 (bW (cB G) (bW (cB G) (bW (cB G) (c7 5 (cB G) (aN (aQ [32]))) (aN (yq G (c7 6 (cB G) (aN (aQ [48]))) (aN aK)))) (aN (aQ [62]))) (aN (yq G (c7 7 (cB G) (aN (aQ [48]))) (aN aK)))))))
   (aF (aV (bW (cB G) (bW (cB G) (bW (cB G) (c7 5 (cB G) (aN (aQ [32,47,32]))) (aN (bM (pG Z) G hr (fJ 3 ao) (bw len0)))) (aN (aQ [32,95,32]))) (aN (bM (pG Z) G hr (fJ 4 ao) (bw len0)))))))))))
theorem vD:bC Zq7 Zq7 (aL kI):=gW
include Z in
theorem xW:Own P w K mg base "_law_order_text" 3 Zq7 (o9 K 1 lq):=by exact cu (k:=2) Z.xB vD (λf cdv A outer s H E hr G=>(dR.u (aF (aV (jx G (aQ [59,32]) (aN (bW (cB G) (bN (di (ak (dB 0 G (aN aK)) ao))) (aN (bN (jm ["_law_order_here","_law_rule_here"] 1 fD G (eE G (dB 0 G (aN aK))) (λX1 h1=>by obtain⟨_,_,_,_,_,rfl⟩:=h1;exact bh 1) (λ_ _=>cZ) (λX1 h1=>by have G:=G.at h1;obtain⟨_,_,_,_,_,rfl⟩:=h1;exact(bM (zc Z) G hr (fJ 1 ao) (bw len0)))))))))))))
theorem HW:bC ["_law_e","_law_sorts"] ["_law_e"] (aL uy):=gW
include Z in
theorem LR:Own P w K mg base "_law_sort" 1 ["_law_e"] (o9 K 1 uT):=by
 exact cu (k:=0) Z.K7 HW (λf cdv A outer s H E hr G=>(dR.u (aC (cz 1 (bN (di (ak (uq G Z.bU Z.RP (aW 0)) (ak (uq G Z.bU Z.Ms (aW 0)) (ak (uq G Z.bU Z.RQ (aW 0)) (ak (uq G Z.bU Z.Ju (aW 0)) ao)))))))
   (aC (cz 1 (c7 1 (cB G) (aN (bN (di (ak (uq G Z.bU Z.Jt (aW 0)) (ak (uq G Z.bU Z.RV (aW 0)) (ak (uq G Z.bU Z.RT (aW 0)) ao))))))))
   (aC (cI (j9 (iU (cj (bZ (Ye (by decide +kernel) G Z.bU Z.Cv Z.Cz (aW 0)))) (iC (jR (M3 G) (Yc G Z.aew (aY (b7 1))) (aN aK))))) (aF (aV il)) bJ)
   (aF (aV (KQ G (aW 1) (aN fM)))))))))
theorem z7:bC ["_law_stock_here","_law_text","_law_part","_law_caught","_law_e"] afD (aL oV):=gW
include Z in
theorem cL:Own P w K mg base "_law_refused" 7 afD (o9 K 3 bj):=by
 exact cu (k:=6) Z.BP z7 (λf cdv A outer s H E hr G=>(dR.u (aC (cz 3 il)
   (aC (Yv 3 4 ⟨rfl,rfl,rfl⟩ G Z.CN (λG=>(aF (xP (bM (qi Z) G hr (fJ 0 (fJ 1 ao)) (bw (bw len0)))))) (Ut (Cp Z) (hr.mono (by decide)) rfl (Kq.u (fJ 0 (fJ 1 ao))) (bw (bw len0))))
   (aF (aV (iW (mD 3 aaQ (aN il)) (iW (xj (qQ G) (bM (LR Z) G hr (fJ 3 ao) (bw len0)) (aN aK)) (iW (xj (qQ G) (Nx G Z.pt (aW 3)) (b7 2)) (mG (Y4 (lE (T:="bool") rfl Z.bU rfl Z.ZX (by decide +kernel) Z.rW G.K (Nx G Z.pt (aW 3))))))))))))))
theorem Li:bC Zq8 Zq8 (aL xK):=gW
include Z in
theorem Rx:Own P w K mg base "_law_out" 1 Zq8 (o9 K 1 m6):=by exact cu (k:=0) Z.QD Li (λf cdv A outer s H E hr G=>(dR.u (aF (aV (yq G (bN (jm ["_law_sounds_here","_law_letter"] 1 fD G (eE G (aQ [113,118,109,101,104,97,98,99,100,102,103])) (λX1 h1=>by obtain⟨_,_,_,_,_,rfl⟩:=h1;exact bh 1) (λX1 h1=>by have G:=G.at h1;obtain⟨_,_,_,_,_,rfl⟩:=h1;exact(mZ (iT 1 (zJ G) (b7 0)))) (λX1 h1=>by obtain⟨_,_,_,_,_,rfl⟩:=h1;exact aW 1))) (aN aK))))))
theorem uw:bC ["_law_stock_here","_law_parts","_law_good","_law_mark","_law_sounds_here","_law_text","_law_rule_here"] afC (aL jT):=gW
include Z in
theorem vQ:Own P w K mg base "_law_marks_right" 8 afC (o9 K 3 j5):=by
 exact cu (k:=7) Z.vo uw (λf cdv A outer s H E hr G=>(dR.u (aC (qd G (eE G (bN (di (ak (aQ [115,116,111,112]) (ak (aQ [115]) (ak (aQ [111,112,101,110]) ao)))))) (bh 3) (aC (cz 4 (ji G Z.du (aY (aN (bN (jm ["_law_stock_here","_law_parts","_law_good","_law_mark","_law_sounds_here","_law_text","_law_rule_here","_law_sound","_law_own"] 7 fD G (eE G (aW 0)) (λX1 h1=>by have G:=G.at h1;obtain⟨_,_,_,_,_,rfl⟩:=h1;exact(jG G (bu (bh 7) (bu (bh 8) dC)))) (λX1 h1=>by have G:=G.at h1;obtain⟨_,_,_,_,_,rfl⟩:=h1;exact(mZ (iT 3 (M4 G) (b7 8)))) (λX1 h1=>by obtain⟨_,_,_,_,_,rfl⟩:=h1;exact aW 7)))))))
   (aC (cz 5 (jxJ [59,32] G (by decide +kernel) (G8.b (ag5 (cB G) (m8 G (aW 1) iV (cY aK)) (G8.b (Od (pC (Zx [95,32,42] [93] (aW 2) (bW (cB G) (aQ [95,32,91]) (b7 3)) (by decide +kernel) (by decide +kernel) (by decide +kernel)) (p_a ao))))))))
   (aC (cz 6 (cR (ak (aQ [111,110,99,101]) (ak (cR (ak (cR (ak (yq G (dB 0 G (aN aK)) (aN aK)) (ak (aQ []) ao))) ao)) (ak il (fJ 4 ao))))))
   (aF (cI (iT 4 (qQ G) (aN (cR ao))) (aF (cI (cj (bZ (bM (cL Z) G hr (fJ 0 (fJ 5 (ak aK ao))) (bw (bw (bw len0)))))) (aF (aV fM)) bJ)) (aF (cI (jR (M3 G) (bM (qi Z) G hr (fJ 0 (fJ 5 ao)) (bw (bw len0))) (aN (cR (ak (dB 1 G (aN aK)) (ak (cR (fJ 6 ao)) ao))))) (aF (aV fM)) bJ))))))))
   (aF (aV fM)))))
theorem Ff:bC ["_law_pack_here","_law_stock_here","_law_order_here","_law_text","_law_parts","_law_good","_law_out_here","_law_found","_law_odd","_law_at","_law_odds","_law_some","_law_five"] afB (aL rG):=gW
include Z in
theorem Ja:Own P w K mg base "_law_right" 9 afB (vA K 3 oh):=by
 exact rO (k:=8) Z.Hv Ff (λf cdv A outer s H E a hr G=>(dR.u (aC (cz 3 (bM (xW Z) G hr (fJ 2 ao) (bw len0)))
   (aC (cz 4 (pg G (aW 3) (aN (aQ [59,32]))))
   (s_q (agT 5 [62,48,32,47,32,42,32,95,32,42] G (bW (cB G) (aQ [111,110,99,101,32]) (aN (yq G (dB 1 G (aN aK)) (aN aK)))) (by decide +kernel)) (dh (S9 (cz 6 (bM (Rx Z) G hr (ak (bM (vP Z) G hr (fJ 1 ao) (bw len0)) ao) (bw len0))))
   (dh (S9 (cz 7 (bM (qi Z) G hr (fJ 1 (fJ 3 ao)) (bw (bw len0)))))
   (dh (S9 (cI (j9 (iU (jR (M3 G) (bM (FN Z) G hr (fJ 2 ao) (bw len0)) (b7 3)) (iU (iT 7 (M3 G) (b7 2)) (iU (cj (bZ (lE (T:="tuple") rfl Z.bU rfl Z.du (by decide +kernel) Z.gF G.K (aW 7)))) (iC (cj (bZ (lE (T:="tuple") rfl Z.bU rfl Z.du (by decide +kernel) Z.gF G.K (dB 7 G (aN aK)))))))))) (aF (aV fM)) bJ))
   (dh (S9 (qd G (eE G (bN (FT (cg (aQ []) (cg (aQ [76,101,102,116]) (cg (aQ [98,111,116,104]) (cg (aQ [108,101,102,116,32]) (cg (aQ [32,114,105,103,104,116]) (cg (aQ [108,101,102,116,59]) (cg (aQ [114,105,103,104,116,58]) (cg (aW 5) (cg (aQ [48]) (cg (aQ [108,101,102,116,44]) Ab))))))))))))) (bh 8) (aF (cI (cj (bZ (bM (cL Z) G hr (fJ 1 (ak (jx G (aQ [59,32]) (aN (bW (cB G) (bN (di (fJ 8 ao))) (aN (m8 G (aW 4) (cY aK) iV))))) (ak aK ao))) (bw (bw (bw len0)))))) (aF (aV fM)) bJ))))
   (dh (S9 (cz 9 (bW (cB G) aK (aN (iw 0 (cX Z) G hr (ak (gA G Z.gC (aY (b7 4))) ao) (iD (bw len0)))))))
   (dh (S9 (cz 10 (bN (FT (cg (aQ []) (cg (aQ [32]) (cg (aQ [108,101,102,116]) (cg (c7 5 (cB G) (aN (aQ [59]))) (cg (bW (cB G) (aQ [32]) (b7 5)) (cg (c7 5 (cB G) (aN (aQ [32]))) (cg (m8 G (aW 5) iV (cY (Tp aK))) (cg (bW (cB G) (bW (cB G) (aQ [111,110,99,101,32]) (b7 6)) (aN (aQ [62,48,32,47,32,42,32,95,32,42]))) Ab))))))))))))
   (dh (ag4 10 (adQ 10 (cB G) (G8.b (Od (pC (U3 [111,110,99,101] [108,101,102,116] (SX.u (aW 5)) (by decide +kernel) (by decide +kernel) (by decide +kernel)) (p_a ao))))))
   (dh (S9 (qd G (eE G (aW 10)) (bh 8) (aC (cz 11 (bW (cB G) (bW (cB G) (m8 G (aW 4) iV (cY (aW 9))) (aN (bN (di (fJ 8 ao))))) (aN (m8 G (aW 4) (cY (aW 9)) iV))))
   (aF (cI (cj (bZ (bM (cL Z) G hr (fJ 1 (ak (jx G (aQ [59,32]) (aN (m8 G (aW 11) iV (cY aK)))) (ak (Tq G Z.VL (qg (aW 9) (aY (aN (bW Kc (gA G Z.gC (aY (b7 11))) (aN aK)))))) ao))) (bw (bw (bw len0)))))) (aF (aV fM)) bJ)))))
   (dh (S9 (cI (cj (bZ (bM (vQ Z) G hr (fJ 1 (fJ 4 (fJ 5 ao))) (bw (bw (bw len0)))))) (aF (aV fM)) bJ))
   (dh (S9 (cz 12 (jx G (aQ [59,32]) (aN (bW (cB G) (m8 G (aW 4) iV (cY aK)) (aN (bW afx (bN (di (fJ 5 ao))) (aN aK))))))))
   (dh (ajb (aga (acP (aiR (adP (cL Z) G hr (by rfl) (pC (p_x (aW 1)) (pC (Zy [59,32,111,110,99,101] [59,32,111,110,101,115] (aW 12) (by decide +kernel) (by decide +kernel) (by decide +kernel)) (pC (p_x aK) (p_a ao)))) (bw (bw (bw len0)))))) (SXW.u (iC (cj (bZ (bM (cL Z) G hr (fJ 1 (ak (c7 12 (cB G) (aN (aQ [120]))) (ak aK ao))) (bw (bw (bw len0))))))))) (aF (aV fM)) bJ)
   (dh (S9 (cI (j9 (iU (cj (bZ (bM (cL Z) G hr (fJ 1 (fJ 12 (ak aK ao))) (bw (bw (bw len0)))))) (iC (cj (bZ (bM (cL Z) G hr (fJ 1 (ak (c7 3 (cB G) (aN (aQ [59,32]))) (ak (gA G Z.gC (aY (b7 4))) ao))) (bw (bw (bw len0))))))))) (aF (aV fM)) bJ))
   (dh (S9 (cI (cj (bZ (bM (cL Z) G hr (fJ 1 (ak (c7 12 (cB G) (aN (aQ [59,32,120]))) (ak aK ao))) (bw (bw (bw len0)))))) (aF (aV fM)) bJ))
   (dh (S9 (cI (j9 (iU (cj (bZ (bM (cL Z) G hr (fJ 1 (ak (c7 3 (cB G) (aN (aQ [10]))) (ak (bW Kc (gA G Z.gC (aY (b7 4))) (aN aK)) ao))) (bw (bw (bw len0)))))) (iC (cj (bZ (bM (cL Z) G hr (fJ 1 (ak (bW (cB G) (aQ [10]) (b7 3)) (ak aK ao))) (bw (bw (bw len0))))))))) (aF (aV fM)) bJ))
   (aja (aF (aV (bM (cL Z) G hr (fJ 1 (ak (c7 3 (cB G) (aN (aQ [59]))) (ak (bW Kc (gA G Z.gC (aY (b7 4))) (aN aK)) ao))) (bw (bw (bw len0))))))))))))))))))))))))))
theorem ac3:bC ah5 ["_law_script"] (aL Up):=gW
include Z in
theorem afb{f:Addr}{fd:FuncData}(F:S8 K "law" "law" Up f fd):mY P w K mg base BK 10 f fd ["_law_script"] (o9 K 1 P0):=by
 exact J0 (k:=9) F ac3 (λcdv A outer s H E hr=>by
  have G:=vW (P:=P) (w:=w) (K:=K) (mg:=mg) (base:=base) (N:=ah5) (outer:=outer) (H:=H) (E:=E) (C:=C0 K) rfl hr;exact(dR.u (aC (qd G (aae Z.jU (ak aK (ak (acz G Z.aey (qg aK (aY (aN (Tq G Z.VL (qg (gA G Z.gC (aY (b7 0))) (aY (aN aK)))))))) (ak aK ao))) (bw (bw (bw len0)))) (bh 1) (aC (Ln 2 (aez (Mf Z) G hr (fJ 0 (fJ 1 ao)) (bw (bw len0))))
   (aC (cz 3 (iw 2 (IW Z) G hr ao (iD len0)))
   (aF (cI (cj (bZ (iw 2 (Ja Z) G hr (fJ 3 (ak (iw 2 (Jb Z) G hr (ak (bM (vP Z) G hr (fJ 3 ao) (bw len0)) (ak aK ao)) (iD (bw (bw len0)))) ao)) (iD (bw (bw len0)))))) (aF (aV fM)) bJ)))))
   (aF (aV (xm G Z.xZ (aY (aN (bN (jm ["_law_script","_law_k","_law_pack_here","_law_stock_here","_law_thing"] 4 fD G (eE G (bN (FT (cg il (cg aK (cg fM (cg (cR ao) (cg (bN (di (ak (aQ [108,101,102,116]) ao))) (cg (bN Dr) Ab))))))))) (λX1 h1=>by obtain⟨_,_,_,_,_,rfl⟩:=h1;exact bh 4) (λ_ _=>cZ) (λX1 h1=>by have G:=G.at h1;obtain⟨_,_,_,_,_,rfl⟩:=h1;exact(bM (cL Z) G hr (ak (cR (ak (cR (ak (aQ [97]) (ak (cR ao) ao))) ao)) (fJ 4 (ak il ao))) (bw (bw (bw len0)))))))))))))))
end
end jL
namespace wR
open Ev
def oH:cC:=jL.oH
def iM:LD:=dG 1 oH
def lz:cC:=aP (bF (Zi 0) (au 2)) (aP (jM (gO (cM (aa (aA bK 1 (Zi 1)) (Zv 1 aj)))) (au 3) (bF (az bK (aA pI 2 (az Mv (Zi 10) (Zi 60))) (aq iM (aa (az gM (az bK (CG (aM 0) (nT (aM 3)) (nT (aA bK 3 (Zi 1)))) (cM (aa (az bK (az pI (Zi 7919) (bz 3)) (Zi 61)) aj))) (Zi 0)) aj))) (au 2))) (zR (cM (Zv 2 aj))))
def lg:LD:=runN 4 lz
def iR:cC:=jL.iR
def bf:List D->Option (D×D):=jc 3 iR
def gR:cC:=aP (d8 (dw (az nU (dH bf 0 (aa (Zi 2) aj)) (Zi 0))) (bA (jh .non)) b8) (aP (bF (az bK (Zi 1) (dH bf 0 (aa (az uO (az R4 (Zi 2) (aq dD (aa (bz 1) aj))) (Zi 1)) aj))) (au 2)) (aP (bF (az bK (Zw [35]) (bz 1)) (au 3)) (bA (aq fZ (aa (gb 4 5 (dY (aa (aq dD (aa (bz 3) aj)) aj)) (au 4) (dw (az nU (az JG (aA Gh 2 (bz 4)) (Zi 1)) (Zi 1))) (aA gM 3 (bz 4))) aj)))))
def dO:List D->Option (D×D):=jc 4 gR
def eY:cC:=aP (d8 (dw (az nU (dH bf 0 (aa (Zi 5) aj)) (Zi 0))) (bA (cU (aa (cU (aa (Zw []) (aa (aA gM 1 (dH bf 0 (aa (aq dD (aa (bz 1) aj)) aj))) aj))) aj))) b8) (aP (lH 2 (Bc)) (aP (jM (dY (aa (az bK (Zi 1) (dH bf 0 (aa (Zi 3) aj))) aj)) (au 3) (aP (bF (aA gM 1 (dH bf 0 (aa (aq dD (aa (bz 1) aj)) aj))) (au 4)) (aP (lH 5 (gb 6 7 (gO (az bK (aq DQ (aa (bz 1) aj)) (cM (aa (Zw []) aj)))) (au 6) (dw (aA Gm 6 (bz 4))) (aM 6))) (uv 2 (aM 4) (aA gM 5 (dH bf 0 (aa (aq dD (aa (bz 5) aj)) aj))))))) (bA (aq fZ (aa (gb 6 7 (gO (aq jB (aa (bz 2) aj))) (au 6) cP (cU (Zv 6 (aa (aA my 2 (bz 6)) aj)))) aj)))))
def eV:List D->Option (D×D):=jc 6 eY
open Ev PySem L2
theorem mU{i:Int}{b:Nat}(h:i.natAbs<2^b):Builtin.Int.intBits i<=b:=by
 unfold Builtin.Int.intBits;split
 ·exact Qzk _
 ·rename_i h0;have hz:i.natAbs≠0:=λz=>h0 (by rw[Int.natAbs_eq_zero.mp z];rfl);exact(Nat.log2_lt hz).mpr h
theorem nG{i j:Int}{a b:Nat}(h1:Builtin.Int.intBits i<=a)(h2:Builtin.Int.intBits j<=b)(h:a+b<=134217728):jV i j=true:=
 Qw2 (by omega)
def VV(i:Int):Int:=i*262406895267124108351839057402211873468251940277165213587343 % 10^60
theorem Z0(i:Int):(VV i).natAbs<2^200:=by
 unfold VV;have h1:0<=i*262406895267124108351839057402211873468251940277165213587343 % 10^60:=Int.emod_nonneg _ (by decide);have h2:i*262406895267124108351839057402211873468251940277165213587343 % 10^60<10^60:=Int.emod_lt_of_pos _ (by decide);have h3:(10:Int)^60<=2^200:=by decide
 omega
theorem mixed{i:Int}(h:Builtin.Int.intBits i<=2^20):iM [.int i]=some (.int (VV i)):=by
 have hm:jV i 262406895267124108351839057402211873468251940277165213587343=true:=nG h (mU (b:=198) (by decide)) (by decide);have e1:aA pI 0 (Zi 262406895267124108351839057402211873468251940277165213587343) [Zf (.int i)] = .ok (.int (i*262406895267124108351839057402211873468251940277165213587343)) [Zf (.int i)]:=by
  show fX (gI jV (λi j=>D.int (i*j)) (.int i) (.int _)) _=_;unfold gI;simp only;rw[if_pos hm]
  rfl
 show(match bA _ [Zf (.int i)] with|.rt false d _=>some d|.nx _=>some .non|_=>none)=_;rw[bY];unfold az;rw[e1]
 rfl
theorem aaG{α:Type}{xs:List α}{lo hi:Option Int}{x:α}(h:x∈cutD xs lo hi):x∈xs:=List.mem_of_mem_drop (List.mem_of_mem_take h)
theorem Xe{α:Type}(x:α)(r:List α):ue (x::r) 0=some x:=dZ (j:=0) rfl
def nD:cC:=bF (az bK (aA pI 2 (az Mv (Zi 10) (Zi 60))) (aq iM (aa (az gM (az bK (CG (aM 0) (nT (aM 3)) (nT (aA bK 3 (Zi 1)))) (cM (aa (az bK (az pI (Zi 7919) (bz 3)) (Zi 61)) aj))) (Zi 0)) aj))) (au 2)
theorem Dv(ns:List Int)(hl:ns.length<=63)(hb:Nt ns)(k a f:Int)(ha:a.natAbs<2^10)(hf:Builtin.Int.intBits f<=2^20) :
  ∃f':Int,nD [Zf (.arr (ns.map .int)),Zf (.int k),Zf (.int f),Zf (.int a)] = .nx [Zf (.arr (ns.map .int)),Zf (.int k),Zf (.int f'),Zf (.int a)]/\(f=0->f'.natAbs<2^200):=by
 generalize hE:([Zf (.arr (ns.map .int)),Zf (.int k),Zf (.int f),Zf (.int a)]:Ev.Env)=env;have m1:jV 7919 a=true:=nG (a:=20) (mU (by decide)) (mU ha) (by decide);have m2:jV f (10^(60:Int).toNat)=true:=nG (b:=200) hf (mU (by decide)) (by decide);have e1:CG (aM 0) (nT (aM 3)) (nT (aA bK 3 (Zi 1))) env = .ok (.lst (cutD (ns.map .int) (some a) (some (a+1)))) env:=by rw[<-hE];rfl
 have e2:cM (aa (az bK (az pI (Zi 7919) (bz 3)) (Zi 61)) aj) env = .ok (.lst [.int (7919*a+61)]) env:=by refine lU (aB (aJ (aJ rfl (by rw[<-hE];rfl) (Gn m1)) rfl rfl) aX) Ev.Xz
 generalize hL:cutD (ns.map D.int) (some a) (some (a+1))=L at e1;have hLl:L.length<=63:=by rw[<-hL];exact Qqy (sr _ _ _) (by rw[Qqz];exact hl)
 have e3:az bK (CG (aM 0) (nT (aM 3)) (nT (aA bK 3 (Zi 1)))) (cM (aa (az bK (az pI (Zi 7919) (bz 3)) (Zi 61)) aj)) env = .ok (.lst (L++[.int (7919*a+61)])) env:=by exact aJ e1 e2 (wy (by show L.length+1<=sizeLine;exact Qqy (Nat.succ_le_succ hLl) (by decide)))
 obtain⟨c,hc,hcb⟩:∃c:Int,ue (L++[.int (7919*a+61)]) 0=some (.int c)/\Builtin.Int.intBits c<=2^20:=by
  cases hLc:L with
  | nil=>
   refine⟨7919*a+61,rfl,Qqy (mU (b:=30) ?_) (by decide)⟩;omega
  | cons y r=>
   have hy:y∈ns.map D.int:=aaG (by rw[hL,hLc];exact Qqv ..);obtain⟨i,hi,rfl⟩:=Qwk.mp hy;exact⟨i,Xe _ _,hb i hi⟩
 have e4:aq iM (aa (az gM (az bK (CG (aM 0) (nT (aM 3)) (nT (aA bK 3 (Zi 1)))) (cM (aa (az bK (az pI (Zi 7919) (bz 3)) (Zi 61)) aj))) (Zi 0)) aj) env = .ok (.int (VV c)) env:=by exact aH (aB (aJ e3 rfl hc) aX) (mixed hcb)
 refine⟨f*10^(60:Int).toNat+VV c,?_,λh0=>?_⟩
 ·unfold nD;refine bL (e:=env) ?_ (by rw[<-hE];rfl);have e5:aA pI 2 (az Mv (Zi 10) (Zi 60)) env = .ok (.int (f*10^(60:Int).toNat)) env:=by
   rw[<-hE];exact jQ rfl rfl rfl (Gn m2)
  exact aJ e5 e4 rfl
 ·rw[h0,Int.zero_mul,Int.zero_add];exact Z0 c
theorem pack(ns:List Int)(hl:ns.length<=63)(hb:Nt ns)(k:Int)(h0:0<=k)(h1:k<=500):∃p:Int,lg [.arr (ns.map .int),.int k]=some (.lst [.int p]):=by
 obtain⟨f1,e1,b1⟩:=Dv ns hl hb k (k+1) 0 (by omega) (by decide);obtain⟨f2,e2,_⟩:=Dv ns hl hb k k f1 (by omega) (Qqy (mU (b1 rfl)) (by decide));refine⟨f2,?_⟩;have h:lz [Zf (.arr (ns.map .int)),Zf (.int k),Zn,Zn] = .rt true (.lst [.int f2]) [Zf (.arr (ns.map .int)),Zf (.int k),Zf (.int f2),Zf (.int k)]:=by
  unfold lz;refine(aG rfl).trans ?_;refine(aG (e:=[Zf (.arr (ns.map .int)),Zf (.int k),Zf (.int f2),Zf (.int k)]) ?_).trans rfl;refine(jj rfl).trans ?_;show jr (au 3) nD [.int (k+1),.int k] _=_;unfold jr;show(match nD [Zf (.arr (ns.map .int)),Zf (.int k),Zf (.int 0),Zf (.int (k+1))] with|.nx e2=>jr (au 3) nD [.int k] e2|.ct e2=>_|.bk e2=>_|.rt o d e2=>_|.stuck=>_)=_;rw[e1];simp only;unfold jr;show(match nD [Zf (.arr (ns.map .int)),Zf (.int k),Zf (.int f1),Zf (.int k)] with|.nx e2=>jr (au 3) nD [] e2|.ct e2=>_|.bk e2=>_|.rt o d e2=>_|.stuck=>_)=_;rw[e2]
  rfl
 show(match lz _ with|.rt true d _=>some d|_=>none)=_;have e:envOf 4 [D.arr (ns.map .int),.int k]=[Zf (.arr (ns.map .int)),Zf (.int k),Zn,Zn]:=rfl;rw[e,h]
def known:D:=.lst [.str [115,116,111,112],.str [115,116,111,112,115],.str [115],.str [111,112,101,110],.str [97,98,99,100,101,102,103,104]]
def vp:cC:=bF (aq jB (aa (gb 7 8 (dY (aa (Zi 5) aj)) (au 7) (dw (az nU (az JG (aA Gh 5 (bz 7)) (Zi 1)) (Zi 1))) (aA gM 2 (bz 7))) aj)) (au 6)
def mk(d:Nat):D:=match vp [Zn,Zn,Zf known,Zn,Zn,Zf (.int d),Zn] with
 | .nx e=>(match e[6]? with|some (some (_,z))=>z|_=>.non)
 | _=>.non
def AllB(P:Nat->Prop):Nat->Prop
 | 0=>True
 | n+1=>AllB P n/\P n
theorem Xf{P:Nat->Prop}:∀{n:Nat},AllB P n->∀d,d<n->P d
 | 0,_,d,h=>absurd h (Nat.not_lt_zero d)
 | n+1,⟨a,b⟩,d,h=>by
  by_cases e:d=n
  ·subst e;exact b
  ·exact Xf a d (by omega)
theorem marks(d:Nat)(hd:d<32)(a b c e f:OD):vp [a,b,Zf known,c,e,Zf (.int d),f] = .nx [a,b,Zf known,c,e,Zf (.int d),Zf (mk d)]:=by refine Xf (P:=λd=>vp [a,b,Zf known,c,e,Zf (.int (d:Nat)),f] = .nx [a,b,Zf known,c,e,Zf (.int (d:Nat)),Zf (mk d)]) ?_ d hd;and_intros<;>first|exact True.intro|kernel_rfl
def ahz:D->Bool
 | .lst _=>true
 | _=>false
theorem VR(d:Nat)(hd:d<32):∃zs,mk d = .lst zs:=by
 have h:((List.range 32).all λd=>ahz (mk d))=true:=by decide +kernel
 have h1:=Qq5.mp h d (Qxz.mpr hd);cases e:mk d with
 | lst zs=>exact⟨zs,rfl⟩
 | _=>rw[e] at h1;cases h1
theorem HJ{i:Nat}{a:Ev}{env e:Ev.Env}{d:D}{xs x0:List D}(h0:env[i]? = some (Zl x0))(h1:a env = .ok d e)(h2:e[i]? = some (Zl xs))(hz:xs.length<sizeLine):vq i a env = .nx (e.set i (Zl (xs++[d]))):=by unfold vq;rw[h0];show km (a env) _=_;rw[h1];show(match e[i]? with|some (some (true,.lst xs))=>if xs.length<sizeLine then Out.nx (e.set i (Zl (xs++[d]))) else .stuck|_=>.stuck)=_;rw[h2];show(if xs.length<sizeLine then _ else _)=_;rw[if_pos hz]
def pq:cC:=aP (bF (dH bf 0 (aa (Zi 32) aj)) (au 5)) (aP vp (vq 3 (cU (Zv 4 (aa (aq fZ (aa (CG (aM 6) iQ (nT (Zi 4))) aj)) aj)))))
structure XOk(x:List Nat):Prop where
 len:x.length<=4
 pos:0<x.length
 nd:x.Nodup
 ne:35 ∉ x
inductive XSt
 | mk
def XS:XSt:=.mk
instance:Membership (List Nat) XSt:=⟨λ_ x=>XOk x⟩
theorem yW{x:List Nat}(h:x∈XS):XOk x:=h
theorem Xk{x:List Nat}(h:XOk x):x∈XS:=h
theorem sG:∀x∈XS,x.length<=4:=λ_ h=>(yW h).len
theorem Xj{x:List Nat}(h:x∈XS):(∃a,x=[a])\/(∃a b,x=[a,b])\/(∃a b c,x=[a,b,c])\/∃a b c d,x=[a,b,c,d]:=by
 have h1:=(yW h).len;have h2:=(yW h).pos
 match x,h1,h2 with
 | [a],_,_=>exact .inl ⟨a,rfl⟩
 | [a,b],_,_=>exact .inr (.inl ⟨a,b,rfl⟩)
 | [a,b,c],_,_=>exact .inr (.inr (.inl ⟨a,b,c,rfl⟩))
 | [a,b,c,d],_,_=>exact .inr (.inr (.inr ⟨a,b,c,d,rfl⟩))
theorem join_eq:∀x∈XS,fY (.str []) (.lst (fW x))=some (.str x):=by intro x hx;rcases Xj hx with ⟨a,rfl⟩|⟨a,b,rfl⟩|⟨a,b,c,rfl⟩|⟨a,b,c,d,rfl⟩<;>rfl
theorem aaA{a:dq}{env e:Ev.Env}{ds ys:List D}(h:a env = .ok ds e)(h':nA ds=some ys):dY a env = .ok ys e:=by
 unfold dY;rw[h];show fX (nA ds) e=_;rw[h']
 rfl
theorem mF(n:Int)(m:Nat)(h0:0<m)(h1:m<1073741824):bf [.lst [.int n],.int (m:Int)]=some (.int (n % m),.lst [.int (n / m)]):=by
 refine jl (env:=[Zl [.int (n / m)],Zf (.int m),Zf (.int (n % m))]) ?_ rfl;unfold iR;have g:wu [.int n,.int (m:Int)]=some (.tup [.int (n / m),.int (n % m)]):=by show(if 0<(m:Int)/\(m:Int)<1073741824 then _ else _)=_;rw[if_pos (by omega)]
 refine(aG (e:=[Zl [.int (n / m)],Zf (.int m),Zf (.int (n % m))]) ?_).trans rfl;exact bL (aH (by rfl) g) (by rfl)
def M(x:List Nat):Nat:=2*2^x.length - 1
def Ul:cC:=aP (bF (az bK (Zw [35]) (bz 1)) (au 3)) (bA (aq fZ (aa (gb 4 5 (dY (aa (aq dD (aa (bz 3) aj)) aj)) (au 4) (dw (az nU (az JG (aA Gh 2 (bz 4)) (Zi 1)) (Zi 1))) (aA gM 3 (bz 4))) aj)))
def bit(d k:Nat):Bool:=Builtin.bitAnd ((1+(d:Int)) / 2^k) 1 == 1
def sgR(x:List Nat)(d:Nat):D:=.tup ((((List.range (x.length+1)).filter (bit d)).map λk=>(35::x).getD k 0).map λc=>.str [c])
def SG(x:List Nat):List D:=.non::(List.range (M x)).map (sgR x)
theorem Yt(a:OD):∀x∈XS,∀d,d<M x->∃e3,Ul [a,Zs x,Zf (.int (1+(d:Int))),Zn] = .rt false (sgR x d) [a,Zs x,Zf (.int (1+(d:Int))),e3]:=by
 intro x hx d hd;have hl:=sG x hx;refine⟨Zs (35::x),?_⟩;unfold Ul;refine(aG (bL (d:=.str (35::x)) (aJ rfl rfl ?_) rfl)).trans ?_
 ·unfold bK;exact if_pos (Qqy (show 1+x.length<=5 by omega) (by decide))
 ·have h:gb 4 5 (dY (aa (aq dD (aa (bz 3) aj)) aj)) (au 4) (dw (az nU (az JG (aA Gh 2 (bz 4)) (Zi 1)) (Zi 1))) (aA gM 3 (bz 4)) [a,Zs x,Zf (.int (1+(d:Int))),Zs (35::x)] = .ok (.lst (((List.range (x.length+1)).filter (bit d)).map λk=>.str [(35::x).getD k 0])) [a,Zs x,Zf (.int (1+(d:Int))),Zs (35::x)]:=by
   refine Gs (n:=5) (List.range (x.length+1)) (λ(k:Nat)=>.int (k:Int)) (bit d) (λk=>.str [(35::x).getD k 0]) ?_ rfl rfl (λk hk=>?_) (λk hk _=>?_) (by rw[List.length_range];exact Qqy (show x.length+1<=5 by omega) (by decide))
   ·exact aaA rfl (Yy (Qzv (show(35::x).length<=5 by rw[Qqk];omega) (by decide)))
   ·refine cF (aJ (aJ (x:=.int ((1+(d:Int)) / 2^k)) ?_ rfl rfl) rfl rfl);refine jQ (i:=2) rfl rfl rfl ?_;unfold Gh gI;simp only;rw[if_pos (Qw2 (Int.natCast_nonneg k)),Qz9]
   ·refine jQ (i:=3) rfl rfl rfl ?_;show(ue (35::x) (k:Int)).map _=_;have hk':k<(35::x).length:=Qxz.mp hk;rw[dZ (v:=(35::x).getD k 0) (by rw[Qzj,Qx4 hk'];rfl)]
    rfl
  refine bY (aH (aB h aX) ?_);unfold sgR;rw[Qxk]
  rfl
theorem signs(n:Int)(x:List Nat)(hx:x∈XS):∃r n',dO [.lst [.int n],.str x]=some (r,.lst [.int n'])/\r∈SG x:=by
 obtain⟨d,hd,e⟩:=dig n 2 (by decide);have t:dw (az nU (dH bf 0 (aa (Zi 2) aj)) (Zi 0)) [Zl [.int n],Zs x,Zn,Zn] = .ok ((d:Int) == 0) [Zl [.int (n / 2)],Zs x,Zn,Zn]:=by
  rw[<-e]
  rfl
 have hc:d=0\/d=1:=by omega
 rcases hc with rfl|rfl
 ·refine⟨.non,n / 2,jl (env:=[Zl [.int (n / 2)],Zs x,Zn,Zn]) ?_ rfl,Qqv ..⟩;unfold gR;refine(iB ?_).trans rfl;exact(lX t).trans rfl
 ·obtain⟨k,hk,ek⟩:=dig (n / 2) (M x) (by unfold M;have:0<2^x.length:=Nat.two_pow_pos _;omega);obtain⟨e3,h3⟩:=Yt (Zl [.int (n / 2 / (M x:Int))]) x hx k hk;refine⟨sgR x k,n / 2 / (M x:Int),jl (env:=[Zl [.int (n / 2 / (M x:Int))],Zs x,Zf (.int (1+(k:Int))),e3]) ?_ rfl,Qq0 _ (Qwk.mpr ⟨k,Qxz.mpr hk,rfl⟩)⟩;unfold gR;refine(aG (e:=[Zl [.int (n / 2)],Zs x,Zn,Zn]) ?_).trans ?_
  ·exact(dg t).trans rfl
  ·refine(aG (e:=[Zl [.int (n / 2 / (M x:Int))],Zs x,Zf (.int (1+n / 2 % (M x:Int))),Zn]) ?_).trans ?_
   ·have hM:az uO (az R4 (Zi 2) (aq dD (aa (bz 1) aj))) (Zi 1) [Zl [.int (n / 2)],Zs x,Zn,Zn] = .ok (.int (M x:Int)) [Zl [.int (n / 2)],Zs x,Zn,Zn]:=by
     have hl:=sG x hx;refine aJ (x:=.int (2*2^x.length)) (aJ rfl rfl ?_) rfl ?_
     ·unfold R4 gI;simp only;rw[if_pos (Qw2 ⟨Int.natCast_nonneg _,by omega,by decide⟩),Qz9]
     ·show some (D.int (2*2^x.length - 1))=_;have hp:0<2^x.length:=Nat.two_pow_pos _;have e:((M x:Nat):Int)=2*2^x.length - 1:=by
       unfold M;rw[Int.natCast_sub (by omega),Int.natCast_mul,Int.natCast_pow]
       rfl
      rw[e]
    have ht:bf [.lst [.int (n / 2)],.int (M x:Int)]=some (.int (n / 2 % (M x:Int)),.lst [.int (n / 2 / (M x:Int))]):=by have hl:=sG x hx;have hp:0<2^x.length:=Nat.two_pow_pos _;have hq:2^x.length<=2^4:=Nat.pow_le_pow_right (by decide) hl;exact mF (n / 2) (M x) (by unfold M;omega) (by unfold M;omega)
    refine bL (aJ rfl (g8 rfl (aB hM aX) rfl ht) rfl) rfl
   ·rw[ek];exact h3
def oth(x:List Nat)(c:Nat):List D:=((x.map (λa=>[a])++[[]]).filter λz=>z != [c]).map .str
def PV(x:List Nat):List (Nat×D):=x.flatMap λc=>(oth x c).map λv=>(c,v)
def one:cC:=bF (aA gM 1 (dH bf 0 (aa (aq dD (aa (bz 1) aj)) aj))) (au 4)
def others:cC:=lH 5 (gb 6 7 (gO (az bK (aq DQ (aa (bz 1) aj)) (cM (aa (Zw []) aj)))) (au 6) (dw (aA Gm 6 (bz 4))) (aM 6))
def Vd:cC:=uv 2 (aM 4) (aA gM 5 (dH bf 0 (aa (aq dD (aa (bz 5) aj)) aj)))
theorem Rm(a b v3 v5:OD):∀x∈XS,∀c∈x,others [a,Zs x,b,v3,Zs [c],v5] = .nx [a,Zs x,b,v3,Zs [c],Zl (oth x c)]:=by
 intro x hx c hc;have hl:=sG x hx;unfold others;refine(zT (e:=[a,Zs x,b,v3,Zs [c],v5]) ?_).trans rfl;have h5:(x.map (λa=>[a])++[[]]).length<=5:=by rw[Qqq,Qqz];exact Nat.succ_le_succ hl
 refine Gs (n:=7) (x.map (λa=>[a])++[[]]) D.str (λz=>z != [c]) D.str ?_ rfl rfl (λz hz=>rfl) (λz hz _=>rfl) (Qqy h5 (by decide));refine qx (d:=.lst (((x.map λa=>[a])++[[]]).map D.str)) (aJ rfl rfl ?_) rfl;rw[Qx1,Qxk];refine wy (a:=fW x) ?_;unfold fW;rw[Qqz];exact Qqy (Nat.succ_le_succ hl) (by decide)
theorem ZC:∀x∈XS,∀c∈x,(oth x c).length=x.length:=by
 intro x hx c hc;have h1:=List.length_erase_of_mem hc;rw[(yW hx).nd.erase_eq_filter] at h1;have e:(λz:List Nat=>z != [c]) ∘ (λa=>[a])=λa=>a != c:=by
  funext a
  by_cases h:a=c
  ·subst h;show([a] != [a])=(a != a);rw[bne_self_eq_false,bne_self_eq_false]
  ·show([a] != [c])=(a != c);rw[bne_iff_ne.mpr h,bne_iff_ne.mpr λq=>h (List.cons.inj q).1]
 unfold oth;rw[Qqz,List.filter_append,List.filter_map,e,Qqq,Qqz,h1];have:=(yW hx).pos;show x.length - 1+1=_;omega
theorem GR:∀x∈XS,0<x.length:=λ_ h=>(yW h).pos
theorem QM{i:Nat}{k a:Ev}{env e1 e2:Ev.Env}{d kd x0:D}{o:Bool}{q:Key}{kvs:List (D×D)}(h1:a env = .ok d e1)(h2:e1[i]? = some (some (o,x0)))(h3:k e1 = .ok kd e2)(h4:e2[i]? = some (Zt (.dct kvs)))(h5:zj kd=some q)(hz:kvs.length<sizeLine) :
  uv i k a env = .nx (e2.set i (Zt (.dct (putD kvs kd q d)))):=by
 unfold uv;rw[h1];simp only[km];rw[h2];simp only;rw[h3];simp only;rw[h4,h5];simp only;rw[if_pos hz]
def ado(kvs:List (D×D))(p:Nat×D):List (D×D):=putD kvs (.str [p.1]) (.inr (strOf [p.1])) p.2
theorem round(n:Int)(x:List Nat)(hx:x∈XS)(kvs:List (D×D))(hk:kvs.length<=10)(v3 v4 v5:OD):∃p n' v4' v5',p∈PV x/\aP one (aP others Vd) [Zl [.int n],Zs x,Zt (.dct kvs),v3,v4,v5] = .nx [Zl [.int n'],Zs x,Zt (.dct (ado kvs p)),v3,v4',v5']:=by
 have hp:=GR x hx;have hl4:=sG x hx;obtain⟨d,hd,e⟩:=dig n x.length hp;have hc:x[d]∈x:=List.getElem_mem hd;have hol:=ZC x hx x[d] hc;obtain⟨d',hd',e'⟩:=dig (n / (x.length:Int)) x.length hp;have hv:d'<(oth x x[d]).length:=by rw[hol];exact hd'
 refine⟨(x[d],(oth x x[d])[d']),n / (x.length:Int) / (x.length:Int),Zs [x[d]],Zl (oth x x[d]),?_,?_⟩
 ·unfold PV;exact List.mem_flatMap.mpr ⟨x[d],hc,Qwk.mpr ⟨_,List.getElem_mem hv,rfl⟩⟩
 ·refine(aG (e:=[Zl [.int (n / (x.length:Int))],Zs x,Zt (.dct kvs),v3,Zs [x[d]],v5]) ?_).trans ?_
  ·unfold one;refine bL (e:=[Zl [.int (n / (x.length:Int))],Zs x,Zt (.dct kvs),v3,v4,v5]) ?_ (by rfl);refine jQ (y:=.int (n % (x.length:Int))) (by rfl) ?_ (by rfl) ?_
   ·exact g8 (e1:=[Zl [.int n],Zs x,Zt (.dct kvs),v3,v4,v5]) (by rfl) (by rfl) (by rfl) (mF n x.length hp (by omega))
   ·show(ue x (n % (x.length:Int))).map _=_;rw[e,M9 hd]
    rfl
  ·refine(aG (Rm _ _ _ _ x hx x[d] hc)).trans ?_;unfold Vd;refine(QM (e1:=[Zl [.int (n / (x.length:Int) / (x.length:Int))],Zs x,Zt (.dct kvs),v3,Zs [x[d]],Zl (oth x x[d])])
    ?_ (by rfl) (by rfl) (by rfl) (by rfl) (Qzv hk (by decide))).trans rfl
   refine jQ (y:=.int (n / (x.length:Int) % (x.length:Int))) (by rfl) ?_ (by rfl) ?_
   ·refine g8 (e1:=[Zl [.int (n / (x.length:Int))],Zs x,Zt (.dct kvs),v3,Zs [x[d]],Zl (oth x x[d])]) (by rfl) ?_ (by rfl) (mF _ x.length hp (by omega));refine aB ?_ aX;refine aH (by rfl) ?_;show some (D.int ((oth x x[d]).length:Int))=_;rw[hol]
   ·show ue (oth x x[d]) (n / (x.length:Int) % (x.length:Int))=_;rw[e',M9 hv]
def aaL(kvs:List (D×D)):Option D:=match jB [.dct kvs] with
 | some (.lst ks)=>if (ks.all λk=>(my (.dct kvs) k).isSome) then some (.tup (ks.map λk=>.tup [k,(my (.dct kvs) k).getD .non])) else none
 | _=>none
def afo:cC:=bA (aq fZ (aa (gb 6 7 (gO (aq jB (aa (bz 2) aj))) (au 6) cP (cU (Zv 6 (aa (aA my 2 (bz 6)) aj)))) aj))
theorem Jz{kvs:List (D×D)}{ks:List D}(h:jB [.dct kvs]=some (.lst ks)):ks.length<=64:=by
 obtain⟨zs,h1,h2⟩:=Qxy.mp h;split at h2
 ·rename_i hz;cases h2;rw[Qqz,(gV zs).length_eq];omega
 ·cases h2
theorem Gy{kvs:List (D×D)}{ch:D}(h:aaL kvs=some ch)(a b v3 v4 v5:OD):afo [a,b,Zt (.dct kvs),v3,v4,v5] = .rt false ch [a,b,Zt (.dct kvs),v3,v4,v5]:=by
 unfold aaL at h;split at h
 ·rename_i ks hs;split at h
  ·rename_i hall;cases h;obtain⟨env',h1,v6,rfl⟩:=O6 (g:=au 6) (e:=cU (Zv 6 (aa (aA my 2 (bz 6)) aj))) (λenv=>∃v6,env=[a,b,Zt (.dct kvs),v3,v4,v5,v6]) (λk=>.tup [k,(my (.dct kvs) k).getD .non]) ks [a,b,Zt (.dct kvs),v3,v4,v5,Zn] ⟨none,rfl⟩
    (λk hk env ⟨v6,he⟩=>by
     subst he;obtain⟨v,hv⟩:=Qz1.mp (Qq5.mp hall k hk);refine⟨_,[a,b,Zt (.dct kvs),v3,v4,v5,Zf k],rfl,?_,Zf k,rfl⟩;rw[hv];exact fC (aB (d:=k) (by rfl) (aB (d:=v) (jQ (y:=k) (by rfl) (by rfl) (by rfl) hv) aX)) Ev.X6)
   refine bY (aH (ds:=[.lst (ks.map λk=>.tup [k,(my (.dct kvs) k).getD .non])]) (aB ?_ aX) rfl);refine wC (n:=7) (aD:=[a,b,Zt (.dct kvs),v3,v4,v5]) ?_ (by rfl) h1 ?_
   ·exact qx (aH (by rfl) hs) rfl
   ·rw[Qqz];exact Qqy (Jz hs) (by decide)
  ·cases h
 ·cases h
structure G4(x:List Nat)(kvs:List (D×D))(zs:List Nat):Prop where
 keys:kvs.map (·.1)=zs.map λc=>D.str [c]
 nd:zs.Nodup
 mem:∀c∈zs,c∈x
 vals:∀k v,(k,v)∈kvs->∃c,k = .str [c]/\(c,v)∈PV x
theorem sJ{a b:List Nat}(h:strOf a=strOf b):a=b:=by
 have:=Qzw (λs:Str=>s.cps.toList) h
 simpa[strOf] using this
theorem xG(q:Key)(d:D):∀kvs:List (D×D),(zb kvs q d).map (·.1)=kvs.map (·.1)
 | []=>rfl
 | (k,e)::r=>by
  unfold zb;rw[Qq8,Qq8,xG q d r];split<;>rfl
theorem HN{q:Key}{d:D}:∀{kvs:List (D×D)} {k v:D},(k,v)∈zb kvs q d->(k,v)∈kvs\/(zj k=some q/\v=d)
 | [],_,_,h=>by simp[zb] at h
 | (k',e)::r,k,v,h=>by
  unfold zb at h;rcases Qqw.mp h with h|h
  ·split at h
   ·rename_i hk;cases h;exact .inr ⟨hk,rfl⟩
   ·cases h;exact .inl (Qqv ..)
  ·rcases HN h with h|h
   ·exact .inl (Qq0 _ h)
   ·exact .inr h
theorem xq{q:Key}:∀{kvs:List (D×D)},xr kvs q=none->∀k v,(k,v)∈kvs->zj k≠some q
 | [],_,k,v,hm=>by simp at hm
 | (k',e)::r,h,k,v,hm=>by
  unfold xr at h;split at h
  ·cases h
  ·rename_i hk;rcases Qqw.mp hm with hm|hm
   ·cases hm;exact hk
   ·exact xq h k v hm
theorem xn{q:Key}{d:D}:∀{kvs:List (D×D)},xr kvs q=some d->∃k,(k,d)∈kvs/\zj k=some q
 | [],h=>by simp[xr] at h
 | (k',e)::r,h=>by
  unfold xr at h;split at h
  ·rename_i hk;cases h;exact⟨k',Qqv ..,hk⟩
  ·obtain⟨k,h1,h2⟩:=xn h;exact⟨k,Qq0 _ h1,h2⟩
theorem G4.put{x:List Nat}{kvs:List (D×D)}{zs:List Nat}(h:G4 x kvs zs){p:Nat×D}(hp:p∈PV x)(hx:p.1∈x):∃zs',G4 x (ado kvs p) zs'/\0<zs'.length/\zs'.length<=zs.length+1:=by
 unfold ado putD;cases e:xr kvs (.inr (strOf [p.1])) with
 | none=>
  simp only[Option.isSome_none,Bool.false_eq_true,if_false];refine⟨zs++[p.1],⟨?_,?_,λc hc=>?_,λk v hm=>?_⟩,by simp,by simp⟩
  ·rw[Qx1,Qx1,h.keys];rfl
  ·refine List.nodup_append.mpr ⟨h.nd,Qkq.mpr ⟨Qwv,.nil⟩,λa ha b hb=>?_⟩;rcases Qwz.mp hb with rfl;rintro rfl;have hm:D.str [p.1]∈kvs.map (·.1):=by rw[h.keys];exact Qwk.mpr ⟨p.1,ha,rfl⟩
   obtain⟨⟨k,v⟩,h1,h2⟩:=Qwk.mp hm;have h2':k = .str [p.1]:=h2;subst h2';exact xq e _ _ h1 rfl
  ·rcases Qxx.mp hc with hc|hc
   ·exact h.mem c hc
   ·rw[Qwz.mp hc];exact hx
  ·rcases Qxx.mp hm with hm|hm
   ·exact h.vals k v hm
   ·have:=Qwz.mp hm;cases this;exact⟨p.1,rfl,hp⟩
 | some w=>
  simp only[Option.isSome_some,if_true];obtain⟨k0,hk0,_⟩:=xn e;have hne:0<zs.length:=by have:=Qzw List.length h.keys;rw[Qqz,Qqz] at this;rw[<-this];exact List.length_pos_of_mem hk0
  refine⟨zs,⟨by rw[xG];exact h.keys,h.nd,h.mem,λk v hm=>?_⟩,hne,Nat.le_succ _⟩;rcases HN hm with hm|⟨hk,rfl⟩
  ·exact h.vals k v hm
  ·have hin:k∈(zb kvs (.inr (strOf [p.1])) p.2).map (·.1):=Qwk.mpr ⟨_,hm,rfl⟩;rw[xG,h.keys] at hin;obtain⟨c,hc,rfl⟩:=Qwk.mp hin;have:strOf [c]=strOf [p.1]:=by
    have:=Qxj hk;exact Sum.inr.inj this
   have e2:=sJ this;cases e2;exact⟨p.1,rfl,hp⟩
theorem Nk{x:List Nat}{p:Nat×D}(h:p∈PV x):p.1∈x:=by unfold PV at h;obtain⟨c,hc,h⟩:=List.mem_flatMap.mp h;obtain⟨v,_,rfl⟩:=Qwk.mp h;exact hc
theorem sI(zs:List (List Nat)):gB (zs.map D.str)=some zs:=by
 induction zs with
 | nil=>rfl
 | cons z r ih=>
  rw[Qq8];unfold gB;rw[ih]
  rfl
theorem QT{x:List Nat}{kvs:List (D×D)}{zs:List Nat}(h:G4 x kvs zs)(h4:zs.length<=4):jB [.dct kvs]=some (.lst ((fV (zs.map λc=>[c])).map .str)):=by
 have e:kvs.map (·.1)=(zs.map λc=>[c]).map D.str:=by rw[h.keys,Qxk];rfl
 show(gB (kvs.map (·.1))).bind _=_;rw[e,sI];show(if _ then _ else _)=_;rw[if_pos];refine⟨by rw[Qqz];omega,λz hz=>?_⟩;obtain⟨c,_,rfl⟩:=Qwk.mp hz;show 1<=sizeLine
 decide
def prs(kvs:List (D×D))(ks:List D):List D:=ks.map λk=>.tup [k,(my (.dct kvs) k).getD .non]
theorem Ga{x:List Nat}{kvs:List (D×D)}{zs:List Nat}(h:G4 x kvs zs)(k:D)(hk:k∈(fV (zs.map λc=>[c])).map D.str):∃c v,k = .str [c]/\my (.dct kvs) k=some v/\(c,v)∈PV x:=by
 obtain⟨z,hz,rfl⟩:=Qwk.mp hk;obtain⟨c,hc,rfl⟩:=Qwk.mp ((gV _).mem_iff.mp hz);have hm:D.str [c]∈kvs.map (·.1):=by rw[h.keys];exact Qwk.mpr ⟨c,hc,rfl⟩
 obtain⟨⟨k,v⟩,h1,h2⟩:=Qwk.mp hm;have h2':k = .str [c]:=h2;subst h2';cases e:xr kvs (.inr (strOf [c])) with
 | none=>exact absurd rfl (xq e _ _ h1)
 | some w=>
  obtain⟨k',h3,h4⟩:=xn e;obtain⟨c',rfl,h5⟩:=h.vals k' w h3;have e2:strOf [c']=strOf [c]:=Sum.inr.inj (Qxj h4);cases sJ e2;exact⟨c,w,rfl,e,h5⟩
theorem Gz{x:List Nat}{kvs:List (D×D)}{zs:List Nat}(h:G4 x kvs zs)(h4:zs.length<=4):aaL kvs=some (.tup (prs kvs ((fV (zs.map λc=>[c])).map D.str))):=by
 unfold aaL;rw[QT h h4];simp only;rw[if_pos]
 ·rfl
 ·refine Qq5.mpr λk hk=>?_;obtain⟨c,v,_,e,_⟩:=Ga h k hk;rw[e];rfl
end wR
namespace K20
open Ev PySem L2
open wR (mF)
theorem V1{g:GV}{e:Ev}(P:Ev.Env->Prop)(R:D->Prop):∀(ds:List D) (env:Ev.Env),P env->(∀d∈ds,∀env,P env->∃y e1 e2,g d env=some e1/\e e1 = .ok y e2/\P e2/\R y)->∃ys env',Cw g cP e ds env = .ok ys env'/\P env'/\(∀y∈ys,R y)/\ys.length=ds.length
 | [],env,hp,_=>⟨[],env,rfl,hp,λy hy=>by simp at hy,rfl⟩
 | d::ds,env,hp,h=>by
  obtain⟨y,e1,e2,h1,h2,h3,h4⟩:=h d (Qqv ..) env hp;obtain⟨ys,e3,h5,h6,h7,h8⟩:=V1 P R ds e2 h3 λd' hd=>h d' (Qq0 _ hd);refine⟨y::ys,e3,?_,h6,λz hz=>?_,by rw[Qqk,Qqk,h8]⟩
  ·unfold Cw;rw[h1];show bindR (e e1) _=_;rw[h2];show bindR (Cw g cP e ds e2) _=_;rw[h5]
   rfl
  ·rcases Qqw.mp hz with rfl|hz
   ·exact h4
   ·exact h7 z hz
theorem Yy{j:Nat}(h:j<1000):nA [.int (j:Int)]=some (iz 0 1 j):=by
 have hf:lD (j:Int)=true:=by unfold lD;rw[Qwx];exact⟨Qw2 (by omega),Qw2 (by omega)⟩
 unfold nA;simp only;rw[if_pos hf,Qz9]
theorem Wz{a:dq}{env e:Ev.Env}{ds ys:List D}(h:a env = .ok ds e)(h':nA ds=some ys):dY a env = .ok ys e:=by
 unfold dY;rw[h];show fX (nA ds) e=_;rw[h']
 rfl
def texts(x:List Nat):List (List Nat):=[[],[x.headD 0],[x.getLastD 0],[x.headD 0,x.headD 0],[x.headD 0,x.getLastD 0]]
end K20
namespace KX
open Ev PySem L2 PySem.Spec
theorem bG(sep p q:List Nat)(ps:List (List Nat)):bQ sep (p::q::ps)=p++sep++bQ sep (q::ps):=by
 have h:∀(r:List (List Nat)) (a b:List Nat),r.foldl (λacc y=>acc++sep++y) (a++b)=a++r.foldl (λacc y=>acc++sep++y) b:=by
  intro r
  induction r with
  | nil=>intro a b;rfl
  | cons y r ih=>intro a b;rw[Qx3,Qx3,Qww,Qww,ih,<-Qww b]
 show(q::ps).foldl (λacc y=>acc++sep++y) p=_;rw[Qx3];exact h ps (p++sep) q
open Ev PySem L2
open wR (sI)
structure Xw(xs:List (List Nat))(n m:Nat):Prop where
 len:xs.length<=n
 each:∀p∈xs,p.length<=m
theorem xD{m:Nat}:∀(xs:List (List Nat)),(∀p∈xs,p.length<=m)->(xs.map List.length).sum<=xs.length*m
 | [],_=>by simp
 | p::xs,h=>by
  rw[Qq8,Qjk,Qqk,Nat.succ_mul,Nat.add_comm];exact Nat.add_le_add (xD xs λq hq=>h q (Qq0 _ hq)) (h p (Qqv ..))
theorem Xw.sum{xs:List (List Nat)}{n m:Nat}(h:Xw xs n m):(xs.map List.length).sum<=n*m:=
 Qqy (xD xs h.each) (Nat.mul_le_mul_right _ h.len)
theorem DK(sep:List Nat):∀xs:List (List Nat),(bQ sep xs).length<=(xs.map List.length).sum+xs.length*sep.length
 | []=>Qzk _
 | [p]=>by show p.length<=_;simp
 | p::q::r=>by
  have:=DK sep (q::r);rw[bG,Qqq,Qqq,Qq8,Qjk,Qqk,Nat.succ_mul];omega
theorem Xw.join{xs:List (List Nat)}{n m:Nat}(h:Xw xs n m){sep:List Nat}(hs:sep.length<=2):(bQ sep xs).length<=n*m+n*2:=
 Qqy (DK sep xs) (Nat.add_le_add h.sum (Nat.mul_le_mul h.len hs))
theorem Xw.fits{xs:List (List Nat)}{n m:Nat}(h:Xw xs n m){sep:List Nat}(hs:sep.length<=2)(hb:n*m+n*2<=100000):joinFits sep xs=true:=
 Qw2 (Qqy (Qqy (Nat.add_le_add h.sum (Nat.mul_le_mul h.len hs)) hb) (by decide))
theorem Gb{xs:List (List Nat)}{n m:Nat}(h:Xw xs n m){sep:List Nat}(hs:sep.length<=2)(hb:n*m+n*2<=100000):fY (.str sep) (.lst (xs.map .str))=some (.str (bQ sep xs)):=by show(match gB (xs.map D.str) with|some xs=>if joinFits sep xs=true then some (D.str (bQ sep xs)) else none|none=>none)=_;rw[sI];exact if_pos (h.fits hs hb)
theorem aeM{xs:List (List Nat)}{n m:Nat}(h:Xw xs n m){sep:List Nat}(hs:sep.length<=2)(hb:n*m+n*2<=100000):uP (.str sep) (.tup (xs.map .str))=some (.str (bQ sep xs)):=by show(match gB (xs.map D.str) with|some xs=>if joinFits sep xs=true then some (D.str (bQ sep xs)) else none|none=>none)=_;rw[sI];exact if_pos (h.fits hs hb)
theorem xV{z:List Nat}:∀(a b:List (List Nat)),z ∉ a->je z (a++z::b)=some a.length
 | [],b,_=>by show(if z=z then _ else _)=_;rw[if_pos rfl];rfl
 | y::a,b,h=>by
  show(if y=z then some 0 else (je z (a++z::b)).map (·+ 1))=_;rw[if_neg λe=>h (by rw[e];exact Qqv ..),xV a b λq=>h (Qq0 _ q)]
  rfl
theorem Gw{α:Type}(xs:List α)(k:Nat):cutD xs none (some (k:Int))=xs.take k:=by unfold cutD;rw[HT.vG];show(xs.drop 0).take (min k xs.length - 0)=_;rw[List.drop_zero,Nat.sub_zero];exact List.take_eq_take_min.symm
end KX
namespace KP
open Ev PySem L2 PySem.Spec
theorem M8(x y:List Nat)(k:Nat):StrLaws.At (strOf x) (strOf y) (strOf x).length k↔k+y.length<=x.length/\(x.drop k).take y.length=y:=by
 show(k+(strOf y).length<=(strOf x).length/\Builtin.Str.subAt (strOf x) (strOf y) k=true)↔_;rw[StrLaws.subAt_eq,aU,aU,beq_iff_eq];have e:∀z:List Nat,(strOf z).cps.toList=z:=λz=>by simp[strOf]
 rw[e,e]
theorem bG(sep p q:List Nat)(ps:List (List Nat)):bQ sep (p::q::ps)=p++sep++bQ sep (q::ps):=by
 have h:∀(r:List (List Nat)) (a b:List Nat),r.foldl (λacc y=>acc++sep++y) (a++b)=a++r.foldl (λacc y=>acc++sep++y) b:=by
  intro r
  induction r with
  | nil=>intro a b;rfl
  | cons y r ih=>intro a b;rw[Qx3,Qx3,Qww,Qww,ih,<-Qww b]
 show(q::ps).foldl (λacc y=>acc++sep++y) p=_;rw[Qx3];exact h ps (p++sep) q
def Np(sep p:List Nat):Prop:=∀k,k<p.length->((p++sep).drop k).take sep.length≠sep
theorem Np.of{c:Nat}{r p:List Nat}(h:c ∉ p):Np (c::r) p:=λk hk e=>by
 have:=Qzw List.head? e;rw[Qqk,List.head?_take,if_neg (by omega),List.head?_drop,Qxq hk] at this;exact h (Qj7 this)
theorem Np.last{sep p pre:List Nat}(h:Np sep p)(hs:0<sep.length){k:Nat}(hk:pre.length<=k):¬StrLaws.At (strOf (pre++p)) (strOf sep) (strOf (pre++p)).length k:=λe=>by
 obtain⟨h1,h2⟩:=(M8 _ sep k).mp e;obtain⟨j,rfl⟩:=Nat.exists_eq_add_of_le hk;rw[Qqq] at h1;rw[List.drop_append,List.drop_of_length_le (Nat.le_add_right _ _),Qz4,Nat.add_sub_cancel_left] at h2;refine h j (by omega) ?_;rw[List.drop_append_of_le_length (by omega),List.take_append_of_le_length (by rw[Qxv];omega)];exact h2
theorem Np.mid{sep p pre rest:List Nat}(h:Np sep p){k:Nat}(hk:pre.length<=k)(hk2:k<pre.length+p.length):¬StrLaws.At (strOf (pre++(p++sep++rest))) (strOf sep) (strOf (pre++(p++sep++rest))).length k:=λe=>by
 obtain⟨h1,h2⟩:=(M8 _ sep k).mp e;obtain⟨j,rfl⟩:=Nat.exists_eq_add_of_le hk;rw[List.drop_append,List.drop_of_length_le (Nat.le_add_right _ _),Qz4,Nat.add_sub_cancel_left] at h2;refine h j (by omega) ?_;rw[List.drop_append_of_le_length (by rw[Qqq];omega),List.take_append_of_le_length (by rw[Qxv,Qqq];omega)] at h2;exact h2
theorem Ss{x y:Str}{hi a f:Nat}(h:StrLaws.ChainG x y hi a [] f):f=a:=by unfold StrLaws.ChainG at h;exact h
theorem Ir{sep:List Nat}(hs:0<sep.length):∀(ps:List (List Nat)) (p:List Nat) (pre:List Nat) (cuts:List Nat) (f:Nat) (x:List Nat),x=pre++bQ sep (p::ps)->(∀q∈p::ps,Np sep q)->
  StrLaws.ChainG (strOf x) (strOf sep) (strOf x).length pre.length cuts f->(∀k,f<=k->¬StrLaws.At (strOf x) (strOf sep) (strOf x).length k)->
  (StrLaws.partsFrom (strOf x) sep.length pre.length cuts).map (λs=>s.cps.toList)=p::ps
 | [],p,pre,cuts,f,x,hx,hp,hc,hf=>by
  have hx':x=pre++p:=hx;cases cuts with
  | nil=>
   show [(Builtin.Str.strSub (strOf x) pre.length (strOf x).length).cps.toList]=[p];rw[StrLaws.strSub_toList,aU];have e:(strOf x).cps.toList=x:=by simp[strOf]
   rw[e,hx',List.drop_left,Qqq,Nat.add_sub_cancel_left,List.take_length]
  | cons i cs=>
   have h:=hc;unfold StrLaws.ChainG at h;have h2:=h.2.1;rw[hx'] at h2;exact absurd h2 ((hp p (Qqv ..)).last hs h.1)
 | q::ps,p,pre,cuts,f,x,hx,hp,hc,hf=>by
  rw[bG] at hx;have hn:∀k,pre.length<=k->k<pre.length+p.length->¬StrLaws.At (strOf x) (strOf sep) (strOf x).length k:=λk hk hk2=>by
   rw[hx];exact(hp p (Qqv ..)).mid hk hk2
  have ha:StrLaws.At (strOf x) (strOf sep) (strOf x).length (pre.length+p.length):=by
   refine(M8 x sep _).mpr ⟨?_,?_⟩
   ·rw[hx,Qqq,Qqq,Qqq];omega
   ·have e:x=(pre++p)++(sep++bQ sep (q::ps)):=by rw[hx];simp
    rw[e,<-Qqq,List.drop_left,List.take_left]
  cases cuts with
  | nil=>
   have h:=Ss hc;subst h;exact absurd ha (hf _ (Nat.le_add_right _ _))
  | cons i cs=>
   have h:=hc;unfold StrLaws.ChainG at h;obtain⟨h1,h2,h3,h4⟩:=h;have hi:i=pre.length+p.length:=by
    rcases Nat.lt_trichotomy i (pre.length+p.length) with l|l|l
    ·exact absurd h2 (hn i h1 l)
    ·exact l
    ·exact absurd ha (h3 _ (Nat.le_add_right _ _) l)
   subst hi;show(Builtin.Str.strSub (strOf x) pre.length (pre.length+p.length)).cps.toList::(StrLaws.partsFrom (strOf x) sep.length (pre.length+p.length+sep.length) cs).map (λs=>s.cps.toList)=_;have e0:(strOf x).cps.toList=x:=by simp[strOf]
   have e1:(Builtin.Str.strSub (strOf x) pre.length (pre.length+p.length)).cps.toList=p:=by rw[StrLaws.strSub_toList,e0,hx,List.drop_left,Nat.add_sub_cancel_left,Qww,List.take_left]
   have e2:pre.length+p.length+sep.length=(pre++p++sep).length:=by rw[Qqq,Qqq]
   have e3:(strOf sep).length=sep.length:=aU _;rw[e3,e2] at h4;rw[e1,e2,Ir hs ps q (pre++p++sep) cs f x (by rw[hx];simp) (λz hz=>hp z (Qq0 _ hz)) h4 hf]
theorem Lg{sep:List Nat}(hs:0<sep.length)(hk:Builtin.Str.strKind (strOf sep)=1)(p:List Nat)(ps:List (List Nat))(hp:∀q∈p::ps,Np sep q):rn (bQ sep (p::ps)) sep=p::ps:=by
 have hk:∀z,¬Builtin.Str.strKind z<Builtin.Str.strKind (strOf sep):=λz=>by
  rw[hk];unfold Builtin.Str.strKind;split<;>(try split)<;>(try split)<;>omega
 unfold rn Txt.split;generalize hx:bQ sep (p::ps)=x;obtain⟨f,h1,h2⟩:=StrLaws.occ_tight (strOf x) (strOf sep) (by rw[aU];omega);have key:=Ir hs ps p [] _ f x (by rw[<-hx];rfl) hp h1 h2;split
 ·rename_i hc;have hl:x.length<sep.length:=by
   rcases Bool.or_eq_true_iff.mp hc with h|h
   ·have:=Qw5 h;rw[aU,aU] at this;exact this
   ·exact absurd (Qw5 h) (hk _)
  cases ps with
  | nil=>
   have:x=p:=hx.symm;show [(strOf x).cps.toList]=[p];rw[this];simp[strOf]
  | cons q ps=>
   rw[bG] at hx;rw[<-hx,Qqq,Qqq] at hl;omega
 ·split
  ·rename_i h0 he;have e:=List.isEmpty_iff.mp he;rw[e] at key;have:[(Builtin.Str.strSub (strOf x) 0 (strOf x).length).cps.toList]=p::ps:=key;rw[<-this,StrLaws.strSub_toList];have e0:(strOf x).cps.toList=x:=by simp[strOf]
   rw[e0,aU];simp[e0]
  ·rw[StrLaws.partsBetween_eq,aU];exact key
theorem strs_map(zs:List (List Nat)):gB (zs.map D.str)=some zs:=by
 induction zs with
 | nil=>rfl
 | cons z r ih=>rw[Qq8];show(gB _).map _=_;rw[ih];rfl
def jk(c:Nat):List Nat->List (List Nat)
 | []=>[[]]
 | a::t=>if a=c then []::jk c t else match jk c t with
  | []=>[[a]]
  | p::ps=>(a::p)::ps
theorem nq(c:Nat):∀t,∃p ps,jk c t=p::ps
 | []=>⟨_,_,rfl⟩
 | a::t=>by
  obtain⟨p,ps,e⟩:=nq c t;unfold jk;rw[e];split
  ·exact⟨_,_,rfl⟩
  ·exact⟨_,_,rfl⟩
theorem lJ(c:Nat):∀t,bQ [c] (jk c t)=t
 | []=>rfl
 | a::t=>by
  have ih:=lJ c t;obtain⟨p,ps,e⟩:=nq c t;unfold jk;rw[e] at ih ⊢;split
  ·rename_i h;rw[bG,ih,h]
   rfl
  ·show bQ [c] ((a::p)::ps)=_;cases ps with
   | nil=>rw[<-ih];rfl
   | cons q ps=>rw[bG] at ih ⊢;rw[<-ih];rfl
theorem vz(c:Nat):∀t,∀p∈jk c t,c ∉ p
 | [],p,h=>by rcases Qwz.mp h with rfl;exact Qwv
 | a::t,p,h=>by
  obtain⟨q,qs,e⟩:=nq c t;have ih:=vz c t;unfold jk at h;rw[e] at h ih;split at h
  ·rcases Qqw.mp h with rfl|h
   ·exact Qwv
   ·exact ih p h
  ·rename_i n;rcases Qqw.mp h with rfl|h
   ·intro hc;rcases Qqw.mp hc with rfl|hc
    ·exact n rfl
    ·exact ih q (Qqv ..) hc
   ·exact ih p (Qq0 _ h)
theorem T9(c:Nat):∀(ps:List (List Nat)) (p:List Nat),(∀q∈p::ps,c ∉ q)->jk c (bQ [c] (p::ps))=p::ps:=by
 have one:∀(p t:List Nat),c ∉ p->jk c (p++c::t)=p::jk c t:=by
  intro p
  induction p with
  | nil=>intro t _;exact if_pos rfl
  | cons a p ih=>
   intro t h;have h2:a≠c:=λe=>h (e ▸ Qqv ..);show(if a=c then []::jk c (p++c::t) else match jk c (p++c::t) with
    | []=>[[a]]
    | p::ps=>(a::p)::ps)=_
   rw[if_neg h2,ih t λhc=>h (Qq0 _ hc)]
 have last:∀p:List Nat,c ∉ p->jk c p=[p]:=by
  intro p
  induction p with
  | nil=>intro _;rfl
  | cons a p ih=>
   intro h;have h2:a≠c:=λe=>h (e ▸ Qqv ..);show(if a=c then []::jk c p else match jk c p with
    | []=>[[a]]
    | p::ps=>(a::p)::ps)=_
   rw[if_neg h2,ih λhc=>h (Qq0 _ hc)]
 intro ps
 induction ps with
 | nil=>intro p h;exact last p (h p (Qqv ..))
 | cons q ps ih=>
  intro p h;rw[bG,Qww];show jk c (p++c::bQ [c] (q::ps))=_;rw[one p _ (h p (Qqv ..)),ih q λz hz=>h z (Qq0 _ hz)]
theorem join_le(sep:List Nat):∀(xs:List (List Nat)),∀q∈xs,q.length<=(bQ sep xs).length
 | [],q,h=>nomatch h
 | [p],q,h=>by rcases Qwz.mp h with rfl;exact Qq2 _
 | p::r::xs,q,h=>by
  rw[bG,Qqq,Qqq];rcases Qqw.mp h with rfl|h
  ·omega
  ·have:=join_le sep (r::xs) q h;omega
theorem ye{sep:List Nat}(hs:0<sep.length):∀(xs:List (List Nat)),xs.length<=(bQ sep xs).length+1
 | []=>Qzk _
 | [p]=>by show 1<=_;omega
 | p::r::xs=>by
  have:=ye hs (r::xs);rw[bG,Qqq,Qqq,Qqk];omega
theorem Dl{sep p:List Nat}{ps:List (List Nat)}(hs:0<sep.length)(hk:Builtin.Str.strKind (strOf sep)=1)(hp:∀q∈p::ps,Np sep q)(hl:(bQ sep (p::ps)).length<=100000):ik (.str (bQ sep (p::ps))) (.str sep)=some (.lst ((p::ps).map .str)):=by
 have e:=Lg hs hk p ps hp;have hz:(100001:Nat)<=sizeLine:=by decide
 have h1:=ye hs (p::ps);show(if _ then some (D.lst ((rn (bQ sep (p::ps)) sep).map .str)) else none)=_;rw[e];refine if_pos ⟨λz=>by rw[z] at hs;exact absurd hs (by decide),by omega,by omega,λq hq=>?_⟩;have:=join_le sep (p::ps) q hq;omega
theorem sS{c:Nat}(hk:Builtin.Str.strKind (strOf [c])=1){t:List Nat}(hl:t.length<=100000):ik (.str t) (.str [c])=some (.lst ((jk c t).map .str)):=by
 obtain⟨p,ps,e⟩:=nq c t;have h:=lJ c t;have hf:=vz c t;rw[e] at h hf ⊢;have:=Dl (sep:=[c]) (p:=p) (ps:=ps) (by show 0<1;omega) hk (λq hq=>Np.of (hf q hq)) (by rw[h];exact hl)
 rwa [h] at this
theorem toL(z:List Nat):(strOf z).cps.toList=z:=by simp[strOf]
end KP
namespace fG
open Ev
section
def nJ:Ev:=gb 1 2 (dY (aa (az uO (aq dD (aa (bz 0) aj)) (Zi 1)) aj)) (au 1) cP (az gLt (aA gM 0 (bz 1)) (aA gM 0 (aA bK 1 (Zi 1))))
def zL:cC:=bA (aq uQ (aa (nJ) aj))
def mQ:LD:=dG 1 zL
def pK:cC:=bA (jd (fj (oZ "tuple") (aM 0)) (az nU (aq dD (aa (bz 0) aj)) (Zi 2)))
def m7:LD:=dG 1 pK
def jW:Ev:=gb 1 3 (gO (aM 0)) (gj 2 (bI (au 1) (bI (au 2) gG))) cP (aM 1)
def oA:cC:=bA (aq fZ (aa (jW) aj))
def lN:LD:=dG 1 oA
def iG:Ev:=gb 4 5 (gO (aM 1)) (au 4) cP (aA R7 4 (bz 3))
def nH:Ev:=gb 2 4 (gO (aM 0)) (gj 2 (bI (au 2) (bI (au 3) gG))) (dw (aq uQ (aa (iG) aj))) (aM 2)
def oE:cC:=bA (aq fZ (aa (nH) aj))
def n6:LD:=dG 2 oE
def fP:cC:=aP (d8 (bV (dw (aq m7 (Zv 1 aj)))) (bA (jh (.bl false))) b8) (aP (bF (aM 1) (gj 2 (bI (au 2) (bI (au 3) gG)))) (bA (jd (aA R7 2 (bz 0)) (jd (JQ (aA R7 3 (bz 0)) (aA nU 3 (Zw []))) (aA Gm 2 (bz 3))))))
def jC:LD:=dG 4 fP
def ju:cC:=bA (jd (aq m7 (Zv 1 aj)) (jd (az nU (aA gM 1 (Zi 0)) (Zw [])) (az R7 (aA gM 1 (Zi 1)) (bz 0))))
def eU:LD:=dG 2 ju
def fc:Ev:=gb 2 3 (gO (aM 1)) (au 2) cP (aq jC (Zv 0 (Zv 2 aj)))
def eZ:Ev:=gb 2 4 (gO (aM 1)) (gj 2 (bI (au 2) (bI (au 3) gG))) cP (aM 2)
def jw:cC:=aP (d8 (gQ (bV (dw (fj (oZ "tuple") (aM 1)))) (dw (az nU (aq dD (aa (bz 1) aj)) (Zi 0)))) (bA (jh (.bl false))) b8) (aP (d8 (uW (dw (az nU (aq dD (aa (bz 1) aj)) (Zi 1))) (dw (aq eU (Zv 0 (aa (aA gM 1 (Zi 0)) aj))))) (bA (jh (.bl true))) b8) (bA (jd (aq uQ (aa (fc) aj)) (aq mQ (aa (eZ) aj)))))
def lF:LD:=dG 2 jw
def iI:Ev:=gb 2 3 (gO (aM 1)) (au 2) cP (JQ (aA nU 2 (Zw [35])) (aA R7 2 (bz 0)))
def oJ:cC:=aP (d8 (dw (aA gIs 1 (jh .non))) (bA (jh (.bl true))) b8) (aP (d8 (gQ (bV (dw (fj (oZ "tuple") (aM 1)))) (dw (az nU (aq dD (aa (bz 1) aj)) (Zi 0)))) (bA (jh (.bl false))) b8) (bA (jd (aq uQ (aa (iI) aj)) (aq mQ (Zv 1 aj)))))
def lQ:LD:=dG 2 oJ
def pJ:cC:=aP (d8 (gQ (bV (dw (fj (oZ "tuple") (aM 1)))) (dw (az Gm (aq dD (aa (bz 1) aj)) (Zi 4)))) (bA (jh (.bl false))) b8) (aP (bF (aM 1) (gj 4 (bI (au 2) (bI (au 3) (bI (au 4) (bI (au 5) gG)))))) (aP (bF (aq lN (Zv 0 aj)) (au 6)) (bA (jd (aA R7 2 (jh (.tup [(.str [111,110,99,101]),(.str [97,108,111,110,103])]))) (jd (aq lF (Zv 6 (Zv 3 aj))) (jd (aq lQ (Zv 6 (Zv 4 aj))) (aq lQ (Zv 6 (Zv 5 aj)))))))))
def lr:LD:=dG 7 pJ
def mV:cC:=bA (My (dw (aA nU 0 (Zw []))) (Zw [48]) (aM 0))
def gY:LD:=dG 1 mV
def mW:cC:=bA (My (dw (aA gIs 0 (jh .non))) (Zw [42]) (az uP (Zw []) (bz 0)))
def gZ:LD:=dG 1 mW
def iH:Ev:=gb 6 8 (gO (aM 2)) (gj 2 (bI (au 6) (bI (au 7) gG))) cP (JR [62] (aq gY (Zv 6 aj)) (aq gY (Zv 7 aj)))
def oF:cC:=aP (bF (aM 0) (gj 4 (bI (au 1) (bI (au 2) (bI (au 3) (bI (au 4) gG)))))) (aP (lH 5 (iH)) (bA (az fY (Zw [32]) (az bK (az bK (cM (Zv 1 aj)) (bz 5)) (cM (aa (Zw [47]) (aa (aq gZ (Zv 3 aj)) (aa (Zw [95]) (aa (aq gZ (Zv 4 aj)) aj)))))))))
def jO:LD:=dG 6 oF
def j6:cC:=aP (d8 (dw (aA nU 0 (Zw []))) (bA (jh .non)) b8) (bA (My (dw (aA nU 0 (Zw [48]))) (Zw []) (aM 0)))
def j0:LD:=dG 1 j6
def jb:cC:=aP (d8 (dw (aA nU 1 (Zw [42]))) (bA (jh .non)) b8) (aP (d8 (gQ (bV (dw (az sZ (aM 1) (Zw [91])))) (bV (dw (az DR (aM 1) (Zw [93]))))) (bA (aq Py (aa (bz 1) aj))) b8) (bA (aq n6 (Zv 0 (aa (az ik (gk (aM 1) (nT (Zi 1)) (nT (fj aam (Zi 1)))) (Zw [32])) aj)))))
def eF:LD:=dG 2 jb
def jz:Ev:=gb 8 9 (gO (az ik (aM 7) (Zw [62]))) (au 8) cP (aq j0 (Zv 8 aj))
def jy:Ev:=gb 7 8 (gO (gk (aM 2) (nT (Zi 1)) (nT (aM 3)))) (au 7) cP (aq fZ (aa (jz) aj))
def j7:cC:=aP (bF (az ik (aM 1) (Zw [32])) (au 2)) (aP (d8 (gQ (dw (az jH (Zw [47]) (bz 2))) (dw (az jH (Zw [95]) (bz 2)))) (bA (jh .non)) b8) (aP (bF (az qw (aM 2) (Zw [47])) (au 3)) (aP (bF (az qw (aM 2) (Zw [95])) (au 4)) (aP (bF (aq fZ (aa (jy) aj)) (au 5)) (aP (bF (aq eF (Zv 0 (aa (az fY (Zw [32]) (gk (aM 2) (nT (aA bK 3 (Zi 1))) (nT (aM 4)))) aj))) (au 6)) (bA (cU (aa (aA gM 2 (Zi 0)) (Zv 5 (Zv 6 (aa (aq eF (Zv 0 (aa (az fY (Zw [32]) (gk (aM 2) (nT (aA bK 4 (Zi 1))) iQ)) aj))) aj)))))))))))
def cW:LD:=dG 7 j7
def iR:cC:=aP (bF (aq wu (aa (aA gM 0 (Zi 0)) (aa (bz 1) aj))) (gj 2 (bI (aah 0 (Zi 0)) (bI (au 2) gG)))) (bA (aM 2))
def bf:List D->Option (D×D):=jc 3 iR
def fH:Ev:=gb 4 5 (dY (aa (az bK (Zi 1) (dH bf 0 (aa (Zi 4) aj))) aj)) (au 4) cP (aA gM 1 (az R5 (aA bK 2 (aA pI 3 (bz 4))) (Zi 26)))
def ie:cC:=aP (bF (Zw [97,98,99,100,101,102,103,104,105,106,107,108,109,110,111,112,113,114,115,116,117,118,119,120,121,122]) (au 1)) (aP (bF (cU (aa (dH bf 0 (aa (Zi 26) aj)) (aa (az bK (Zi 1) (dH bf 0 (aa (Zi 25) aj))) aj))) (gj 2 (bI (au 2) (bI (au 3) gG)))) (bA (az fY (Zw []) (fj pH (fH)))))
def fB:List D->Option (D×D):=jc 4 ie
def nM:Ev:=gb 7 8 (dY (aa (Zi 5) aj)) (au 7) (dw (az nU (az JG (aA Gh 5 (bz 7)) (Zi 1)) (Zi 1))) (aA gM 2 (bz 7))
def iJ:cC:=aP (bF (dH bf 0 (aa (Zi 32) aj)) (au 5)) (aP (bF (aq jB (aa (nM) aj)) (au 6)) (vq 3 (cU (Zv 4 (aa (aq fZ (aa (CG (aM 6) iQ (nT (Zi 4))) aj)) aj)))))
def oG:cC:=aP (bF (dH fB 0 aj) (au 1)) (aP (bF (cM (aa (Zw [115,116,111,112]) (aa (Zw [115,116,111,112,115]) (aa (Zw [115]) (aa (Zw [111,112,101,110]) (aa (Zw [97,98,99,100,101,102,103,104]) aj)))))) (au 2)) (aP (lH 3 (cM aj)) (aP (jM (gO (aM 1)) (au 4) (iJ)) (bA (aq fZ (aa (bz 3) aj))))))
def jP:List D->Option (D×D):=jc 7 oG
def nO:Ev:=gb 4 5 (dY (aa (aq dD (aa (bz 3) aj)) aj)) (au 4) (dw (az nU (az JG (aA Gh 2 (bz 4)) (Zi 1)) (Zi 1))) (aA gM 3 (bz 4))
def gR:cC:=aP (d8 (dw (az nU (dH bf 0 (aa (Zi 2) aj)) (Zi 0))) (bA (jh .non)) b8) (aP (bF (az bK (Zi 1) (dH bf 0 (aa (az uO (az R4 (Zi 2) (aq dD (aa (bz 1) aj))) (Zi 1)) aj))) (au 2)) (aP (bF (az bK (Zw [35]) (bz 1)) (au 3)) (bA (aq fZ (aa (nO) aj)))))
def dO:List D->Option (D×D):=jc 4 gR
def kY:Ev:=gb 6 7 (gO (az bK (aq DQ (aa (bz 1) aj)) (cM (aa (Zw []) aj)))) (au 6) (dw (aA Gm 6 (bz 4))) (aM 6)
def kZ:cC:=aP (bF (aA gM 1 (dH bf 0 (aa (aq dD (aa (bz 1) aj)) aj))) (au 4)) (aP (lH 5 (kY)) (uv 2 (aM 4) (aA gM 5 (dH bf 0 (aa (aq dD (aa (bz 5) aj)) aj)))))
def kW:Ev:=gb 6 7 (gO (aq jB (aa (bz 2) aj))) (au 6) cP (cU (Zv 6 (aa (aA my 2 (bz 6)) aj)))
def eY:cC:=aP (d8 (dw (az nU (dH bf 0 (aa (Zi 5) aj)) (Zi 0))) (bA (cU (aa (cU (aa (Zw []) (aa (aA gM 1 (dH bf 0 (aa (aq dD (aa (bz 1) aj)) aj))) aj))) aj))) b8) (aP (lH 2 (Bc)) (aP (jM (dY (aa (az bK (Zi 1) (dH bf 0 (aa (Zi 3) aj))) aj)) (au 3) (kZ)) (bA (aq fZ (aa (kW) aj)))))
def eV:List D->Option (D×D):=jc 6 eY
def qH:cC:=aP (bF (az gM (cM (aa (Zw [111,110,99,101]) (aa (Zw [97,108,111,110,103]) aj))) (dH bf 0 (aa (Zi 2) aj))) (au 2)) (aP (bF (dH eV 0 (Zv 1 aj)) (au 3)) (bA (cU (Zv 2 (Zv 3 (aa (dH dO 0 (Zv 1 aj)) (aa (dH dO 0 (Zv 1 aj)) aj)))))))
def jJ:List D->Option (D×D):=jc 4 qH
def gH:cC:=aP (d8 (dw (aA gIs 0 (jh .non))) (bA (Zw [42])) b8) (bA (az uP (Zw []) (bz 0)))
def cN:LD:=dG 1 gH
def cH:cC:=bF (az bK (az bK (az bK (aA bK 5 (Zw [32])) (az gM (aA bK 6 (Zw [48])) (Zi 0))) (Zw [62])) (az gM (aA bK 7 (Zw [48])) (Zi 0))) (au 5)
def jD:cC:=aP (bF (aM 0) (gj 4 (bI (au 1) (bI (au 2) (bI (au 3) (bI (au 4) gG)))))) (aP (bF (aM 1) (au 5)) (aP (jM (gO (aM 2)) (gj 2 (bI (au 6) (bI (au 7) gG))) (cH)) (bA (az bK (az bK (az bK (aA bK 5 (Zw [32,47,32])) (aq cN (Zv 3 aj))) (Zw [32,95,32])) (aq cN (Zv 4 aj))))))
def fO:LD:=dG 8 jD
def mJ:Ev:=gb 1 2 (gO (Zw [113,118,109,101,104,97,98,99,100,102,103])) (au 1) (dw (aA jH 1 (bz 0))) (aM 1)
def tO:cC:=bA (az gM (mJ) (Zi 0))
def m6:LD:=dG 1 tO
end
open Ev PySem L2
open KP
def oD:Option (List Nat)->D
 | none=>.non
 | some z=>.str z
def Js(x:List Nat):Option (List Nat)->Bool
 | some [c]=>x.contains c
 | _=>false
theorem str1(a b:List Nat):bD 59 (.str a) (.str b)=some (a == b):=rfl
theorem ajw(x:List Nat)(a:Option (List Nat)):G6 (oD a) (fW x)=some (Js x a):=by
 induction x with
 | nil=>
  show some false=some (Js [] a);unfold Js;split<;>rfl
 | cons c x ih=>
  show(match bD 59 (.str [c]) (oD a),G6 (oD a) (fW x) with|some a,some b=>some (a||b)|_,_=>none)=_;rw[ih];cases a with
  | none=>rfl
  | some z=>
   show(match bD 59 (.str [c]) (.str z),some (Js x (some z)) with|some a,some b=>some (a||b)|_,_=>none)=_;rw[str1];show some (([c] == z)||Js x (some z))=_
   congr 1
   match z with
   | []=>rfl
   | [d]=>
    show(([c] == [d])||x.contains d)=(c::x).contains d;rw[List.contains_cons,show([c] == [d])=(d == c) by rw[Bool.beq_comm];simp]
   | d::e::r=>
    show(([c] == d::e::r)||false)=false;rw[Bool.or_false,Qwj];intro h;exact absurd (Qzw List.length h) (by show 1≠r.length+2;omega)
theorem PK(x:List Nat)(a:Option (List Nat)):R7 (oD a) (.tup (fW x))=some (.bl (Js x a)):=by
 show(Mw (oD a) (.tup (fW x))).or _=_;have:Mw (oD a) (.tup (fW x))=some (.bl (Js x a)):=by
  show(G6 (oD a) (fW x)).map D.bl=_;rw[ajw]
  rfl
 rw[this]
 rfl
theorem ab3(a b:Option (List Nat)):nU (oD a) (oD b)=some (.bl (a == b)):=by cases a<;>cases b<;>rfl
theorem Wr(a b:Option (List Nat)):Gm (oD a) (oD b)=some (.bl (!(a == b))):=by cases a<;>cases b<;>rfl
def cD(o:List (Option (List Nat))):D:=.tup (o.map oD)
theorem is_pair(o:List (Option (List Nat))):m7 [cD o]=some (.bl (o.length == 2)):=by
 match o with
 | []=>rfl
 | [_]=>rfl
 | [_,_]=>rfl
 | a::b::c::r=>
  refine cQ (env:=[(Zf (cD (a::b::c::r)))]) ?_;unfold pK;refine bY ((tK (e:=[(Zf (cD (a::b::c::r)))]) rfl).trans ?_);refine aJ (x:=.int ((r.map oD).length+3:Nat)) (y:=.int 2) (e1:=[(Zf (cD (a::b::c::r)))]) rfl rfl ?_;rw[Wt];rw[Qwj.mpr (by omega),Qwj.mpr (by rw[Qqk,Qqk,Qqk];omega)]
def G7(x:List Nat):List (Option (List Nat))->Bool
 | [a,b]=>Js x a&&((Js x b||b == some []) && !(a == b))
 | _=>false
theorem lV{a b:Ev}{env:Ev.Env}{p q:Bool}(h1:a env = .ok (.bl p) env)(h2:p=true->b env = .ok (.bl q) env):jd a b env = .ok (.bl (p&&q)) env:=by
 cases p with
 | true=>exact(tK h1).trans (h2 rfl)
 | false=>exact Qe h1
theorem Qa{a b:Ev}{env:Ev.Env}{p q:Bool}(h1:a env = .ok (.bl p) env)(h2:p=false->b env = .ok (.bl q) env):JQ a b env = .ok (.bl (p||q)) env:=by
 cases p with
 | true=>exact afe h1
 | false=>exact(afg h1).trans (h2 rfl)
theorem changes_sound(x:List Nat)(o:List (Option (List Nat))):jC [.tup (fW x),cD o]=some (.bl (G7 x o)):=by
 have hp:=is_pair o;by_cases h2:o.length=2
 ·match o,h2 with
  | [a,b],_=>
   refine cQ (env:=[(Zf (.tup (fW x))),Zf (cD [a,b]),Zf (oD a),Zf (oD b)]) ?_;unfold fP;refine(aG (e:=[(Zf (.tup (fW x))),Zf (cD [a,b]),Zn,Zn]) ?_).trans ?_
   ·exact(dg (dF (b:=true) (cF (aH (ds:=[cD [a,b]]) rfl hp)))).trans rfl
   refine(aG (e:=[(Zf (.tup (fW x))),Zf (cD [a,b]),Zf (oD a),Zf (oD b)]) ?_).trans ?_
   ·rfl
   refine(bY ?_);refine lV (gP (x:=oD a) (y:=.tup (fW x)) rfl rfl rfl (PK x a)) λ_=>?_;refine lV (Qa (gP (x:=oD b) (y:=.tup (fW x)) rfl rfl rfl (PK x b)) λ_=>?_) λ_=>?_
   ·exact gP (x:=oD b) (y:=.str []) rfl rfl rfl (ab3 b (some []))
   ·exact gP (x:=oD a) (y:=oD b) rfl rfl rfl (Wr a b)
 ·have e:G7 x o=false:=by
   unfold G7;split
   ·exact absurd rfl h2
   ·rfl
  rw[e];rw[Qwj.mpr h2] at hp;refine cQ (env:=[(Zf (.tup (fW x))),Zf (cD o),Zn,Zn]) ?_;unfold fP;exact iB ((lX (dF (b:=false) (cF (aH (ds:=[cD o]) rfl hp)))).trans rfl)
def pu(x:List Nat):List (Option (List Nat))->Bool
 | [a,b]=>a == some []&&Js x b
 | _=>false
theorem puts_one_in(x:List Nat)(o:List (Option (List Nat))):eU [.tup (fW x),cD o]=some (.bl (pu x o)):=by
 have hp:=is_pair o;refine cQ (env:=[(Zf (.tup (fW x))),Zf (cD o)]) ?_;unfold ju;refine bY ?_;by_cases h2:o.length=2
 ·match o,h2 with
  | [a,b],_=>
   refine(tK (aH (ds:=[cD [a,b]]) rfl hp)).trans (lV (aJ (x:=oD a) (y:=.str []) (e1:=[(Zf (.tup (fW x))),Zf (cD [a,b])]) rfl rfl (ab3 a (some []))) λ_=>?_);exact aJ (x:=oD b) (y:=.tup (fW x)) (e1:=[(Zf (.tup (fW x))),Zf (cD [a,b])]) rfl rfl (PK x b)
 ·have e:pu x o=false:=by
   unfold pu;split
   ·exact absurd rfl h2
   ·rfl
  rw[e];rw[Qwj.mpr h2] at hp;exact Qe (aH (ds:=[cD o]) rfl hp)
def pB:List (List Nat)->Bool
 | []=>true
 | [_]=>true
 | x::y::r=>decide (x<y)&&pB (y::r)
theorem N8:∀zs:List (List Nat),((List.range (zs.length - 1)).all λi=>decide (zs.getD i []<zs.getD (i+1) []))=pB zs
 | []=>rfl
 | [_]=>rfl
 | x::y::r=>by
  have ih:=N8 (y::r);have e:(x::y::r).length - 1=(y::r).length - 1+1:=by simp
  rw[e,List.range_succ_eq_map,List.all_cons,List.all_map];show _=(decide (x<y)&&pB (y::r));rw[<-ih]
  rfl
theorem rises(t:List D->D)(ht:t = .tup\/t = .lst)(zs:List (List Nat))(hz:zs.length<=1000):mQ [t (zs.map .str)]=some (.bl (pB zs)):=by
 unfold mQ zL nJ;have hlen:dD [t (zs.map .str)]=some (.int zs.length):=by rcases ht with rfl|rfl<;>simp[dD]
 have hr:nA [.int ((zs.length:Int) - 1)]=some ((List.range (zs.length - 1)).map λ(i:Nat)=>D.int (i:Int)):=by
  cases zs with
  | nil=>rfl
  | cons z r=>
   have e:(((z::r).length:Int) - 1)=((r.length:Nat):Int):=by rw[Qqk];omega
   rw[e,Yy (by simp at hz;omega)]
   rfl
 have h4:=o6 (lo:=1) (n:=2) (it:=dY (aa (az uO (aq dD (aa (bz 0) aj)) (Zi 1)) aj)) (e:=az gLt (aA gM 0 (bz 1)) (aA gM 0 (aA bK 1 (Zi 1)))) (env:=[(Zf (t (zs.map .str)))]) (List.range (zs.length - 1)) (λi=>.int (i:Nat)) (λi=>.bl (decide (zs.getD i []<zs.getD (i+1) []))) (by(simp (maxSteps:=2000000) (disch:=(first|((try simp only[Qqk,Qj0,Qqq,Qqz,List.length_range,sizeLine,Nat.reducePow])<;>omega)|fail)) only[aaz,JT,Qd,JV,WK,gt0,rS,abU,bR,O8,Qc,Jm,abT,lR,V6,ab8,O9,ae1,hlen,hr]<;>try rfl)) rfl rfl (λi hi=>by
  have hi:=Qxz.mp hi;have g:∀j:Nat,j<zs.length->gM (t (zs.map .str)) (.int (j:Int))=some (.str (zs.getD j [])):=λj hj=>by
   rcases ht with rfl|rfl<;>simp[ahP,ahQ,atN,hj]
  have g1:=g i (by omega);have g2:=g (i+1) (by omega);rw[show(((i+1:Nat):Int))=(i:Int)+1 from rfl] at g2
  (simp (maxSteps:=2000000) (disch:=(first|((try simp only[Qqk,Qj0,Qqq,Qqz,List.length_range,sizeLine,Nat.reducePow])<;>omega)|fail)) only[Qj3,Qz4,Qd,WM,gt0,rS,aaa,WK,gtS,abU,bR,V8,V7,lR,V6,ab8,ae7,O9,ahM,g,g2]<;>try rfl)) (by rw[List.length_range];exact Qqy (show zs.length - 1<=1000 by omega) (by decide))
 have h5:=JK (λi=>decide (zs.getD i []<zs.getD (i+1) [])) (List.range (zs.length - 1));rw[N8] at h5
 (simp (maxSteps:=2000000) (disch:=(first|((try simp only[Qqk,Qj0,Qqq,Qqz,List.length_range,sizeLine,Nat.reducePow])<;>omega)|fail)) only[ac5,envOf,Qq8,List.map_nil,Qqk,Qj0,Nat.reduceAdd,Nat.reduceSub,List.replicate_zero,Qj3,Qz4,Yq,JV,JT,bR,O8,Qc,Jm,abT,lR,bO,aeL,dRt,h4,h5]<;>try rfl)
def old:List (Option (List Nat))->List Nat
 | some z::_=>z
 | _=>[]
def CT(x:List Nat)(cs:List (List (Option (List Nat)))):Bool:=!cs.isEmpty&&((cs.length == 1&&cs.all (pu x))||(cs.all (G7 x)&&pB (cs.map old)))
theorem Wy{a:Ev}{env:Ev.Env}{ds:List D}(h:a env = .ok (.tup ds) env)(k:Int):az nU (aq dD (aa a aj)) (jh (.int k)) env = .ok (.bl (((ds.length:Nat):Int) == k)) env:=
 aJ (x:=.int (ds.length:Nat)) (y:=.int k) (e1:=env) (aH (ds:=[.tup ds]) (aB h aX) rfl) rfl (Wt _ _)
abbrev S3(x:List Nat)(cs:List (List (Option (List Nat)))):Ev.Env:=[(Zf (.tup (fW x))),(Zf (.tup (cs.map cD)))]
theorem all1(x:List Nat)(cs:List (List (Option (List Nat))))(hl:cs.length<=1000):fc (S3 x cs) = .ok (.lst (cs.map λo=>.bl (G7 x o))) (S3 x cs):=
 o6 (lo:=2) (n:=3) cs cD (λo=>.bl (G7 x o)) rfl rfl rfl (λo _=>aH (ds:=[.tup (fW x),cD o]) rfl (changes_sound x o)) (Qqy hl (by decide))
theorem aaH{x:List Nat}{o:List (Option (List Nat))}(h:G7 x o=true):∃c b,o=[some [c],b]/\x.contains c=true:=by
 unfold G7 at h;split at h
 ·rename_i a b;rw[Qwx] at h;have h1:=h.1;unfold Js at h1;split at h1
  ·exact⟨_,_,rfl,h1⟩
  ·cases h1
 ·cases h
theorem all2(x:List Nat)(cs:List (List (Option (List Nat))))(hl:cs.length<=1000)(h:cs.all (G7 x)=true):eZ (S3 x cs) = .ok (.lst ((cs.map old).map .str)) (S3 x cs):=by
 have h4:=uU (lo:=2) (n:=4) (it:=gO (aM 1)) (g:=gj 2 (bI (au 2) (bI (au 3) gG))) (c:=cP) (e:=aM 2) (env:=(S3 x cs)) cs cD (λo=>[Zs (old o),(Zf (oD ((o.drop 1).headD none)))]) (λ_=>true) (λo=>.str (old o)) rfl rfl (λo ho=>by
  obtain⟨c,b,rfl,_⟩:=aaH (Qq5.mp h o ho);refine⟨rfl,λvs hv=>?_,rfl,λ_=>rfl⟩
  match vs,hv with
  | [_,_],_=>rfl) (Qqy hl (by decide))
 rw[List.filter_eq_self.mpr (λ_ _=>rfl)] at h4;rw[Qxk];exact h4
theorem are_changes(x:List Nat)(cs:List (List (Option (List Nat))))(hl:cs.length<=1000):lF [.tup (fW x),.tup (cs.map cD)]=some (.bl (CT x cs)):=by
 refine cQ (env:=(S3 x cs)) ?_;show jw (S3 x cs) = .rt false _ (S3 x cs);unfold jw;have hn:∀k:Int,az nU (aq dD (aa (bz 1) aj)) (jh (.int k)) (S3 x cs) = .ok (.bl (((cs.length:Nat):Int) == k)) (S3 x cs):=λk=>by
  have:=Wy (a:=bz 1) (env:=(S3 x cs)) (ds:=cs.map cD) rfl k
  rwa [Qqz] at this
 generalize hE:((S3 x cs):Ev.Env)=env at *;have a1:=all1 x cs hl;have a2:=all2 x cs hl;rw[hE] at a1 a2;have fin:bA (jd (aq uQ (aa (fc) aj)) (aq mQ (aa (eZ) aj))) env = .rt false (.bl (cs.all (G7 x)&&pB (cs.map old))) env:=by refine bY (lV (aH (aB a1 aX) (JK (G7 x) cs)) λh=>?_);exact aH (aB (a2 h) aX) (rises .lst (.inr rfl) _ (by rw[Qqz];exact hl))
 have i1:bV (dw (fj (oZ "tuple") (aM 1))) env = .ok false env:=by rw[<-hE];rfl
 match cs with
 | []=>
  refine iB ((lX (e:=env) ((gq i1).trans (cF (hn 0)))).trans rfl)
 | [o]=>
  refine(aG (e:=env) ?_).trans ?_
  ·exact(dg (e:=env) ((gq i1).trans (cF (hn 0)))).trans rfl
  have hp:dw (aq eU (Zv 0 (aa (aA gM 1 (Zi 0)) aj))) env = .ok (pu x o) env:=cF (aH (ds:=[.tup (fW x),cD o]) (by rw[<-hE];rfl) (puts_one_in x o));have ha:uW (dw (az nU (aq dD (aa (bz 1) aj)) (Zi 1))) (dw (aq eU (Zv 0 (aa (aA gM 1 (Zi 0)) aj)))) env = .ok (pu x o) env:=by have h1:dw (az nU (aq dD (aa (bz 1) aj)) (Zi 1)) env = .ok true env:=cF (hn 1);unfold uW;rw[h1];exact hp
  cases e:pu x o with
  | true=>
   rw[e] at ha;refine iB ((lX ha).trans ?_);have:CT x [o]=true:=by unfold CT;simp[e]
   rw[this]
   rfl
  | false=>
   rw[e] at ha;refine(aG ((dg ha).trans rfl)).trans (fin.trans ?_);have:CT x [o]=([o].all (G7 x)&&pB ([o].map old)):=by unfold CT;simp[e]
   rw[this]
 | o::o2::r=>
  have n0:((((o::o2::r).length:Nat):Int) == 0)=false:=Qwj.mpr (by rw[Qqk];omega);have n1:((((o::o2::r).length:Nat):Int) == 1)=false:=Qwj.mpr (by rw[Qqk,Qqk];omega);have h0:=hn 0;have h1:=hn 1;rw[n0] at h0;rw[n1] at h1;refine(aG (e:=env) ?_).trans ?_
  ·exact(dg (e:=env) ((gq i1).trans (cF h0))).trans rfl
  have ha:uW (dw (az nU (aq dD (aa (bz 1) aj)) (Zi 1))) (dw (aq eU (Zv 0 (aa (aA gM 1 (Zi 0)) aj)))) env = .ok false env:=by
   unfold uW;rw[cF h1]
   rfl
  refine(aG ((dg ha).trans rfl)).trans (fin.trans ?_);have:CT x (o::o2::r)=((o::o2::r).all (G7 x)&&pB ((o::o2::r).map old)):=by
   unfold CT;have:((o::o2::r).length == 1)=false:=Qwj.mpr (by rw[Qqk,Qqk];omega);rw[this]
   rfl
  rw[this]
def gD:Option (List Nat)->D
 | none=>.non
 | some z=>.tup (fW z)
def ag(x:List Nat):Option (List Nat)->Bool
 | none=>true
 | some z=>!z.isEmpty&&(z.all (λc=>c == 35||x.contains c)&&pB (z.map λc=>[c]))
abbrev S2(x z:List Nat):Ev.Env:=[(Zf (.tup (fW x))),(Zf (.tup (fW z)))]
theorem are_signs(x:List Nat)(g:Option (List Nat))(hl:∀z,g=some z->z.length<=1000):lQ [.tup (fW x),gD g]=some (.bl (ag x g)):=by
 cases g with
 | none=>rfl
 | some z=>
  have hl:=hl z rfl;refine cQ (env:=(S2 x z)) ?_;unfold oJ;refine(aG (e:=(S2 x z)) ?_).trans ?_
  ·rfl
  have hn:az nU (aq dD (aa (bz 1) aj)) (Zi 0) (S2 x z) = .ok (.bl (((z.length:Nat):Int) == 0)) (S2 x z):=by
   have:=Wy (a:=bz 1) (env:=(S2 x z)) (ds:=fW z) rfl 0
   rwa [show(fW z).length=z.length from Qqz ..] at this
  have a1:iI (S2 x z) = .ok (.lst (z.map λc=>.bl (c == 35||x.contains c))) (S2 x z):=
   o6 (lo:=2) (n:=3) z (λc=>.str [c]) (λc=>.bl (c == 35||x.contains c)) rfl rfl rfl (λc _=>Qa (gP (x:=.str [c]) (y:=.str [35]) rfl rfl rfl ((ab2 _ _).trans (by congr 2;simp))) λ_=>gP (x:=.str [c]) (y:=.tup (fW x)) rfl rfl rfl (PK x (some [c]))) (Qqy hl (by decide))
  have i1:bV (dw (fj (oZ "tuple") (aM 1))) (S2 x z) = .ok false (S2 x z):=rfl;cases z with
  | nil=>exact iB ((lX ((gq i1).trans (cF hn))).trans rfl)
  | cons c z=>
   have n0:((((c::z).length:Nat):Int) == 0)=false:=Qwj.mpr (by rw[Qqk];omega);rw[n0] at hn;refine(aG (e:=[(Zf (.tup (fW x))),(Zf (.tup (fW (c::z))))]) ?_).trans ?_
   ·exact(dg ((gq i1).trans (cF hn))).trans rfl
   refine bY (lV (aH (aB a1 aX) (JK _ _)) λ_=>?_);have:=rises .tup (.inl rfl) ((c::z).map λc=>[c]) (by rw[Qqz];exact hl);rw[Qxk] at this;exact aH (ds:=[.tup (fW (c::z))]) rfl this
structure Q where
 w:List Nat
 cs:List (List (Option (List Nat)))
 l:Option (List Nat)
 r:Option (List Nat)
def qD(q:Q):D:=.tup [.str q.w,.tup (q.cs.map cD),gD q.l,gD q.r]
def way(w:List Nat):Bool:=w == [111,110,99,101]||w == [97,108,111,110,103]
def RK(x:List Nat)(q:Q):Bool:=way q.w&&(CT x q.cs&&(ag x q.l&&ag x q.r))
structure Sm(q:Q):Prop where
 c:q.cs.length<=1000
 l:∀z,q.l=some z->z.length<=1000
 r:∀z,q.r=some z->z.length<=1000
theorem acM(w:List Nat):R7 (.str w) (.tup [(.str [111,110,99,101]),(.str [97,108,111,110,103])])=some (.bl (way w)):=by show some (D.bl (([111,110,99,101] == w)||(([97,108,111,110,103] == w)||false)))=_;unfold way;rw[Bool.or_false,Bool.beq_comm,Bool.beq_comm (a:=[97,108,111,110,103])]
theorem is_rule{T:D}{x:List Nat}(hs:lN [T]=some (.tup (fW x))){q:Q}(h:Sm q):lr [T,qD q]=some (.bl (RK x q)):=by
 refine cQ (env:=[Zf T,Zf (qD q),Zs q.w,(Zf (.tup (q.cs.map cD))),Zf (gD q.l),Zf (gD q.r),(Zf (.tup (fW x)))]) ?_;unfold pJ;refine(aG (e:=[Zf T,Zf (qD q),Zn,Zn,Zn,Zn,Zn]) ?_).trans ?_
 ·rfl
 refine(aG (e:=[Zf T,Zf (qD q),Zs q.w,(Zf (.tup (q.cs.map cD))),Zf (gD q.l),Zf (gD q.r),Zn]) ?_).trans ?_
 ·rfl
 refine(aG (e:=[Zf T,Zf (qD q),Zs q.w,(Zf (.tup (q.cs.map cD))),Zf (gD q.l),Zf (gD q.r),(Zf (.tup (fW x)))]) ?_).trans ?_
 ·exact(bL (aH (ds:=[T]) rfl hs) rfl)
 refine(bY ?_);refine lV (gP (x:=.str q.w) rfl rfl rfl (acM q.w)) λ_=>?_;refine lV (aH (ds:=[.tup (fW x),.tup (q.cs.map cD)]) rfl (are_changes x q.cs h.c)) λ_=>?_;refine lV (aH (ds:=[.tup (fW x),gD q.l]) rfl (are_signs x q.l h.l)) λ_=>?_;exact aH (ds:=[.tup (fW x),gD q.r]) rfl (are_signs x q.r h.r)
def rs(z:List Nat):Option (List Nat):=if z=[] then none else if z=[48] then some [] else some z
theorem zP{a b:List Nat}(h:a≠b):nU (.str a) (.str b)=some (.bl false):=by rw[ab2,Qwj.mpr h]
theorem read_sound(z:List Nat):j0 [.str z]=some (oD (rs z)):=by
 unfold rs;by_cases h:z=[]
 ·subst h;rfl
 ·rw[if_neg h];refine cQ (env:=[Zs z]) ?_;unfold j6;refine(aG (e:=[Zs z]) ((dg (cF (gP (x:=.str z) (y:=.str []) rfl rfl rfl (zP h)))).trans rfl)).trans (bY ?_);by_cases h2:z=[48]
  ·subst h2;rfl
  ·rw[if_neg h2];unfold My;have hc:dw (aA nU 0 (Zw [48])) [Zs z] = .ok false [Zs z]:=cF (gP (x:=.str z) (y:=.str [48]) rfl rfl rfl (zP h2));rw[hc]
   rfl
theorem lcE{α:Type}{g:GV}{e:Ev}(P:Ev.Env->Prop)(enc out:α->D):∀(l:List α) (env:Ev.Env),P env->(∀a∈l,∀env,P env->∃e1 e2,g (enc a) env=some e1/\e e1 = .ok (out a) e2/\P e2)->∃env',Cw g cP e (l.map enc) env = .ok (l.map out) env'/\P env'
 | [],env,hp,_=>⟨env,rfl,hp⟩
 | d::ds,env,hp,h=>by
  obtain⟨e1,e2,h1,h2,h3⟩:=h d (Qqv ..) env hp;obtain⟨e3,h4,h5⟩:=lcE P enc out ds e2 h3 λd' hd=>h d' (Qq0 _ hd);refine⟨e3,?_,h5⟩;rw[Qq8];unfold Cw;rw[h1];show bindR (e e1) _=_;rw[h2];show bindR (Cw g cP e (ds.map enc) e2) _=_;rw[h4]
  rfl
def ch(w:List Nat):List (Option (List Nat)):=(jk 62 w).map rs
theorem zy(c:Nat)(t:List Nat):(jk c t).length<=t.length+1:=by
 have:=ye (sep:=[c]) (by show 0<1;omega) (jk c t)
 rwa [lJ] at this
theorem acW(c:Nat)(t:List Nat):∀q∈jk c t,q.length<=t.length:=λq hq=>by
 have:=join_le [c] (jk c t) q hq
 rwa [lJ] at this
theorem Ij{w:List Nat}(hw:w.length<=1000)(A0 A1 A2 A3 A4 A5 A6:OD):aq fZ (aa (jz) aj) [A0,A1,A2,A3,A4,A5,A6,Zs w] = .ok (cD (ch w)) [A0,A1,A2,A3,A4,A5,A6,Zs w]:=by have hs:ik (.str w) (.str [62])=some (.lst ((jk 62 w).map .str)):=sS (by decide +kernel) (by omega);have h:=o6 (lo:=8) (n:=9) (it:=gO (az ik (aM 7) (Zw [62]))) (e:=aq j0 (Zv 8 aj)) (env:=[A0,A1,A2,A3,A4,A5,A6,Zs w]) (aD:=[A0,A1,A2,A3,A4,A5,A6,Zs w]) (jk 62 w) D.str (λz=>oD (rs z)) (qx (aJ (x:=.str w) (y:=.str [62]) (e1:=[A0,A1,A2,A3,A4,A5,A6,Zs w]) rfl rfl hs) rfl) rfl rfl (λz _=>aH (ds:=[.str z]) rfl (read_sound z)) (Qqy (zy 62 w) (Qqy (Nat.succ_le_succ hw) (by decide)));refine aH (ds:=[.lst ((ch w).map oD)]) (aB ?_ aX) rfl;unfold ch;rw[Qxk];exact h
theorem Bk{α:Type}(xs:List α)(k:Nat):cutD xs (some (k:Int)) none=xs.drop k:=by
 unfold cutD;rw[HT.vG];show(xs.drop (min k xs.length)).take (xs.length - min k xs.length)=_;by_cases h:k<=xs.length
 ·rw[Nat.min_eq_left h,Qj2 (by rw[Qxv];omega)]
 ·rw[Nat.min_eq_right (by omega),List.drop_length,List.drop_of_length_le (by omega),List.take_nil]
theorem Qj{α:Type}(xs:List α)(j k:Nat)(hj:j<=xs.length):cutD xs (some (j:Int)) (some (k:Int))=(xs.drop j).take (k - j):=by
 unfold cutD;rw[HT.vG,HT.vG,Nat.min_eq_left hj];by_cases h:k<=xs.length
 ·rw[Nat.min_eq_left h]
 ·rw[Nat.min_eq_right (by omega),Qj2 (by rw[Qxv];omega),Qj2 (by rw[Qxv];omega)]
theorem zH(W:List (List Nat))(lo hi:Option Int):cutD (W.map D.str) lo hi=(cutD W lo hi).map D.str:=by unfold cutD;rw[Qqz,<-List.map_drop,<-List.map_take]
theorem jt{a:Ev}{lo hi:Xx}{env e1 e2 e3:Ev.Env}{d v:D}{l u:Option Int}(h1:a env = .ok d e1)(h2:lo e1 = .ok l e2)(h3:hi e2 = .ok u e3)(h:ae3 d l u=some v):gk a lo hi env = .ok v e3:=by
 unfold gk;rw[h1];show bindR (lo e1) _=_;rw[h2];show bindR (hi e2) _=_;rw[h3];show fX (ae3 d l u) e3=_;rw[h]
 rfl
theorem Az(z:List Nat):∀xs:List (List Nat),G6 (.str z) (xs.map .str)=some (decide (z∈xs))
 | []=>rfl
 | y::ys=>by
  show(match bD 59 (.str y) (.str z),G6 (.str z) (ys.map .str) with|some a,some b=>some (a||b)|_,_=>none)=_;rw[Az z ys,str1];show some ((y == z)||decide (z∈ys))=_
  congr 1
  rw[Qkj,Qxw,beq_iff_eq,decide_eq_true_eq,decide_eq_true_eq,Qqw];exact or_congr_left eq_comm
theorem zB(z:List Nat)(xs:List (List Nat)):jH (.str z) (.lst (xs.map .str))=some (.bl (!decide (z∈xs))):=by
 show(vZ (.str z) (.lst (xs.map .str))).or _=_;have:vZ (.str z) (.lst (xs.map .str))=some (.bl (!decide (z∈xs))):=by
  show(G6 (.str z) (xs.map .str)).map (λb=>D.bl (!b))=_;rw[Az]
  rfl
 rw[this]
 rfl
theorem Ph{z:List Nat}{xs:List (List Nat)}{j:Nat}(h:je z xs=some j):qw (.lst (xs.map .str)) (.str z)=some (.int (j:Nat)):=by
 show(gB (xs.map D.str)).bind (λzs=>(je z zs).map λj=>D.int (j:Nat))=_;rw[strs_map];show(je z xs).map _=_;rw[h]
 rfl
theorem xU{z:List Nat}:∀{xs:List (List Nat)} {j:Nat},je z xs=some j->z∈xs/\j<xs.length
 | [],j,h=>by cases h
 | y::ys,j,h=>by
  unfold je at h;split at h
  ·rename_i e;cases h;exact⟨by rw[show y=z from by simpa using e];exact Qqv ..,Nat.succ_pos _⟩
  ·obtain⟨k,hk,rfl⟩:=Qw1.mp h;have:=xU hk;exact⟨Qq0 _ this.1,Nat.succ_lt_succ this.2⟩
theorem xD{m:Nat}:∀(xs:List (List Nat)),(∀p∈xs,p.length<=m)->(xs.map List.length).sum<=xs.length*m
 | [],_=>Qzk _
 | p::ps,h=>by
  have:=xD ps λq hq=>h q (Qq0 _ hq);have h1:=h p (Qqv ..);rw[Qq8,Qjk,Qqk,Nat.succ_mul];omega
theorem Gb{xs:List (List Nat)}(h1:xs.length<=1001)(h2:∀q∈xs,q.length<=1000):fY (.str [32]) (.lst (xs.map .str))=some (.str (bQ [32] xs)):=by show(match gB (xs.map D.str) with|some xs=>if joinFits [32] xs=true then some (D.str (bQ [32] xs)) else none|none=>none)=_;rw[strs_map];refine if_pos (Qw2 ?_);have:=xD xs h2;have:xs.length*1000<=1001*1000:=Nat.mul_le_mul_right _ h1;show _+xs.length*1<=_;omega
def wj(t:List Nat):Nat:=(je [47] (jk 32 t)).getD 0
def wk(t:List Nat):Nat:=(je [95] (jk 32 t)).getD 0
def lw(t:List Nat):List Nat:=bQ [32] (((jk 32 t).drop (wj t+1)).take (wk t - (wj t+1)))
def Ck(t:List Nat):List Nat:=bQ [32] ((jk 32 t).drop (wk t+1))
def cw(t:List Nat):List (List Nat):=((jk 32 t).drop 1).take (wj t - 1)
def hw(t:List Nat):List Nat:=(jk 32 t).headD []
def both(t:List Nat):Bool:=decide ([47]∈jk 32 t)&&decide ([95]∈jk 32 t)
theorem uF{z:List Nat}:∀{xs:List (List Nat)},z∈xs->∃j,je z xs=some j
 | [],h=>nomatch h
 | y::ys,h=>by
  unfold je;split
  ·exact⟨0,rfl⟩
  ·rename_i e;rcases Qqw.mp h with rfl|h
   ·exact absurd (by simp) e
   ·obtain⟨j,hj⟩:=uF h;exact⟨j+1,by rw[hj];rfl⟩
abbrev E7(T:D)(t:List Nat)(W:List (List Nat))(a b c d:OD):Ev.Env:=[Zf T,Zs t,(Zf (.lst (W.map .str))),a,b,c,d]
abbrev Hc(T:D)(t:List Nat)(W CW:List (List Nat))(j k:Nat)(d:OD):Ev.Env:=E7 T t W (Zf (.int (j:Nat))) (Zf (.int (k:Nat))) (Zf (.tup (CW.map λw=>cD (ch w)))) d
abbrev Nq(T:D)(t:List Nat)(W:List (List Nat)):Ev.Env:=E7 T t W none none none none
theorem Dq(T:D){t:List Nat}(hl:t.length<=1000)(h:both t=false):cW [T,.str t]=some .non:=by
 have hs:ik (.str t) (.str [32])=some (.lst ((jk 32 t).map .str)):=sS (by decide +kernel) (by omega);have n1:=zB [47] (jk 32 t);have n2:=zB [95] (jk 32 t);unfold both at h;generalize jk 32 t=W at *;refine cQ (env:=(Nq T t W)) ?_;unfold j7;refine(aG (e:=(Nq T t W)) ?_).trans ?_
 ·exact bL (e:=[Zf T,Zs t,Zn,Zn,Zn,Zn,Zn]) (aJ (x:=.str t) (y:=.str [32]) (e1:=[Zf T,Zs t,Zn,Zn,Zn,Zn,Zn]) rfl rfl hs) rfl
 have g1:=cF (aJ (g:=jH) (a:=Zw [47]) (b:=bz 2) (env:=(Nq T t W)) (x:=.str [47]) (y:=.lst (W.map .str)) (e1:=(Nq T t W)) rfl rfl n1);have g2:=cF (aJ (g:=jH) (a:=Zw [95]) (b:=bz 2) (env:=(Nq T t W)) (x:=.str [95]) (y:=.lst (W.map .str)) (e1:=(Nq T t W)) rfl rfl n2);refine iB ((lX (e:=(Nq T t W)) ?_).trans rfl);cases e:decide ([47]∈W) with
 | false=>rw[e] at g1;exact Gr g1
 | true=>
  rw[e] at g1 h;rw[Bool.true_and] at h;rw[h] at g2;exact(gq g1).trans g2
theorem read_parts(T:D){t:List Nat}(hl:t.length<=1000)(h:both t=true){L R:D}(hL:eF [T,.str (lw t)]=some L)(hR:eF [T,.str (Ck t)]=some R) :
  cW [T,.str t]=some (.tup [.str (hw t),.tup ((cw t).map λw=>cD (ch w)),L,R]):=by
 have hs:ik (.str t) (.str [32])=some (.lst ((jk 32 t).map .str)):=sS (by decide +kernel) (by omega);unfold both at h;rw[Qwx,decide_eq_true_eq,decide_eq_true_eq] at h;obtain⟨j,hj⟩:=uF h.1;obtain⟨k,hk⟩:=uF h.2;have ej:wj t=j:=by unfold wj;rw[hj];rfl
 have ek:wk t=k:=by unfold wk;rw[hk];rfl
 have c0:gM (.lst ((jk 32 t).map .str)) (.int 0)=some (.str (hw t)):=by obtain⟨p,ps,e⟩:=nq 32 t;unfold hw;rw[e];exact dZ (j:=0) rfl
 have n1:=zB [47] (jk 32 t);have n2:=zB [95] (jk 32 t);rw[Qw2 h.1] at n1;rw[Qw2 h.2] at n2;have i1:=Ph hj;have i2:=Ph hk;have b1:=(xU hj).2;have b2:=(xU hk).2;have w1:=zy 32 t;have w2:=acW 32 t;have c1:cutD (jk 32 t) (some ((1:Nat):Int)) (some ((j:Nat):Int))=cw t:=by unfold cw;rw[ej];exact Qj _ _ _ (by omega)
 have c2:bQ [32] (cutD (jk 32 t) (some ((j+1:Nat):Int)) (some ((k:Nat):Int)))=lw t:=by unfold lw;rw[ej,ek,Qj _ _ _ (by omega)]
 have c3:bQ [32] (cutD (jk 32 t) (some ((k+1:Nat):Int)) none)=Ck t:=by unfold Ck;rw[ek,Bk]
 have m:∀(lo hi:Option Int),(cutD (jk 32 t) lo hi).length<=1001/\∀q∈cutD (jk 32 t) lo hi,q.length<=1000:=λlo hi=>by
  refine⟨?_,λq hq=>?_⟩
  ·unfold cutD;rw[Qw8,Qxv];omega
  ·have:=w2 q (List.mem_of_mem_drop (List.mem_of_mem_take hq));omega
 have hcw:∀q∈cw t,q.length<=1000:=by rw[<-c1];exact(m _ _).2
 have hcl:(cw t).length<=1001:=by rw[<-c1];exact(m _ _).1
 have j1:=Gb (m (some ((j+1:Nat):Int)) (some ((k:Nat):Int))).1 (m _ _).2;have j2:=Gb (m (some ((k+1:Nat):Int)) none).1 (m _ _).2;rw[c2] at j1;rw[c3] at j2;have cm:=λlo hi=>zH (jk 32 t) lo hi;generalize hC:cw t=CW at *;clear hC ej ek w1 w2 m h hj hk b1 b2 c2 c3;generalize jk 32 t=W at *;refine cQ (env:=(Hc T t W CW j k (Zf L))) ?_;unfold j7;refine(aG (e:=(Nq T t W)) ?_).trans ?_
 ·exact bL (e:=[Zf T,Zs t,Zn,Zn,Zn,Zn,Zn]) (aJ (x:=.str t) (y:=.str [32]) (e1:=[Zf T,Zs t,Zn,Zn,Zn,Zn,Zn]) rfl rfl hs) rfl
 refine(aG (e:=(Nq T t W)) ?_).trans ?_
 ·refine(dg (e:=(Nq T t W)) ?_).trans rfl;refine(gq (e:=(Nq T t W)) (cF (aJ (x:=.str [47]) (y:=.lst (W.map .str)) (e1:=(Nq T t W)) rfl rfl n1))).trans ?_;exact cF (aJ (x:=.str [95]) (y:=.lst (W.map .str)) (e1:=(Nq T t W)) rfl rfl n2)
 refine(aG (e:=(E7 T t W (Zf (.int (j:Nat))) none none none)) ?_).trans ?_
 ·exact bL (e:=(Nq T t W)) (aJ (x:=.lst (W.map .str)) (y:=.str [47]) (e1:=(Nq T t W)) rfl rfl i1) rfl
 refine(aG (e:=(E7 T t W (Zf (.int (j:Nat))) (Zf (.int (k:Nat))) none none)) ?_).trans ?_
 ·exact bL (e:=(E7 T t W (Zf (.int (j:Nat))) none none none)) (aJ (x:=.lst (W.map .str)) (y:=.str [95]) (e1:=(E7 T t W (Zf (.int (j:Nat))) none none none)) rfl rfl i2) rfl
 refine(aG (e:=(Hc T t W CW j k none)) ?_).trans ?_
 ·refine bL (d:=.tup (CW.map λw=>cD (ch w))) (e:=(E7 T t W (Zf (.int (j:Nat))) (Zf (.int (k:Nat))) none none)) (aH (ds:=[.lst (CW.map λw=>cD (ch w))]) (aB ?_ aX) rfl) rfl;have s0:gk (aM 2) (nT (Zi 1)) (nT (aM 3)) (E7 T t W (Zf (.int (j:Nat))) (Zf (.int (k:Nat))) none none) = .ok (.lst (CW.map .str)) (E7 T t W (Zf (.int (j:Nat))) (Zf (.int (k:Nat))) none none):=by
   refine jt (d:=.lst (W.map .str)) (l:=some ((1:Nat):Int)) (u:=some ((j:Nat):Int)) (e1:=(E7 T t W (Zf (.int (j:Nat))) (Zf (.int (k:Nat))) none none)) (e2:=(E7 T t W (Zf (.int (j:Nat))) (Zf (.int (k:Nat))) none none)) rfl rfl rfl ?_;show some (D.lst (cutD (W.map D.str) (some ((1:Nat):Int)) (some ((j:Nat):Int))))=_;rw[cm,c1]
  exact o6 (lo:=7) (n:=8) CW D.str (λw=>cD (ch w)) (qx s0 rfl) rfl rfl (λw hw=>Ij (hcw w hw) _ _ _ _ _ _ _) (Qqy hcl (by decide))
 refine(aG (e:=(Hc T t W CW j k (Zf L))) ?_).trans ?_
 ·refine bL (d:=L) (e:=(Hc T t W CW j k none)) ?_ rfl;have s0:gk (aM 2) (nT (aA bK 3 (Zi 1))) (nT (aM 4)) (Hc T t W CW j k none) = .ok (.lst ((cutD W (some ((j+1:Nat):Int)) (some ((k:Nat):Int))).map .str)) (Hc T t W CW j k none):=by
   refine jt (d:=.lst (W.map .str)) (l:=some ((j+1:Nat):Int)) (u:=some ((k:Nat):Int)) (e1:=(Hc T t W CW j k none)) (e2:=(Hc T t W CW j k none)) rfl rfl rfl ?_;show some (D.lst (cutD (W.map D.str) _ _))=_;rw[cm]
  exact aH (ds:=[T,.str (lw t)]) (aB (d:=T) (e1:=(Hc T t W CW j k none)) rfl (aB (aJ (x:=.str [32]) rfl s0 j1) aX)) hL
 have s0:gk (aM 2) (nT (aA bK 4 (Zi 1))) iQ (Hc T t W CW j k (Zf L)) = .ok (.lst ((cutD W (some ((k+1:Nat):Int)) none).map .str)) (Hc T t W CW j k (Zf L)):=by refine jt (d:=.lst (W.map .str)) (l:=some ((k+1:Nat):Int)) (u:=none) (e1:=(Hc T t W CW j k (Zf L))) (e2:=(Hc T t W CW j k (Zf L))) rfl rfl rfl ?_;show some (D.lst (cutD (W.map D.str) _ _))=_;rw[cm]
 refine bY (fC (aB (d:=.str (hw t)) (e1:=(Hc T t W CW j k (Zf L))) (gP (x:=.lst (W.map .str)) (y:=.int 0) rfl rfl rfl c0) (aB (d:=.tup (CW.map λw=>cD (ch w))) (e1:=(Hc T t W CW j k (Zf L))) rfl (aB (d:=L) (e1:=(Hc T t W CW j k (Zf L))) rfl (aB (d:=R) (e1:=(Hc T t W CW j k (Zf L))) ?_ aX)))) Ev.zz4);exact aH (ds:=[T,.str (Ck t)]) (aB (d:=T) (e1:=(Hc T t W CW j k (Zf L))) rfl (aB (aJ (x:=.str [32]) rfl s0 j2) aX)) hR
abbrev Rn:=Nat×List (List Nat)
def row(r:Rn):D:=.tup [.str [r.1],.tup (r.2.map .str)]
def tL(L:List Rn)(ms:List (List Nat)):List Nat:=(L.filter λr=>ms.all λm=>decide (m∈r.2)).map (·.1)
theorem Ws(m:List Nat)(ws:List (List Nat)):R7 (.str m) (.tup (ws.map .str))=some (.bl (decide (m∈ws))):=by
 show(Mw (.str m) (.tup (ws.map .str))).or _=_;have:Mw (.str m) (.tup (ws.map .str))=some (.bl (decide (m∈ws))):=by
  show(G6 (.str m) (ws.map .str)).map D.bl=_;rw[Az]
  rfl
 rw[this]
 rfl
theorem sounds_of{L:List Rn}(hl:L.length<=1000):lN [.tup (L.map row)]=some (.tup (fW (L.map (·.1)))):=by
 have h4:=uU (lo:=1) (n:=3) (it:=gO (aM 0)) (g:=gj 2 (bI (au 1) (bI (au 2) gG))) (c:=cP) (e:=aM 1) (env:=[(Zf (.tup (L.map row)))]) L row (λr=>[Zs [r.1],(Zf (.tup (r.2.map .str)))]) (λ_=>true) (λr=>.str [r.1]) rfl rfl (λd hd=>by
  refine⟨rfl,λvs hv=>?_,rfl,λ_=>rfl⟩
  match vs,hv with
  | [_,_],_=>rfl) (Qqy hl (by decide))
 rw[List.filter_eq_self.mpr (λ_ _=>rfl)] at h4;refine cQ (bY (aH (aB h4 aX) ?_));unfold fW;rw[Qxk]
 rfl
theorem sounds_by{L:List Rn}{ms:List (List Nat)}(hl:L.length<=1000)(hm:ms.length<=10000):n6 [.tup (L.map row),.lst (ms.map .str)]=some (.tup (fW (tL L ms))):=by
 have h1:∀r:Rn,iG [(Zf (.tup (L.map row))),(Zf (.lst (ms.map .str))),Zs [r.1],(Zf (.tup (r.2.map .str)))] = .ok (.lst (ms.map λm=>.bl (decide (m∈r.2)))) [(Zf (.tup (L.map row))),(Zf (.lst (ms.map .str))),Zs [r.1],(Zf (.tup (r.2.map .str)))]:=λr=>
  o6 (lo:=4) (n:=5) ms D.str (λm=>.bl (decide (m∈r.2))) rfl rfl rfl (λm _=>gP (x:=.str m) (y:=.tup (r.2.map .str)) rfl rfl rfl (Ws m r.2)) (Qqy hm (by decide))
 have h4:=uU (lo:=2) (n:=4) (it:=gO (aM 0)) (g:=gj 2 (bI (au 2) (bI (au 3) gG))) (c:=dw (aq uQ (aa (iG) aj))) (e:=aM 2) (env:=[(Zf (.tup (L.map row))),(Zf (.lst (ms.map .str)))]) L row (λr=>[Zs [r.1],(Zf (.tup (r.2.map .str)))]) (λr=>ms.all λm=>decide (m∈r.2)) (λr=>.str [r.1]) rfl rfl (λr hd=>by
  refine⟨rfl,λvs hv=>?_,?_,λ_=>rfl⟩
  ·match vs,hv with
   | [_,_],_=>rfl
  ·exact cF (aH (aB (h1 r) aX) (JK _ ms))) (Qqy hl (by decide))
 refine cQ (bY (aH (aB h4 aX) ?_));unfold fW tL;rw[Qxk]
 rfl
theorem ago(z:List Nat)(c k:Nat):Builtin.Str.subAt (strOf z) (strOf [c]) k=(((z.drop k).take 1) == [c]):=by
 rw[StrLaws.subAt_eq,toL,toL,aU]
 rfl
theorem starts(z:List Nat)(c:Nat):sZ (.str z) (.str [c])=some (.bl (z.head? == some c)):=by
 show some (D.bl (decide (0+(strOf [c]).length<=(strOf z).length)&&Builtin.Str.subAt (strOf z) (strOf [c]) 0))=_;rw[ago,aU,aU];cases z with
 | nil=>rfl
 | cons a t=>
  rw[Qw2 (by show 0+1<=t.length+1;omega),Bool.true_and];show some (D.bl ([a] == [c]))=some (D.bl (some a == some c))
  congr 2
  simp
theorem ends(z:List Nat)(c:Nat):DR (.str z) (.str [c])=some (.bl (z.getLast? == some c)):=by
 show some (D.bl (decide (0+(strOf [c]).length<=(strOf z).length)&&Builtin.Str.subAt (strOf z) (strOf [c]) ((strOf z).length - (strOf [c]).length)))=_;rw[ago,aU,aU];rcases List.eq_nil_or_concat z with rfl|⟨t,a,rfl⟩
 ·rfl
 ·rw[List.concat_eq_append,List.getLast?_append,Qqq];rw[Qw2 (by show 0+1<=t.length+1;omega),Bool.true_and];show some (D.bl ((((t++[a]).drop (t.length+1 - 1)).take 1) == [c]))=some (D.bl (some a == some c));rw[Nat.add_sub_cancel,List.drop_left]
  congr 2
  simp
def brk(z:List Nat):Bool:=z.head? == some 91&&z.getLast? == some 93
def sg(L:List Rn)(z:List Nat):Option (List Nat):=if z=[42] then none else if brk z=true then some (tL L (jk 32 ((z.drop 1).take (z.length - 2)))) else some z
theorem afm(z:List Nat)(h:2<=z.length):cutD z (some 1) (some (-1))=(z.drop 1).take (z.length - 2):=by
 unfold cutD;have e1:HT.fL z.length 0 (some 1)=1:=by show HT.fL z.length 0 (some ((1:Nat):Int))=1;rw[HT.vG];omega
 have e2:HT.fL z.length z.length (some (-1))=z.length - 1:=by unfold HT.fL;simp;omega
 rw[e1,e2]
 rfl
theorem aaS{z:List Nat}(h:brk z=true):2<=z.length:=by
 unfold brk at h
 match z with
 | []=>simp at h
 | [a]=>
  simp at h;omega
 | _::_::r=>simp
abbrev E2(L:List Rn)(z:List Nat):Ev.Env:=[(Zf (.tup (L.map row))),Zs z]
theorem read_signs{L:List Rn}(hL:L.length<=1000){z:List Nat}(hz:z.length<=9000):eF [.tup (L.map row),.str z]=some (gD (sg L z)):=by
 unfold sg;by_cases h:z=[42]
 ·subst h;rfl
 rw[if_neg h];refine cQ (env:=(E2 L z)) ?_;show jb (E2 L z)=_;unfold jb;refine(aG (e:=(E2 L z)) ?_).trans ?_
 ·exact(dg (cF (gP (x:=.str z) (y:=.str [42]) rfl rfl rfl (zP h)))).trans rfl
 have g1:bV (dw (az sZ (aM 1) (Zw [91]))) (E2 L z) = .ok (!(z.head? == some 91)) (E2 L z):=dF (cF (aJ (x:=.str z) (y:=.str [91]) (e1:=(E2 L z)) rfl rfl (starts z 91)));have g2:bV (dw (az DR (aM 1) (Zw [93]))) (E2 L z) = .ok (!(z.getLast? == some 93)) (E2 L z):=dF (cF (aJ (x:=.str z) (y:=.str [93]) (e1:=(E2 L z)) rfl rfl (ends z 93)));have g:gQ (bV (dw (az sZ (aM 1) (Zw [91])))) (bV (dw (az DR (aM 1) (Zw [93])))) (E2 L z) = .ok (!brk z) (E2 L z):=by
  unfold brk;cases e:(z.head? == some 91) with
  | false=>rw[e] at g1;exact Gr g1
  | true=>rw[e] at g1;exact(gq g1).trans g2
 cases e:brk z with
 | false=>
  rw[e] at g;rw[if_neg Qw3];exact iB ((lX g).trans rfl)
 | true=>
  rw[e] at g;rw[if_pos rfl];refine(aG (e:=(E2 L z)) ?_).trans ?_
  ·exact(dg g).trans rfl
  have hc:=afm z (aaS e);have hlm:((z.drop 1).take (z.length - 2)).length<=9000:=by rw[Qw8,Qxv];omega
  have hs:ik (.str ((z.drop 1).take (z.length - 2))) (.str [32])=some (.lst ((jk 32 ((z.drop 1).take (z.length - 2))).map .str)):=sS (by decide +kernel) (by omega);have hsl:=zy 32 ((z.drop 1).take (z.length - 2));refine bY (aH (ds:=[.tup (L.map row),.lst ((jk 32 ((z.drop 1).take (z.length - 2))).map .str)]) (aB (e1:=(E2 L z)) rfl (aB (e1:=(E2 L z)) (aJ (x:=.str ((z.drop 1).take (z.length - 2))) (y:=.str [32]) (e1:=(E2 L z)) ?_ rfl hs) aX)) (sounds_by hL (by omega)));refine jt (d:=.str z) (l:=some 1) (u:=some (-1)) (e1:=(E2 L z)) (e2:=(E2 L z)) rfl rfl rfl ?_;show some (D.str (cutD z (some 1) (some (-1))))=_;rw[hc]
theorem Ar:∀(xs:List (List Nat)),(bQ [32] xs).length<=(xs.map λq=>q.length+1).sum
 | []=>Qzk _
 | [p]=>by show p.length<=p.length+1+0;omega
 | p::q::xs=>by
  have:=Ar (q::xs);rw[bG,Qqq,Qqq,Qq8,Qjk];show p.length+1+_<=_;omega
theorem qZ:∀(p:List Nat) (xs:List (List Nat)),((p::xs).map λq=>q.length+1).sum<=(bQ [32] (p::xs)).length+1
 | p,[]=>Qq2 _
 | p,q::xs=>by
  have:=qZ q xs;rw[bG,Qqq,Qqq,Qq8,Qjk];show _<=p.length+1+_+1;omega
theorem HB(xs:List (List Nat))(k:Nat):((xs.drop k).map λq=>q.length+1).sum<=(xs.map λq=>q.length+1).sum:=by
 induction xs generalizing k with
 | nil=>rw[List.drop_nil];exact Qq2 _
 | cons x xs ih=>
  cases k with
  | zero=>exact Qq2 _
  | succ k=>have:=ih k;rw[List.drop_succ_cons,Qq8,Qjk];omega
theorem TY(xs:List (List Nat))(k:Nat):((xs.take k).map λq=>q.length+1).sum<=(xs.map λq=>q.length+1).sum:=by
 induction xs generalizing k with
 | nil=>rw[List.take_nil];exact Qq2 _
 | cons x xs ih=>
  cases k with
  | zero=>exact Qzk _
  | succ k=>have:=ih k;rw[List.take_succ_cons,Qq8,Qq8,Qjk,Qjk];omega
theorem NP(t:List Nat):((jk 32 t).map λq=>q.length+1).sum<=t.length+1:=by
 obtain⟨p,ps,e⟩:=nq 32 t;have h:=lJ 32 t;rw[e] at h ⊢;have:=qZ p ps
 rwa [h] at this
theorem abN(t:List Nat):(lw t).length<=t.length+1:=by unfold lw;exact Qqy (Ar _) (Qqy (TY _ _) (Qqy (HB _ _) (NP t)))
theorem rw_le(t:List Nat):(Ck t).length<=t.length+1:=by unfold Ck;exact Qqy (Ar _) (Qqy (HB _ _) (NP t))
def rq(L:List Rn)(t:List Nat):Q:=⟨hw t,(cw t).map ch,sg L (lw t),sg L (Ck t)⟩
def ok(L:List Rn)(t:List Nat):Bool:=both t&&RK (L.map (·.1)) (rq L t)
theorem Uk{L:List Rn}(hL:L.length<=1000){z y:List Nat}(hz:z.length<=1000)(h:sg L z=some y):y.length<=1000:=by
 unfold sg at h;split at h
 ·cases h
 ·split at h
  ·cases h;unfold tL;rw[Qqz];exact Qqy (List.length_filter_le _ _) hL
  ·cases h;exact hz
section
variable{L:List Rn}(hL:L.length<=1000){t:List Nat}(ht:t.length<=900)
include hL ht
theorem abw:Sm (rq L t):=by refine⟨?_,λz h=>Uk hL (Qqy (abN t) (by omega)) h,λz h=>Uk hL (Qqy (rw_le t) (by omega)) h⟩;show((cw t).map ch).length<=1000;have:=zy 32 t;rw[Qqz];unfold cw;rw[Qw8,Qxv];omega
theorem parts(h:both t=true):cW [.tup (L.map row),.str t]=some (qD (rq L t)):=by
 have:=read_parts (.tup (L.map row)) (t:=t) (by omega) h (read_signs hL (Qqy (abN t) (by omega))) (read_signs hL (Qqy (rw_le t) (by omega)));rw[this];unfold rq qD;rw[Qxk]
 rfl
end
abbrev Pt:=List Nat×List Nat
def iZ(p:Pt):D:=.tup [.str p.1,.str p.2]
open KX (Xw)
structure QR where
 w:List Nat
 ps:List Pt
 l:Option (List Nat)
 r:Option (List Nat)
def dW(q:QR):D:=.tup [.str q.w,.tup (q.ps.map iZ),gD q.l,gD q.r]
def Ey:List Nat->List Nat
 | []=>[48]
 | c::t=>c::t
def tZ:Option (List Nat)->List Nat
 | none=>[42]
 | some z=>z
def qL(p:Pt):List Nat:=Ey p.1++[62]++Ey p.2
def Tw(q:QR):List (List Nat):=(q.w::q.ps.map qL)++[47]::[tZ q.l,[95],tZ q.r]
def txt(q:QR):List Nat:=bQ [32] (Tw q)
def lW(c:Nat):Prop:=97<=c/\c<=122
def Xl(z:List Nat):Prop:=z=[]\/∃c,z=[c]/\lW c
def Sg(g:Option (List Nat)):Prop:=∀z,g=some z->z≠[]/\z.length<=5/\∀c∈z,c=35\/lW c
structure Kr(q:QR):Prop where
 w:q.w=[111,110,99,101]\/q.w=[97,108,111,110,103]
 n:q.ps.length<=4
 p:∀p∈q.ps,Xl p.1/\Xl p.2
 l:Sg q.l
 r:Sg q.r
theorem Uh{z:List Nat}(h:Xl z):∃a,Ey z=[a]/\(a=48\/lW a)/\(z=[]↔a=48):=by
 rcases h with rfl|⟨c,rfl,h⟩
 ·exact⟨48,rfl,.inl rfl,by simp⟩
 ·exact⟨c,rfl,.inr h,⟨λe=>absurd e (List.cons_ne_nil _ _),λe=>absurd h.1 (by omega)⟩⟩
theorem yl{p:Pt}(h:Xl p.1/\Xl p.2):∃a b,qL p=[a,62,b]/\Ey p.1=[a]/\Ey p.2=[b]/\(a=48\/lW a)/\(b=48\/lW b):=by obtain⟨a,e1,h1,_⟩:=Uh h.1;obtain⟨b,e2,h2,_⟩:=Uh h.2;exact⟨a,b,by unfold qL;rw[e1,e2];rfl,e1,e2,h1,h2⟩
theorem rz{g:Option (List Nat)}(h:Sg g):(tZ g).length<=5/\∀c∈tZ g,c=42\/c=35\/lW c:=by
 cases g with
 | none=>exact⟨by decide,λc hc=>.inl (Qwz.mp hc)⟩
 | some z=>exact⟨(h z rfl).2.1,λc hc=>.inr ((h z rfl).2.2 c hc)⟩
theorem w_is{w:List Nat}(h:w=[111,110,99,101]\/w=[97,108,111,110,103]):w.length<=5/\∀c∈w,lW c:=by
 rcases h with rfl|rfl
 ·exact⟨by decide,by unfold lW;decide⟩
 ·exact⟨by decide,by unfold lW;decide⟩
def Sgn(c:Nat):Prop:=c≠32/\c≠59
theorem Ny{q:QR}(h:Kr q):Xw (Tw q) 9 5:=by
 have hw:=(w_is h.w).1;have hl:=(rz h.l).1;have hr:=(rz h.r).1;have hn:=h.n;refine⟨?_,λz hz=>?_⟩
 ·unfold Tw;rw[Qqq,Qqk,Qqz];show q.ps.length+1+4<=9;omega
 ·unfold Tw at hz;rcases Qxx.mp hz with hz|hz
  ·rcases Qqw.mp hz with rfl|hz
   ·exact hw
   ·obtain⟨p,hp,rfl⟩:=Qwk.mp hz;obtain⟨a,b,e,_⟩:=yl (h.p p hp);rw[e];exact(by decide:3<=5)
  ·simp only[Qqw,Qwv,Qjz] at hz;rcases hz with rfl|rfl|rfl|rfl
   ·decide
   ·exact hl
   ·decide
   ·exact hr
theorem Yh{q:QR}(h:Kr q):∀z∈Tw q,∀c∈z,Sgn c:=by
 intro z hz c hc;unfold Tw at hz;rcases Qxx.mp hz with hz|hz
 ·rcases Qqw.mp hz with rfl|hz
  ·have:=(w_is h.w).2 c hc;unfold lW at this;unfold Sgn;omega
  ·obtain⟨p,hp,rfl⟩:=Qwk.mp hz;obtain⟨a,b,e,_,_,h1,h2⟩:=yl (h.p p hp);rw[e] at hc;unfold lW at h1 h2;unfold Sgn;simp only[Qqw,Qwv,Qjz] at hc;omega
 ·simp only[Qqw,Qwv,Qjz] at hz;rcases hz with rfl|rfl|rfl|rfl
  ·rw[Qwz.mp hc];unfold Sgn;decide
  ·have:=(rz h.l).2 c hc;unfold lW at this;unfold Sgn;omega
  ·rw[Qwz.mp hc];unfold Sgn;decide
  ·have:=(rz h.r).2 c hc;unfold lW at this;unfold Sgn;omega
theorem Jq(sep:List Nat)(P:Nat->Prop)(hs:∀c∈sep,P c):∀xs:List (List Nat),(∀z∈xs,∀c∈z,P c)->∀c∈bQ sep xs,P c
 | [],_,c,hc=>by simp[bQ] at hc
 | [p],h,c,hc=>h p (Qqv ..) c hc
 | p::q::r,h,c,hc=>by
  rw[KX.bG] at hc;rcases Qxx.mp hc with hc|hc
  ·rcases Qxx.mp hc with hc|hc
   ·exact h p (Qqv ..) c hc
   ·exact hs c hc
  ·exact Jq sep P hs (q::r) (λz hz=>h z (Qq0 _ hz)) c hc
theorem lB{q:QR}(h:Kr q):59 ∉ txt q:=λhc=>Jq [32] (λc=>c≠59) (by decide) (Tw q) (λz hz c hc=>(Yh h z hz c hc).2) 59 hc rfl
theorem lC{q:QR}(h:Kr q):(txt q).length<=63:=Qqy ((Ny h).join (by decide)) (by decide)
theorem WL{c u v:List Nat}{a b:Ev}{env e1 e2:Ev.Env}(h1:a env = .ok (.str u) e1)(h2:b e1 = .ok (.str v) e2)(hz:u.length+c.length+v.length<=sizeLine):JR c a b env = .ok (.str (u++c++v)) e2:=by unfold JR;rw[h1];show bindR (b e1) _=_;rw[h2];show(if u.length+c.length+v.length<=sizeLine then _ else _)=_;rw[if_pos hz]
theorem show_sound(z:List Nat):gY [.str z]=some (.str (Ey z)):=by cases z<;>rfl
theorem Av:∀z:List Nat,bQ [] (z.map λc=>[c])=z
 | []=>rfl
 | [c]=>rfl
 | c::d::r=>by
  have:=Av (d::r);rw[Qq8] at this;rw[Qq8,Qq8,KX.bG,this]
  rfl
theorem QW{z:List Nat}(h:z.length<=5):Xw (z.map λc=>[c]) 5 1:=
 ⟨by rw[Qqz];exact h,λp hp=>by obtain⟨c,_,rfl⟩:=Qwk.mp hp;exact Qq2 _⟩
theorem Jp{z:List Nat}(h:z.length<=5):uP (.str []) (.tup (fW z))=some (.str z):=by have e:=KX.aeM (QW h) (sep:=[]) (by decide) (by decide);rw[Av,Qxk] at e;exact e
theorem show_signs{g:Option (List Nat)}(h:Sg g):gZ [gD g]=some (.str (tZ g)):=by
 cases g with
 | none=>rfl
 | some z=>
  refine cQ (env:=[(Zf (.tup (fW z)))]) (bY ?_);show(My _ _ _) [(Zf (.tup (fW z)))]=_;unfold My;show az uP (Zw []) (bz 0) [(Zf (.tup (fW z)))]=_;exact aJ (x:=.str []) (y:=.tup (fW z)) rfl rfl (Jp (h z rfl).2.1)
theorem rT{g:Option (List Nat)}(h:Sg g):cN [gD g]=some (.str (tZ g)):=by
 cases g with
 | none=>rfl
 | some z=>
  refine cQ (env:=[(Zf (.tup (fW z)))]) ?_;unfold gH;refine(aG (e:=[(Zf (.tup (fW z)))]) rfl).trans (bY ?_);exact aJ (x:=.str []) (y:=.tup (fW z)) rfl rfl (Jp (h z rfl).2.1)
theorem O7{α:Type}{g:GV}{e:Ev}(P:Ev.Env->Prop)(enc out:α->D):∀(l:List α) (env:Ev.Env),P env->(∀a∈l,∀env,P env->∃e1 e2,g (enc a) env=some e1/\e e1 = .ok (out a) e2/\P e2)->∃env',Cw g cP e (l.map enc) env = .ok (l.map out) env'/\P env'
 | [],env,hp,_=>⟨env,rfl,hp⟩
 | a::l,env,hp,h=>by
  obtain⟨e1,e2,h1,h2,h3⟩:=h a (Qqv ..) env hp;obtain⟨env',h4,h5⟩:=O7 P enc out l e2 h3 λb hb=>h b (Qq0 _ hb);refine⟨env',?_,h5⟩;rw[Qq8,Qq8];unfold Cw;rw[h1];show bindR (e e1) _=_;rw[h2];show bindR (Cw g cP e (l.map enc) e2) _=_;rw[h4]
  rfl
theorem ajj(f:Pt->List Nat)(ps:List Pt):ps.map (λp=>D.str (f p))=(ps.map f).map D.str:=by rw[Qxk];rfl
theorem show_rule{q:QR}(h:Kr q):jO [dW q]=some (.str (txt q)):=by
 have L:iH [Zf (dW q),Zs q.w,(Zf (.tup (q.ps.map iZ))),Zf (gD q.l),Zf (gD q.r),Zn] = .ok (.lst ((q.ps.map qL).map .str)) [Zf (dW q),Zs q.w,(Zf (.tup (q.ps.map iZ))),Zf (gD q.l),Zf (gD q.r),Zn]:=by
  obtain⟨env',h1,v6,v7,rfl⟩:=O7 (g:=gj 2 (bI (au 6) (bI (au 7) gG))) (e:=JR [62] (aq gY (Zv 6 aj)) (aq gY (Zv 7 aj)))
   (λenv=>∃v6 v7,env=[Zf (dW q),Zs q.w,(Zf (.tup (q.ps.map iZ))),Zf (gD q.l),Zf (gD q.r),Zn,v6,v7]) iZ (λp=>.str (qL p)) q.ps [Zf (dW q),Zs q.w,(Zf (.tup (q.ps.map iZ))),Zf (gD q.l),Zf (gD q.r),Zn,Zn,Zn] ⟨none,Zn,rfl⟩
   (λp hp env ⟨v6,v7,he⟩=>by
    subst he;obtain⟨a,b,_,e1,e2,_⟩:=yl (h.p p hp);refine⟨[Zf (dW q),Zs q.w,(Zf (.tup (q.ps.map iZ))),Zf (gD q.l),Zf (gD q.r),Zn,Zs p.1,Zs p.2],[Zf (dW q),Zs q.w,(Zf (.tup (q.ps.map iZ))),Zf (gD q.l),Zf (gD q.r),Zn,Zs p.1,Zs p.2],rfl,?_,_,_,rfl⟩;refine WL (aH (ds:=[.str p.1]) rfl (show_sound p.1)) (aH (ds:=[.str p.2]) rfl (show_sound p.2)) ?_;rw[e1,e2];show 3<=sizeLine
    decide)
  rw[ajj] at h1;exact wC (lo:=6) (n:=8) (ds:=q.ps.map iZ) (ys:=(q.ps.map qL).map .str) (aD:=[Zf (dW q),Zs q.w,(Zf (.tup (q.ps.map iZ))),Zf (gD q.l),Zf (gD q.r),Zn]) rfl rfl h1 (by rw[Qqz,Qqz];exact Qqy h.n (by decide))
 have h4:=h.n;refine cQ (env:=[Zf (dW q),Zs q.w,(Zf (.tup (q.ps.map iZ))),Zf (gD q.l),Zf (gD q.r),(Zl ((q.ps.map qL).map .str))]) ?_;unfold oF;refine(aG (e:=[Zf (dW q),Zs q.w,(Zf (.tup (q.ps.map iZ))),Zf (gD q.l),Zf (gD q.r),Zn]) rfl).trans ?_;refine(aG (zT L)).trans ?_;refine bY (aJ (x:=.str [32]) (y:=.lst ((Tw q).map .str)) (e1:=[Zf (dW q),Zs q.w,(Zf (.tup (q.ps.map iZ))),Zf (gD q.l),Zf (gD q.r),(Zl ((q.ps.map qL).map .str))]) rfl ?_ (KX.Gb (Ny h) (by decide) (by decide)));refine aJ (x:=.lst ((q.w::q.ps.map qL).map .str)) (y:=.lst ([[47],tZ q.l,[95],tZ q.r].map .str)) (e1:=[Zf (dW q),Zs q.w,(Zf (.tup (q.ps.map iZ))),Zf (gD q.l),Zf (gD q.r),(Zl ((q.ps.map qL).map .str))]) ?_ ?_ ?_
 ·refine aJ (x:=.lst [.str q.w]) (y:=.lst ((q.ps.map qL).map .str)) (e1:=[Zf (dW q),Zs q.w,(Zf (.tup (q.ps.map iZ))),Zf (gD q.l),Zf (gD q.r),(Zl ((q.ps.map qL).map .str))]) rfl rfl ?_;refine(wy ?_).trans rfl;rw[Qqz,Qqz];show 1+q.ps.length<=sizeLine;exact Qqy (Nat.add_le_add_left h4 1) (by decide)
 ·refine lU (aB (d:=.str [47]) (e1:=[Zf (dW q),Zs q.w,(Zf (.tup (q.ps.map iZ))),Zf (gD q.l),Zf (gD q.r),(Zl ((q.ps.map qL).map .str))]) rfl (aB (aH (ds:=[gD q.l]) (e:=[Zf (dW q),Zs q.w,(Zf (.tup (q.ps.map iZ))),Zf (gD q.l),Zf (gD q.r),(Zl ((q.ps.map qL).map .str))]) rfl (show_signs h.l)) (aB (d:=.str [95]) (e1:=[Zf (dW q),Zs q.w,(Zf (.tup (q.ps.map iZ))),Zf (gD q.l),Zf (gD q.r),(Zl ((q.ps.map qL).map .str))]) rfl (aB (aH (ds:=[gD q.r]) rfl (show_signs h.r)) aX)))) Ev.zz4
 ·refine(wy ?_).trans ?_
  ·rw[Qqz,Qqk,Qqz];show q.ps.length+1+4<=sizeLine;exact Qqy (Nat.add_le_add_right (Nat.add_le_add_right h4 1) 4) (by decide)
  ·unfold Tw;rw[Qx1]
theorem JM(xs ys:List (List Nat))(a:List Nat):bQ [32] ((a::xs)++ys)=ys.foldl (λacc y=>acc++[32]++y) (bQ [32] (a::xs)):=by
 show(xs++ys).foldl (λacc y=>acc++[32]++y) a=_;rw[List.foldl_append]
 rfl
theorem ix0{z:List Nat}(h:Xl z):gM (.str (z++[48])) (.int 0)=some (.str (Ey z)):=by rcases h with rfl|⟨c,rfl,h⟩<;>rfl
theorem o4{a b:List Nat}(h:a.length+b.length<=100000):bK (.str a) (.str b)=some (.str (a++b)):=if_pos (Qqy h (by decide))
theorem N7(A0 A1 A2 A3 A4:OD):∀(ps:List Pt) (acc:List Nat) (v6 v7:OD),(∀p∈ps,Xl p.1/\Xl p.2)->acc.length+4*ps.length<=1000->
  ∃w6 w7,jr (gj 2 (bI (au 6) (bI (au 7) gG))) cH (ps.map iZ) [A0,A1,A2,A3,A4,Zs acc,v6,v7] = .nx [A0,A1,A2,A3,A4,(Zs ((ps.map qL).foldl (λacc y=>acc++[32]++y) acc)),w6,w7]
 | [],acc,v6,v7,_,_=>⟨v6,v7,rfl⟩
 | p::ps,acc,v6,v7,h,hl=>by
  have hp:=h p (Qqv ..);obtain⟨a,b,e,e1,e2,_⟩:=yl hp;rw[Qqk] at hl;have hb:cH [A0,A1,A2,A3,A4,Zs acc,Zs p.1,Zs p.2] = .nx [A0,A1,A2,A3,A4,Zs (acc++[32]++qL p),Zs p.1,Zs p.2]:=by
   generalize hE:([A0,A1,A2,A3,A4,Zs acc,Zs p.1,Zs p.2]:Ev.Env)=env;have l1:p.1.length<=1:=by rcases hp.1 with z|⟨c,z,_⟩<;>rw[z]<;>simp
   have l2:p.2.length<=1:=by rcases hp.2 with z|⟨c,z,_⟩<;>rw[z]<;>simp
   have s1:aA bK 5 (Zw [32]) env = .ok (.str (acc++[32])) env:=gP (x:=.str acc) (by rw[<-hE];rfl) rfl (by rw[<-hE];rfl) (o4 (by show acc.length+1<=_;omega));have s2:az gM (aA bK 6 (Zw [48])) (Zi 0) env = .ok (.str (Ey p.1)) env:=aJ (y:=.int 0) (gP (x:=.str p.1) (by rw[<-hE];rfl) rfl (by rw[<-hE];rfl) (o4 (by show p.1.length+1<=_;omega))) rfl (ix0 hp.1);have s3:az gM (aA bK 7 (Zw [48])) (Zi 0) env = .ok (.str (Ey p.2)) env:=aJ (y:=.int 0) (gP (x:=.str p.2) (by rw[<-hE];rfl) rfl (by rw[<-hE];rfl) (o4 (by show p.2.length+1<=_;omega))) rfl (ix0 hp.2);unfold cH;refine bL (d:=.str (acc++[32]++qL p)) (e:=env) ?_ (by rw[<-hE];rfl);refine aJ (x:=.str (acc++[32]++Ey p.1++[62])) (aJ (x:=.str (acc++[32]++Ey p.1)) (aJ s1 s2 (o4 ?_)) (y:=.str [62]) rfl (o4 ?_)) s3 ?_
   ·rw[e1,Qqq];show acc.length+1+1<=_;omega
   ·rw[e1,Qqq,Qqq];show acc.length+1+1+1<=_;omega
   ·refine(o4 ?_).trans ?_
    ·rw[e1,e2,Qqq,Qqq,Qqq];show acc.length+1+1+1+1<=_;omega
    ·unfold qL;simp only[Qww]
  obtain⟨w6,w7,hf⟩:=N7 A0 A1 A2 A3 A4 ps (acc++[32]++qL p) (Zs p.1) (Zs p.2) (λq hq=>h q (Qq0 _ hq)) (by rw[Qqq,Qqq,e];show acc.length+1+3+4*ps.length<=1000;omega);refine⟨w6,w7,?_⟩;rw[Qq8,Qq8,Qx3];unfold jr;show(match cH [A0,A1,A2,A3,A4,Zs acc,Zs p.1,Zs p.2] with|.nx e2=>jr _ cH (ps.map iZ) e2|.ct e2=>_|.bk e2=>_|.rt o d e2=>_|.stuck=>_)=_;rw[hb];exact hf
theorem uc{q:QR}(h:Kr q):fO [dW q]=some (.str (txt q)):=by
 have hw:=(w_is h.w).1;have hl:=(rz h.l).1;have hr:=(rz h.r).1;have h4:=h.n;obtain⟨w6,w7,hf⟩:=N7 (Zf (dW q)) (Zs q.w) (Zf (.tup (q.ps.map iZ))) (Zf (gD q.l)) (Zf (gD q.r)) q.ps q.w none none h.p (by omega);have hj:(q.ps.map qL).foldl (λacc y=>acc++[32]++y) q.w=bQ [32] (q.w::q.ps.map qL):=rfl;rw[hj] at hf;have ht:txt q=bQ [32] (q.w::q.ps.map qL)++[32,47,32]++tZ q.l++[32,95,32]++tZ q.r:=by unfold txt Tw;rw[JM];show bQ [32] (q.w::q.ps.map qL)++[32]++[47]++[32]++tZ q.l++[32]++[95]++[32]++tZ q.r=_;simp
 have hlen:(bQ [32] (q.w::q.ps.map qL)).length<=63:=by have:=lC h;rw[ht] at this;simp only[Qqq] at this;omega
 generalize bQ [32] (q.w::q.ps.map qL)=J at hf ht hlen;refine cQ (env:=[Zf (dW q),Zs q.w,(Zf (.tup (q.ps.map iZ))),Zf (gD q.l),Zf (gD q.r),Zs J,w6,w7]) ?_;unfold jD;refine(aG (e:=[Zf (dW q),Zs q.w,(Zf (.tup (q.ps.map iZ))),Zf (gD q.l),Zf (gD q.r),Zn,Zn,Zn]) rfl).trans ?_;refine(aG (e:=[Zf (dW q),Zs q.w,(Zf (.tup (q.ps.map iZ))),Zf (gD q.l),Zf (gD q.r),Zs q.w,Zn,Zn]) rfl).trans ?_;refine(aG ((jj (ds:=q.ps.map iZ) rfl).trans hf)).trans ?_;generalize hE:([Zf (dW q),Zs q.w,(Zf (.tup (q.ps.map iZ))),Zf (gD q.l),Zf (gD q.r),Zs J,w6,w7]:Ev.Env)=env;have s1:aA bK 5 (Zw [32,47,32]) env = .ok (.str (J++[32,47,32])) env:=gP (x:=.str J) (by rw[<-hE];rfl) rfl (by rw[<-hE];rfl) (o4 (by show J.length+3<=_;omega));have s2:aq cN (Zv 3 aj) env = .ok (.str (tZ q.l)) env:=aH (ds:=[gD q.l]) (by rw[<-hE];rfl) (rT h.l);have s3:aq cN (Zv 4 aj) env = .ok (.str (tZ q.r)) env:=aH (ds:=[gD q.r]) (by rw[<-hE];rfl) (rT h.r);rw[ht];refine bY (aJ (x:=.str (J++[32,47,32]++tZ q.l++[32,95,32])) (aJ (x:=.str (J++[32,47,32]++tZ q.l)) (aJ s1 s2 (o4 ?_)) (y:=.str [32,95,32]) rfl (o4 ?_)) s3 (o4 ?_))
 ·rw[Qqq];show J.length+3+_<=_;omega
 ·rw[Qqq,Qqq];show J.length+3+_+3<=_;omega
 ·rw[Qqq,Qqq,Qqq];show J.length+3+_+3+_<=_;omega
open wR (nG mU XS yW Xk sG GR XOk known pq vp mk VR marks HJ SG sgR mF G4 round PV Nk prs Gz Gy Ga)
theorem tH{g:D->Option D}{a:Ev}{env e:Ev.Env}{x d:D}(h:a env = .ok x e)(h':g x=some d):fj g a env = .ok d e:=by
 unfold fj;rw[h];show fX (g x) e=_;rw[h']
 rfl
theorem WD{a:dq}{env e:Ev.Env}{ds ys:List D}(h:a env = .ok ds e)(h':nA ds=some ys):dY a env = .ok ys e:=by
 unfold dY;rw[h];show fX (nA ds) e=_;rw[h']
 rfl
def ABC:List Nat:=[97,98,99,100,101,102,103,104,105,106,107,108,109,110,111,112,113,114,115,116,117,118,119,120,121,122]
def lt(a b k:Nat):Nat:=97+(a+(1+b)*k) % 26
theorem afA:∀m:Nat,m<26->ue ABC (m:Int)=some (97+m):=by
 have h:((List.range 26).all λ(m:Nat)=>ue ABC (m:Int) == some (97+m))=true:=by decide +kernel
 intro m hm;exact eq_of_beq (Qq5.mp h m (Qxz.mpr hm))
def ahV:Ev:=aA gM 1 (az R5 (aA bK 2 (aA pI 3 (bz 4))) (Zi 26))
theorem elt(a b k:Nat)(hb:b<25)(hk:k<4)(v:OD):ahV [v,Zs ABC,(Zf (.int (a:Int))),(Zf (.int (1+(b:Int)))),(Zf (.int (k:Int)))] = .ok (.str [lt a b k]) [v,Zs ABC,(Zf (.int (a:Int))),(Zf (.int (1+(b:Int)))),(Zf (.int (k:Int)))]:=by
 generalize hE:([v,Zs ABC,(Zf (.int (a:Int))),(Zf (.int (1+(b:Int)))),(Zf (.int (k:Int)))]:Ev.Env)=env;have m1:jV (1+(b:Int)) (k:Int)=true:=nG (a:=8) (b:=8) (mU (by omega)) (mU (by omega)) (by decide);have e1:aA pI 3 (bz 4) env = .ok (.int ((1+(b:Int))*(k:Int))) env:=gP (x:=.int (1+(b:Int))) (by rw[<-hE];rfl) (by rw[<-hE];rfl) (by rw[<-hE];rfl) (Gn m1);have e2:aA bK 2 (aA pI 3 (bz 4)) env = .ok (.int ((a:Int)+(1+(b:Int))*(k:Int))) env:=gP (x:=.int (a:Int)) (by rw[<-hE];rfl) e1 (by rw[<-hE];rfl) rfl;have e3:az R5 (aA bK 2 (aA pI 3 (bz 4))) (Zi 26) env = .ok (.int (((a:Int)+(1+(b:Int))*(k:Int)) % 26)) env:=aJ e2 (y:=.int 26) rfl rfl;have e4:((a:Int)+(1+(b:Int))*(k:Int)) % 26=(((a+(1+b)*k) % 26:Nat):Int):=by push_cast;rfl
 rw[e4] at e3;refine gP (x:=.str ABC) (by rw[<-hE];rfl) e3 (by rw[<-hE];rfl) ?_;show(ue ABC _).map _=_;rw[afA _ (Nat.mod_lt _ (by decide))]
 rfl
def Tg(a b m:Nat):List (List Nat):=(List.range m).map λk=>[lt a b k]
def zz:List Nat->Bool
 | []=>true
 | [_]=>true
 | x::y::r=>decide (x<y)&&zz (y::r)
def good(x:List Nat):Bool:=decide (1<=x.length)&&decide (x.length<=4)&&x.all (λc=>decide (97<=c)&&decide (c<=122))&&zz x
def chk(a b m:Nat):Bool:=match (pH (.lst ((Tg a b m).map .str))) with
 | some l=>(match fY (.str []) l with
  | some (.str x)=>good x
  | _=>false)
 | none=>false
theorem aaK:((List.range 26).all λa=>(List.range 25).all λb=>(List.range 4).all λm=>chk a b (m+1))=true:=by decide +kernel
theorem afn{a b m:Nat}(ha:a<26)(hb:b<25)(hm:m<4):∃l x,pH (.lst ((Tg a b (m+1)).map .str))=some l/\fY (.str []) l=some (.str x)/\good x=true:=by
 have h:=Qq5.mp (Qq5.mp (Qq5.mp aaK a (Qxz.mpr ha)) b (Qxz.mpr hb)) m (Qxz.mpr hm);unfold chk at h;split at h
 ·rename_i l e;split at h
  ·rename_i x e2;exact⟨l,x,e,e2,h⟩
  ·cases h
 ·cases h
theorem drawn(n:Int):∃x n',fB [.lst [.int n]]=some (.str x,.lst [.int n'])/\good x=true:=by
 obtain⟨a,ha,ea⟩:=dig n 26 (by decide);obtain⟨b,hb,eb⟩:=dig (n / 26) 25 (by decide);obtain⟨m,hm,em⟩:=dig (n / 26 / 25) 4 (by decide);obtain⟨l,x,h1,h2,h3⟩:=afn ha hb hm;refine⟨x,n / 26 / 25 / 4,jl (env:=[Zl [.int (n / 26 / 25 / 4)],Zs ABC,(Zf (.int (a:Int))),(Zf (.int (1+(b:Int))))]) ?_ rfl,h3⟩;unfold ie;refine(aG (e:=[Zl [.int n],Zs ABC,Zn,Zn]) (by rfl)).trans ?_;refine(aG (e:=[Zl [.int (n / 26 / 25)],Zs ABC,(Zf (.int (n % (26:Nat)))),(Zf (.int (1+n / 26 % (25:Nat))))]) (by rfl)).trans ?_;rw[ea,eb];have hr:dY (aa (az bK (Zi 1) (dH bf 0 (aa (Zi 4) aj))) aj) [Zl [.int (n / 26 / 25)],Zs ABC,(Zf (.int (a:Int))),(Zf (.int (1+(b:Int))))] = .ok ((List.range (m+1)).map λ(k:Nat)=>D.int (k:Int)) [Zl [.int (n / 26 / 25 / 4)],Zs ABC,(Zf (.int (a:Int))),(Zf (.int (1+(b:Int))))]:=by
  refine WD (ds:=[.int (1+n / 26 / 25 % (4:Nat))]) (by rfl) ?_;rw[em];have hc:m=0\/m=1\/m=2\/m=3:=by omega
  rcases hc with rfl|rfl|rfl|rfl<;>rfl
 obtain⟨e',f1,v4,rfl⟩:=lcE (g:=au 4) (e:=ahV) (λenv=>∃v,env=[Zl [.int (n / 26 / 25 / 4)],Zs ABC,(Zf (.int (a:Int))),(Zf (.int (1+(b:Int)))),v]) (λ(k:Nat)=>D.int (k:Int)) (λk=>.str [lt a b k]) (List.range (m+1)) [Zl [.int (n / 26 / 25 / 4)],Zs ABC,(Zf (.int (a:Int))),(Zf (.int (1+(b:Int)))),Zn] ⟨_,rfl⟩
  (λk hk env ⟨v,he⟩=>by
   subst he;exact⟨_,_,rfl,elt a b k hb (by have:=Qxz.mp hk;omega) _,_,rfl⟩)
 have hz:(List.range (m+1)).map (λk=>D.str [lt a b k])=(Tg a b (m+1)).map .str:=by unfold Tg;rw[Qxk];rfl
 rw[hz] at f1;have hl:=wC (lo:=4) (n:=5) hr rfl f1 (by unfold Tg;rw[Qqz,Qqz,List.length_range];exact Qqy (Nat.succ_le_of_lt hm) (by decide));exact bY (aJ (x:=.str []) rfl (tH hl h1) h2)
theorem NZ:∀{y z:List Nat},fW y=fW z->y=z
 | [],[],_=>rfl
 | [],_::_,h=>by cases h
 | _::_,[],h=>by cases h
 | a::y,b::z,h=>by
  have h1:D.str [a]::fW y=D.str [b]::fW z:=h;injection h1 with h2 h3
  injection h2 with h4
  injection h4 with h5
  rw[h5,NZ h3]
theorem Ui(y:List Nat)(a:Nat):fW (y++[a])=fW y++[.str [a]]:=by unfold fW;rw[Qx1];rfl
theorem Ys{z:List Nat}{done rest:List D}{d:D}(h:fW z=done++d::rest):∃a,d = .str [a]/\a∈z/\done.length<z.length:=by
 have hm:d∈fW z:=by rw[h];exact Qx0 _ (Qqv ..)
 obtain⟨a,ha,rfl⟩:=Qwk.mp hm;have:=Qzw List.length h;unfold fW at this;rw[Qqz,Qqq,Qqk] at this;exact⟨a,rfl,ha,by omega⟩
def afk:D->Option (List Nat)
 | .str z=>some z
 | _=>none
def aaD:List D->Option (List (List Nat))
 | []=>some []
 | d::r=>match afk d,aaD r with
  | some c,some z=>some (c::z)
  | _,_=>none
def afl:D->Option (List (List Nat))
 | .tup ds=>aaD ds
 | _=>none
theorem aaE{d:D}{z:List Nat}(h:afk d=some z):d = .str z:=by
 unfold afk at h;split at h
 ·cases h;rfl
 ·cases h
theorem Qh:∀{ds:List D} {z:List (List Nat)},aaD ds=some z->ds=z.map .str
 | [],z,h=>by cases h;rfl
 | d::r,z,h=>by
  unfold aaD at h;split at h
  ·rename_i c y h1 h2;cases h;rw[aaE h1,Qh h2]
   rfl
  ·cases h
theorem aaF{d:D}{z:List (List Nat)}(h:afl d=some z):d = .tup (z.map .str):=by
 unfold afl at h;split at h
 ·rw[Qh h]
 ·cases h
def KN:List (List Nat):=[[115,116,111,112],[115,116,111,112,115],[115],[111,112,101,110],[97,98,99,100,101,102,103,104]]
def mok(ms:List (List Nat)):Bool:=ms.all λz=>KN.contains z
def mT(d:Nat):D:=match mk d with
 | .lst zs=>.tup (cutD zs none (some 4))
 | _=>.non
theorem aeA:((List.range 32).all λd=>match afl (mT d) with|some ms=>mok ms|none=>false)=true:=by decide +kernel
theorem ahr(d:Nat)(hd:d<32):∃ms,mT d = .tup (ms.map .str)/\mok ms=true:=by
 have h1:=Qq5.mp aeA d (Qxz.mpr hd);split at h1
 ·rename_i ms e;exact⟨ms,aaF e,h1⟩
 ·cases h1
theorem aaT:iJ=pq:=rfl
theorem Le(n:Int)(b v5 v6:OD)(acc:List D)(s:D)(ha:acc.length<=10):∃ms v5' v6',mok ms=true/\pq [Zl [.int n],b,Zf known,Zl acc,Zf s,v5,v6] = .nx [Zl [.int (n / 32)],b,Zf known,Zl (acc++[.tup [s,.tup (ms.map .str)]]),Zf s,v5',v6']:=by
 obtain⟨d,hd,e⟩:=dig n 32 (by decide);obtain⟨zs,hz⟩:=VR d hd;obtain⟨ms,hms,hmo⟩:=ahr d hd;have hmt:D.tup (cutD zs none (some 4)) = .tup (ms.map .str):=by rw[<-hms];unfold mT;rw[hz]
 refine⟨ms,Zf (.int d),Zf (.lst zs),hmo,?_⟩;rw[<-hmt];unfold pq;refine(aG (e:=[Zl [.int (n / 32)],b,Zf known,Zl acc,Zf s,Zf (.int (n % (32:Nat))),v6]) (by rfl)).trans ?_;rw[e];refine(aG (marks d hd _ _ _ _ _)).trans ?_;rw[hz];exact Ev.agp (xs:=acc) (e:=[Zl [.int (n / 32)],b,Zf known,Zl acc,Zf s,Zf (.int d),Zf (.lst zs)]) rfl rfl rfl (Qzv ha (by decide))
structure GX(L:List Rn):Prop where
 pU:good (L.map (·.1))=true
 mks:∀r∈L,mok r.2=true
theorem lM{x:List Nat}(h:good x=true):1<=x.length/\x.length<=4:=by unfold good at h;simp only[Qwx,decide_eq_true_eq] at h;exact h.1.1
theorem stock(n:Int):∃L n',GX L/\jP [.lst [.int n]]=some (.tup (L.map row),.lst [.int n']):=by
 obtain⟨x,n1,h1,hx⟩:=drawn n;have hxl:=(lM hx).2;obtain⟨e',f1,n',rws,v4,v5,v6,rfl,hr,hmo⟩:=DW (g:=au 4) (b:=pq) (fW x) (λdone env=>∃(n:Int) (rws:List Rn) (v4 v5 v6:OD),env=[Zl [.int n],Zs x,Zf known,Zl (rws.map row),v4,v5,v6]/\fW (rws.map (·.1))=done/\∀r∈rws,mok r.2=true)
  (λdone s rest hall env ⟨n,rws,v4,v5,v6,he,hr,hmo⟩=>by
   subst he;have hd:done.length<=4:=by have:=Qzw List.length hall;unfold fW at this;rw[Qqz,Qqq,Qqk] at this;omega
   obtain⟨a,rfl,_,_⟩:=Ys hall;have hrl:(rws.map row).length<=10:=by have:=Qzw List.length hr;unfold fW at this;rw[Qqz,Qqz] at this;rw[Qqz];omega
   obtain⟨ms,w5,w6,hm,hb⟩:=Le n (Zs x) v5 v6 (rws.map row) (.str [a]) hrl;refine⟨_,_,rfl,hb,n / 32,rws++[(a,ms)],_,_,_,by rw[Qx1];rfl,by rw[Qx1,<-hr];exact Ui _ _,λr hr'=>?_⟩;rcases Qxx.mp hr' with h|h
   ·exact hmo r h
   ·rw[Qwz.mp h];exact hm)
  [Zl [.int n1],Zs x,Zf known,Zl [],Zn,Zn,Zn] ⟨_,[],_,_,_,rfl,rfl,λr hr=>by simp at hr⟩
 have hrx:=NZ hr;refine⟨rws,n',⟨by rw[hrx];exact hx,hmo⟩,jl (env:=[Zl [.int n'],Zs x,Zf known,Zl (rws.map row),v4,v5,v6]) ?_ rfl⟩;unfold oG;rw[aaT];refine(aG (e:=[Zl [.int n1],Zs x,Zn,Zn,Zn,Zn,Zn]) ?_).trans ?_
 ·exact bL (g8 (e1:=[Zl [.int n],Zn,Zn,Zn,Zn,Zn,Zn]) rfl rfl rfl h1) rfl
 refine(aG (e:=[Zl [.int n1],Zs x,Zf known,Zn,Zn,Zn,Zn]) (by rfl)).trans ?_;refine(aG (e:=[Zl [.int n1],Zs x,Zf known,Zl [],Zn,Zn,Zn]) (by rfl)).trans ?_;refine(aG (e:=[Zl [.int n'],Zs x,Zf known,Zl (rws.map row),v4,v5,v6]) ?_).trans ?_
 ·exact(jj (ds:=fW x) (by rfl)).trans f1
 ·rfl
theorem Ur:∀{x:List Nat},zz x=true->x.Pairwise (·< ·)
 | [],_=>.nil
 | [_],_=>by simp
 | a::b::r,h=>by
  unfold zz at h;rw[Qwx,decide_eq_true_eq] at h;have ih:=Ur h.2;refine Qzq.mpr ⟨λc hc=>?_,ih⟩;rcases Qqw.mp hc with rfl|hc
  ·exact h.1
  ·exact Nat.lt_trans h.1 ((Qzq.mp ih).1 c hc)
theorem lt1{a b:Nat}:([a]:List Nat) < [b]↔a<b:=by rw[List.cons_lt_cons_iff];simp
theorem Lq:∀{zs:List (List Nat)},zs.Pairwise (·< ·)->pB zs=true
 | [],_=>rfl
 | [_],_=>rfl
 | a::b::r,h=>by
  unfold pB;rw[Qwx,decide_eq_true_eq];exact⟨(Qzq.mp h).1 b (Qqv ..),Lq (Qzq.mp h).2⟩
section
variable{x:List Nat}(h:good x=true)
include h
theorem Pu:x.Pairwise (·< ·):=by unfold good at h;simp only[Qwx] at h;exact Ur h.2
theorem cJ{c:Nat}(hc:c∈x):lW c:=by unfold good at h;simp only[Qwx,Qq5,decide_eq_true_eq] at h;exact h.1.2 c hc
theorem zE:x∈XS:=Xk ⟨(lM h).2,(lM h).1,(Pu h).imp (λh=>Qw0 h),λhc=>by have:=cJ h hc;unfold lW at this;omega⟩
end
theorem le1{a b:Nat}(h:([a]:List Nat)<=[b]):a<=b:=by apply Nat.le_of_not_lt;intro hl;exact h (lt1.mpr hl)
theorem Ua{zs:List Nat}(hn:zs.Nodup):pB (fV (zs.map λc=>[c]))=true:=by
 have hp:=gV (zs.map λc=>[c]);have hs:=pQ (zs.map λc=>[c]);have hnd:(fV (zs.map λc=>[c])).Nodup:=hp.nodup_iff.mpr (List.pairwise_map.mpr (hn.imp λh e=>h (by simpa using e)));refine Lq ?_;have hall:∀z∈fV (zs.map λc=>[c]),∃c,z=[c]:=λz hz=>by
  obtain⟨c,_,e⟩:=Qwk.mp (hp.mem_iff.mp hz);exact⟨c,e.symm⟩
 have:=List.Pairwise.and hs hnd;refine List.Pairwise.imp_of_mem ?_ this;intro a b ha hb h;obtain⟨c,rfl⟩:=hall a ha;obtain⟨d,rfl⟩:=hall b hb;have h1:=le1 h.1;have h2:c≠d:=λe=>h.2 (by rw[e]);exact lt1.mpr (by omega)
open wR (XS yW Xk sG GR SG sgR mF G4 round PV Nk prs Gz Gy Ga oth)
theorem MJ:eV=wR.eV:=rfl
theorem Ue:dO=wR.dO:=rfl
def c2(p:Pt):List (Option (List Nat)):=[some p.1,some p.2]
theorem afu(ps:List Pt):ps.map iZ=(ps.map c2).map cD:=by rw[Qxk];rfl
theorem adn{x:List Nat}{c:Nat}{v:D}(h:(c,v)∈PV x):c∈x/\∃z,v = .str z/\z≠[c]/\(z=[]\/∃b∈x,z=[b]):=by
 unfold PV at h;obtain⟨c',hc,h2⟩:=List.mem_flatMap.mp h;obtain⟨v',h3,h4⟩:=Qwk.mp h2;cases h4;unfold oth at h3;obtain⟨z,h5,rfl⟩:=Qwk.mp h3;obtain⟨h6,h7⟩:=List.mem_filter.mp h5;refine⟨hc,z,rfl,by simpa using h7,?_⟩;rcases Qxx.mp h6 with h|h
 ·obtain⟨b,hb,rfl⟩:=Qwk.mp h;exact .inr ⟨b,hb,rfl⟩
 ·exact .inl (by simpa using h)
structure Chs(x:List Nat)(ps:List Pt):Prop where
 n:0<ps.length/\ps.length<=4
 s:∀p∈ps,Xl p.1/\Xl p.2
 a:CT x (ps.map c2)=true
theorem Vb{x:List Nat}{c:Nat}(h:c∈x)(hl:lW c):Chs x [([],[c])]:=by
 refine⟨⟨Nat.zero_lt_one,by show 1<=4;omega⟩,λp hp=>?_,?_⟩
 ·cases Qwz.mp hp;exact⟨.inl rfl,.inr ⟨c,rfl,hl⟩⟩
 ·unfold CT;have:pu x (c2 ([],[c]))=true:=by
   show((some ([]:List Nat) == some [])&&x.contains c)=true;simp[h]
  simp[this]
theorem xR{x:List Nat}{kvs:List (D×D)}:∀(ks:List (List Nat)),(∀k∈ks.map D.str,∃c v,k = .str [c]/\my (.dct kvs) k=some v/\(c,v)∈PV x)->
  ∃ps:List Pt,D.tup (prs kvs (ks.map .str)) = .tup (ps.map iZ)/\ps.map (·.1)=ks/\∀p∈ps,∃c z,p=([c],z)/\c∈x/\z≠[c]/\(z=[]\/∃b∈x,z=[b])
 | [],_=>⟨[],rfl,rfl,λp hp=>nomatch hp⟩
 | k::ks,h=>by
  obtain⟨ps,e1,e2,e3⟩:=xR ks λk' hk=>h k' (Qq0 _ hk);obtain⟨c,v,hk,hv,hp⟩:=h (.str k) (Qqv ..);obtain⟨hc,z,rfl,hz,h2⟩:=adn hp;have hk':k=[c]:=by injection hk
  subst hk';refine⟨([c],z)::ps,?_,by rw[Qq8,e2],λp hp=>?_⟩
  ·injection e1 with e1
   show D.tup (.tup [.str [c],(my (.dct kvs) (.str [c])).getD .non]::prs kvs (ks.map .str))=_;rw[hv,e1]
   rfl
  ·rcases Qqw.mp hp with rfl|hp
   ·exact⟨c,z,rfl,hc,hz,h2⟩
   ·exact e3 p hp
theorem MF{x zs:List Nat}(hg:good x=true)(hn:zs.Nodup)(h0:0<zs.length)(h3:zs.length<=3){ps:List Pt}(hk:ps.map (·.1)=fV (zs.map λc=>[c]))(hp:∀p∈ps,∃c z,p=([c],z)/\c∈x/\z≠[c]/\(z=[]\/∃b∈x,z=[b])):Chs x ps:=by
 have hl:ps.length=zs.length:=by have:=Qzw List.length hk;rw[Qqz,(gV _).length_eq,Qqz] at this;exact this
 refine⟨by omega,λp hpp=>?_,?_⟩
 ·obtain⟨c,z,rfl,hc,_,h2⟩:=hp p hpp;refine⟨.inr ⟨c,rfl,cJ hg hc⟩,?_⟩;rcases h2 with rfl|⟨b,hb,rfl⟩
  ·exact .inl rfl
  ·exact .inr ⟨b,rfl,cJ hg hb⟩
 ·unfold CT;have e1:(ps.map c2).all (G7 x)=true:=by
   rw[List.all_map,Qq5];intro p hpp;obtain⟨c,z,rfl,hc,hz,h2⟩:=hp p hpp;show(x.contains c&&((Js x (some z)||some z == some []) && !(some [c] == some z)))=true;have e:(some [c] == some z)=false:=by rw[Qwj];intro e;injection e with e;exact hz e.symm
   rw[e,List.contains_iff_mem.mpr hc];rcases h2 with rfl|⟨b,hb,rfl⟩
   ·simp
   ·show(true&&((x.contains b||_)&&true))=true;rw[List.contains_iff_mem.mpr hb]
    rfl
  have e2:(ps.map c2).map old=fV (zs.map λc=>[c]):=by
   rw[<-hk,Qxk]
   rfl
  have e3:(ps.map c2).isEmpty=false:=by
   cases ps with
   | nil=>simp at hl;omega
   | cons _ _=>rfl
  rw[e1,e2,e3,Ua hn];simp
theorem changes(n:Int)(x:List Nat)(hg:good x=true):∃ps n',eV [.lst [.int n],.str x]=some (.tup (ps.map iZ),.lst [.int n'])/\Chs x ps:=by
 have hx:=zE hg;rw[MJ];obtain⟨d,hd,e⟩:=dig n 5 (by decide);have hp:=GR x hx;have hl4:=sG x hx;have t:dw (az nU (dH wR.bf 0 (aa (Zi 5) aj)) (Zi 0)) [Zl [.int n],Zs x,Zn,Zn,Zn,Zn] = .ok ((d:Int) == 0) [Zl [.int (n / 5)],Zs x,Zn,Zn,Zn,Zn]:=by
  rw[<-e]
  rfl
 by_cases h0:d=0
 ·subst h0;obtain⟨j,hj,ej⟩:=dig (n / 5) x.length hp;refine⟨[([],[x[j]])],n / 5 / (x.length:Int),jl (env:=[Zl [.int (n / 5 / (x.length:Int))],Zs x,Zn,Zn,Zn,Zn]) ?_ rfl,Vb (List.getElem_mem hj) (cJ hg (List.getElem_mem hj))⟩;unfold wR.eY;refine(iB (d:=.tup [.tup [.str [],.str [x[j]]]]) (o:=false) (e:=[Zl [.int (n / 5 / (x.length:Int))],Zs x,Zn,Zn,Zn,Zn]) ?_).trans rfl;refine(lX t).trans ?_;refine bY (fC (aB (fC (ds:=[.str [],.str [x[j]]]) (aB (d:=.str []) (by rfl) (aB ?_ aX)) Ev.X6) aX) Ev.Xz);refine gP (x:=.str x) (y:=.int (n / 5 % (x.length:Int))) (by rfl) ?_ (by rfl) ?_
  ·exact g8 (x:=.lst [.int (n / 5)]) (x0:=.lst [.int (n / 5)]) (ds:=[.int (x.length:Int)]) (e1:=[Zl [.int (n / 5)],Zs x,Zn,Zn,Zn,Zn]) (by rfl) (by rfl) (by rfl) (mF _ x.length hp (by omega))
  ·show(ue x (n / 5 % (x.length:Int))).map _=_;rw[ej,M9 hj]
   rfl
 ·have t0:((d:Int) == 0)=false:=by rw[Qwj];omega
  rw[t0] at t;obtain⟨j,hj,ej⟩:=dig (n / 5) 3 (by decide);obtain⟨ds,hds,hl1,hl2⟩:∃ds,nA [.int (1+(j:Int))]=some ds/\0<ds.length/\ds.length<=3:=by
   have hc:j=0\/j=1\/j=2:=by omega
   rcases hc with rfl|rfl|rfl
   ·exact⟨_,rfl,by decide,by decide⟩
   ·exact⟨_,rfl,by decide,by decide⟩
   ·exact⟨_,rfl,by decide,by decide⟩
  obtain⟨e',f1,n',kvs,zs,v3,v4,v5,rfl,hk,hz1,hz2⟩:=DW (g:=au 3) (b:=aP wR.one (aP wR.others wR.Vd)) ds
   (λdone env=>∃n kvs zs v3 v4 v5,env=[Zl [.int n],Zs x,Zt (.dct kvs),v3,v4,v5]/\G4 x kvs zs/\zs.length<=done.length/\(0<done.length->0<zs.length))
   (λdone s rest hall env ⟨n,kvs,zs,v3,v4,v5,he,hk,hz1,hz2⟩=>by
    subst he;have hdl:done.length<=3:=by have:=Qzw List.length hall;rw[Qqq,Qqk] at this;omega
    have hkl:kvs.length=zs.length:=by
     have:=Qzw List.length hk.keys
     rwa [Qqz,Qqz] at this
    obtain⟨p,n',w4,w5,hpv,hb⟩:=round n x hx kvs (by omega) (Zf s) v4 v5;obtain⟨zs',hk',z1,z2⟩:=hk.put hpv (Nk hpv);exact⟨_,_,rfl,hb,n',_,zs',_,_,_,rfl,hk',by rw[Qqq,Qx8];omega,λ_=>z1⟩)
   [Zl [.int (n / 5 / 3)],Zs x,Zt (.dct []),Zn,Zn,Zn] ⟨_,[],[],_,_,_,rfl,⟨rfl,.nil,λc hc=>by simp at hc,λk v h=>by simp at h⟩,Qq2 _,λh=>h⟩
  have hz3:zs.length<=3:=Qqy hz1 hl2;obtain⟨ps,hps,hks,hpp⟩:=xR (x:=x) (kvs:=kvs) (fV (zs.map λc=>[c])) (λk hk'=>Ga hk k hk');refine⟨ps,n',jl (env:=[Zl [.int n'],Zs x,Zt (.dct kvs),v3,v4,v5]) ?_ rfl,MF hg hk.nd (hz2 hl1) hz3 hks hpp⟩;unfold wR.eY;refine(aG (e:=[Zl [.int (n / 5)],Zs x,Zn,Zn,Zn,Zn]) ((dg t).trans rfl)).trans ?_;refine(aG (e:=[Zl [.int (n / 5)],Zs x,Zt (.dct []),Zn,Zn,Zn]) (by rfl)).trans ?_;refine(aG (e:=[Zl [.int n'],Zs x,Zt (.dct kvs),v3,v4,v5]) ?_).trans ?_
  ·refine(jj (ds:=ds) (e:=[Zl [.int (n / 5 / 3)],Zs x,Zt (.dct []),Zn,Zn,Zn]) ?_).trans f1;have a1:aa (az bK (Zi 1) (dH wR.bf 0 (aa (Zi 3) aj))) aj [Zl [.int (n / 5)],Zs x,Zt (.dct []),Zn,Zn,Zn] = .ok [.int (1+n / 5 % 3)] [Zl [.int (n / 5 / 3)],Zs x,Zt (.dct []),Zn,Zn,Zn]:=by rfl
   unfold dY;rw[a1];show fX (nA [.int (1+n / 5 % ((3:Nat):Int))]) _=_;rw[ej,hds]
   rfl
  ·have:=Gy (Gz hk (by omega)) (Zl [.int n']) (Zs x) v3 v4 v5;rw[hps] at this;exact this
def SgX(x:List Nat)(g:Option (List Nat)):Prop:=Sg g/\ag x g=true
theorem Xc:([1,2,3,4].all λl=>(List.range (2*2^l - 1)).all λd=>!((List.range (l+1)).filter (wR.bit d)).isEmpty)=true:=by decide +kernel
theorem QK(y:List Nat)(p:Nat->Bool):(((List.range y.length).filter p).map λk=>y.getD k 0).Sublist y:=by
 have h:(List.range y.length).map (λk=>y.getD k 0)=y:=by
  refine List.ext_getElem (by rw[Qqz,List.length_range]) λi h1 h2=>?_;rw[List.getElem_map,List.getElem_range,Qzj,Qx4 h2]
  rfl
 have:=(List.filter_sublist (l:=List.range y.length) (p:=p)).map λk=>y.getD k 0
 rwa [h] at this
theorem Yz:∀{z:List Nat},z.Pairwise (·< ·)->pB (z.map λc=>[c])=true:=λh=>Lq (List.pairwise_map.mpr (h.imp λh=>lt1.mpr h))
theorem HD{x z:List Nat}(hg:good x=true)(h:z.Sublist (35::x))(hz:z≠[]):SgX x (some z):=by
 have hp:(35::x).Pairwise (·< ·):=Qzq.mpr ⟨λc hc=>by have:=cJ hg hc;unfold lW at this;omega,Pu hg⟩;have hm:∀c∈z,c=35\/c∈x:=λc hc=>Qqw.mp (h.subset hc);refine⟨λz' e=>?_,?_⟩
 ·cases e;refine⟨hz,?_,λc hc=>(hm c hc).imp id (cJ hg)⟩;have:=h.length_le;have:=(lM hg).2;simp at *;omega
 ·show(!z.isEmpty&&(z.all (λc=>c == 35||x.contains c)&&pB (z.map λc=>[c])))=true;rw[Yz (hp.sublist h)];have:z.all (λc=>c == 35||x.contains c)=true:=Qq5.mpr λc hc=>by
   rcases hm c hc with rfl|h
   ·rfl
   ·rw[List.contains_iff_mem.mpr h,Bool.or_true]
  rw[this];cases z with
  | nil=>exact absurd rfl hz
  | cons _ _=>rfl
theorem signs(n:Int)(x:List Nat)(hg:good x=true):∃g n',dO [.lst [.int n],.str x]=some (gD g,.lst [.int n'])/\SgX x g:=by
 obtain⟨r,n',h1,h2⟩:=wR.signs n x (zE hg);rw[Ue];unfold SG at h2;rcases Qqw.mp h2 with rfl|h2
 ·exact⟨none,n',h1,⟨λz e=>(by cases e),rfl⟩⟩
 ·obtain⟨d,hd,rfl⟩:=Qwk.mp h2;refine⟨some (((List.range (x.length+1)).filter (wR.bit d)).map λk=>(35::x).getD k 0),n',h1,HD hg (QK (35::x) _) λe=>?_⟩;have hl:=lM hg;have:=Qq5.mp (Qq5.mp Xc x.length (by
   have:x.length=1\/x.length=2\/x.length=3\/x.length=4:=by omega
   rcases this with h|h|h|h<;>rw[h]<;>decide)) d hd
  rw[List.map_eq_nil_iff.mp e] at this;cases this
def cq(q:QR):Q:=⟨q.w,q.ps.map c2,q.l,q.r⟩
theorem su(q:QR):dW q=qD (cq q):=by unfold dW qD cq;rw[afu]
structure Nh(x:List Nat)(q:QR):Prop where
 o:Kr q
 i:RK x (cq q)=true
 n:0<q.ps.length
theorem rule(n:Int)(x:List Nat)(hg:good x=true):∃q n',jJ [.lst [.int n],.str x]=some (dW q,.lst [.int n'])/\Nh x q:=by
 obtain⟨d,hd,e⟩:=dig n 2 (by decide);obtain⟨w,hw,h1⟩:∃w,(w=[111,110,99,101]\/w=[97,108,111,110,103])/\gM (.lst [.str [111,110,99,101],.str [97,108,111,110,103]]) (.int (d:Int))=some (.str w):=by
  have hc:d=0\/d=1:=by omega
  rcases hc with rfl|rfl
  ·exact⟨_,.inl rfl,rfl⟩
  ·exact⟨_,.inr rfl,rfl⟩
 obtain⟨ps,n1,h2,h3⟩:=changes (n / 2) x hg;obtain⟨l,n2,h5,h6⟩:=signs n1 x hg;obtain⟨r,n3,h7,h8⟩:=signs n2 x hg;have hww:way w=true:=by rcases hw with rfl|rfl<;>rfl
 refine⟨⟨w,ps,l,r⟩,n3,jl (env:=[Zl [.int n3],Zs x,Zs w,Zf (.tup (ps.map iZ))]) ?_ rfl,⟨hw,h3.n.2,h3.s,h6.1,h8.1⟩,?_,h3.n.1⟩
 ·unfold qH;refine(aG (e:=[Zl [.int (n / 2)],Zs x,Zs w,Zn]) ?_).trans ?_
  ·refine bL (d:=.str w) (e:=[Zl [.int (n / 2)],Zs x,Zn,Zn]) ?_ rfl;refine aJ rfl rfl ?_;have e2:n % 2=(d:Int):=e;rw[e2];exact h1
  refine(aG (e:=[Zl [.int n1],Zs x,Zs w,Zf (.tup (ps.map iZ))]) ?_).trans ?_
  ·exact bL (g8 (e1:=[Zl [.int (n / 2)],Zs x,Zs w,Zn]) rfl rfl rfl h2) rfl
  ·refine bY (fC (aB (d:=.str w) rfl (aB rfl (aB (d:=gD l) (e1:=[Zl [.int n2],Zs x,Zs w,Zf (.tup (ps.map iZ))]) ?_ (aB (d:=gD r) ?_ aX)))) Ev.zz4)
   ·exact g8 (e1:=[Zl [.int n1],Zs x,Zs w,Zf (.tup (ps.map iZ))]) rfl rfl rfl h5
   ·exact g8 (e1:=[Zl [.int n2],Zs x,Zs w,Zf (.tup (ps.map iZ))]) rfl rfl rfl h7
 ·show(way w&&(CT x (ps.map c2)&&(ag x l&&ag x r)))=true;rw[hww,h3.a,h6.2,h8.2]
  rfl
theorem shape{t hd:List Nat}{cs l r:List (List Nat)}(hs:jk 32 t=hd::(cs++[47]::(l++[95]::r)))(h1:[47] ∉ hd::cs)(h2:[95] ∉ hd::(cs++[47]::l)) :
  both t=true/\hw t=hd/\cw t=cs/\lw t=bQ [32] l/\Ck t=bQ [32] r:=by
 have ej:wj t=cs.length+1:=by
  unfold wj;rw[hs];have:=KX.xV (hd::cs) (l++[95]::r) h1;rw[Qj3] at this;rw[this]
  rfl
 have ek:wk t=cs.length+2+l.length:=by unfold wk;rw[hs];have:=KX.xV (hd::(cs++[47]::l)) r h2;rw[Qj3,Qww,Qj3] at this;rw[this];show(cs++[47]::l).length+1=_;rw[Qqq,Qqk];omega
 refine⟨?_,?_,?_,?_,?_⟩
 ·unfold both;rw[hs];simp
 ·unfold hw;rw[hs];rfl
 ·unfold cw;rw[hs,ej];show(cs++_).take (cs.length+1 - 1)=cs;rw[Nat.add_sub_cancel,List.take_left]
 ·unfold lw;rw[hs,ej,ek];have e:hd::(cs++[47]::(l++[95]::r))=(hd::(cs++[[47]]))++(l++[95]::r):=by simp
  rw[e,List.drop_left' (by simp),show cs.length+2+l.length - (cs.length+1+1)=l.length by omega,List.take_left]
 ·unfold Ck;rw[hs,ek];have e:hd::(cs++[47]::(l++[95]::r))=(hd::(cs++[47]::(l++[[95]])))++r:=by simp
  rw[e,List.drop_left' (by simp;omega)]
section
variable{L:List Rn}{t:List Nat}
theorem Ov(h:both t=false):ok L t=false:=by unfold ok;rw[h];rfl
theorem aed(h:way (hw t)=false):ok L t=false:=by unfold ok RK rq;rw[h,Bool.false_and,Bool.and_false]
theorem ZK(h:ag (L.map (·.1)) (sg L (lw t))=false):ok L t=false:=by unfold ok RK rq;rw[h,Bool.false_and,Bool.and_false,Bool.and_false,Bool.and_false]
theorem Vz(h:ag (L.map (·.1)) (sg L (Ck t))=false):ok L t=false:=by unfold ok RK rq;rw[h,Bool.and_false,Bool.and_false,Bool.and_false,Bool.and_false]
theorem aee(h:CT (L.map (·.1)) ((cw t).map ch)=false):ok L t=false:=by unfold ok RK rq;rw[h,Bool.false_and,Bool.and_false,Bool.and_false]
end
theorem ac1{L:List Rn}(hg:good (L.map (·.1))=true){z:List Nat}{c:Nat}(hc:c∈z)(h1:c≠35)(h2:¬lW c)(h3:z≠[42])(h4:brk z=false):ag (L.map (·.1)) (sg L z)=false:=by
 unfold sg;rw[if_neg h3,if_neg (by rw[h4];exact Qw3)];show(!z.isEmpty&&(z.all (λc=>c == 35||(L.map (·.1)).contains c)&&pB (z.map λc=>[c])))=false;have:z.all (λc=>c == 35||(L.map (·.1)).contains c)=false:=by rw[List.all_eq_false];refine⟨c,hc,?_⟩;rw[Bool.not_eq_true,Bool.or_eq_false_iff];refine⟨Qwj.mpr h1,?_⟩;rw[<-Bool.not_eq_true,List.contains_iff_mem];exact λh=>h2 (cJ hg h)
 rw[this,Bool.false_and,Bool.and_false]
theorem Xa{z:List Nat}{c:Nat}(h:c≠93):brk (z++[c])=false:=by
 unfold brk;rw[List.getLast?_append];show(_&&(some c == some 93))=false;have:(some c == some 93)=false:=by rw[Qwj];intro e;injection e with e;exact h e
 rw[this,Bool.and_false]
theorem Xb{z:List Nat}{c:Nat}(h:c≠91):brk (c::z)=false:=by
 unfold brk;show((some c == some 91)&&_)=false;have:(some c == some 91)=false:=by rw[Qwj];intro e;injection e with e;exact h e
 rw[this,Bool.false_and]
def hdW(q:QR):List (List Nat):=q.w::q.ps.map qL
def hdT(q:QR):List Nat:=bQ [32] (hdW q)
section
variable{q:QR}(h:Kr q)
theorem Df(ys:List (List Nat)):bQ [32] (hdW q++ys)=hdT q++ys.flatMap (λy=>32::y):=by
 unfold hdW;rw[JM];show _=bQ [32] (q.w::q.ps.map qL)++_;generalize bQ [32] (q.w::q.ps.map qL)=a
 induction ys generalizing a with
 | nil=>simp
 | cons y ys ih=>rw[Qx3,ih,List.flatMap_cons,<-Qww];simp
theorem TJ:txt q=hdT q++[32,47,32]++(tZ q.l++[32,95,32]++tZ q.r):=by have:=Df (q:=q) [[47],tZ q.l,[95],tZ q.r];unfold txt Tw;rw[show(q.w::q.ps.map qL)=hdW q from rfl,this];simp
include h
theorem aeY:∀z∈hdW q,z≠[]/\∀c∈z,lW c\/c=62\/c=48:=λz hz=>by
 rcases Qqw.mp hz with rfl|hz
 ·refine⟨?_,λc hc=>.inl ((w_is h.w).2 c hc)⟩;rcases h.w with e|e<;>rw[e]<;>simp
 ·obtain⟨p,hp,rfl⟩:=Qwk.mp hz;obtain⟨a,b,e,_,_,h1,h2⟩:=yl (h.p p hp);rw[e];refine⟨by simp,λc hc=>?_⟩;simp only[Qqw,Qwv,Qjz] at hc;rcases hc with rfl|rfl|rfl
  ·exact h1.elim (λe=>.inr (.inr e)) .inl
  ·exact .inr (.inl rfl)
  ·exact h2.elim (λe=>.inr (.inr e)) .inl
theorem abY{d:Nat}(hd:¬lW d)(h1:d≠62)(h2:d≠48):∀z∈hdW q,d ∉ z:=λz hz hc=>by
 rcases(aeY h z hz).2 d hc with e|e|e
 ·exact hd e
 ·exact h1 e
 ·exact h2 e
theorem abZ{d:Nat}(hd:¬lW d)(h1:d≠62)(h2:d≠48):[d] ∉ hdW q:=λhz=>abY h hd h1 h2 _ hz (Qwz.mpr rfl)
theorem abS:∀c∈tZ q.l,c=42\/c=35\/lW c:=(rz h.l).2
theorem agy:∀c∈tZ q.r,c=42\/c=35\/lW c:=(rz h.r).2
omit h in
theorem ac0{g:Option (List Nat)}(h:Sg g):tZ g≠[]:=by
 cases g with
 | none=>simp[tZ]
 | some z=>exact(h z rfl).1
theorem words{ys:List (List Nat)}(hy:∀y∈ys,32 ∉ y){t:List Nat}(ht:t=hdT q++ys.flatMap (λy=>32::y)):jk 32 t=q.w::(q.ps.map qL++ys):=by
 rw[ht,<-Df];have:hdW q++ys=q.w::(q.ps.map qL++ys):=rfl;rw[this];refine T9 32 _ _ λz hz=>?_;rw[<-this] at hz;rcases Qxx.mp hz with hz|hz
 ·exact abY h (by unfold lW;omega) (by decide) (by decide) z hz
 ·exact hy z hz
theorem abK:32 ∉ tZ q.l:=λhc=>by have:=abS h 32 hc;unfold lW at this;omega
theorem abJ:32 ∉ tZ q.r:=λhc=>by have:=agy h 32 hc;unfold lW at this;omega
theorem ahm:[47] ∉ q.w::q.ps.map qL:=abZ h (by unfold lW;omega) (by decide) (by decide)
theorem ahl(l:List (List Nat))(hl:[95] ∉ l):[95] ∉ q.w::(q.ps.map qL++[47]::l):=λhz=>by
 have:q.w::(q.ps.map qL++[47]::l)=hdW q++[47]::l:=rfl;rw[this] at hz;rcases Qxx.mp hz with hz|hz
 ·exact abZ h (d:=95) (by unfold lW;omega) (by decide) (by decide) hz
 ·rcases Qqw.mp hz with hz|hz
  ·cases hz
  ·exact hl hz
theorem abL:tZ q.l≠[95]:=λe=>by have:=abS h 95 (by rw[e];exact Qwz.mpr rfl);unfold lW at this;omega
theorem ahZ{p:Pt}(hp:p∈q.ps):ch (qL p)=c2 p:=by
 obtain⟨a,b,e,e1,e2,h1,h2⟩:=yl (h.p p hp);unfold ch;have hs:jk 62 (qL p)=[Ey p.1,Ey p.2]:=by
  have:=T9 62 [Ey p.2] (Ey p.1) (λz hz=>by
   unfold lW at h1 h2;rw[e1,e2] at hz;simp only[Qqw,Qwv,Qjz] at hz;rcases hz with rfl|rfl
   ·intro c;have:=Qwz.mp c;omega
   ·intro c;have:=Qwz.mp c;omega)
  exact this
 rw[hs];have r1:∀{z:List Nat},Xl z->rs (Ey z)=some z:=λ{z} hz=>by
  rcases hz with rfl|⟨c,rfl,hc⟩
  ·rfl
  ·unfold rs Ey;unfold lW at hc;rw[if_neg (by simp),if_neg (by simp;omega)]
 show [rs (Ey p.1),rs (Ey p.2)]=[some p.1,some p.2];rw[r1 (h.p p hp).1,r1 (h.p p hp).2]
theorem W4:(q.ps.map qL).map ch=q.ps.map c2:=by rw[Qxk];exact Qz6 λp hp=>ahZ h hp
omit h in
theorem Uj{g:Option (List Nat)}(h:Sg g)(L:List Rn):sg L (tZ g)=g:=by
 cases g with
 | none=>rfl
 | some z=>
  obtain⟨hz,_,hc⟩:=h z rfl;cases z with
  | nil=>exact absurd rfl hz
  | cons c t=>
   have hc:=hc c (Qqv ..);unfold lW at hc;show(if c::t=[42] then none else if brk (c::t)=true then _ else some (c::t))=_;rw[if_neg (λe=>by have:=(List.cons.inj e).1;omega),Xb (by omega),if_neg Qw3]
theorem sides{l r t:List Nat}(hl:32 ∉ l)(hr:32 ∉ r)(h95:l≠[95])(ht:t=hdT q++[32,47,32]++(l++[32,95,32]++r))(L:List Rn):both t=true/\rq L t=⟨q.w,q.ps.map c2,sg L l,sg L r⟩:=by
 have hs:=words h (ys:=[[47],l,[95],r]) (λy hy=>by
  simp only[Qqw,Qwv,Qjz] at hy;rcases hy with rfl|rfl|rfl|rfl
  ·decide
  ·exact hl
  ·decide
  ·exact hr) (t:=t) (by rw[ht];simp)
 obtain⟨b,e1,e2,e3,e4⟩:=shape (l:=[l]) (r:=[r]) hs (ahm h) (ahl h [l] λhz=>h95 (Qwz.mp hz).symm);refine⟨b,?_⟩;unfold rq;rw[e1,e2,e3,e4,W4 h]
 rfl
theorem pO(L:List Rn):both (txt q)=true/\rq L (txt q)=cq q:=by have:=sides h (abK h) (abJ h) (abL h) TJ L;rw[Uj h.l,Uj h.r] at this;exact this
end
theorem yf(s:List Nat):∀(init:List (List Nat)) (a y:List Nat),bQ s (init++[a])++y=bQ s (init++[a++y])
 | [],a,y=>rfl
 | [b],a,y=>by
  show bQ s (b::[a])++y=bQ s (b::[a++y]);rw[bG,bG,Qww]
  rfl
 | b::c::init,a,y=>by
  have:=yf s (c::init) a y;show bQ s (b::c::(init++[a]))++y=bQ s (b::c::(init++[a++y]));rw[bG,bG,Qww];exact Qzw _ this
section
variable{L:List Rn}(hg:good (L.map (·.1))=true){q:QR}(h:Kr q)
theorem aha{t:List Nat}{p:Q}(e:rq L t=p)(hp:RK (L.map (·.1)) p=false):ok L t=false:=by unfold ok;rw[e,hp,Bool.and_false]
include h
include hg
end
open wR (HJ)
theorem mL{g:GV}{b:cC}{d:D}{ds:List D}{env e1 e2:Ev.Env}(h1:g d env=some e1)(h2:b e1 = .nx e2):jr g b (d::ds) env=jr g b ds e2:=by show(match g d env with|none=>_|some e1=>_)=_;rw[h1];show(match b e1 with|.nx e2=>_|.ct e2=>_|.bk e2=>_|.rt o d e2=>_|.stuck=>_)=_;rw[h2]
abbrev tl:List Nat:=[32,47,32,42,32,95,32,42]
abbrev on:List Nat:=[111,110,99,101,32]
def o1(a:Nat):List (List Nat):=[[111,110,99,101],on,on++[a],on++[a]++[62],[111,110,99,101,32,62]++[a],[111,110,99,101,32,48,62,48]]++[on++[a]++[62]++[a]]
def o2(a o:Nat):List (List Nat):=[[a]++[62]++[o],[o]++[62]++[a],[a]++[45,62,48],[a]++[62,62,48],[a]++[62,35],[35,62]++[a]]++[[a]++[62,48,32]++[a]++[62,48]]++[[a]++[32,62,48]]
def o5(a:Nat):List (List Nat):=[[91,115,116,111,112,93]++[a],[a]++[91,115,116,111,112,93],[35,91,115,116,111,112,93],[91,115,116,111,112,32,93],[91,32,115,116,111,112,93],[91,115,116,111,112,32,32,111,112,101,110,93],[91,110,111,115,117,99,104,93]]++[[91,97,49,93],[91,115,116,111,112,44,111,112,101,110,93]]
def f1(z:List Nat):List Nat:=z++tl
def f3(a:Nat)(z:List Nat):List (List Nat):=[on++[a]++[62,48,32,47,32]++z++[32,95,32,42],on++[a]++[62,48,32,47,32,42,32,95,32]++z]
def ltr(c:Nat):Bool:=decide (97<=c)&&decide (c<=122)
def M6(o:Nat):Option (List Nat)->Bool
 | some [c]=>!ltr c||c == o
 | _=>true
def ah2(o:Nat):List (Option (List Nat))->Bool
 | [p,r]=>!(p == some [])||M6 o r
 | _=>true
def ah3(o:Nat):List (Option (List Nat))->Bool
 | [p,r]=>M6 o p||(M6 o r && !(r == some []))||p == r
 | _=>true
def afw(o:Nat)(cs:List (List (Option (List Nat)))):Bool:=cs.isEmpty||((!(cs.length == 1)||cs.any (ah2 o))&&(cs.any (ah3 o) || !pB (cs.map old)))
def aaW(o:Nat)(z:List Nat):Bool:=!(z == [42])&&(if brk z=true then (jk 32 ((z.drop 1).take (z.length - 2))).any (λm=>!KN.contains m) else z.isEmpty||(z.any (λc=>!(c == 35)&&(!ltr c||c == o)) || !pB (z.map λc=>[c])))
def sb(o:Nat)(t:List Nat):Bool:=!both t||(!way (hw t)||(afw o ((cw t).map ch)||(aaW o (lw t)||aaW o (Ck t))))
theorem nt{b:Bool}(h:(!b)=true):b=false:=by cases b;rfl;cases h
section
variable{L:List Rn}(h:GX L){o:Nat}(ho:o ∉ L.map (·.1))
include h ho
theorem zK{r:Option (List Nat)}(hr:M6 o r=true):Js (L.map (·.1)) r=false:=by
 match r,hr with
 | none,_=>rfl
 | some [],_=>rfl
 | some (_::_::_),_=>rfl
 | some [c],hr=>
  have hr:(!ltr c||c == o)=true:=hr;show(L.map (·.1)).contains c=false;rw[<-Bool.not_eq_true,List.contains_iff_mem];intro hc;have hl:=cJ h.pU hc;unfold lW at hl;rw[Qxw] at hr;rcases hr with hr|hr
  ·unfold ltr at hr;rw[Qw2 hl.1,Qw2 hl.2] at hr;cases hr
  ·rw[eq_of_beq hr] at hc;exact ho hc
theorem aaX{c:List (Option (List Nat))}(hc:ah2 o c=true):pu (L.map (·.1)) c=false:=by
 match c,hc with
 | [],_=>rfl
 | [_],_=>rfl
 | _::_::_::_,_=>rfl
 | [p,r],hc=>
  have hc:(!(p == some [])||M6 o r)=true:=hc;show(p == some []&&Js (L.map (·.1)) r)=false;rw[Qxw] at hc;rcases hc with hc|hc
  ·rw[Bool.not_eq_true'] at hc;rw[hc,Bool.false_and]
  ·rw[zK h ho hc,Bool.and_false]
theorem aaZ{c:List (Option (List Nat))}(hc:ah3 o c=true):G7 (L.map (·.1)) c=false:=by
 match c,hc with
 | [],_=>rfl
 | [_],_=>rfl
 | _::_::_::_,_=>rfl
 | [p,r],hc=>
  have hc:(M6 o p||(M6 o r && !(r == some []))||p == r)=true:=hc;show(Js (L.map (·.1)) p&&((Js (L.map (·.1)) r||r == some []) && !(p == r)))=false;rw[Qxw,Qxw,Qwx] at hc;rcases hc with (hc|hc)|hc
  ·rw[zK h ho hc,Bool.false_and]
  ·rw[zK h ho hc.1,nt hc.2,Bool.false_or,Bool.false_and,Bool.and_false]
  ·rw[hc,Bool.not_true,Bool.and_false,Bool.and_false]
theorem aaY{cs:List (List (Option (List Nat)))}(hc:afw o cs=true):CT (L.map (·.1)) cs=false:=by
 unfold afw at hc;unfold CT;cases he:cs.isEmpty with
 | true=>rfl
 | false=>
  rw[he,Bool.false_or,Qwx,Qxw,Qxw] at hc;have a1:(cs.length == 1&&cs.all (pu (L.map λr:Rn=>r.1)))=false:=by
   rcases hc.1 with e|e
   ·rw[nt e,Bool.false_and]
   ·obtain⟨c,hm,hb⟩:=List.any_eq_true.mp e;have:cs.all (pu (L.map λr:Rn=>r.1))=false:=List.all_eq_false.mpr ⟨c,hm,by rw[aaX h ho hb];exact Qw3⟩;rw[this,Bool.and_false]
  have a2:(cs.all (G7 (L.map λr:Rn=>r.1))&&pB (cs.map old))=false:=by
   rcases hc.2 with e|e
   ·obtain⟨c,hm,hb⟩:=List.any_eq_true.mp e;have:cs.all (G7 (L.map λr:Rn=>r.1))=false:=List.all_eq_false.mpr ⟨c,hm,by rw[aaZ h ho hb];exact Qw3⟩;rw[this,Bool.false_and]
   ·rw[nt e,Bool.and_false]
  rw[a1,a2]
  rfl
theorem Qn{z:List Nat}(hz:aaW o z=true):ag (L.map (·.1)) (sg L z)=false:=by
 unfold aaW at hz;rw[Qwx,Bool.not_eq_true',Qwj] at hz;obtain⟨h1,h2⟩:=hz;unfold sg;rw[if_neg h1];split at h2
 ·rename_i hb;rw[if_pos hb];obtain⟨m,hm,hk⟩:=List.any_eq_true.mp h2;have:tL L (jk 32 ((z.drop 1).take (z.length - 2)))=[]:=by
   unfold tL;rw[List.map_eq_nil_iff,List.filter_eq_nil_iff];intro r hr hall;have hmem:=Qw5 (Qq5.mp hall m hm);have:=Qq5.mp (h.mks r hr) m hmem;rw[this] at hk;cases hk
  rw[this]
  rfl
 ·rename_i hb;rw[if_neg hb];show(!z.isEmpty&&(z.all (λc=>c == 35||(L.map (·.1)).contains c)&&pB (z.map λc=>[c])))=false;rw[Qxw,Qxw] at h2;rcases h2 with e|e|e
  ·rw[e];rfl
  ·obtain⟨c,hm,hc⟩:=List.any_eq_true.mp e;have:z.all (λc=>c == 35||(L.map λr:Rn=>r.1).contains c)=false:=by
    refine List.all_eq_false.mpr ⟨c,hm,?_⟩;rw[Qwx,Bool.not_eq_true'] at hc;have h3:=zK h ho (r:=some [c]) hc.2;rw[hc.1,Bool.false_or];show ¬Js _ (some [c])=true;rw[h3];exact Qw3
   rw[this,Bool.false_and,Bool.and_false]
  ·rw[nt e,Bool.and_false,Bool.and_false]
theorem Aa{t:List Nat}(ht:sb o t=true):ok L t=false:=by
 unfold sb at ht;rw[Qxw,Qxw,Qxw,Qxw] at ht;rcases ht with e|e|e|e|e
 ·exact Ov (nt e)
 ·exact aed (nt e)
 ·exact aee (aaY h ho e)
 ·exact ZK (Qn h ho e)
 ·exact Vz (Qn h ho e)
end
def OUT:List Nat:=[113,118,109,101,104,97,98,99,100,102,103]
theorem other:∀(x S:List Nat),S.Nodup->x.length<S.length->∃o∈S,o ∉ x
 | [],S,_,hl=>by
  cases S with
  | nil=>exact absurd hl (by decide)
  | cons o S=>exact⟨o,Qqv ..,Qwv⟩
 | a::x,S,hn,hl=>by
  rw[Qqk] at hl;obtain⟨o,h1,h2⟩:=other x (S.erase a) (hn.erase a) (by rw[List.length_erase];split<;>omega);rw[hn.mem_erase_iff] at h1;refine⟨o,h1.2,λh=>?_⟩;rcases Qqw.mp h with e|h
  ·exact h1.1 e
  ·exact h2 h
theorem ZS(c:Nat)(z:List Nat):jH (.str [c]) (.str z)=some (.bl (!decide (c∈z))):=rfl
theorem Z9{x:List Nat}(hl:x.length<=4):∃o,m6 [.str x]=some (.str [o])/\o∈OUT/\o ∉ x:=by
 obtain⟨o',h1,h2⟩:=other x OUT (by decide) (Qzv hl (by decide));have hl1:mJ [Zs x] = .ok (.lst ((OUT.filter λc=>!decide (c∈x)).map λc=>.str [c])) [Zs x]:=
  Gs (lo:=1) (n:=2) OUT (λc=>.str [c]) (λc=>!decide (c∈x)) (λc=>.str [c]) rfl rfl rfl (λc _=>cF (gP (x:=.str [c]) (y:=.str x) rfl rfl rfl (ZS c x))) (λc _ _=>rfl) (by decide)
 have hm:o'∈OUT.filter λc=>!decide (c∈x):=List.mem_filter.mpr ⟨h1,by rw[Qw6 h2];rfl⟩;cases hf:OUT.filter λc=>!decide (c∈x) with
 | nil=>rw[hf] at hm;cases hm
 | cons o r=>
  have ho:o∈OUT.filter λc=>!decide (c∈x):=by rw[hf];exact Qqv ..
  obtain⟨h3,h4⟩:=List.mem_filter.mp ho;rw[hf] at hl1;refine⟨o,cQ (bY (aJ (y:=.int 0) hl1 rfl (dZ (j:=0) rfl))),h3,of_decide_eq_false (nt h4)⟩
theorem DX:∀(ps:List (List Nat)) (p:List Nat),(p::ps).flatMap (λy=>32::y)=32::bQ [32] (p::ps)
 | [],p=>by simp[bQ]
 | q::ps,p=>by
  rw[List.flatMap_cons,DX ps q,bG];simp
theorem JP(l:List Nat):(jk 32 l).flatMap (λy=>32::y)=32::l:=by obtain⟨p,ps,e⟩:=nq 32 l;have:=lJ 32 l;rw[e] at this ⊢;rw[DX,this]
theorem Ug{q:QR}(h:Kr q){l r t:List Nat}(h95:[95] ∉ jk 32 l)(ht:t=hdT q++[32,47,32]++(l++[32,95,32]++r))(L:List Rn):both t=true/\rq L t=⟨q.w,q.ps.map c2,sg L l,sg L r⟩:=by
 have hs:=words h (ys:=[47]::(jk 32 l++[95]::jk 32 r)) (λy hy=>by
  rcases Qqw.mp hy with rfl|hy
  ·decide
  ·rcases Qxx.mp hy with hy|hy
   ·exact vz 32 l y hy
   ·rcases Qqw.mp hy with rfl|hy
    ·decide
    ·exact vz 32 r y hy) (t:=t) (by
  rw[ht,List.flatMap_cons,List.flatMap_append,List.flatMap_cons,JP,JP];simp)
 obtain⟨b,e1,e2,e3,e4⟩:=shape hs (ahm h) (ahl h _ h95);refine⟨b,?_⟩;unfold rq;rw[e1,e2,e3,e4,W4 h,lJ,lJ]
def told(ms:List (List Nat)):List Nat:=[91]++bQ [32] ms++[93]
def mOk(ms:List (List Nat)):Bool:=brk (told ms)&&(jk 32 (((told ms).drop 1).take ((told ms).length - 2)) == ms) && !decide ([95]∈jk 32 (told ms)) && !(told ms == [42])&&decide (ms.length<=10)&&ms.all (λm=>decide (m.length<=10))&&decide ((told ms).length<=60)
section
variable{ms:List (List Nat)}(hm:mOk ms=true)
include hm
theorem Ml:brk (told ms)=true/\jk 32 (((told ms).drop 1).take ((told ms).length - 2))=ms/\[95] ∉ jk 32 (told ms)/\told ms≠[42]/\ms.length<=10/\(∀m∈ms,m.length<=10)/\(told ms).length<=60:=by unfold mOk at hm;simp only[Qwx,Bool.not_eq_true',beq_iff_eq,decide_eq_false_iff_not,decide_eq_true_eq,Qwj,Qq5] at hm;obtain⟨⟨⟨⟨⟨⟨h1,h2⟩,h3⟩,h4⟩,h5⟩,h6⟩,h7⟩:=hm;exact⟨h1,h2,h3,h4,h5,h6,h7⟩
theorem N5(L:List Rn):sg L (told ms)=some (tL L ms):=by obtain⟨h1,h2,_,h4,_⟩:=Ml hm;unfold sg;rw[if_neg h4,if_pos h1,h2]
end
section
variable{L:List Rn}(hL:GX L)
theorem vR(h:GX L):L.length<=4:=by have:=(lM h.pU).2;rwa [Qqz] at this
include hL
theorem JX{ms:List (List Nat)}(h0:tL L ms≠[]):ag (L.map (·.1)) (some (tL L ms))=true:=by refine(HD hL.pU ?_ h0).2;refine List.Sublist.cons _ ?_;unfold tL;exact List.filter_sublist.map _
omit hL in
end
theorem RJ{x:List Nat}{q:Q}(h:RK x q=true):way q.w=true/\CT x q.cs=true/\ag x q.l=true/\ag x q.r=true:=by unfold RK at h;simp only[Qwx] at h;exact⟨h.1,h.2.1,h.2.2.1,h.2.2.2⟩
def tx(q:QR)(A B:List Nat):List Nat:=hdT q++[32,47,32]++(A++[32,95,32]++B)
theorem PL(z:List Nat):nU (.tup (fW z)) (.tup [])=some (.bl z.isEmpty):=by cases z<;>rfl
theorem agv{i j c:Int}(h:c≠0/\c.natAbs<1073741824/\Builtin.Range.small i j c=true):nA [.int i,.int j,.int c]=some (iz i c (Builtin.Range.rangeSize i j c).toNat):=by unfold nA;simp only;rw[if_pos h]
theorem Lp{j:Nat}(h:j<17):∃ds,nA [.int 0,.int (j:Int),.int 2]=some ds/\∀d∈ds,∃k:Int,d = .int k/\0<=k/\k<=400:=by
 have hall:((List.range 17).all λj=>Builtin.Range.small 0 (j:Int) 2&&decide ((Builtin.Range.rangeSize 0 (j:Int) 2).toNat<=20))=true:=by decide +kernel
 have hj:=Qq5.mp hall j (Qxz.mpr h);rw[Qwx] at hj;have hsz:=Qw5 hj.2;refine⟨iz 0 2 (Builtin.Range.rangeSize 0 (j:Int) 2).toNat,agv ⟨by decide,by decide,hj.1⟩,λd hd=>?_⟩;unfold iz at hd;obtain⟨i,hi,rfl⟩:=Qwk.mp hd;have:=Qxz.mp hi;exact⟨0+(i:Int)*2,rfl,by omega,by omega⟩
def q4:QR:=⟨[97,108,111,110,103],[([97],[98]),([98],[]),([99],[100]),([100],[97])],some [35,97],none⟩
end fG
namespace jL
open Ev PySem L2
open KP
open fG (Rn row rq ok qD Q RK zP both Dq parts is_rule abw sounds_of)
theorem Vt:cW=fG.cW:=rfl
theorem Yx:lr=fG.lr:=rfl
def sd(p:List Nat):Bool:=p == [108,101,102,116]||p == [114,105,103,104,116]
def rp(L:List Rn)(t:List Nat):D:=if both t=true then qD (rq L t) else .non
theorem agq(p:List Nat):jH (.str p) (.tup [(.str [108,101,102,116]),(.str [114,105,103,104,116])])=some (.bl (!sd p)):=by show some (D.bl (!(([108,101,102,116] == p)||(([114,105,103,104,116] == p)||false))))=_;unfold sd;rw[Bool.or_false,Bool.beq_comm,Bool.beq_comm (a:=[114,105,103,104,116])]
section
variable{L:List Rn}(hL:L.length<=1000)
include hL
theorem Dp{t:List Nat}(ht:t.length<=900):cW [.tup (L.map row),.str t]=some (rp L t)/\lr [.tup (L.map row),rp L t]=some (.bl (ok L t)):=by
 rw[Vt,Yx];unfold rp ok;cases e:both t with
 | false=>exact⟨by rw[if_neg Qw3];exact Dq _ (by omega) e,rfl⟩
 | true=>exact⟨by rw[if_pos rfl];exact parts hL ht e,by rw[if_pos rfl];exact is_rule (sounds_of hL) (abw hL ht)⟩
def pF(L:List Rn)(p:List Nat)(ps:List (List Nat)):D:=.tup [.str p,.tup (ps.map (rp L))]
def io(L:List Rn)(p:List Nat)(ps:List (List Nat)):Bool:=sd p&&(decide (ps.length<=4)&&ps.all (ok L))
theorem is_order(p:List Nat){ps:List (List Nat)}(hp:∀t∈ps,t.length<=900)(hn:ps.length<=1000):jK [.tup (L.map row),pF L p ps]=some (.bl (io L p ps)):=by
 refine cQ (env:=if (sd p&&decide (ps.length<=4))=true then [(Zf (.tup (L.map row))),Zf (pF L p ps),Zs p,(Zf (.tup (ps.map (rp L))))] else [(Zf (.tup (L.map row))),Zf (pF L p ps),Zs p,(Zf (.tup (ps.map (rp L))))]) ?_;rw[ite_self];show uZ [(Zf (.tup (L.map row))),Zf (pF L p ps),Zn,Zn]=_;unfold uZ;refine(aG (e:=[(Zf (.tup (L.map row))),Zf (pF L p ps),Zn,Zn]) ?_).trans ?_
 ·rfl
 refine(aG (e:=[(Zf (.tup (L.map row))),Zf (pF L p ps),Zs p,(Zf (.tup (ps.map (rp L))))]) ?_).trans ?_
 ·rfl
 generalize hE:([(Zf (.tup (L.map row))),Zf (pF L p ps),Zs p,(Zf (.tup (ps.map (rp L))))]:Ev.Env)=env;have g1:dw (aA jH 2 (jh (.tup [(.str [108,101,102,116]),(.str [114,105,103,104,116])]))) env = .ok (!sd p) env:=cF (gP (x:=.str p) (by rw[<-hE];rfl) rfl (by rw[<-hE];rfl) (agq p));have g2:bV (dw (fj (oZ "tuple") (aM 3))) env = .ok false env:=by rw[<-hE];rfl
 have g3:dw (az gGt (aq dD (aa (bz 3) aj)) (Zi 4)) env = .ok (!decide (ps.length<=4)) env:=by
  refine cF (aJ (x:=.int (ps.length:Nat)) (y:=.int 4) (e1:=env) (aH (ds:=[.tup (ps.map (rp L))]) (by rw[<-hE];rfl) ?_) rfl ?_)
  ·show some (D.int ((ps.map (rp L)).length:Nat))=_;rw[Qqz]
  ·rw[ahR]
   congr 2
   rw[<-decide_not,decide_eq_decide];omega
 have hc:gQ (dw (aA jH 2 (jh (.tup [(.str [108,101,102,116]),(.str [114,105,103,104,116])])))) (gQ (bV (dw (fj (oZ "tuple") (aM 3)))) (dw (az gGt (aq dD (aa (bz 3) aj)) (Zi 4)))) env = .ok (!(sd p&&decide (ps.length<=4))) env:=by
  cases e:sd p with
  | false=>rw[e] at g1;exact Gr g1
  | true=>rw[e] at g1;exact(gq g1).trans ((gq g2).trans g3)
 unfold io;cases e:(sd p&&decide (ps.length<=4)) with
 | false=>
  rw[e] at hc;rw[<-Bool.and_assoc,e,Bool.false_and];exact iB ((lX hc).trans rfl)
 | true=>
  rw[e] at hc;rw[<-Bool.and_assoc,e,Bool.true_and];refine(aG (e:=env) ?_).trans ?_
  ·exact(dg hc).trans rfl
  have hl:t8 env = .ok (.lst (ps.map λt=>.bl (ok L t))) env:=by refine o6 (lo:=4) (n:=5) (aD:=env) ps (rp L) (λt=>.bl (ok L t)) (qx (d:=.tup (ps.map (rp L))) (by rw[<-hE];rfl) rfl) (by rw[<-hE];rfl) rfl (λt ht=>?_) (Qqy hn (by decide));exact aH (ds:=[.tup (L.map row),rp L t]) (by rw[<-hE];rfl) (Dp hL (hp t ht)).2
  exact bY (aH (aB hl aX) (JK (ok L) ps))
end
open fG (Rn row rq ok qD Q mL)
theorem aav{g:GV}{b:cC}{d x:D}{ds:List D}{o:Bool}{env e1 e2:Ev.Env}(h1:g d env=some e1)(h2:b e1 = .rt o x e2):jr g b (d::ds) env = .rt o x e2:=by show(match g d env with|none=>_|some e1=>_)=_;rw[h1];show(match b e1 with|.nx e2=>_|.ct e2=>_|.bk e2=>_|.rt o d e2=>_|.stuck=>_)=_;rw[h2]
def Td(k n:Nat):List D:=(List.range' (k+1) n).map λ(i:Nat)=>D.int (i:Nat)
theorem Jr(k n:Nat):Td k (n+1) = .int ((k+1:Nat):Int)::Td (k+1) n:=by
 unfold Td;rw[List.range'_succ]
 rfl
theorem aad(k a b:Nat):Td k (a+b)=Td k a++Td (k+a) b:=by
 unfold Td;rw[<-Qx1]
 congr 1
 have:=List.range'_append (s:=k+1) (m:=a) (n:=b) (step:=1);rw[Nat.one_mul] at this;rw[<-this,Nat.add_right_comm]
theorem Lp{m:Nat}(h:m<=8):nA [.int 1,.int ((m+1:Nat):Int)]=some (Td 0 m):=by
 have:m=0\/m=1\/m=2\/m=3\/m=4\/m=5\/m=6\/m=7\/m=8:=by omega
 rcases this with rfl|rfl|rfl|rfl|rfl|rfl|rfl|rfl|rfl<;>rfl
abbrev E5(L:List Rn)(t:D)(p:List Nat)(all acc:List (List Nat))(v:OD):Ev.Env:=[(Zf (.tup (L.map row))),Zf t,(Zf (.lst ((p::all).map .str))),Zf (pF L p acc),v]
section
variable{L:List Rn}(hL:L.length<=1000){t:D}{p:List Nat}{all:List (List Nat)}(hall:∀z∈all,z.length<=900)(hn:all.length<=8)
include hL hall hn
theorem step{acc:List (List Nat)}{b:List Nat}{rest:List (List Nat)}(he:all=acc++b::rest)(rs:cC) :
  aP (bF (cU (aa (aA gM 2 (Zi 0)) (aa (az bK (aA gM 3 (Zi 1)) (cU (aa (aq cW (Zv 0 (aa (aA gM 2 (bz 4)) aj))) aj))) aj))) (au 3)) rs (E5 L t p all acc (Zf (.int ((acc.length+1:Nat):Int))))
   = rs (E5 L t p all (acc++[b]) (Zf (.int ((acc.length+1:Nat):Int)))):=by
 have hb:b∈all:=by rw[he];simp
 have hal:acc.length<=8:=by have:=Qzw List.length he;rw[Qqq,Qqk] at this;omega
 generalize hE:E5 L t p all acc (Zf (.int ((acc.length+1:Nat):Int)))=env;refine aG (bL (d:=pF L p (acc++[b])) (e:=env) ?_ (by rw[<-hE];rfl));have e1:aA gM 2 (Zi 0) env = .ok (.str p) env:=gP (x:=.lst ((p::all).map .str)) (y:=.int 0) (by rw[<-hE];rfl) rfl (by rw[<-hE];rfl) (dZ (j:=0) rfl);have e2:aA gM 2 (bz 4) env = .ok (.str b) env:=by
  refine gP (x:=.lst ((p::all).map .str)) (y:=.int ((acc.length+1:Nat):Int)) (by rw[<-hE];rfl) (by rw[<-hE];rfl) (by rw[<-hE];rfl) (dZ (j:=acc.length+1) ?_);rw[Qq8,List.getElem?_cons_succ,he,Qx1,Qx5 (by rw[Qqz];exact Qq2 _),Qqz,Nat.sub_self]
  rfl
 have e3:aA gM 3 (Zi 1) env = .ok (.tup (acc.map (rp L))) env:=gP (x:=pF L p acc) (y:=.int 1) (by rw[<-hE];rfl) rfl (by rw[<-hE];rfl) (dZ (j:=1) rfl);have e4:aq cW (Zv 0 (aa (aA gM 2 (bz 4)) aj)) env = .ok (rp L b) env:=aH (ds:=[.tup (L.map row),.str b]) (aB (d:=.tup (L.map row)) (e1:=env) (by rw[<-hE];rfl) (aB e2 aX)) (Dp hL (hall b hb)).1;refine fC (aB e1 (aB (d:=.tup ((acc++[b]).map (rp L))) (aJ (y:=.tup [rp L b]) e3 (fC (aB e4 aX) Ev.Xz) ?_) aX)) Ev.X6;rw[Qx1];exact aao (by rw[Qqz];exact Qqy (Nat.succ_le_succ hal) (by decide))
theorem Nf{acc rest:List (List Nat)}(he:all=acc++rest):(∀z∈acc,z.length<=900)/\acc.length<=1000:=by refine⟨λz hz=>hall z (by rw[he];exact Qj8 _ hz),?_⟩;have:=Qzw List.length he;rw[Qqq] at this;omega
theorem ahu{acc:List (List Nat)}{b:List Nat}{rest:List (List Nat)}(he:all=acc++b::rest)(hk:io L p (acc++[b])=true):jA (E5 L t p all acc (Zf (.int ((acc.length+1:Nat):Int)))) = .nx (E5 L t p all (acc++[b]) (Zf (.int ((acc.length+1:Nat):Int)))):=by obtain⟨h1,h2⟩:=Nf hL hall hn (acc:=acc++[b]) (rest:=rest) (by rw[he];simp);have:=is_order hL p h1 h2;rw[hk] at this;unfold jA;exact(step hL hall hn he _).trans ((dg (dF (b:=true) (cF (aH (ds:=[.tup (L.map row),pF L p (acc++[b])]) rfl this)))).trans rfl)
theorem af7{acc:List (List Nat)}{b:List Nat}{rest:List (List Nat)}(he:all=acc++b::rest)(hk:io L p (acc++[b])=true):d7 (E5 L t p all acc (Zf (.int ((acc.length+1:Nat):Int)))) = .nx (E5 L t p all (acc++[b]) (Zf (.int ((acc.length+1:Nat):Int)))):=by obtain⟨h1,h2⟩:=Nf hL hall hn (acc:=acc++[b]) (rest:=rest) (by rw[he];simp);have:=is_order hL p h1 h2;rw[hk] at this;unfold d7;exact(step hL hall hn he _).trans ((dg (dF (b:=true) (cF (aH (ds:=[.tup (L.map row),pF L p (acc++[b])]) rfl this)))).trans rfl)
theorem af6{acc:List (List Nat)}{b:List Nat}{rest:List (List Nat)}(he:all=acc++b::rest)(hk:io L p (acc++[b])=false):∃e,d7 (E5 L t p all acc (Zf (.int ((acc.length+1:Nat):Int)))) = .rt true (.tup [.int ((acc.length+1:Nat):Int)]) e:=by obtain⟨h1,h2⟩:=Nf hL hall hn (acc:=acc++[b]) (rest:=rest) (by rw[he];simp);have:=is_order hL p h1 h2;rw[hk] at this;unfold d7;exact⟨_,(step hL hall hn he _).trans ((lX (dF (b:=false) (cF (aH (ds:=[.tup (L.map row),pF L p (acc++[b])]) rfl this)))).trans rfl)⟩
theorem loop{body:cC}(hb:∀(acc:List (List Nat)) (b:List Nat) (rest:List (List Nat)),all=acc++b::rest->io L p (acc++[b])=true->body (E5 L t p all acc (Zf (.int ((acc.length+1:Nat):Int)))) = .nx (E5 L t p all (acc++[b]) (Zf (.int ((acc.length+1:Nat):Int)))))(more:List D) :
  ∀(rs acc rest:List (List Nat)) (v:OD),all=acc++(rs++rest)->(∀j,j<rs.length->io L p (acc++rs.take (j+1))=true)->∃w,jr (au 4) body (Td acc.length rs.length++more) (E5 L t p all acc v)=jr (au 4) body more (E5 L t p all (acc++rs) w)
 | [],acc,rest,v,_,_=>⟨v,by rw[Qx2];rfl⟩
 | b::rs,acc,rest,v,he,hs=>by
  have h0:=hs 0 (Nat.succ_pos _);obtain⟨w,e⟩:=loop hb more rs (acc++[b]) rest (Zf (.int ((acc.length+1:Nat):Int))) (by rw[he];simp) (λj hj=>by
   have:=hs (j+1) (Nat.succ_lt_succ hj);rw[List.take_succ_cons] at this;rw[Qww];exact this)
  refine⟨w,?_⟩;rw[Qqq,Qx8,Qww] at e;rw[Qqk,Jr];exact(mL (e1:=E5 L t p all acc (Zf (.int ((acc.length+1:Nat):Int)))) rfl (hb acc b (rs++rest) (by rw[he];simp) h0)).trans e
end
structure Pt(p:List Nat)(all:List (List Nat)):Prop where
 np:∀z∈p::all,Np [59,32] z
 ln:∀z∈p::all,z.length<=900
 n:all.length<=8
def jn(p:List Nat)(all:List (List Nat)):List Nat:=bQ [59,32] (p::all)
theorem Pa:∀(all:List (List Nat)) (p:List Nat),(∀z∈p::all,z.length<=900)->(bQ [59,32] (p::all)).length<=902*(all.length+1)
 | [],p,h=>by have:=h p (Qqv ..);show p.length<=_;omega
 | q::all,p,h=>by
  have h1:=h p (Qqv ..);have h2:=Pa all q λz hz=>h z (Qq0 _ hz);have e:(q::all).length=all.length+1:=rfl;rw[bG,Qqq,Qqq,e];show p.length+2+_<=_;omega
theorem zx{p:List Nat}{all:List (List Nat)}(h:Pt p all):ik (.str (jn p all)) (.str [59,32])=some (.lst ((p::all).map .str)):=by
 have h1:=Pa all p h.ln;have h2:=h.n;have h3:(bQ [59,32] (p::all)).length<=100000:=Qqy h1 (Qqy (Nat.mul_le_mul_left 902 (Nat.succ_le_succ h2)) (by decide));have hk:Builtin.Str.strKind (strOf [59,32])=1:=by decide +kernel
 unfold jn;exact Dl (sep:=[59,32]) (p:=p) (ps:=all) (Nat.succ_pos _) hk h.np h3
section
variable{L:List Rn}(hL:L.length<=1000){p:List Nat}{all:List (List Nat)}(h:Pt p all)
include hL h
theorem Wx{v:OD}{acc:List (List Nat)}:dY (aa (Zi 1) (aa (aq dD (aa (bz 2) aj)) aj)) (E5 L (.str (jn p all)) p all acc v) = .ok (Td 0 all.length) (E5 L (.str (jn p all)) p all acc v):=by
 have e:aa (Zi 1) (aa (aq dD (aa (bz 2) aj)) aj) (E5 L (.str (jn p all)) p all acc v) = .ok [.int 1,.int ((all.length+1:Nat):Int)] (E5 L (.str (jn p all)) p all acc v):=by refine aB (d:=.int 1) rfl (aB (aH (ds:=[.lst ((p::all).map .str)]) rfl ?_) aX);show some (D.int (((p::all).map D.str).length:Nat))=_;rw[Qqz,Qqk]
 exact fG.WD e (Lp h.n)
theorem read_order(hs:sd p=true)(h4:all.length<=4)(hk:∀z∈all,ok L z=true):j4 [.tup (L.map row),.str (jn p all)]=some (pF L p all):=by
 have ha:∀z∈all,z.length<=900:=λz hz=>h.ln z (Qq0 _ hz);have hio:∀j,io L p (all.take j)=true:=λj=>by
  unfold io;rw[hs,Qw2 (show(all.take j).length<=4 by rw[Qw8];omega),Qq5.mpr λz hz=>hk z (List.mem_of_mem_take hz)]
  rfl
 obtain⟨w,e⟩:=loop (body:=jA) (t:=.str (jn p all)) hL ha h.n (λacc b rest he hk=>ahu hL ha h.n he hk) [] all [] [] none (by simp) (λj _=>by rw[Qz4];exact hio (j+1));rw[Qx2] at e;have h0:=is_order hL p (ps:=[]) (λ_ hz=>nomatch hz) (by decide);rw[show io L p []=true from hio 0] at h0;refine cQ (env:=E5 L (.str (jn p all)) p all all w) ?_;show qG [(Zf (.tup (L.map row))),Zs (jn p all),Zn,Zn,Zn]=_;unfold qG;refine(aG (e:=[(Zf (.tup (L.map row))),Zs (jn p all),Zn,Zn,Zn]) ?_).trans ?_
 ·rfl
 refine(aG (e:=[(Zf (.tup (L.map row))),Zs (jn p all),(Zf (.lst ((p::all).map .str))),Zn,Zn]) ?_).trans ?_
 ·exact bL (e:=[(Zf (.tup (L.map row))),Zs (jn p all),Zn,Zn,Zn]) (aJ (x:=.str (jn p all)) (y:=.str [59,32]) (e1:=[(Zf (.tup (L.map row))),Zs (jn p all),Zn,Zn,Zn]) rfl rfl (zx h)) rfl
 refine(aG (e:=E5 L (.str (jn p all)) p all [] none) ?_).trans ?_
 ·exact bL (e:=[(Zf (.tup (L.map row))),Zs (jn p all),(Zf (.lst ((p::all).map .str))),Zn,Zn]) (fC (aB (d:=.str p) (e1:=[(Zf (.tup (L.map row))),Zs (jn p all),(Zf (.lst ((p::all).map .str))),Zn,Zn]) (gP (x:=.lst ((p::all).map .str)) (y:=.int 0) rfl rfl rfl (dZ (j:=0) rfl)) (aB (d:=.tup []) rfl aX)) Ev.X6) rfl
 refine(aG (e:=E5 L (.str (jn p all)) p all [] none) ?_).trans ?_
 ·exact(dg (dF (b:=true) (cF (aH (ds:=[.tup (L.map row),pF L p []]) rfl h0)))).trans rfl
 refine(aG (e:=E5 L (.str (jn p all)) p all all w) ?_).trans ?_
 ·exact(jj (Wx hL h)).trans e
 ·rfl
theorem aaR(rs:cC)(h0:io L p []=true):aP (NB (qy qY (Zv 1 aj)) (zU (aq n8 (Zv 1 aj)))) (aP (bF (az ik (aM 1) (Zw [59,32])) (au 2)) (aP (bF (cU (aa (aA gM 2 (Zi 0)) (aa (cU aj) aj))) (au 3)) (aP (d8 (bV (dw (aq jK (Zv 0 (Zv 3 aj))))) (ni (Zi 0)) b8) rs))) [(Zf (.tup (L.map row))),Zs (jn p all),Zn,Zn,Zn]=rs (E5 L (.str (jn p all)) p all [] none):=by
 have hi:=is_order hL p (ps:=[]) (λ_ hz=>nomatch hz) (by decide);rw[h0] at hi;refine(aG (e:=[(Zf (.tup (L.map row))),Zs (jn p all),Zn,Zn,Zn]) ?_).trans ?_
 ·rfl
 refine(aG (e:=[(Zf (.tup (L.map row))),Zs (jn p all),(Zf (.lst ((p::all).map .str))),Zn,Zn]) ?_).trans ?_
 ·exact bL (e:=[(Zf (.tup (L.map row))),Zs (jn p all),Zn,Zn,Zn]) (aJ (x:=.str (jn p all)) (y:=.str [59,32]) (e1:=[(Zf (.tup (L.map row))),Zs (jn p all),Zn,Zn,Zn]) rfl rfl (zx h)) rfl
 refine(aG (e:=E5 L (.str (jn p all)) p all [] none) ?_).trans ?_
 ·exact bL (e:=[(Zf (.tup (L.map row))),Zs (jn p all),(Zf (.lst ((p::all).map .str))),Zn,Zn]) (fC (aB (d:=.str p) (e1:=[(Zf (.tup (L.map row))),Zs (jn p all),(Zf (.lst ((p::all).map .str))),Zn,Zn]) (gP (x:=.lst ((p::all).map .str)) (y:=.int 0) rfl rfl rfl (dZ (j:=0) rfl)) (aB (d:=.tup []) rfl aX)) Ev.X6) rfl
 exact aG ((dg (dF (b:=true) (cF (aH (ds:=[.tup (L.map row),pF L p []]) rfl hi)))).trans rfl)
theorem Q4(hs:sd p=false):fQ [.tup (L.map row),.str (jn p all)]=some (.tup [.int 0]):=by
 have hi:=is_order hL p (ps:=[]) (λ_ hz=>nomatch hz) (by decide);rw[show io L p []=false by unfold io;rw[hs];rfl] at hi;have key:dM [(Zf (.tup (L.map row))),Zs (jn p all),Zn,Zn,Zn] = .rt true (.tup [.int 0]) (E5 L (.str (jn p all)) p all [] none):=by
  unfold dM;refine(aG (e:=[(Zf (.tup (L.map row))),Zs (jn p all),Zn,Zn,Zn]) ?_).trans ?_
  ·rfl
  refine(aG (e:=[(Zf (.tup (L.map row))),Zs (jn p all),(Zf (.lst ((p::all).map .str))),Zn,Zn]) ?_).trans ?_
  ·exact bL (e:=[(Zf (.tup (L.map row))),Zs (jn p all),Zn,Zn,Zn]) (aJ (x:=.str (jn p all)) (y:=.str [59,32]) (e1:=[(Zf (.tup (L.map row))),Zs (jn p all),Zn,Zn,Zn]) rfl rfl (zx h)) rfl
  refine(aG (e:=E5 L (.str (jn p all)) p all [] none) ?_).trans ?_
  ·exact bL (e:=[(Zf (.tup (L.map row))),Zs (jn p all),(Zf (.lst ((p::all).map .str))),Zn,Zn]) (fC (aB (d:=.str p) (e1:=[(Zf (.tup (L.map row))),Zs (jn p all),(Zf (.lst ((p::all).map .str))),Zn,Zn]) (gP (x:=.lst ((p::all).map .str)) (y:=.int 0) rfl rfl rfl (dZ (j:=0) rfl)) (aB (d:=.tup []) rfl aX)) Ev.X6) rfl
  exact iB ((lX (dF (b:=false) (cF (aH (ds:=[.tup (L.map row),pF L p []]) rfl hi)))).trans rfl)
 show Ih 5 dM _=_;unfold Ih;have key':dM (envOf 5 [.tup (L.map row),.str (jn p all)])=_:=key;rw[key']
 rfl
theorem YB(hs:sd p=true){gs rest:List (List Nat)}{b:List Nat}(he:all=gs++b::rest)(hg:∀z∈gs,ok L z=true)(h4:gs.length<=4)(hb:gs.length=4\/ok L b=false):fQ [.tup (L.map row),.str (jn p all)]=some (.tup [.int ((gs.length+1:Nat):Int)]):=by
 have ha:∀z∈all,z.length<=900:=λz hz=>h.ln z (Qq0 _ hz);have hio:∀j,io L p (gs.take j)=true:=λj=>by
  unfold io;rw[hs,Qw2 (show(gs.take j).length<=4 by rw[Qw8];omega),Qq5.mpr λz hz=>hg z (List.mem_of_mem_take hz)]
  rfl
 have hno:io L p (gs++[b])=false:=by
  unfold io;rcases hb with hb|hb
  ·rw[Qw6 (show ¬(gs++[b]).length<=4 by rw[Qqq,Qx8];omega),Bool.false_and,Bool.and_false]
  ·rw[List.all_append,show [b].all (ok L)=false by show(ok L b&&true)=false;rw[hb];rfl,Bool.and_false,Bool.and_false,Bool.and_false]
 have hlen:all.length=gs.length+(rest.length+1):=by rw[he,Qqq,Qqk]
 obtain⟨w,e⟩:=loop (body:=d7) (t:=.str (jn p all)) hL ha h.n (λacc b rest he hk=>af7 hL ha h.n he hk) (Td gs.length (rest.length+1)) gs [] (b::rest) none (by rw[Qz4];exact he) (λj _=>by rw[Qz4];exact hio (j+1));rw[Qz4] at e;obtain⟨e',e2⟩:=af6 (t:=.str (jn p all)) hL ha h.n he hno;have e3:jr (au 4) d7 (Td 0 all.length) (E5 L (.str (jn p all)) p all [] none) = .rt true (.tup [.int ((gs.length+1:Nat):Int)]) e':=by rw[hlen,aad,Nat.zero_add];refine e.trans ?_;rw[Jr];exact aav (e1:=E5 L (.str (jn p all)) p all gs (Zf (.int ((gs.length+1:Nat):Int)))) rfl e2
 have key:dM [(Zf (.tup (L.map row))),Zs (jn p all),Zn,Zn,Zn] = .rt true (.tup [.int ((gs.length+1:Nat):Int)]) e':=by unfold dM;refine(aaR hL h _ (hio 0)).trans ?_;exact iB ((jj (Wx hL h)).trans e3)
 show Ih 5 dM _=_;unfold Ih;have key':dM (envOf 5 [.tup (L.map row),.str (jn p all)])=_:=key;rw[key']
 rfl
end
open fG (Rn row rq ok qD Q QR dW cq su Nh good txt pO lC lB show_rule uc zP)
theorem WY:jJ=fG.jJ:=rfl
theorem T8:jO=fG.jO:=rfl
theorem TQ:fO=fG.fO:=rfl
def SD:List (List Nat):=[[108,101,102,116],[114,105,103,104,116]]
theorem mj{s:List Nat}(h:s∈SD):sd s=true/\s.length<=5/\59 ∉ s/\s≠[]:=by
 simp only[SD,Qqw,Qwv,Qjz] at h;rcases h with rfl|rfl
 ·exact⟨rfl,by decide,by decide,by decide⟩
 ·exact⟨rfl,by decide,by decide,by decide⟩
def dI(s:List Nat)(qs:List QR):D:=.tup [.str s,.tup (qs.map dW)]
theorem order(n:Int)(x:List Nat)(hg:good x=true):∃s qs n',lO [.lst [.int n],.str x,.int 3]=some (dI s qs,.lst [.int n'])/\s∈SD/\(∀q∈qs,Nh x q)/\qs.length<=3:=by
 obtain⟨d,hd,e⟩:=dig n 2 (by decide);obtain⟨s,hs,h1⟩:∃s,s∈SD/\gM (.lst [.str [108,101,102,116],.str [114,105,103,104,116]]) (.int (d:Int))=some (.str s):=by
  have hc:d=0\/d=1:=by omega
  rcases hc with rfl|rfl
  ·exact⟨_,Qqv ..,rfl⟩
  ·exact⟨_,Qq0 _ (Qqv ..),rfl⟩
 obtain⟨j,hj,ej⟩:=dig (n / 2) 4 (by decide);obtain⟨Rs,env',g1,⟨n',v4,rfl⟩,g3,g4⟩:=K20.V1 (g:=au 4) (e:=dH jJ 0 (Zv 1 aj)) (λenv=>∃n v4,env=[Zl [.int n],Zs x,Zf (.int 3),Zs s,v4]) (λR=>∃q,R=dW q/\Nh x q) (iz 0 1 j)
  [Zl [.int (n / 2 / 4)],Zs x,Zf (.int 3),Zs s,Zn] ⟨_,_,rfl⟩
  (λt _ env ⟨n,v4,he⟩=>by
   subst he;obtain⟨q,n',h2,h3⟩:=fG.rule n x hg;rw[<-WY] at h2;refine⟨dW q,_,[Zl [.int n'],Zs x,Zf (.int 3),Zs s,Zf t],rfl,?_,⟨_,_,rfl⟩,_,rfl,h3⟩;exact g8 (e1:=[Zl [.int n],Zs x,Zf (.int 3),Zs s,Zf t]) (by rfl) (by rfl) (by rfl) h2)
 have hl:Rs.length=j:=by rw[pP] at g4;exact g4
 obtain⟨qs,rfl,hq⟩:∃qs:List QR,Rs=qs.map dW/\∀q∈qs,Nh x q:=by
  clear g1 g4 hl
  induction Rs with
  | nil=>exact⟨[],rfl,λq hq=>nomatch hq⟩
  | cons R Rs ih=>
   obtain⟨qs,h1,h2⟩:=ih λR hR=>g3 R (Qq0 _ hR);obtain⟨q,h3,h4⟩:=g3 R (Qqv ..);refine⟨q::qs,by rw[h1,h3];rfl,λp hp=>?_⟩;rcases Qqw.mp hp with rfl|hp
   ·exact h4
   ·exact h2 p hp
 rw[Qqz] at hl;refine⟨s,qs,n',jl (env:=[Zl [.int n'],Zs x,Zf (.int 3),Zs s]) ?_ rfl,hs,hq,by omega⟩;unfold yK;refine(aG (e:=[Zl [.int (n / 2)],Zs x,Zf (.int 3),Zs s]) ?_).trans ?_
 ·refine bL (d:=.str s) (e:=[Zl [.int (n / 2)],Zs x,Zf (.int 3),Zn]) ?_ (by rfl);refine aJ (by rfl) (by rfl) ?_;have e2:n % 2=(d:Int):=e;rw[e2];exact h1
 refine bY (fC (aB (d:=.str s) (by rfl) (aB ?_ aX)) Ev.X6);refine aH (ds:=[.lst (qs.map dW)]) (aB ?_ aX) rfl;refine wC (n:=5) (aD:=[Zl [.int (n / 2 / 4)],Zs x,Zf (.int 3),Zs s]) ?_ (by rfl) g1 (by rw[Qqz,hl];exact Qqy (show j<=3 by omega) (by decide));refine K20.Wz (ds:=[.int (n / 2 % 4)]) ?_ ?_
 ·refine aB ?_ aX;exact g8 (e1:=[Zl [.int (n / 2)],Zs x,Zf (.int 3),Zs s]) (by rfl) (by rfl) (by rfl) (wR.mF (n / 2) 4 (by decide) (by decide))
 ·have e2:n / 2 % 4=(j:Int):=ej;rw[e2];exact K20.Yy (by omega)
theorem Aw{xs:List (List Nat)}(h1:xs.length<=10)(h2:∀q∈xs,q.length<=900):fY (.str [59,32]) (.lst (xs.map .str))=some (.str (bQ [59,32] xs)):=by show(match gB (xs.map D.str) with|some xs=>if joinFits [59,32] xs=true then some (D.str (bQ [59,32] xs)) else none|none=>none)=_;rw[strs_map];refine if_pos (Qw2 ?_);have:=fG.xD xs h2;have:xs.length*900<=10*900:=Nat.mul_le_mul_right _ h1;show _+xs.length*2<=_;omega
section
variable{L:List Rn}{s:List Nat}(hs:s∈SD){qs:List QR}(hq:∀q∈qs,Nh (L.map λr:Rn=>r.1) q)(h3:qs.length<=3)
include hs hq h3
theorem prt:Pt s (qs.map txt):=by
 obtain⟨_,h1,h2,_⟩:=mj hs;refine⟨λz hz=>?_,λz hz=>?_,by rw[Qqz];omega⟩
 ·rcases Qqw.mp hz with rfl|hz
  ·exact Np.of h2
  ·obtain⟨q,h,rfl⟩:=Qwk.mp hz;exact Np.of (lB (hq q h).o)
 ·rcases Qqw.mp hz with rfl|hz
  ·omega
  ·obtain⟨q,h,rfl⟩:=Qwk.mp hz;have:=lC (hq q h).o;omega
theorem oks:∀z∈qs.map txt,ok L z=true/\z.length<=63/\59 ∉ z:=λz hz=>by
 obtain⟨q,h,rfl⟩:=Qwk.mp hz;obtain⟨h1,h2⟩:=pO (hq q h).o L;refine⟨?_,lC (hq q h).o,lB (hq q h).o⟩;unfold ok;rw[h1,h2];exact(hq q h).i
theorem adU:pF L s (qs.map txt)=dI s qs:=by
 unfold pF dI;rw[Qxk]
 congr 4
 refine Qz6 λq h=>?_;obtain⟨h1,h2⟩:=pO (hq q h).o L;show rp L (txt q)=dW q;unfold rp;rw[if_pos h1,h2,su]
theorem ab9:bK (.lst [.str s]) (.lst ((qs.map txt).map .str))=some (.lst ((s::qs.map txt).map .str)):=tD (by rw[Qqz,Qqz];exact Qqy (show 1+qs.length<=4 by omega) (by decide))
theorem Wa:fY (.str [59,32]) (.lst ((s::qs.map txt).map .str))=some (.str (jn s (qs.map txt))):=Aw (by rw[Qqk,Qqz];omega) (prt hs hq h3).ln
theorem show_order:mO [dI s qs]=some (.str (jn s (qs.map txt))):=by
 refine cQ (env:=[Zf (dI s qs),Zs s,(Zf (.tup (qs.map dW)))]) ?_;show qF [Zf (dI s qs),Zn,Zn]=_;unfold qF;refine(aG (e:=[Zf (dI s qs),Zs s,(Zf (.tup (qs.map dW)))]) ?_).trans ?_
 ·rfl
 have h4:qK [Zf (dI s qs),Zs s,(Zf (.tup (qs.map dW)))] = .ok (.lst ((qs.map txt).map .str)) [Zf (dI s qs),Zs s,(Zf (.tup (qs.map dW)))]:=by rw[Qxk];exact o6 (lo:=3) (n:=4) qs dW (λq=>.str (txt q)) rfl rfl rfl (λq h=>aH (ds:=[dW q]) rfl (by rw[T8];exact show_rule (hq q h).o)) (Qqy h3 (by decide))
 exact bY (aJ (x:=.str [59,32]) (e1:=[Zf (dI s qs),Zs s,(Zf (.tup (qs.map dW)))]) rfl (aJ (x:=.lst [.str s]) (e1:=[Zf (dI s qs),Zs s,(Zf (.tup (qs.map dW)))]) rfl h4 (ab9 hs hq h3)) (Wa hs hq h3))
theorem LK:lq [dI s qs]=some (.str (jn s (qs.map txt))):=by
 refine cQ (env:=[Zf (dI s qs)]) ?_;show lA [Zf (dI s qs)]=_;unfold lA;have h4:mq [Zf (dI s qs)] = .ok (.lst ((qs.map txt).map .str)) [Zf (dI s qs)]:=by rw[Qxk];exact o6 (lo:=1) (n:=2) (aD:=[Zf (dI s qs)]) qs dW (λq=>.str (txt q)) (qx (d:=.tup (qs.map dW)) (gP (x:=dI s qs) (y:=.int 1) rfl rfl rfl (dZ (j:=1) rfl)) rfl) rfl rfl (λq h=>aH (ds:=[dW q]) rfl (by rw[TQ];exact uc (hq q h).o)) (Qqy h3 (by decide))
 exact bY (aJ (x:=.str [59,32]) (e1:=[Zf (dI s qs)]) rfl (aJ (x:=.lst [.str s]) (e1:=[Zf (dI s qs)]) (lU (aB (d:=.str s) (gP (x:=dI s qs) (y:=.int 0) rfl rfl rfl (dZ (j:=0) rfl)) aX) Ev.Xz) h4 (ab9 hs hq h3)) (Wa hs hq h3))
end
abbrev xC(d:D):D:=.clo (.Nonlocal ["NoText","part"] ⟨0,0,0,0⟩) [d]
theorem Yr(d:D):uT [xC d]=some (.int 0):=by rfl
theorem refused{T t d:D}(h:fQ [T,t]=some (.tup [d]))(hd:d = .non\/∃n:Nat,d = .int (n:Nat)):bj [T,t,d]=some (.bl true):=by
 refine cQ (env:=[Zf T,Zf t,Zf d,Zf (xC d),Zn]) ?_;show o7 [Zf T,Zf t,Zf d,Zn,Zn]=_;unfold o7;refine(aG (e:=[Zf T,Zf t,Zf d,Zf (.non),Zn]) ?_).trans ?_
 ·rfl
 refine(aG (e:=[Zf T,Zf t,Zf d,Zf (xC d),Zn]) ?_).trans ?_
 ·unfold HH;have e:qy fQ (Zv 0 (Zv 1 aj)) [Zf T,Zf t,Zf d,Zf (.non),Zn] = .ok (.tup [d]) [Zf T,Zf t,Zf d,Zf (.non),Zn]:=by
   show(match fQ [T,t] with|some d=>R.ok d _|none=>.stuck)=_;rw[h]
  rw[e]
  rfl
 ·refine bY ((tK (e:=[Zf T,Zf t,Zf d,Zf (xC d),Zn]) ?_).trans ?_)
  ·rfl
  refine(tK (e:=[Zf T,Zf t,Zf d,Zf (xC d),Zn]) (aJ (x:=.int 0) (y:=.int 0) (aH (ds:=[xC d]) rfl (Yr d)) rfl rfl)).trans ?_;rcases hd with rfl|⟨n,rfl⟩
  ·rfl
  ·refine(tK (e:=[Zf T,Zf t,(Zf (.int (n:Nat))),(Zf (xC (.int (n:Nat)))),Zn]) (aJ (x:=.int (n:Nat)) (y:=.int (n:Nat)) (e1:=[Zf T,Zf t,(Zf (.int (n:Nat))),(Zf (xC (.int (n:Nat)))),Zn]) ?_ ?_ ?_)).trans ?_
   ·rfl
   ·rfl
   ·rw[Wt,Qk1]
   ·rfl
open fG (Rn row rq ok qD Q QR dW cq su Nh good cJ lW txt pO lC lB GX vR sb Aa OUT Kr yf)
def npB(sep p:List Nat):Bool:=(List.range p.length).all λk=>!(((p++sep).drop k).take sep.length == sep)
theorem Ah{sep p:List Nat}(h:npB sep p=true):Np sep p:=λk hk e=>by
 have:=Qq5.mp h k (Qxz.mpr hk);rw[e,Qk1] at this;cases this
def gd(a:Nat):List Nat:=[111,110,99,101,32]++[a]++[62,48,32,47,32,42,32,95,32,42]
def q0(a:Nat):QR:=⟨[111,110,99,101],[([a],[])],none,none⟩
theorem ab1(a:Nat):txt (q0 a)=gd a:=rfl
theorem abA{x:List Nat}(hg:good x=true){a:Nat}(ha:a∈x):Nh x (q0 a):=by
 have hl:=cJ hg ha;refine⟨⟨.inl rfl,by show 1<=4;decide,λp hp=>?_,λz e=>(by cases e),λz e=>(by cases e)⟩,?_,Nat.one_pos⟩
 ·cases Qwz.mp hp;exact⟨.inr ⟨a,rfl,hl⟩,.inl rfl⟩
 ·show(true&&(fG.CT x [[some [a],some []]]&&(true&&true)))=true;have e:fG.CT x [[some [a],some []]]=true:=by
   unfold fG.CT;have:fG.G7 x [some [a],some []]=true:=by
    show(x.contains a&&((false||true)&&true))=true;rw[List.contains_iff_mem.mpr ha]
    rfl
   simp[this,fG.pB]
  rw[e]
  rfl
def os(a:Nat):List (List Nat):=[[],[76,101,102,116],[98,111,116,104],[108,101,102,116,32],[32,114,105,103,104,116],[108,101,102,116,59],[114,105,103,104,116,58],gd a,[48],[108,101,102,116,44]]
def od(a o:Nat):List (List Nat):=[[],[32],[108,101,102,116],gd a++[59],[32]++gd a,gd a++[32],(gd a).take 15,[111,110,99,101,32]++[o]++[62,48,32,47,32,42,32,95,32,42]]++[[108,101,102,116,32]++[a]++[62,48,32,47,32,42,32,95,32,42]]
theorem adT:((List.range 26).all λa=>(os (97+a)).all λt=>!sd t&&npB [59,32] t&&decide (t.length<=100))=true:=by decide +kernel
theorem aeq:((List.range 26).all λa=>OUT.all λo=>(od (97+a) o).all λt=>sb o t&&npB [59,32] t&&decide (t.length<=100))=true:=by decide +kernel
theorem abF{a:Nat}(h:lW a):∀t∈os a,sd t=false/\Np [59,32] t/\t.length<=100:=λt ht=>by
 unfold lW at h;have:=Qq5.mp adT (a - 97) (Qxz.mpr (by omega));rw[show 97+(a - 97)=a by omega] at this;have:=Qq5.mp this t ht;rw[Qwx,Qwx,decide_eq_true_eq,Bool.not_eq_true'] at this;exact⟨this.1.1,Ah this.1.2,this.2⟩
theorem Ow{L:List Rn}(hL:GX L){a o:Nat}(h:lW a)(hO:o∈OUT)(ho:o ∉ L.map (·.1)):∀t∈od a o,ok L t=false/\Np [59,32] t/\t.length<=100:=λt ht=>by
 unfold lW at h;have:=Qq5.mp (Qq5.mp aeq (a - 97) (Qxz.mpr (by omega))) o hO;rw[show 97+(a - 97)=a by omega] at this;have:=Qq5.mp this t ht;rw[Qwx,Qwx,decide_eq_true_eq] at this;exact⟨Aa hL ho this.1.1,Ah this.1.2,this.2⟩
theorem ZR{p:List Nat}(h:59 ∉ p):Np [59,32] (p++[59]):=λk hk e=>by
 rw[Qqq,Qx8] at hk;have e1:=Qzw (λl:List Nat=>l[0]?) e;have e2:=Qzw (λl:List Nat=>l[1]?) e;have f0:((p++[59]++[59,32]).drop k)[0]? = some 59:=by
  have:(List.take 2 ((p++[59]++[59,32]).drop k))[0]? = some 59:=e1
  rwa [List.getElem?_take,if_pos (by decide)] at this
 have f1:((p++[59]++[59,32]).drop k)[1]? = some 32:=by
  have:(List.take 2 ((p++[59]++[59,32]).drop k))[1]? = some 32:=e2
  rwa [List.getElem?_take,if_pos (by decide)] at this
 rw[List.getElem?_drop,Qww] at f0 f1;by_cases hk1:k<p.length
 ·rw[Nat.add_zero,Qxq hk1] at f0;exact h (Qj7 f0)
 ·have:k=p.length:=by omega
  subst this;rw[Qx5 (Nat.le_add_right _ _),Nat.add_sub_cancel_left] at f1;cases f1
theorem Hm{x:List Nat}(hg:good x=true){L:List Rn}(hx:L.map (λr:Rn=>r.1)=x){q:QR}(hR:Kr q)(c:Nat)(hc:¬lW c)(h35:c≠35)(h93:c≠93)(h32:c≠32):ok L (txt q++[c])=false:=by subst hx;have gr:=fG.ac0 hR.r;obtain⟨_,e⟩:=fG.sides hR (l:=fG.tZ q.l) (r:=fG.tZ q.r++[c]) (fG.abK hR) (by simp[fG.abJ hR];exact λe=>h32 e.symm) (fG.abL hR) (t:=txt q++[c]) (by rw[fG.TJ];simp) L;refine fG.aha e ?_;have:fG.ag (L.map (·.1)) (fG.sg L (fG.tZ q.r++[c]))=false:=fG.ac1 hg (c:=c) (by simp) h35 hc (λe=>gr (by cases hr:fG.tZ q.r with|nil=>rfl|cons a b=>rw[hr] at e;simp at e)) (fG.Xa h93);unfold fG.RK;rw[this,Bool.and_false,Bool.and_false,Bool.and_false]
theorem Wb(p:List Nat)(ps:List (List Nat)):jn p ps++[59,32]=jn p (ps++[[]]):=by show ps.foldl (λacc y=>acc++[59,32]++y) p++[59,32]=(ps++[[]]).foldl (λacc y=>acc++[59,32]++y) p;rw[List.foldl_append];simp
theorem Gd(p y:List Nat)(init:List (List Nat))(a:List Nat):jn p (init++[a])++y=jn p (init++[a++y]):=yf [59,32] (p::init) a y
theorem Wc(y p:List Nat)(ps:List (List Nat)):y++jn p ps=jn (y++p) ps:=by
 unfold jn;cases ps with
 | nil=>rfl
 | cons q ps=>rw[bG,bG,<-Qww,<-Qww]
section
variable{L:List Rn}(hL:GX L)
include hL
theorem Z4:L.length<=1000:=Qqy (vR hL) (by decide)
theorem ref0{p:List Nat}{all:List (List Nat)}(h:Pt p all)(hs:sd p=false):bj [.tup (L.map row),.str (jn p all),.int 0]=some (.bl true):=
 refused (Q4 (Z4 hL) h hs) (.inr ⟨0,rfl⟩)
theorem Q3{p:List Nat}{all:List (List Nat)}(h:Pt p all)(hs:sd p=true){gs rest:List (List Nat)}{b:List Nat}(he:all=gs++b::rest)(hg:∀z∈gs,ok L z=true)(h4:gs.length<=4)(hb:gs.length=4\/ok L b=false){k:Nat}(hk:k=gs.length+1):bj [.tup (L.map row),.str (jn p all),.int (k:Nat)]=some (.bl true):=by subst hk;exact refused (YB (Z4 hL) h hs he hg h4 hb) (.inr ⟨_,rfl⟩)
end
def gx(a:Nat):List Nat:=[32]++[a]++[62,48,32,47,32,42,32,95,32,42]
def five(a:Nat):List (List Nat):=[gd a,gd a,gd a,gd a,gd a]
def ones(a:Nat):List (List Nat):=[[111,110,101,115]++gx a,[111,110,101,115]++gx a,gd a,gd a,gd a]
def fv(s:List Nat)(b:Nat):Bool:=(List.range 7).all λa=>qe (jn s (five (b+a))) [59,32,111,110,99,101] [59,32,111,110,101,115] == jn s (ones (b+a))
theorem ae9:fv [108,101,102,116] 97=true:=by decide +kernel
theorem aau:fv [108,101,102,116] 104=true:=by decide +kernel
theorem aat:fv [108,101,102,116] 111=true:=by decide +kernel
theorem aas:fv [108,101,102,116] 118=true:=by decide +kernel
theorem ae8:fv [114,105,103,104,116] 97=true:=by decide +kernel
theorem aar:fv [114,105,103,104,116] 104=true:=by decide +kernel
theorem aaq:fv [114,105,103,104,116] 111=true:=by decide +kernel
theorem aap:fv [114,105,103,104,116] 118=true:=by decide +kernel
theorem aaw{s:List Nat}(hs:s∈SD){a:Nat}(h:lW a):qe (jn s (five a)) [59,32,111,110,99,101] [59,32,111,110,101,115]=jn s (ones a):=by
 unfold lW at h;have key:∀b,b<=a->a<b+7->fv s b=true->qe (jn s (five a)) [59,32,111,110,99,101] [59,32,111,110,101,115]=jn s (ones a):=λb h1 h2 h3=>by
  have:=Qq5.mp h3 (a - b) (Qxz.mpr (by omega));rw[show b+(a - b)=a by omega] at this;exact eq_of_beq this
 have hc:(97<=a/\a<104)\/(104<=a/\a<111)\/(111<=a/\a<118)\/(118<=a/\a<125):=by omega
 simp only[SD,Qqw,Qwv,Qjz] at hs;rcases hs with rfl|rfl
 ·rcases hc with ⟨h1,h2⟩|⟨h1,h2⟩|⟨h1,h2⟩|⟨h1,h2⟩
  ·exact key 97 h1 h2 ae9
  ·exact key 104 h1 h2 aau
  ·exact key 111 h1 h2 aat
  ·exact key 118 h1 h2 aas
 ·rcases hc with ⟨h1,h2⟩|⟨h1,h2⟩|⟨h1,h2⟩|⟨h1,h2⟩
  ·exact key 97 h1 h2 ae8
  ·exact key 104 h1 h2 aar
  ·exact key 111 h1 h2 aaq
  ·exact key 118 h1 h2 aap
theorem Vx:((List.range 26).all λa=>(ones (97+a)).all (npB [59,32])&&(five (97+a)).all (npB [59,32])&&sb 0 ([111,110,101,115]++gx (97+a))&&npB [59,32] (gd (97+a)++[120])&&(nZ (gd (97+a)) [111,110,99,101] [108,101,102,116] == [108,101,102,116,32]++[97+a]++[62,48,32,47,32,42,32,95,32,42]))=true:=by decide +kernel
theorem Ou{a:Nat}(h:lW a):(∀z∈ones a,Np [59,32] z)/\(∀z∈five a,Np [59,32] z)/\sb 0 ([111,110,101,115]++gx a)=true/\Np [59,32] (gd a++[120])/\nZ (gd a) [111,110,99,101] [108,101,102,116]=[108,101,102,116,32]++[a]++[62,48,32,47,32,42,32,95,32,42]:=by unfold lW at h;have:=Qq5.mp Vx (a - 97) (Qxz.mpr (by omega));rw[show 97+(a - 97)=a by omega] at this;simp only[Qwx,Qq5] at this;obtain⟨⟨⟨⟨h1,h2⟩,h3⟩,h4⟩,h5⟩:=this;exact⟨λz hz=>Ah (h1 z hz),λz hz=>Ah (h2 z hz),h3,Ah h4,eq_of_beq h5⟩
def MK:List (List Nat):=[[115,116,111,112],[115],[111,112,101,110]]
def gm(a:Nat)(m:List Nat):List Nat:=[111,110,99,101,32]++[a]++[62,48,32,47,32,42,32,95,32]++([91]++m++[93])
theorem aeB:((List.range 26).all λa=>MK.all λm=>(nZ (gd (97+a)) [95,32,42] ([95,32,91]++m++[93]) == gm (97+a) m)&&npB [59,32] (gm (97+a) m)&&fG.mOk [m])=true:=by decide +kernel
open fG (Rn row rq ok qD Q QR dW cq su Nh good cJ lW txt pO lC lB GX vR sb Aa OUT Kr tL told sg N5 mOk Ml Ug JX mL Ws PL RK ag)
theorem abM{a:Nat}(h:lW a){m:List Nat}(hm:m∈MK):nZ (gd a) [95,32,42] ([95,32,91]++m++[93])=gm a m/\Np [59,32] (gm a m)/\mOk [m]=true:=by unfold lW at h;have:=Qq5.mp (Qq5.mp aeB (a - 97) (Qxz.mpr (by omega))) m hm;rw[show 97+(a - 97)=a by omega] at this;simp only[Qwx] at this;exact⟨eq_of_beq this.1.1,Ah this.1.2,this.2⟩
theorem ahI(a:Nat)(m:List Nat):gm a m=fG.hdT (q0 a)++[32,47,32]++([42]++[32,95,32]++told [m]):=rfl
theorem aeZ(a:Nat){m:List Nat}(hm:m∈MK):(gm a m).length<=40:=by simp only[MK,Qqw,Qwv,Qjz] at hm;rcases hm with rfl|rfl|rfl<;>simp[gm]
theorem JC{d:D}(h:okN 60 d=true):Gm d d=some (.bl false):=by
 unfold Gm;rw[Bd 60 d h]
 rfl
section
variable{L:List Rn}(hL:GX L){a:Nat}{ms:List (List Nat)}{L':List Rn}(h0:L=(a,ms)::L'){s:List Nat}(hs:s∈SD)
theorem Ke(h0:L=(a,ms)::L'):a∈L.map λr:Rn=>r.1:=by rw[h0];exact Qqv ..
include hL h0
theorem ahH{m:List Nat}(hm:m∈MK):ok L (gm a m) = !(tL L [m]).isEmpty/\rp L (gm a m)=qD ⟨[111,110,99,101],[[some [a],some []]],none,some (tL L [m])⟩:=by
 have hl:=cJ hL.pU (Ke h0);obtain⟨_,_,hmo⟩:=abM hl hm;have hR:=abA hL.pU (Ke h0);obtain⟨b,e⟩:=Ug hR.o (l:=[42]) (r:=told [m]) (t:=gm a m) (by decide) (ahI a m) L;rw[N5 hmo] at e;have e':rq L (gm a m)=⟨[111,110,99,101],[[some [a],some []]],none,some (tL L [m])⟩:=e;refine⟨?_,by unfold rp;rw[if_pos b,e']⟩;unfold ok;rw[b,e'];obtain⟨p1,p2,_,_⟩:=fG.RJ hR.i;have p2:fG.CT (L.map λr:Rn=>r.1) [[some [a],some []]]=true:=p2;show(true&&(true&&(fG.CT _ [[some [a],some []]]&&(true&&ag _ (some (tL L [m]))))))=_;rw[p2];cases hb:tL L [m] with
 | nil=>rfl
 | cons c r=>
  have:=JX hL (ms:=[m]) (by rw[hb];simp);rw[hb] at this;rw[this]
  rfl
abbrev E7(L:List Rn)(P:D)(a:Nat)(v3 v4 v5 v6:OD):Ev.Env:=[(Zf (.tup (L.map row))),Zf P,Zs (gd a),v3,v4,v5,v6]
include hs
theorem uL{R:List (List Nat)}{m:List Nat}(hm:m∈MK)(v4 v5 v6:OD):∃w4 w5 w6,iK (E7 L (.lst ((s::R).map .str)) a (Zs m) v4 v5 v6) = .nx (E7 L (.lst ((s::R).map .str)) a (Zs m) w4 w5 w6):=by
 have hl:=cJ hL.pU (Ke h0);obtain⟨e1,e2,hmo⟩:=abM hl hm;obtain⟨g1,g2⟩:=ahH hL h0 hm;obtain⟨s1,s2,s3,_⟩:=mj hs;have hgl:=aeZ a hm;have hpt:Pt s [gm a m]:=⟨λz hz=>by
   simp only[Qqw,Qwv,Qjz] at hz;rcases hz with rfl|rfl
   ·exact Np.of s3
   ·exact e2,λz hz=>by
   simp only[Qqw,Qwv,Qjz] at hz;rcases hz with rfl|rfl<;>omega,by show 1<=8;decide⟩
 have hmn:m.length<=10:=(Ml hmo).2.2.2.2.2.1 m (Qqv ..)
 let ru:D:=.tup [.str [111,110,99,101],.tup [.tup [.str [a],.str []]],.non,.tup (fW (tL L [m]))]
 refine⟨(Zf (.tup (fW (tL L [m])))),Zs (jn s [gm a m]),Zf ru,?_⟩;unfold iK;refine(aG (e:=E7 L (.lst ((s::R).map .str)) a (Zs m) (Zf (.tup (fW (tL L [m])))) v5 v6) ?_).trans ?_
 ·have h4:=uU (lo:=7) (n:=9) (it:=gO (aM 0)) (g:=gj 2 (bI (au 7) (bI (au 8) gG))) (c:=dw (aA R7 3 (bz 8))) (e:=aM 7) (env:=E7 L (.lst ((s::R).map .str)) a (Zs m) v4 v5 v6) (aD:=E7 L (.lst ((s::R).map .str)) a (Zs m) v4 v5 v6) L row (λr=>[Zs [r.1],(Zf (.tup (r.2.map .str)))]) (λr=>decide (m∈r.2)) (λr=>.str [r.1]) (qx (d:=.tup (L.map row)) rfl rfl) rfl (λr _=>by
   refine⟨rfl,λvs hv=>?_,?_,λ_=>rfl⟩
   ·match vs,hv with
    | [_,_],_=>rfl
   ·exact cF (gP (x:=.str m) (y:=.tup (r.2.map .str)) rfl rfl rfl (Ws m r.2))) (Qqy (vR hL) (by decide))
  refine bL (aH (aB h4 aX) ?_) rfl;have:tL L [m]=(L.filter λr=>decide (m∈r.2)).map (·.1):=by
   unfold tL
   congr 2
   funext r
   simp
  unfold fW;rw[this,Qxk]
  rfl
 generalize hE:E7 L (.lst ((s::R).map .str)) a (Zs m) (Zf (.tup (fW (tL L [m])))) v5 v6=env;refine(aG (e:=E7 L (.lst ((s::R).map .str)) a (Zs m) (Zf (.tup (fW (tL L [m])))) (Zs (jn s [gm a m])) v6) ?_).trans ?_
 ·have r1:az bK (Zw [95,32,91]) (bz 3) env = .ok (.str ([95,32,91]++m)) env:=aJ (x:=.str [95,32,91]) (y:=.str m) (e1:=env) rfl (by rw[<-hE];rfl) (zF (Qqy (show 3+m.length<=13 by omega) (by decide)));have r2:az (Gi [95,32,42] [93]) (aM 2) (az bK (Zw [95,32,91]) (bz 3)) env = .ok (.str (gm a m)) env:=by
   refine aJ (x:=.str (gd a)) (y:=.str ([95,32,91]++m)) (e1:=env) (by rw[<-hE];rfl) r1 ?_;show(if _ then some (D.str (nZ (gd a) [95,32,42] ([95,32,91]++m++[93]))) else none)=_;rw[e1,if_pos];refine⟨by simp,?_,by simp,?_,Qqy hgl (by decide)⟩
   ·rw[Qqq];exact Qqy (show 3+m.length+1<=14 by omega) (by decide)
   ·have e:([95,32,91]++m++[93]).length=m.length+4:=by simp
    rw[e];show 16+(16+1)*(m.length+4)<=_;omega
  have sl:gk (aM 4) iQ (nT (Zi 1))=gk (aM 4) iQ (nT (Zi 1)):=rfl;have r3:gk (aM 1) iQ (nT (Zi 1)) env = .ok (.lst [.str s]) env:=by
   refine fG.jt (d:=.lst ((s::R).map .str)) (l:=none) (u:=some 1) (e1:=env) (e2:=env) (by rw[<-hE];rfl) rfl rfl ?_;show some (D.lst (cutD ((s::R).map D.str) none (some ((1:Nat):Int))))=_;rw[KX.Gw]
   rfl
  refine bL (d:=.str (jn s [gm a m])) (e:=env) (aJ (x:=.str [59,32]) (y:=.lst ([s,gm a m].map .str)) (e1:=env) rfl (aJ (e1:=env) r3 (lU (aB r2 aX) Ev.Xz) (tD (show 2<=sizeLine by decide))) (Aw (xs:=[s,gm a m]) (by show 2<=10;decide) hpt.ln)) (by rw[<-hE];rfl)
 refine(aG (e:=E7 L (.lst ((s::R).map .str)) a (Zs m) (Zf (.tup (fW (tL L [m])))) (Zs (jn s [gm a m])) (Zf ru)) ?_).trans ?_
 ·clear hE env;generalize hE:E7 L (.lst ((s::R).map .str)) a (Zs m) (Zf (.tup (fW (tL L [m])))) (Zs (jn s [gm a m])) v6=env;have r4:az gM (aA gM 0 (Zi 0)) (Zi 0) env = .ok (.str [a]) env:=by
   refine aJ (x:=row (a,ms)) (y:=.int 0) (e1:=env) (gP (x:=.tup (L.map row)) (y:=.int 0) (by rw[<-hE];rfl) rfl (by rw[<-hE];rfl) ?_) rfl (dZ (j:=0) rfl);rw[h0];exact dZ (j:=0) rfl
  refine bL (d:=ru) (e:=env) (fC (aB (d:=.str [111,110,99,101]) rfl (aB (d:=.tup [.tup [.str [a],.str []]]) (fC (aB (fC (aB r4 (aB (d:=.str []) rfl aX)) Ev.X6) aX) Ev.Xz) (aB (d:=.non) rfl (aB (d:=.tup (fW (tL L [m]))) (by rw[<-hE];rfl) aX)))) Ev.zz4) (by rw[<-hE];rfl)
 clear hE env;generalize hE:E7 L (.lst ((s::R).map .str)) a (Zs m) (Zf (.tup (fW (tL L [m])))) (Zs (jn s [gm a m])) (Zf ru)=env;have hc:dw (aA nU 4 (cU aj)) env = .ok (tL L [m]).isEmpty env:=cF (gP (x:=.tup (fW (tL L [m]))) (y:=.tup []) (by rw[<-hE];rfl) rfl (by rw[<-hE];rfl) (PL (tL L [m])));cases hb:(tL L [m]).isEmpty with
 | true=>
  rw[hb] at hc g1;have hr:=Q3 hL hpt s1 (gs:=[]) (rest:=[]) (b:=gm a m) rfl (λz hz=>nomatch hz) (by decide) (.inr g1) (k:=1) rfl;refine(lX hc).trans ((dg (dF (b:=true) (cF (aH (ds:=[.tup (L.map row),.str (jn s [gm a m]),.int 1]) ?_ hr)))).trans rfl);rw[<-hE]
  rfl
 | false=>
  rw[hb] at hc g1;have hr:=read_order (Z4 hL) hpt s1 (by show 1<=4;decide) (λz hz=>by rw[Qwz.mp hz];exact g1);have hrd:pF L s [gm a m] = .tup [.str s,.tup [ru]]:=by
   show D.tup [.str s,.tup [rp L (gm a m)]]=_;rw[g2]
   rfl
  rw[hrd] at hr;refine(dg hc).trans ((dg (cF (aJ (x:=.tup [.str s,.tup [ru]]) (y:=.tup [.str s,.tup [ru]]) (e1:=env) (aH (ds:=[.tup (L.map row),.str (jn s [gm a m])]) ?_ hr) ?_ (JC ?_)))).trans rfl)
  ·rw[<-hE];rfl
  ·refine fC (aB (d:=.str s) (e1:=env) (gP (x:=.lst ((s::R).map .str)) (y:=.int 0) (by rw[<-hE];rfl) rfl (by rw[<-hE];rfl) (dZ (j:=0) rfl)) (aB (d:=.tup [ru]) (by rw[<-hE];rfl) aX)) Ev.X6
  ·have h1:okN 57 (.tup (fW (tL L [m])))=true:=by
    show(fW (tL L [m])).all (okN 56)=true;refine Qq5.mpr λd hd=>?_;obtain⟨c,_,rfl⟩:=Qwk.mp hd
    rfl
   show(true&&((true&&(true&&(true&&(okN 57 (.tup (fW (tL L [m])))&&true))))&&true)&&true)=true;rw[h1]
   rfl
theorem Jj(R:List (List Nat)):j5 [.tup (L.map row),.lst ((s::R).map .str),.str (gd a)]=some (.bl true):=by
 obtain⟨x4,x5,x6,e1⟩:=uL hL h0 hs (R:=R) (m:=[115,116,111,112]) (by decide) none none none;obtain⟨y4,y5,y6,e2⟩:=uL hL h0 hs (R:=R) (m:=[115]) (by decide) x4 x5 x6;obtain⟨z4,z5,z6,e3⟩:=uL hL h0 hs (R:=R) (m:=[111,112,101,110]) (by decide) y4 y5 y6;refine cQ (env:=E7 L (.lst ((s::R).map .str)) a (Zs [111,112,101,110]) z4 z5 z6) ?_;show j8 (E7 L (.lst ((s::R).map .str)) a none none none none)=_;unfold j8;refine(aG (e:=E7 L (.lst ((s::R).map .str)) a (Zs [111,112,101,110]) z4 z5 z6) ?_).trans ?_
 ·exact(jj (ds:=[.str [115,116,111,112],.str [115],.str [111,112,101,110]]) rfl).trans ((mL rfl e1).trans ((mL rfl e2).trans ((mL rfl e3).trans rfl)))
 ·rfl
end
open fG (Rn row rq ok qD Q QR dW cq su Nh good cJ lW txt pO lC lB GX vR sb Aa OUT Kr mL)
theorem ab0{L:List Rn}(hL:GX L){a:Nat}(ha:a∈L.map λr:Rn=>r.1):ok L (gd a)=true/\59 ∉ gd a:=by have hR:=abA hL.pU ha;obtain⟨h1,h2⟩:=pO hR.o L;rw[ab1] at h1 h2;refine⟨?_,by rw[<-ab1];exact lB hR.o⟩;unfold ok;rw[h1,h2];exact hR.i
theorem ae0(a:Nat):(gd a).length=16:=rfl
section
variable{L:List Rn}(hL:GX L){a:Nat}(ha:a∈L.map λr:Rn=>r.1){s:List Nat}(hs:s∈SD){R:List (List Nat)}(hR:∀z∈R,ok L z=true/\z.length<=63/\59 ∉ z)(h3:R.length<=3)
theorem yz{p:List Nat}{ps:List (List Nat)}(h:∀z∈p::ps,Np [59,32] z/\z.length<=900)(hn:ps.length<=8):Pt p ps:=⟨λz hz=>(h z hz).1,λz hz=>(h z hz).2,hn⟩
include hR in
theorem Il{z:List Nat}(hz:z∈R):Np [59,32] z/\z.length<=900:=⟨Np.of (hR z hz).2.2,by have:=(hR z hz).2.1;omega⟩
include hs in
theorem Ig:Np [59,32] s/\s.length<=900:=⟨Np.of (mj hs).2.2.1,by have:=(mj hs).2.1;omega⟩
include hL ha hs hR h3
theorem f1{o:List Nat}(ho:o∈os a):bj [.tup (L.map row),.str (jn o R),.int 0]=some (.bl true):=by
 obtain⟨h1,h2,h4⟩:=abF (cJ hL.pU ha) o ho;refine ref0 hL (yz (λz hz=>?_) (by omega)) h1;rcases Qqw.mp hz with rfl|hz
 ·exact⟨h2,by omega⟩
 ·exact Il hR hz
theorem f2{o:Nat}(hO:o∈OUT)(ho:o ∉ L.map (·.1)){b:List Nat}(hb:b∈od a o){k:Nat}(hk:k<=R.length):bj [.tup (L.map row),.str (jn s (R.take k++b::R.drop k)),.int ((k+1:Nat):Int)]=some (.bl true):=by
 obtain⟨h1,h2,h4⟩:=Ow hL (cJ hL.pU ha) hO ho b hb;refine Q3 hL (yz (λz hz=>?_) ?_) (mj hs).1 (gs:=R.take k) (rest:=R.drop k) (b:=b) rfl (λz hz=>(hR z (List.mem_of_mem_take hz)).1) (by rw[Qw8];omega) (.inr h1) (by rw[Qw8];omega)
 ·rcases Qqw.mp hz with rfl|hz
  ·exact Ig hs
  ·rcases Qxx.mp hz with hz|hz
   ·exact Il hR (List.mem_of_mem_take hz)
   ·rcases Qqw.mp hz with rfl|hz
    ·exact⟨h2,by omega⟩
    ·exact Il hR (List.mem_of_mem_drop hz)
 ·rw[Qqq,Qqk,Qw8,Qxv];omega
theorem afd:bj [.tup (L.map row),.str (jn s (ones a)),.int 1]=some (.bl true):=by
 obtain⟨h1,_,h4,_⟩:=Ou (cJ hL.pU ha);have h0:(0:Nat) ∉ L.map (·.1):=λh=>by have:=cJ hL.pU h;unfold lW at this;omega
 refine Q3 hL (yz (λz hz=>?_) (by show 5<=8;decide)) (mj hs).1 (all:=ones a) (gs:=[]) (rest:=[[111,110,101,115]++gx a,gd a,gd a,gd a]) (b:=[111,110,101,115]++gx a) rfl (λz hz=>nomatch hz) (by decide) (.inr (Aa hL h0 h4)) (k:=1) rfl;rcases Qqw.mp hz with rfl|hz
 ·exact Ig hs
 ·refine⟨h1 z hz,?_⟩;simp only[ones,Qqw,Qwv,Qjz] at hz;rcases hz with rfl|rfl|rfl|rfl|rfl<;>simp[gd,gx]
theorem Mx{z:List Nat}(hz:Np [59,32] z/\z.length<=900){rest:List (List Nat)}(hr:∀z∈rest,Np [59,32] z/\z.length<=900)(hn:rest.length<=2):bj [.tup (L.map row),.str (jn s ([gd a,gd a,gd a,gd a]++z::rest)),.int 5]=some (.bl true):=by
 obtain⟨g1,g2⟩:=ab0 hL ha;have hg:∀y ∈ [gd a,gd a,gd a,gd a],y=gd a:=λy hy=>by simpa using hy
 refine Q3 hL (yz (λy hy=>?_) ?_) (mj hs).1 (gs:=[gd a,gd a,gd a,gd a]) (rest:=rest) (b:=z) rfl (λy hy=>by rw[hg y hy];exact g1) (by show 4<=4;decide) (.inl rfl) (k:=5) rfl
 ·rcases Qqw.mp hy with rfl|hy
  ·exact Ig hs
  ·rcases Qxx.mp hy with hy|hy
   ·rw[hg y hy];exact⟨Np.of g2,by rw[ae0];decide⟩
   ·rcases Qqw.mp hy with rfl|hy
    ·exact hz
    ·exact hr y hy
 ·rw[Qqq,Qqk];show 4+(rest.length+1)<=8;omega
theorem ahU:bj [.tup (L.map row),.str (jn s R++[59,32]),.int ((R.length+1:Nat):Int)]=some (.bl true):=by
 rw[Wb];refine Q3 hL (yz (λz hz=>?_) (by rw[Qqq];show R.length+1<=8;omega)) (mj hs).1 (gs:=R) (rest:=[]) (b:=[]) rfl (λz hz=>(hR z hz).1) (by omega) (.inr ?_) rfl
 ·rcases Qqw.mp hz with rfl|hz
  ·exact Ig hs
  ·rcases Qxx.mp hz with hz|hz
   ·exact Il hR hz
   ·rw[Qwz.mp hz];exact⟨Np.of Qwv,Qzk _⟩
 ·exact fG.Ov rfl
theorem aax:bj [.tup (L.map row),.str ([10]++jn s R),.int 0]=some (.bl true):=by
 rw[Wc];refine ref0 hL (yz (λz hz=>?_) (by omega)) ?_
 ·rcases Qqw.mp hz with rfl|hz
  ·have h1:=(mj hs).2.2.1;have h2:=(mj hs).2.1;exact⟨Np.of (by simp[h1]),by rw[Qqq];show 1+s.length<=900;omega⟩
  ·exact Il hR hz
 ·simp only[SD,Qqw,Qwv,Qjz] at hs;rcases hs with rfl|rfl<;>rfl
end
theorem Wv{L:List Rn}(hL:GX L){s:List Nat}(hs:s∈SD){qs:List QR}(hq:∀q∈qs,Nh (L.map λr:Rn=>r.1) q)(h3:qs.length<=3)(c:Nat)(hc:c=10\/c=59):bj [.tup (L.map row),.str (jn s (qs.map txt)++[c]),.int (qs.length:Nat)]=some (.bl true):=by
 have hR:=oks (L:=L) hs hq h3;have hnp:∀{p:List Nat},59 ∉ p->Np [59,32] (p++[c]):=λ{p} h=>by
  rcases hc with rfl|rfl
  ·exact Np.of (by simp[h])
  ·exact ZR h
 rcases List.eq_nil_or_concat qs with rfl|⟨init,q,rfl⟩
 ·have e:jn s ([].map txt)++[c]=jn (s++[c]) []:=rfl;rw[e];refine ref0 hL (yz (λz hz=>?_) (by decide)) ?_
  ·rw[Qwz.mp hz];have:=(mj hs).2.1;exact⟨hnp (mj hs).2.2.1,by rw[Qqq,Qx8];omega⟩
  ·simp only[SD,Qqw,Qwv,Qjz] at hs;rcases hs with rfl|rfl<;>rcases hc with rfl|rfl<;>rfl
 ·rw[List.concat_eq_append] at hq h3 hR ⊢;have hqq:=hq q (by simp);rw[Qx1] at hR ⊢;show bj [_,.str (jn s (init.map txt++[txt q])++[c]),_]=_;rw[Gd];rw[Qqq,Qx8] at h3;have hl:=lC hqq.o;refine Q3 hL (yz (λz hz=>?_) ?_) (mj hs).1 (gs:=init.map txt) (rest:=[]) (b:=txt q++[c]) rfl (λz hz=>(hR z (Qj8 _ hz)).1) (by rw[Qqz];omega) (.inr ?_) (by rw[Qqq,Qqz];rfl)
  ·rcases Qqw.mp hz with rfl|hz
   ·exact Ig hs
   ·rcases Qxx.mp hz with hz|hz
    ·exact Il hR (Qj8 _ hz)
    ·rw[Qwz.mp hz];exact⟨hnp (lB hqq.o),by rw[Qqq,Qx8];omega⟩
  ·rw[Qqq,Qqz,Qx8];omega
  ·rcases hc with rfl|rfl
   ·exact Hm hL.pU rfl hqq.o 10 (by unfold lW;omega) (by decide) (by decide) (by decide)
   ·exact Hm hL.pU rfl hqq.o 59 (by unfold lW;omega) (by decide) (by decide) (by decide)
open fG (Rn row rq ok qD Q QR dW cq su Nh good cJ lW txt pO lC lB GX vR sb Aa OUT Kr mL tH)
theorem adS:m6=fG.m6:=rfl
abbrev ER(L:List Rn)(s:List Nat)(qs:List QR)(n:Int)(v3 v4 v5 v6 v7 v8 v9 v10 v11 Kl:OD):Ev.Env:=[Zl [.int n],(Zf (.tup (L.map row))),Zf (dI s qs),v3,v4,v5,v6,v7,v8,v9,v10,v11,Kl]
abbrev tR(s:List Nat)(qs:List QR):OD:=(Zs (jn s (qs.map txt)))
abbrev pR(s:List Nat)(qs:List QR):OD:=(Zf (.lst ((s::qs.map txt).map .str)))
abbrev EP(L:List Rn)(s:List Nat)(qs:List QR)(n:Int)(a o:Nat)(v7 v8 v9 v10 v11 Kl:OD):Ev.Env:=ER L s qs n (tR s qs) (pR s qs) (Zs (gd a)) (Zs [o]) v7 v8 v9 v10 v11 Kl
theorem mH{T t d:D}{env:Ev.Env}{b c:Ev}(h:bj [T,t,d]=some (.bl true))(h0:aM 1 env = .ok T env)(hb:b env = .ok t env)(hc:c env = .ok d env):bV (dw (aq bj (Zv 1 (aa b (aa c aj))))) env = .ok false env:=
 dF (b:=true) (cF (aH (aB h0 (aB hb (aB hc aX))) h))
theorem zH(W:List (List Nat))(lo hi:Option Int):cutD (W.map D.str) lo hi=(cutD W lo hi).map D.str:=by unfold cutD;rw[Qqz,<-List.map_drop,<-List.map_take]
section
variable{L:List Rn}(hL:GX L){a o:Nat}{ms:List (List Nat)}{L':List Rn}(h0:L=(a,ms)::L')(hO:o∈OUT)(ho:o ∉ L.map λr:Rn=>r.1){s:List Nat}(hs:s∈SD){qs:List QR}(hq:∀q∈qs,Nh (L.map λr:Rn=>r.1) q)(h3:qs.length<=3)
include h3 in
theorem abP{env:Ev.Env}(he:bz 4 env = .ok (.lst ((s::qs.map txt).map .str)) env):aq dD (aa (bz 4) aj) env = .ok (.int ((qs.length+1:Nat):Int)) env:=by refine aH (ds:=[.lst ((s::qs.map txt).map .str)]) (aB he aX) ?_;show some (D.int (((s::qs.map txt).map D.str).length:Nat))=_;rw[Qqz,Qqk,Qqz]
include hL h0 hs hq h3
theorem ajf(n:Int)(v7 v9 v10 v11 Kl:OD){z:List Nat}(hz:z∈os a):jY (EP L s qs n a o v7 (Zs z) v9 v10 v11 Kl) = .nx (EP L s qs n a o v7 (Zs z) v9 v10 v11 Kl):=by
 have hR:=oks (L:=L) hs hq h3;have hr:=f1 hL (Ke h0) hs hR (by rw[Qqz];exact h3) hz;obtain⟨_,_,hzl⟩:=abF (cJ hL.pU (Ke h0)) z hz;generalize hE:EP L s qs n a o v7 (Zs z) v9 v10 v11 Kl=env;have r1:gk (aM 4) (nT (Zi 1)) iQ env = .ok (.lst ((qs.map txt).map .str)) env:=by
  refine fG.jt (d:=.lst ((s::qs.map txt).map .str)) (l:=some ((1:Nat):Int)) (u:=none) (e1:=env) (e2:=env) (by rw[<-hE];rfl) rfl rfl ?_;show some (D.lst (cutD ((s::qs.map txt).map D.str) (some ((1:Nat):Int)) none))=_;rw[fG.Bk]
  rfl
 have r2:az fY (Zw [59,32]) (az bK (cM (Zv 8 aj)) (gk (aM 4) (nT (Zi 1)) iQ)) env = .ok (.str (jn z (qs.map txt))) env:=by
  refine aJ (x:=.str [59,32]) (y:=.lst ((z::qs.map txt).map .str)) (e1:=env) rfl (aJ (x:=.lst [.str z]) (e1:=env) (lU (aB (d:=.str z) (by rw[<-hE];rfl) aX) Ev.Xz) r1 (tD ?_)) (Aw ?_ λy hy=>?_)
  ·rw[Qqz,Qqz];exact Qqy (show 1+qs.length<=4 by omega) (by decide)
  ·rw[Qqk,Qqz];omega
  ·rcases Qqw.mp hy with rfl|hy
   ·omega
   ·have:=(hR y hy).2.1;omega
 unfold jY;exact(dg (mH hr (by rw[<-hE];rfl) r2 rfl)).trans rfl
include hO ho
theorem aje(n:Int)(v7 v10 v11 Kl:OD){z:List Nat}(hz:z∈od a o){k:Nat}(hk:k<=qs.length):∃w11,jX (EP L s qs n a o v7 (Zs z) (Zf (.int ((k+1:Nat):Int))) v10 v11 Kl) = .nx (EP L s qs n a o v7 (Zs z) (Zf (.int ((k+1:Nat):Int))) v10 w11 Kl):=by
 have hR:=oks (L:=L) hs hq h3;have hl:(qs.map txt).length=qs.length:=Qqz ..;have hr:=f2 hL (Ke h0) hs hR (by rw[hl];exact h3) hO ho hz (k:=k) (by rw[hl];exact hk);obtain⟨_,_,hzl⟩:=Ow hL (cJ hL.pU (Ke h0)) hO ho z hz;generalize hRR:qs.map txt=R at hR hr hl;have hsm:s::(R.take k++z::R.drop k)=(s::R).take (k+1)++[z]++(s::R).drop (k+1):=by simp
 have hlen:(s::(R.take k++z::R.drop k)).length=qs.length+2:=by rw[Qqk,Qqq,Qqk,Qw8,Qxv];omega
 refine⟨(Zf (.lst ((s::(R.take k++z::R.drop k)).map .str))),?_⟩;unfold jX;refine(aG (e:=EP L s qs n a o v7 (Zs z) (Zf (.int ((k+1:Nat):Int))) v10 (Zf (.lst ((s::(R.take k++z::R.drop k)).map .str))) Kl) ?_).trans ?_
 ·generalize hE:EP L s qs n a o v7 (Zs z) (Zf (.int ((k+1:Nat):Int))) v10 v11 Kl=env;have hv4:aM 4 env = .ok (.lst ((s::R).map .str)) env:=by rw[<-hE,<-hRR];rfl
  have r1:gk (aM 4) iQ (nT (aM 9)) env = .ok (.lst (((s::R).take (k+1)).map .str)) env:=by refine fG.jt (d:=.lst ((s::R).map .str)) (l:=none) (u:=some ((k+1:Nat):Int)) (e1:=env) (e2:=env) hv4 rfl (by rw[<-hE];rfl) ?_;show some (D.lst (cutD ((s::R).map D.str) none (some ((k+1:Nat):Int))))=_;rw[zH,KX.Gw]
  have r2:gk (aM 4) (nT (aM 9)) iQ env = .ok (.lst (((s::R).drop (k+1)).map .str)) env:=by refine fG.jt (d:=.lst ((s::R).map .str)) (l:=some ((k+1:Nat):Int)) (u:=none) (e1:=env) (e2:=env) hv4 (by rw[<-hE];rfl) rfl ?_;show some (D.lst (cutD ((s::R).map D.str) (some ((k+1:Nat):Int)) none))=_;rw[zH,fG.Bk]
  refine bL (d:=.lst ((s::(R.take k++z::R.drop k)).map .str)) (e:=env) ?_ (by rw[<-hE];rfl);rw[hsm,Qx1,Qx1];refine aJ (e1:=env) (aJ (y:=.lst [.str z]) (e1:=env) r1 (lU (aB (d:=.str z) (by rw[<-hE];rfl) aX) Ev.Xz) (tD ?_)) r2 (tD ?_)
  ·rw[Qqz,Qw8];refine Qqy (show _+1<=10 from ?_) (by decide);rw[Qqk];omega
  ·rw[Qqq,Qqz,Qqz,Qw8,Qxv];refine Qqy (show _+1+_<=10 from ?_) (by decide);rw[Qqk];omega
 generalize hE:EP L s qs n a o v7 (Zs z) (Zf (.int ((k+1:Nat):Int))) v10 (Zf (.lst ((s::(R.take k++z::R.drop k)).map .str))) Kl=env;have r3:az fY (Zw [59,32]) (gk (aM 11) iQ (nT (Zi 5))) env = .ok (.str (jn s (R.take k++z::R.drop k))) env:=by
  refine aJ (x:=.str [59,32]) (y:=.lst ((s::(R.take k++z::R.drop k)).map .str)) (e1:=env) rfl (fG.jt (d:=.lst ((s::(R.take k++z::R.drop k)).map .str)) (l:=none) (u:=some ((5:Nat):Int)) (e1:=env) (e2:=env) (by rw[<-hE];rfl) rfl rfl ?_) (Aw (by rw[hlen];omega) λy hy=>?_)
  ·show some (D.lst (cutD ((s::(R.take k++z::R.drop k)).map D.str) none (some ((5:Nat):Int))))=_;rw[KX.Gw,Qj2 (by rw[Qqz,hlen];omega)]
  ·rcases Qqw.mp hy with rfl|hy
   ·exact(Ig hs).2
   ·rcases Qxx.mp hy with hy|hy
    ·exact(Il hR (List.mem_of_mem_take hy)).2
    ·rcases Qqw.mp hy with rfl|hy
     ·omega
     ·exact(Il hR (List.mem_of_mem_drop hy)).2
 have r4:aq JF (Zv 9 (aa (az uO (aq dD (aa (bz 11) aj)) (Zi 1)) aj)) env = .ok (.int ((k+1:Nat):Int)) env:=by
  refine aH (ds:=[.int ((k+1:Nat):Int),.int ((qs.length+2:Nat) - 1:Int)]) (aB (d:=.int ((k+1:Nat):Int)) (e1:=env) (by rw[<-hE];rfl) (aB (aJ (x:=.int ((qs.length+2:Nat):Int)) (y:=.int 1) (e1:=env) (aH (ds:=[.lst ((s::(R.take k++z::R.drop k)).map .str)]) (aB (by rw[<-hE];rfl) aX) ?_) rfl rfl) aX)) ?_
  ·show some (D.int (((s::(R.take k++z::R.drop k)).map D.str).length:Nat))=_;rw[Qqz,hlen]
  ·show some (D.int (if ((qs.length+2:Nat) - 1:Int)<((k+1:Nat):Int) then _ else _))=_;rw[if_neg (by omega)]
 exact(dg (mH hr (by rw[<-hE];rfl) r3 r4)).trans rfl
end
open fG (Rn row rq ok qD Q QR dW cq su Nh good cJ lM zE lW txt pO lC lB GX vR sb Aa OUT Kr mL tH)
theorem Aq{L:List Rn}(hS:GX L):iY [.tup (L.map row)]=some (.str (L.map λr:Rn=>r.1)):=by
 have h4:=uU (lo:=1) (n:=3) (it:=gO (aM 0)) (g:=gj 2 (bI (au 1) (bI (au 2) gG))) (c:=cP) (e:=aM 1) (env:=[(Zf (.tup (L.map row)))]) L row (λr=>[Zs [r.1],(Zf (.tup (r.2.map .str)))]) (λ_=>true) (λr=>.str [r.1]) rfl rfl (λd hd=>by
  refine⟨rfl,λvs hv=>?_,rfl,λ_=>rfl⟩
  match vs,hv with
  | [_,_],_=>rfl) (Qqy (vR hS) (by decide))
 rw[List.filter_eq_self.mpr (λ_ _=>rfl)] at h4;have hj:=wR.join_eq (L.map λr:Rn=>r.1) (zE hS.pU);unfold fW at hj;rw[Qxk] at hj;exact cQ (bY (aJ (x:=.str []) rfl h4 hj))
theorem okQ(n:Nat)(q:Q):okN (n+4) (qD q)=true:=by
 have h1:okN (n+3) (.tup (q.cs.map fG.cD))=true:=by show(q.cs.map fG.cD).all (okN (n+2))=true;refine Qq5.mpr λd hd=>?_;obtain⟨c,_,rfl⟩:=Qwk.mp hd;show(c.map fG.oD).all (okN (n+1))=true;refine Qq5.mpr λd hd=>?_;obtain⟨o,_,rfl⟩:=Qwk.mp hd;cases o<;>rfl
 have hG:∀g,okN (n+3) (fG.gD g)=true:=λg=>by
  cases g with
  | none=>rfl
  | some z=>
   show(fW z).all (okN (n+2))=true;refine Qq5.mpr λd hd=>?_;obtain⟨c,_,rfl⟩:=Qwk.mp hd
   rfl
 show [D.str q.w,.tup (q.cs.map fG.cD),fG.gD q.l,fG.gD q.r].all (okN (n+3))=true;rw[List.all_cons,List.all_cons,List.all_cons,List.all_cons,h1,hG,hG]
 rfl
theorem Wr(s:List Nat)(qs:List QR):Gm (dI s qs) (dI s qs)=some (.bl false):=by
 refine JC ?_;have:okN 59 (.tup (qs.map dW))=true:=by show(qs.map dW).all (okN 58)=true;refine Qq5.mpr λd hd=>?_;obtain⟨q,_,rfl⟩:=Qwk.mp hd;rw[su];exact okQ 54 _
 show(true&&(okN 59 (.tup (qs.map dW))&&true))=true;rw[this]
 rfl
section
variable{L:List Rn}(hL:GX L){s:List Nat}(hs:s∈SD){qs:List QR}(hq:∀q∈qs,Nh (L.map λr:Rn=>r.1) q)(h3:qs.length<=3)
include hL hs hq h3
theorem right(n:Int):∃n',oh [.lst [.int n],.tup (L.map row),dI s qs]=some (.bl true,.lst [.int n']):=by
 obtain⟨a,ms,L',h0⟩:∃a ms L',L=(a,ms)::L':=by
  have:=(lM hL.pU).1;cases h:L with
  | nil=>rw[h] at this;exact absurd this (by decide)
  | cons r L'=>exact⟨r.1,r.2,L',rfl⟩
 have ha:=Ke h0;have hla:=cJ hL.pU ha;obtain⟨o,ho,hO,hon⟩:=fG.Z9 (x:=L.map λr:Rn=>r.1) (by rw[Qqz];exact vR hL);rw[<-adS] at ho;have hR:=oks (L:=L) hs hq h3;have hRl:(qs.map txt).length<=3:=by rw[Qqz];exact h3
 have hpt:=prt (L:=L) hs hq h3;have hot:=LK (L:=L) hs hq h3;have hsp:=zx hpt;have hrd:=read_order (Z4 hL) hpt (mj hs).1 (by rw[Qqz];omega) λz hz=>(hR z hz).1;rw[adU (L:=L) hs hq h3] at hrd;have hsh:=show_order (L:=L) hs hq h3;have hmr:=Jj hL h0 hs (qs.map txt);obtain⟨_,o5,_,ox,orp⟩:=Ou hla;have ai9:=afd hL ha hs hR hRl;have agS:=Mx hL ha hs hR hRl (z:=gd a++[120]) ⟨ox,by show 17<=900;decide⟩ (rest:=[]) (λ_ hz=>nomatch hz) (by decide);have gnp:Np [59,32] (gd a):=Np.of (ab0 hL ha).2;have ai7:=Mx hL ha hs hR hRl (z:=gd a) ⟨gnp,by show 16<=900;decide⟩ (rest:=[]) (λ_ hz=>nomatch hz) (by decide);have agR:=ahU hL ha hs hR hRl;have r16:=Mx hL ha hs hR hRl (z:=gd a) ⟨gnp,by show 16<=900;decide⟩ (rest:=[[120]]) (λz hz=>by rw[Qwz.mp hz];exact⟨Ah (by decide),by decide⟩) (by decide);have ai6:=Wv hL hs hq h3 10 (.inl rfl);have ai5:=aax hL ha hs hR hRl;have r18:=Wv hL hs hq h3 59 (.inr rfl);have e14:jn s (five a)++[120]=jn s ([gd a,gd a,gd a,gd a]++[gd a++[120]]):=Gd s [120] [gd a,gd a,gd a,gd a] (gd a);have e16:jn s (five a)++[59,32,120]=jn s ([gd a,gd a,gd a,gd a]++gd a::[[120]]):=by
  have h1:jn s (five a)++[59,32]++[120]=jn s (five a++[[]])++[120]:=by rw[Wb]
  have h2:=Gd s [120] (five a) [];rw[<-h1] at h2;rw[Qww] at h2;exact h2
 have hjl:(jn s (qs.map txt)).length<=5000:=by have:=Pa (qs.map txt) s hpt.ln;rw[Qqz] at this;have:902*(qs.length+1)<=902*4:=Nat.mul_le_mul_left _ (by omega);unfold jn;omega
 have hfl:(jn s (five a)).length<=5000:=by
  have h1:=Pa (five a) s (λz hz=>by
   rcases Qqw.mp hz with rfl|hz
   ·exact(Ig hs).2
   ·have:z=gd a:=by simpa[five] using hz
    rw[this];show 16<=900;decide)
  have h2:(bQ [59,32] (s::five a)).length<=902*6:=h1;have h4:(jn s (five a)).length=s.length+90:=by unfold jn five;rw[bG,bG,bG,bG,bG];simp only[Qqq];show s.length+2+(16+2+(16+2+(16+2+(16+2+16))))=_;omega
  have:=(mj hs).2.1;omega
 have ai8:Gj [59,32,111,110,99,101] [59,32,111,110,101,115] (.str (jn s (five a)))=some (.str (jn s (ones a))):=by
  show(if _ then some (D.str (qe (jn s (five a)) [59,32,111,110,99,101] [59,32,111,110,101,115])) else none)=_;rw[aaw hs hla,if_pos];refine⟨by show _+2*6<=_;omega,?_⟩;have h4:(jn s (ones a)).length=s.length+90:=by unfold jn ones;rw[bG,bG,bG,bG,bG];simp only[Qqq];show s.length+2+(16+2+(16+2+(16+2+(16+2+16))))=_;omega
  have:=(mj hs).2.1;exact Qqy (show _<=1000 by omega) (by decide)
 obtain⟨k,hk,ek⟩:=dig n (qs.length+1) (by omega);have htk:=wR.mF n (qs.length+1) (by omega) (by omega);rw[ek] at htk;have htk:bf [.lst [.int n],.int ((qs.length+1:Nat):Int)]=some (.int (k:Nat),.lst [.int (n / ((qs.length+1:Nat):Int))]):=htk;generalize hn2:n / ((qs.length+1:Nat):Int)=n2 at htk
 -- the loops
 obtain⟨e1,l1,v8,rfl⟩:=wB (g:=au 8) (b:=jY) (λenv=>∃v8,env=EP L s qs n a o (Zf (dI s qs)) v8 none none none none) ((os a).map .str)
  (λd hd env ⟨v8,he⟩=>by
   subst he;obtain⟨z,hz,rfl⟩:=Qwk.mp hd;exact⟨_,_,rfl,ajf hL h0 hs hq h3 n _ _ _ _ _ hz,_,rfl⟩)
  (EP L s qs n a o (Zf (dI s qs)) none none none none none) ⟨_,rfl⟩
 obtain⟨e2,l2,w8,w11,rfl⟩:=wB (g:=au 8) (b:=jX) (λenv=>∃v8 v11,env=EP L s qs n2 a o (Zf (dI s qs)) v8 (Zf (.int ((k+1:Nat):Int))) (Zf (.lst ((od a o).map .str))) v11 none) ((od a o).map .str)
  (λd hd env ⟨v8,v11,he⟩=>by
   subst he;obtain⟨z,hz,rfl⟩:=Qwk.mp hd;obtain⟨w11,hb⟩:=aje hL h0 hO hon hs hq h3 n2 (Zf (dI s qs)) (Zf (.lst ((od a o).map .str))) v11 none hz (k:=k) (by omega);exact⟨_,_,rfl,hb,_,_,rfl⟩)
  (EP L s qs n2 a o (Zf (dI s qs)) v8 (Zf (.int ((k+1:Nat):Int))) (Zf (.lst ((od a o).map .str))) none none) ⟨_,_,rfl⟩
 refine⟨n2,jl (env:=EP L s qs n2 a o (Zf (dI s qs)) w8 (Zf (.int ((k+1:Nat):Int))) (Zf (.lst ((od a o).map .str))) w11 (Zs (jn s (five a)))) ?_ rfl⟩;show sE (ER L s qs n none none none none none none none none none none)=_;unfold sE;refine(aG (e:=ER L s qs n (tR s qs) none none none none none none none none none) ?_).trans ?_
 ·exact bL (e:=ER L s qs n none none none none none none none none none none) (aH (ds:=[dI s qs]) rfl hot) rfl
 refine(aG (e:=ER L s qs n (tR s qs) (pR s qs) none none none none none none none none) ?_).trans ?_
 ·exact bL (e:=ER L s qs n (tR s qs) none none none none none none none none none) (aJ (x:=.str (jn s (qs.map txt))) (y:=.str [59,32]) (e1:=ER L s qs n (tR s qs) none none none none none none none none none) rfl rfl hsp) rfl
 refine(aG (e:=ER L s qs n (tR s qs) (pR s qs) (Zs (gd a)) none none none none none none none) ?_).trans ?_
 ·generalize hE:ER L s qs n (tR s qs) (pR s qs) none none none none none none none none=env;refine bL (d:=.str (gd a)) (e:=env) (aJ (x:=.str ([111,110,99,101,32]++[a])) (e1:=env) (aJ (x:=.str [111,110,99,101,32]) (y:=.str [a]) (e1:=env) rfl (aJ (x:=row (a,ms)) (y:=.int 0) (e1:=env) (gP (x:=.tup (L.map row)) (y:=.int 0) (by rw[<-hE];rfl) rfl (by rw[<-hE];rfl) ?_) rfl (dZ (j:=0) rfl)) rfl) rfl rfl) (by rw[<-hE];rfl);rw[h0];exact dZ (j:=0) rfl
 refine(aG (e:=EP L s qs n a o none none none none none none) ?_).trans ?_
 ·exact bL (e:=ER L s qs n (tR s qs) (pR s qs) (Zs (gd a)) none none none none none none none) (aH (ds:=[.str (L.map λr:Rn=>r.1)]) (aB (aH (ds:=[.tup (L.map row)]) rfl (Aq hL)) aX) ho) rfl
 refine(aG (e:=EP L s qs n a o (Zf (dI s qs)) none none none none none) ?_).trans ?_
 ·exact bL (e:=EP L s qs n a o none none none none none none) (aH (ds:=[.tup (L.map row),.str (jn s (qs.map txt))]) rfl hrd) rfl
 refine(aG (e:=EP L s qs n a o (Zf (dI s qs)) none none none none none) ?_).trans ?_
 ·generalize hE:EP L s qs n a o (Zf (dI s qs)) none none none none none=env;have c1:dw (az Gm (aq mO (Zv 2 aj)) (bz 3)) env = .ok false env:=cF (aJ (x:=.str (jn s (qs.map txt))) (y:=.str (jn s (qs.map txt))) (e1:=env) (aH (ds:=[dI s qs]) (by rw[<-hE];rfl) hsh) (by rw[<-hE];rfl) (by rw[ahL,Qk1];rfl));have c2:dw (aA Gm 7 (bz 2)) env = .ok false env:=cF (gP (x:=dI s qs) (y:=dI s qs) (by rw[<-hE];rfl) (by rw[<-hE];rfl) (by rw[<-hE];rfl) (Wr s qs));have c3:bV (dw (fj (oZ "tuple") (aM 7))) env = .ok false env:=by rw[<-hE];rfl
  have c4:bV (dw (fj (oZ "tuple") (aA gM 7 (Zi 1)))) env = .ok false env:=dF (b:=true) (cF (tH (x:=.tup (qs.map dW)) (gP (x:=dI s qs) (y:=.int 1) (by rw[<-hE];rfl) rfl (by rw[<-hE];rfl) (dZ (j:=1) rfl)) rfl));exact(dg ((gq c1).trans ((gq c2).trans ((gq c3).trans c4)))).trans rfl
 refine(aG (e:=EP L s qs n a o (Zf (dI s qs)) v8 none none none none) ?_).trans ?_
 ·exact(jj (ds:=(os a).map .str) rfl).trans l1
 refine(aG (e:=EP L s qs n2 a o (Zf (dI s qs)) v8 (Zf (.int ((k+1:Nat):Int))) none none none) ?_).trans ?_
 ·refine bL (d:=.int ((k+1:Nat):Int)) (e:=EP L s qs n2 a o (Zf (dI s qs)) v8 none none none none) (aJ (x:=.int 1) (y:=.int (k:Nat)) (e1:=EP L s qs n a o (Zf (dI s qs)) v8 none none none none) rfl (g8 (ds:=[.int ((qs.length+1:Nat):Int)]) (x:=.lst [.int n]) (x0:=.lst [.int n]) (e1:=EP L s qs n a o (Zf (dI s qs)) v8 none none none none) rfl (aB (abP h3 rfl) aX) rfl htk) ?_) rfl;show some (D.int (1+(k:Int)))=_
  congr 2
  omega
 refine(aG (e:=EP L s qs n2 a o (Zf (dI s qs)) v8 (Zf (.int ((k+1:Nat):Int))) (Zf (.lst (((od a o).take 8).map .str))) none none) ?_).trans ?_
 ·rfl
 refine(aG (e:=EP L s qs n2 a o (Zf (dI s qs)) v8 (Zf (.int ((k+1:Nat):Int))) (Zf (.lst ((od a o).map .str))) none none) ?_).trans ?_
 ·generalize hE:EP L s qs n2 a o (Zf (dI s qs)) v8 (Zf (.int ((k+1:Nat):Int))) (Zf (.lst (((od a o).take 8).map .str))) none none=env;have r1:fj (PB [111,110,99,101] [108,101,102,116]) (aM 5) env = .ok (.str ([108,101,102,116,32]++[a]++[62,48,32,47,32,42,32,95,32,42])) env:=by
   refine tH (x:=.str (gd a)) (by rw[<-hE];rfl) ?_;show(if _ then some (D.str (nZ (gd a) [111,110,99,101] [108,101,102,116])) else none)=_;rw[orp,if_pos];exact⟨by show 16+(16+1)*4<=_;decide,by show 16<=sizeLine;decide⟩
  exact bL (d:=.lst ((od a o).map .str)) (e:=env) (gP (x:=.lst (((od a o).take 8).map .str)) (by rw[<-hE];rfl) (lU (aB r1 aX) Ev.Xz) (by rw[<-hE];rfl) rfl) (by rw[<-hE];rfl)
 refine(aG (e:=EP L s qs n2 a o (Zf (dI s qs)) w8 (Zf (.int ((k+1:Nat):Int))) (Zf (.lst ((od a o).map .str))) w11 none) ?_).trans ?_
 ·exact(jj (ds:=(od a o).map .str) rfl).trans l2
 refine(aG (e:=EP L s qs n2 a o (Zf (dI s qs)) w8 (Zf (.int ((k+1:Nat):Int))) (Zf (.lst ((od a o).map .str))) w11 none) ?_).trans ?_
 ·exact(dg (dF (b:=true) (cF (aH (ds:=[.tup (L.map row),.lst ((s::qs.map txt).map .str),.str (gd a)]) rfl hmr)))).trans rfl
 refine(aG (e:=EP L s qs n2 a o (Zf (dI s qs)) w8 (Zf (.int ((k+1:Nat):Int))) (Zf (.lst ((od a o).map .str))) w11 (Zs (jn s (five a)))) ?_).trans ?_
 ·generalize hE:EP L s qs n2 a o (Zf (dI s qs)) w8 (Zf (.int ((k+1:Nat):Int))) (Zf (.lst ((od a o).map .str))) w11 none=env;have r3:gk (aM 4) iQ (nT (Zi 1)) env = .ok (.lst [.str s]) env:=by
   refine fG.jt (d:=.lst ((s::qs.map txt).map .str)) (l:=none) (u:=some 1) (e1:=env) (e2:=env) (by rw[<-hE];rfl) rfl rfl ?_;show some (D.lst (cutD ((s::qs.map txt).map D.str) none (some ((1:Nat):Int))))=_;rw[KX.Gw]
   rfl
  have r4:az JD (cM (Zv 5 aj)) (Zi 5) env = .ok (.lst ((five a).map .str)) env:=aJ (x:=.lst [.str (gd a)]) (y:=.int 5) (e1:=env) (lU (aB (d:=.str (gd a)) (by rw[<-hE];rfl) aX) Ev.Xz) rfl rfl;refine bL (d:=.str (jn s (five a))) (e:=env) (aJ (x:=.str [59,32]) (y:=.lst ((s::five a).map .str)) (e1:=env) rfl (aJ (e1:=env) r3 r4 (tD (Qqy (show 6<=100 by decide) (by decide)))) (Aw (xs:=s::five a) (by show 6<=10;decide) λz hz=>?_)) (by rw[<-hE];rfl);rcases Qqw.mp hz with rfl|hz
  ·exact(Ig hs).2
  ·have:z=gd a:=by simpa[five] using hz
   rw[this];show 16<=900;decide
 generalize hE:EP L s qs n2 a o (Zf (dI s qs)) w8 (Zf (.int ((k+1:Nat):Int))) (Zf (.lst ((od a o).map .str))) w11 (Zs (jn s (five a)))=env;have v1:aM 1 env = .ok (.tup (L.map row)) env:=by rw[<-hE];rfl
 have Kl:aM 12 env = .ok (.str (jn s (five a))) env:=by rw[<-hE];rfl
 have v3:bz 3 env = .ok (.str (jn s (qs.map txt))) env:=by rw[<-hE];rfl
 have acg:∀z:List Nat,z.length<=100->aA bK 12 (jh (.str z)) env = .ok (.str (jn s (five a)++z)) env:=λz hz=>gP (x:=.str (jn s (five a))) (y:=.str z) (by rw[<-hE];rfl) rfl (by rw[<-hE];rfl) (zF (Qqy (Nat.add_le_add hfl hz) (by decide)));have afz:∀z:List Nat,z.length<=100->aA bK 3 (jh (.str z)) env = .ok (.str (jn s (qs.map txt)++z)) env:=λz hz=>gP (x:=.str (jn s (qs.map txt))) (y:=.str z) (by rw[<-hE];rfl) rfl (by rw[<-hE];rfl) (zF (Qqy (Nat.add_le_add hjl hz) (by decide)));have af9:=abP (s:=s) h3 (env:=env) (by rw[<-hE];rfl);have vl1:az uO (aq dD (aa (bz 4) aj)) (Zi 1) env = .ok (.int (qs.length:Nat)) env:=aJ (x:=.int ((qs.length+1:Nat):Int)) (y:=.int 1) (e1:=env) af9 rfl (by show some (D.int (((qs.length+1:Nat):Int) - 1))=_;congr 2;omega);rw[Qqz] at agR;refine(aG (e:=env) ?_).trans ?_
 ·refine(dg ((gq (mH ai9 v1 (tH Kl ai8) rfl)).trans (mH (by rw[<-e14] at agS;exact agS) v1 (acg [120] (by decide)) rfl))).trans rfl
 refine(aG (e:=env) ?_).trans ?_
 ·exact(dg ((gq (mH ai7 v1 Kl rfl)).trans (mH agR v1 (afz [59,32] (by decide)) af9))).trans rfl
 refine(aG (e:=env) ?_).trans ?_
 ·exact(dg (mH (by rw[<-e16] at r16;exact r16) v1 (acg [59,32,120] (by decide)) rfl)).trans rfl
 refine(aG (e:=env) ?_).trans ?_
 ·exact(dg ((gq (mH ai6 v1 (afz [10] (by decide)) vl1)).trans (mH ai5 v1 (aJ (x:=.str [10]) (e1:=env) rfl v3 (zF (show 1+(jn s (qs.map txt)).length<=sizeLine from Qqy (show _<=5001 by omega) (by decide)))) rfl))).trans rfl
 exact bY (aH (aB v1 (aB (afz [59] (by decide)) (aB vl1 aX))) r18)
end
open fG (Rn row GX)
theorem Zu:lg=wR.lg:=rfl
theorem T7:jP=fG.jP:=rfl
abbrev EW(S:D)(a1 a2 a3:OD):Ev.Env:=[Zf S,a1,a2,a3]
theorem V3(ns:List Int)(hl:ns.length<=63)(hb:Nt ns)(k:Int)(h0:0<=k)(h1:k<=400)(b2 b3:OD) :
  ∃c2 c3,vU (EW (.arr (ns.map .int)) (Zf (.int k)) b2 b3) = .nx (EW (.arr (ns.map .int)) (Zf (.int k)) c2 c3):=by
 obtain⟨p,hp⟩:=wR.pack ns hl hb k h0 (by omega);obtain⟨L,n,hS,hst⟩:=fG.stock p;obtain⟨s,qs,n1,ho,hs,hq,h3⟩:=order n _ hS.pU;obtain⟨n2,hr⟩:=right hS hs hq h3 n1;rw[<-T7] at hst;generalize D.arr (ns.map .int)=S at hp ⊢;refine⟨(Zl [.int n2]),(Zf (.tup (L.map row))),?_⟩;unfold vU;refine(aG (e:=EW S (Zf (.int k)) (Zl [.int p]) b3) ?_).trans ?_
 ·exact zT (i:=2) (aH (ds:=[S,.int k]) (e:=EW S (Zf (.int k)) b2 b3) rfl (by rw[Zu];exact hp))
 refine(aG (e:=EW S (Zf (.int k)) (Zl [.int n]) (Zf (.tup (L.map row)))) ?_).trans ?_
 ·exact bL (g8 (e1:=EW S (Zf (.int k)) (Zl [.int p]) b3) rfl rfl rfl hst) rfl
 have i1:dH lO 2 (aa (aq iY (Zv 3 aj)) (aa (Zi 3) aj)) (EW S (Zf (.int k)) (Zl [.int n]) (Zf (.tup (L.map row)))) = .ok (dI s qs) (EW S (Zf (.int k)) (Zl [.int n1]) (Zf (.tup (L.map row)))):=
  g8 (ds:=[.str (L.map λr:Rn=>r.1),.int 3]) (x:=.lst [.int n]) (x0:=.lst [.int n]) (e1:=EW S (Zf (.int k)) (Zl [.int n]) (Zf (.tup (L.map row)))) rfl (aB (aH (ds:=[.tup (L.map row)]) rfl (Aq hS)) rfl) rfl ho
 have i2:dH oh 2 (Zv 3 (aa (dH lO 2 (aa (aq iY (Zv 3 aj)) (aa (Zi 3) aj))) aj)) (EW S (Zf (.int k)) (Zl [.int n]) (Zf (.tup (L.map row)))) = .ok (.bl true) (EW S (Zf (.int k)) (Zl [.int n2]) (Zf (.tup (L.map row)))):=
  g8 (ds:=[.tup (L.map row),dI s qs]) (x:=.lst [.int n1]) (x0:=.lst [.int n]) (e1:=EW S (Zf (.int k)) (Zl [.int n1]) (Zf (.tup (L.map row)))) rfl (aB (d:=.tup (L.map row)) (e1:=EW S (Zf (.int k)) (Zl [.int n]) (Zf (.tup (L.map row)))) rfl (aB i1 aX)) rfl hr
 exact(dg (dF (b:=true) (cF i2))).trans rfl
theorem Us(T d:D)(h:d ∈ [.non,.int 7,.bl true,.tup [],.lst [.str [108,101,102,116]],.dct []]):fQ [T,d]=some (.tup [.non]):=by simp only[Qqw,Qwv,Qjz] at h;rcases h with rfl|rfl|rfl|rfl|rfl|rfl<;>rfl
theorem aaB{a:dq}{env e:Ev.Env}{ds ys:List D}(h:a env = .ok ds e)(h':nA ds=some ys):dY a env = .ok ys e:=by
 unfold dY;rw[h];show fX (nA ds) e=_;rw[h']
 rfl
theorem TV(ns:List Int)(hl:ns.length<=63)(hb:Nt ns):P0 [.arr (ns.map .int)]=some (.bl true):=by
 have hlen:aq dD (aa (bz 0) aj) (EW (.arr (ns.map .int)) none none none) = .ok (.int (ns.length:Int)) (EW (.arr (ns.map .int)) none none none):=by show R.ok (D.int ((ns.map D.int).length:Int)) _=_;rw[Qqz]
 obtain⟨ds,hds,hk⟩:∃ds,dY (aa (Zi 0) (aa (aq R6 (aa (Zi 1) (aa (aq JF (aa (aq dD (aa (bz 0) aj)) (aa (Zi 16) aj))) aj))) (aa (Zi 2) aj))) (EW (.arr (ns.map .int)) none none none) = .ok ds (EW (.arr (ns.map .int)) none none none)/\∀d∈ds,∃k:Int,d = .int k/\0<=k/\k<=400:=by
  generalize hE:EW (.arr (ns.map .int)) none none none=env at hlen ⊢;have a1:aa (Zi 0) (aa (aq R6 (aa (Zi 1) (aa (aq JF (aa (aq dD (aa (bz 0) aj)) (aa (Zi 16) aj))) aj))) (aa (Zi 2) aj)) env = .ok [.int 0,.int (if (if (16:Int)<ns.length then 16 else (ns.length:Int)) > 1 then (if (16:Int)<ns.length then 16 else (ns.length:Int)) else 1),.int 2] env:=
   aB (d:=.int 0) (by rfl) (aB (aH (ds:=[.int 1,.int (if (16:Int)<ns.length then 16 else (ns.length:Int))]) (aB (d:=.int 1) (by rfl) (aB (aH (ds:=[.int (ns.length:Int),.int 16]) (aB hlen (by rfl)) (by rfl)) aX)) (by rfl)) (by rfl))
  generalize hm:(if (if (16:Int)<ns.length then 16 else (ns.length:Int)) > 1 then (if (16:Int)<ns.length then 16 else (ns.length:Int)) else 1)=m at a1;have hm1:1<=m/\m<=16:=by rw[<-hm];split<;>split<;>omega
  obtain⟨j,rfl⟩:∃j:Nat,m=(j:Int):=⟨m.toNat,by omega⟩;obtain⟨ds,h1,h2⟩:=fG.Lp (j:=j) (by omega);exact⟨ds,aaB a1 h1,h2⟩
 obtain⟨e',f1,c1,c2,c3,rfl⟩:=wB (g:=au 1) (b:=vU) (λenv=>∃c1 c2 c3,env=EW (.arr (ns.map .int)) c1 c2 c3) ds
  (λd hd env ⟨c1,c2,c3,he⟩=>by
   subst he;obtain⟨k,rfl,h0,h1⟩:=hk d hd;obtain⟨x2,x3,hb⟩:=V3 ns hl hb k h0 h1 c2 c3;exact⟨_,_,rfl,hb,_,_,_,rfl⟩)
  (EW (.arr (ns.map .int)) none none none) ⟨_,_,_,rfl⟩
 generalize D.arr (ns.map .int)=S at hds f1 ⊢;have hrn:∀d ∈ [D.non,.int 7,.bl true,.tup [],.lst [.str [108,101,102,116]],.dct []],bj [.tup [.tup [.str [97],.tup []]],d,.non]=some (.bl true):=λd hd=>refused (Us _ d hd) (.inl rfl);refine cQ (env:=EW S c1 c2 c3) ?_;unfold ace;refine(aG (e:=EW S c1 c2 c3) ((jj hds).trans f1)).trans ?_;generalize hE:EW S c1 c2 c3=env;have hlc:Jk env = .ok (.lst ([D.non,.int 7,.bl true,.tup [],.lst [.str [108,101,102,116]],.dct []].map λ_=>.bl true)) env:=by refine o6 (lo:=4) (n:=5) (aD:=env) [D.non,.int 7,.bl true,.tup [],.lst [.str [108,101,102,116]],.dct []] id (λ_=>.bl true) (by rw[List.map_id];rfl) (by rw[<-hE];rfl) rfl (λd hd=>?_) (by decide);refine aH (ds:=[.tup [.tup [.str [97],.tup []]],d,.non]) ?_ (hrn d hd);simp only[Qqw,Qwv,Qjz] at hd;rw[<-hE];rcases hd with rfl|rfl|rfl|rfl|rfl|rfl<;>rfl
 exact bY (aH (aB hlc aX) rfl)
open PySem PySem.Spec PyProof.Rows L2 Ev
theorem qX{K:Fg}{cG dJ xi:Addr}{acy x_q:Str}{x_N:Addr}{acJ Tj:List Value}{acu:List Str}{acL:Bool}{Tu:Option Bool}{acH:Option Addr}{acF acE acD acC acB:Option Value}{acx acA Tr acv Hj acI:Value}{acw acK:Option Addr}{Tn:Array (Option Value)}(d9:PySem.W.nsIn K mainGlobals "NoText" = some (some (.ref cG)))(xo:K.lookup cG=some (excClassObj acy x_q cG x_N acJ (.ref dJ::XC.bmV) true acu Tj acL Tu acH acF acE acD acC acB "ValueError.__new__"))(Kw:PySem.W.findIn K (.ref cG) "__setattr__" = some (some (.builtin "object.__setattr__")))(Ky:PySem.W.findIn K (.ref cG) "part" = some none)(xu:PySem.W.excIn K dJ [.type "ValueError",.type "Exception",.type "BaseException",.type "object"] "ValueError.__new__" = true)(KC:PySem.W.findIn K (.ref cG) "__init__" = some (some (.ref xi)))(Kv:PySem.W.typeIn K (.ref xi)=some (.type "function"))(KD:K.lookup xi=some ⟨acx,acw,.func (PySem.W.fnOf "__init__" "NoText.__init__" (gw rK) (cO rK) (aL rK) .none acA Tr acv acK Hj acI),Tn⟩)(KH:PySem.W.codeIn K Hj "NoText.__init__" = true)(Kz:PySem.W.keepIn K (.ref xi)=true)(dz:XC.Cl K cG):XG K "NoText" "part" "NoText.__init__" rK cG dJ xi:=
 ⟨d9,⟨_,_,_,_,_,_,_,_,_,_,_,_,_,_,xo⟩,dz,Kw,Ky,xu,KC,Kv,⟨_,_,_,_,_,_,_,_,_,KD,KH⟩,Kz⟩
theorem all_mk{P:Program}{w:World}{K:Fg}{h:Heap}{mg:Str->Option Value}{fa:Addr}(X:K.In h)(G:h.Ns mainGlobals mg)(hfa:mg "law" = some (.ref fa))
  {Ka J8 Bq J7 Bp cG dJ Eb:Addr} {xi:Addr} {acy x_q:Str} {x_N:Addr} {acJ Tj:List Value} {acu:List Str} {acL:Bool} {Tu:Option Bool} {acH:Option Addr} {acF acE acD acC acB:Option Value} {acx acA Tr acv Hj acI:Value} {acw acK:Option Addr} {Tn:Array (Option Value)} {Ld:Tok} {acQ:Tok} {Et:Tok} {Lb:Tok} {Jy:Addr} {Wn:Nat} {R3:Array (Option Value)} {R1 R0:Tok} {Px:Addr} {aaj:Nat} {Wm:Array (Option Value)} {Wl Wk:Tok}
  (u6:PySem.W.nsIn K mainGlobals "ValueError" = some none) (abn:PySem.W.nsIn K mainGlobals "all" = some none) (Ti:PySem.W.nsIn K mainGlobals "bool" = some none) (Hg:PySem.W.nsIn K mainGlobals "divmod" = some none) (u5:PySem.W.nsIn K mainGlobals "isinstance" = some none) (abm:PySem.W.nsIn K mainGlobals "len" = some none) (Th:PySem.W.nsIn K mainGlobals "list" = some none) (abl:PySem.W.nsIn K mainGlobals "max" = some none) (abk:PySem.W.nsIn K mainGlobals "min" = some none) (Nv:PySem.W.nsIn K mainGlobals "range" = some none) (abj:PySem.W.nsIn K mainGlobals "set" = some none) (Hf:PySem.W.nsIn K mainGlobals "sorted" = some none) (abi:PySem.W.nsIn K mainGlobals "str" = some none) (abh:PySem.W.nsIn K mainGlobals "sum" = some none) (Nu:PySem.W.nsIn K mainGlobals "tuple" = some none) (rW:∀d:D,PySem.W.kitOne K (.type (TF d)) (.type "bool")=some (rY d "bool")) (sX:∀d:D,PySem.W.kitOne K (.type (TF d)) (.type "str")=some (rY d "str")) (gF:∀d:D,PySem.W.kitOne K (.type (TF d)) (.type "tuple")=some (rY d "tuple")) (Al:PySem.W.nsIn K mainGlobals "NoCall" = some (some (.ref Ka))) (Ak:PySem.W.nsIn K mainGlobals "NoKept" = some (some (.ref J8))) (uK:PySem.W.nsIn K mainGlobals "NoNumber" = some (some (.ref Bq))) (Aj:PySem.W.nsIn K mainGlobals "NoSide" = some (some (.ref J7))) (uJ:PySem.W.nsIn K mainGlobals "NoSource" = some (some (.ref Bp))) (d9:PySem.W.nsIn K mainGlobals "NoText" = some (some (.ref cG))) (ql:PySem.W.nsIn K mainGlobals "SoundError" = some (some (.ref dJ))) (yc:PySem.W.nsIn K mainGlobals "TooMany" = some (some (.ref Eb))) (xo:K.lookup cG=some (excClassObj acy x_q cG x_N acJ (.ref dJ::XC.bmV) true acu Tj acL Tu acH acF acE acD acC acB "ValueError.__new__")) (Kw:PySem.W.findIn K (.ref cG) "__setattr__" = some (some (.builtin "object.__setattr__"))) (Ky:PySem.W.findIn K (.ref cG) "part" = some none) (xu:PySem.W.excIn K dJ [.type "ValueError",.type "Exception",.type "BaseException",.type "object"] "ValueError.__new__" = true) (KC:PySem.W.findIn K (.ref cG) "__init__" = some (some (.ref xi))) (Kv:PySem.W.typeIn K (.ref xi)=some (.type "function")) (KD:K.lookup xi=some ⟨acx,acw,.func (PySem.W.fnOf "__init__" "NoText.__init__" (gw rK) (cO rK) (aL rK) .none acA Tr acv acK Hj acI),Tn⟩) (KH:PySem.W.codeIn K Hj "NoText.__init__" = true) (Kz:PySem.W.keepIn K (.ref xi)=true) (dz:XC.Cl K cG) (oO:XC.Cl K dJ) (oM:PySem.W.typeIn K (.ref dJ)=some (.type "type")) (oN:PySem.W.mroIn K cG (.ref dJ)=some true) (xf:PySem.W.kitOne K (.ref cG) (.ref Ka)=some false) (wZ:PySem.W.kitOne K (.ref cG) (.ref J8)=some false) (qW:PySem.W.kitOne K (.ref cG) (.ref Bq)=some false) (wY:PySem.W.kitOne K (.ref cG) (.ref J7)=some false) (qU:PySem.W.kitOne K (.ref cG) (.ref Bp)=some false) (wX:PySem.W.kitOne K (.ref cG) (.ref cG)=some true) (uo:PySem.W.kitOne K (.ref cG) (.ref Eb)=some false) (oR:PySem.W.kitOne K (.ref cG) (.type "ValueError")=some true) (uN:PySem.W.nsIn K mainGlobals "ALL_FITS" = some (some (.str "*" Ld))) (Mu:PySem.W.nsIn K mainGlobals "EDGE" = some (some (.str "#" acQ))) (qu:PySem.W.nsIn K mainGlobals "MOST_RULES" = some (some (.int 4 Et))) (uM:PySem.W.nsIn K mainGlobals "NO_SOUND" = some (some (.str "0" Lb))) (Gg:PySem.W.nsIn K mainGlobals "SIDES" = some (some (.ref Jy))) (jZ:K.lookup Jy=some ⟨.type "tuple",none,.seq #[.str "left" R1,.str "right" R0] Wn,R3⟩) (Mt:PySem.W.nsIn K mainGlobals "WAYS" = some (some (.ref Px))) (mK:K.lookup Px=some ⟨.type "tuple",none,.seq #[.str "once" Wl,.str "along" Wk] aaj,Wm⟩) (Qp:FA K "rises" Fp) (Ej:FA K "is_pair" xN) (yL:FA K "sounds_of" rA) (yM:FA K "sounds_by" rB) (qN:FA K "changes_sound" lZ) (uf:FA K "puts_one_in" oU) (um:FA K "are_changes" oX) (yV:FA K "are_signs" rM) (Ei:FA K "is_rule" xM) (Bw:FA K "is_order" uB) (yO:FA K "need_text" rD) (wH:FA K "show_sound" pW) (wI:FA K "show_signs" pX) (yN:FA K "show_rule" rC) (wK:FA K "read_sound" pZ) (wL:FA K "read_signs" p6) (wM:FA K "read_parts" p7) (wJ:FA K "show_order" pY) (wN:FA K "read_order" p8) (yU:FA K "_law_mixed" rJ) (Bv:FA K "_law_pack" uA) (Br:FA K "_law_take" ux) (nQ:FA K "_law_drawn_sounds" jE) (yP:FA K "_law_stock" rE) (wO:FA K "_law_sounds" qb) (yQ:FA K "_law_signs" rF) (uh:FA K "_law_changes" oW) (Bu:FA K "_law_rule" uz) (yS:FA K "_law_order" rH) (pL:FA K "_law_signs_text" kE) (qM:FA K "_law_rule_text" lY) (pM:FA K "_law_order_text" kI) (Bt:FA K "_law_sort" uy) (ug:FA K "_law_refused" oV) (Eh:FA K "_law_out" xK) (oK:FA K "_law_marks_right" jT) (yR:FA K "_law_right" rG) (ach:FA K "law" Up) :
  ∃fd:FuncData,(∀(s:Shared) (v:Value),BindsTo s fd ⟨[v],[]⟩ [("_law_script",v)])/\∀base:Heap,K.In base->base.Ns mainGlobals mg->mY P w K mg base BK 10 fa fd ["_law_script"] (o9 K 1 P0):=
 ach.law X G hfa (λs v=>.of_eq rfl) λbase F=>afb ⟨uI X G u6,
  uI X G abn,
  uI X G Ti,
  uI X G Hg,
  uI X G u5,
  uI X G abm,
  uI X G Th,
  uI X G abl,
  uI X G abk,
  uI X G Nv,
  uI X G abj,
  uI X G Hf,
  uI X G abi,
  uI X G abh,
  uI X G Nu,
  rW,
  sX,
  gF,
  XG.raises (qX d9 xo Kw Ky xu KC Kv KD KH Kz dz) X G (fun|[_,_],_=>rfl) Yu rfl,
  XG.part (qX d9 xo Kw Ky xu KC Kv KD KH Kz dz),
  XG.below (qX d9 xo Kw Ky xu KC Kv KD KH Kz dz) X G ql oO oM oN,
  XG.isx (qX d9 xo Kw Ky xu KC Kv KD KH Kz dz) X G Al xf,
  XG.isx (qX d9 xo Kw Ky xu KC Kv KD KH Kz dz) X G Ak wZ,
  XG.isx (qX d9 xo Kw Ky xu KC Kv KD KH Kz dz) X G uK qW,
  XG.isx (qX d9 xo Kw Ky xu KC Kv KD KH Kz dz) X G Aj wY,
  XG.isx (qX d9 xo Kw Ky xu KC Kv KD KH Kz dz) X G uJ qU,
  XG.isx (qX d9 xo Kw Ky xu KC Kv KD KH Kz dz) X G d9 wX,
  XG.isx (qX d9 xo Kw Ky xu KC Kv KD KH Kz dz) X G yc uo,
  XG.isB (qX d9 xo Kw Ky xu KC Kv KD KH Kz dz) oR,
  Gf X G uN (by decide +kernel) (by decide),
  Gf X G Mu (by decide +kernel) (by decide),
  aak X G qu,
  Gf X G uM (by decide +kernel) (by decide),
  Jw X G Gg jZ (.str (by decide +kernel) (by decide)) (.str (by decide +kernel) (by decide)),
  Jw X G Mt mK (.str (by decide +kernel) (by decide)) (.str (by decide +kernel) (by decide)),
  Qp.at X G (fun|[_],_=>rfl),
  Ej.at X G (fun|[_],_=>rfl),
  yL.at X G (fun|[_],_=>rfl),
  yM.at X G (fun|[_,_],_=>rfl),
  qN.at X G (fun|[_,_],_=>rfl),
  uf.at X G (fun|[_,_],_=>rfl),
  um.at X G (fun|[_,_],_=>rfl),
  yV.at X G (fun|[_,_],_=>rfl),
  Ei.at X G (fun|[_,_],_=>rfl),
  Bw.at X G (fun|[_,_],_=>rfl),
  yO.at X G (fun|[_],_=>rfl),
  wH.at X G (fun|[_],_=>rfl),
  wI.at X G (fun|[_],_=>rfl),
  yN.at X G (fun|[_],_=>rfl),
  wK.at X G (fun|[_],_=>rfl),
  wL.at X G (fun|[_,_],_=>rfl),
  wM.at X G (fun|[_,_],_=>rfl),
  wJ.at X G (fun|[_],_=>rfl),
  wN.at X G (fun|[_,_],_=>rfl),
  yU.at X G (fun|[_],_=>rfl),
  Bv.at X G (fun|[_,_],_=>rfl),
  Br.at X G (fun|[_,_],_=>rfl),
  nQ.at X G (fun|[_],_=>rfl),
  yP.at X G (fun|[_],_=>rfl),
  wO.at X G (fun|[_],_=>rfl),
  yQ.at X G (fun|[_,_],_=>rfl),
  uh.at X G (fun|[_,_],_=>rfl),
  Bu.at X G (fun|[_,_],_=>rfl),
  yS.at X G (fun|[_,_,_],_=>rfl),
  pL.at X G (fun|[_],_=>rfl),
  qM.at X G (fun|[_],_=>rfl),
  pM.at X G (fun|[_],_=>rfl),
  Bt.at X G (fun|[_],_=>rfl),
  ug.at X G (fun|[_,_,_],_=>rfl),
  Eh.at X G (fun|[_],_=>rfl),
  oK.at X G (fun|[_,_,_],_=>rfl),
  yR.at X G (fun|[_,_,_],_=>rfl)⟩ F
end jL
theorem PySem.W.Fast.tw7813004381459413288:True:=trivial
theorem PySem.W.Fast.tw737857157263919720:True:=trivial
theorem PySem.W.Fast.tw10107164857701174701:True:=trivial
theorem PySem.W.Fast.tw4864969103104407798:True:=trivial
theorem PySem.W.Fast.tw16639792466610353286:True:=trivial
theorem PySem.W.Fast.tw14988011283057466453:True:=trivial
theorem PySem.W.Fast.tw4859270204645378848:True:=trivial
theorem PySem.W.Fast.tw190952694588786291:True:=trivial
theorem PySem.W.Fast.tw8374763087245218719:True:=trivial
theorem PySem.W.Fast.tw8882462373919601286:True:=trivial
theorem PySem.W.Fast.tw15976535846968286941:True:=trivial
theorem PySem.W.Fast.tw3477095933279075648:True:=trivial
theorem PySem.W.Fast.tw14441063437585475848:True:=trivial
theorem PySem.W.Fast.tw14488180487399883717:True:=trivial
theorem PySem.W.Fast.tw2437462379490071882:True:=trivial
theorem PySem.W.Fast.tw18258312072518348387:True:=trivial
theorem PySem.W.Fast.tw3329652443971814909:True:=trivial
theorem PySem.W.Fast.tw15959229803128742623:True:=trivial
theorem PySem.W.Fast.tw16709122566515348424:True:=trivial
theorem PySem.W.Fast.tw16157101438585448260:True:=trivial
theorem PySem.W.Fast.tw2593345148109443466:True:=trivial
theorem PySem.W.Fast.tw14768776291215930406:True:=trivial
theorem PySem.W.Fast.tw9051741373256090514:True:=trivial
theorem PySem.W.Fast.tw17524855017206892035:True:=trivial
theorem PySem.W.Fast.tw2493967695105941421:True:=trivial
theorem PySem.W.Fast.tw15542255634552593860:True:=trivial
theorem PySem.W.Fast.tw18268701131421450778:True:=trivial
theorem PySem.W.Fast.tw967267525849319999:True:=trivial
theorem PySem.W.Fast.tw10847351257916064424:True:=trivial
theorem PySem.W.Fast.tw14148782526313873744:True:=trivial
theorem PySem.W.Fast.tw12740246423413695669:True:=trivial
theorem PySem.W.Fast.tw13786264646550345821:True:=trivial
theorem PySem.W.Fast.tw14900725270438786207:True:=trivial
theorem PySem.W.Fast.tw13497906378785725662:True:=trivial
theorem PySem.W.Fast.tw12303798626199376313:True:=trivial
theorem PySem.W.Fast.tw3553250967564399283:True:=trivial
theorem PySem.W.Fast.tw2574229853897716:True:=trivial
theorem PySem.W.Fast.tw15037825371232448580:True:=trivial
theorem PySem.W.Fast.tw3951672415202149565:True:=trivial
theorem PySem.W.Fast.tw16904636015563769510:True:=trivial
theorem PySem.W.Fast.tw16964138467534901556:True:=trivial
theorem PySem.W.Fast.tw17396023543744942412:True:=trivial
theorem PySem.W.Fast.tw16955231830193723824:True:=trivial
theorem PySem.W.Fast.tw6081143786246810844:True:=trivial
theorem PySem.W.Fast.tw7255519755932017410:True:=trivial
theorem PySem.W.Fast.tw9896359702069071110:True:=trivial
theorem PySem.W.Fast.tw200821503703849547:True:=trivial
theorem PySem.W.Fast.tw1082633037044272725:True:=trivial
theorem PySem.W.Fast.tw15045640753106878364:True:=trivial
theorem PySem.W.Fast.tw11900748474437249451:True:=trivial
theorem PySem.W.Fast.tw2546249919377564195:True:=trivial
theorem PySem.W.Fast.tw10023838335132302220:True:=trivial
theorem PySem.W.Fast.tw10314331342391533627:True:=trivial
theorem PySem.W.Fast.tw17021095317023568175:True:=trivial
theorem PySem.W.Fast.tw14802570426665231005:True:=trivial
open PySem PySem.W PyProof.Rows
set_option maxRecDepth 100000 in
set_option maxHeartbeats 0 in
theorem PySem.Challenge.cw_soundrules_k74_orders_written_holds : PySem.Challenge.rw_soundrules_k74_orders_written.Holds := by
 w_on;o_law;k_head;(case hw=>w_witness2)
 k_fill
 refine Ev.af8 (l:=PySem.Challenge.rw_soundrules_k74_orders_written) (k:=10) (x:="_law_script") (f:=jL.P0) rfl (by decide) rfl ⟨rfl,by decide,by decide⟩ (λw h Y=>PySem.W.kIn_of Y) jL.TV ?F
 case F=>
  intro w mg fa h KX G hmg
  refine' jL.all_mk KX G hmg ?u6 ?abn ?Ti ?Hg ?u5 ?abm ?Th ?abl ?abk ?Nv ?abj ?Hf ?abi ?abh ?Nu ?rW ?sX ?gF ?Al ?Ak ?uK ?Aj ?uJ ?d9 ?ql ?yc ?xo ?Kw ?Ky ?xu ?KC ?Kv ?KD ?KH ?Kz ?dz ?oO ?oM ?oN ?xf ?wZ ?qW ?wY ?qU ?wX ?uo ?oR ?uN ?Mu ?qu ?uM ?Gg ?jZ ?Mt ?mK ?Qp ?Ej ?yL ?yM ?qN ?uf ?um ?yV ?Ei ?Bw ?yO ?wH ?wI ?yN ?wK ?wL ?wM ?wJ ?wN ?yU ?Bv ?Br ?nQ ?yP ?wO ?yQ ?uh ?Bu ?yS ?pL ?qM ?pM ?Bt ?ug ?Eh ?oK ?yR ?ach
  (case rW=>(intro d;cases d with|clo=>(show PySem.W.kitOne _ (.type "NoneType") (.type "bool")=some false;kit_is)|non=>(show PySem.W.kitOne _ (.type "NoneType") (.type "bool")=some false;kit_is)|bl=>(show PySem.W.kitOne _ (.type "bool") (.type "bool")=some true;kit_is)|int=>(show PySem.W.kitOne _ (.type "int") (.type "bool")=some false;kit_is)|str=>(show PySem.W.kitOne _ (.type "str") (.type "bool")=some false;kit_is)|tup=>(show PySem.W.kitOne _ (.type "tuple") (.type "bool")=some false;kit_is)|lst=>(show PySem.W.kitOne _ (.type "list") (.type "bool")=some false;kit_is)|arr=>(show PySem.W.kitOne _ (.type "list") (.type "bool")=some false;kit_is)|dct=>(show PySem.W.kitOne _ (.type "dict") (.type "bool")=some false;kit_is)|mR=>(show PySem.W.kitOne _ (.type "dict") (.type "bool")=some false;kit_is)))
  (case sX=>(intro d;cases d with|clo=>(show PySem.W.kitOne _ (.type "NoneType") (.type "str")=some false;kit_is)|non=>(show PySem.W.kitOne _ (.type "NoneType") (.type "str")=some false;kit_is)|bl=>(show PySem.W.kitOne _ (.type "bool") (.type "str")=some false;kit_is)|int=>(show PySem.W.kitOne _ (.type "int") (.type "str")=some false;kit_is)|str=>(show PySem.W.kitOne _ (.type "str") (.type "str")=some true;kit_is)|tup=>(show PySem.W.kitOne _ (.type "tuple") (.type "str")=some false;kit_is)|lst=>(show PySem.W.kitOne _ (.type "list") (.type "str")=some false;kit_is)|arr=>(show PySem.W.kitOne _ (.type "list") (.type "str")=some false;kit_is)|dct=>(show PySem.W.kitOne _ (.type "dict") (.type "str")=some false;kit_is)|mR=>(show PySem.W.kitOne _ (.type "dict") (.type "str")=some false;kit_is)))
  (case gF=>(intro d;cases d with|clo=>(show PySem.W.kitOne _ (.type "NoneType") (.type "tuple")=some false;kit_is)|non=>(show PySem.W.kitOne _ (.type "NoneType") (.type "tuple")=some false;kit_is)|bl=>(show PySem.W.kitOne _ (.type "bool") (.type "tuple")=some false;kit_is)|int=>(show PySem.W.kitOne _ (.type "int") (.type "tuple")=some false;kit_is)|str=>(show PySem.W.kitOne _ (.type "str") (.type "tuple")=some false;kit_is)|tup=>(show PySem.W.kitOne _ (.type "tuple") (.type "tuple")=some true;kit_is)|lst=>(show PySem.W.kitOne _ (.type "list") (.type "tuple")=some false;kit_is)|arr=>(show PySem.W.kitOne _ (.type "list") (.type "tuple")=some false;kit_is)|dct=>(show PySem.W.kitOne _ (.type "dict") (.type "tuple")=some false;kit_is)|mR=>(show PySem.W.kitOne _ (.type "dict") (.type "tuple")=some false;kit_is)))
  (case Al=>k_is)
  (case Ak=>k_is)
  (case uK=>k_is)
  (case Aj=>k_is)
  (case uJ=>k_is)
  (case d9=>k_is)
  (case ql=>k_is)
  (case yc=>k_is)
  (case xo=>k_is)
  (case Kw=>k_is)
  (case Ky=>k_is)
  (case xu=>k_exc)
  (case KC=>k_is)
  (case Kv=>k_is)
  (case KD=>k_is)
  (case KH=>k_is)
  (case Kz=>k_is)
  (case dz=>(refine' XC.Cl.mk ?ahJ ?ahG ?ahY ?ahg ?ah1<;>k_is))
  (case oO=>(refine' XC.Cl.mk ?aal ?aai ?aaJ ?ZQ ?aaV<;>k_is))
  (case oM=>k_is)
  (case oN=>k_is)
  (case xf=>kit_is)
  (case wZ=>kit_is)
  (case qW=>kit_is)
  (case wY=>kit_is)
  (case qU=>kit_is)
  (case wX=>kit_is)
  (case uo=>kit_is)
  (case oR=>kit_is)
  (case uN=>k_is)
  (case Mu=>k_is)
  (case qu=>k_is)
  (case uM=>k_is)
  (case Gg=>k_is)
  (case jZ=>k_is)
  (case Mt=>k_is)
  (case mK=>k_is)
  all_goals first|k_is|(refine' Ev.FA.mk ?a ?l ?c ?k;(case a=>k_is);(case l=>k_is);(case c=>k_is);(case k=>k_is))|(refine' Ev.FC.mk ?a ?l ?c ?k ?lc ?v;(case a=>k_is);(case l=>k_is);(case c=>k_is);(case k=>k_is);(case lc=>k_is);(case v=>exact rfl))

