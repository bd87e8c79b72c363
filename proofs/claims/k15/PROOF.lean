import PyProof.Rows.All
import Wide.All
import OpenK.AllK
import Wide.FinOn
import Lean
import PyProof.EqAt
import PyProof.EqKinds
import PyProof.TupleCall
import PyProof.TupleKey
import PyProof.DictRoadsH
import PyProof.FactsAll.bool_1
import PyProof.AttrMissHeap
import KE.KDictOf
import PyProof.ListMulRoad
import PyProof.FactsAll.tuple_2
import KE.KSortTup
import PyProof.TupleOfSeq
import PyProof.Rows.SortRuns
import PyProof.ListRange
import PyProof.DictTable
import PyProof.Rows.TupTab
import PyProof.FactsAll.range_1
import KE.KDictList
import PyProof.SetRoads
import PyProof.DictTruth
import PyProof.RulesTry
import KE.KTryDeep
import KE.KIsAll
import PyProof.ExcArgsOwn
import PyProof.ExcAttrAll.ValueError
import PyProof.FString
import PySem.Challenge.RW_soundrules_k15_all_standings
noncomputable section
set_option Elab.async false
set_option linter.all false
set_option maxRecDepth 100000
set_option maxHeartbeats 4000000
theorem Qqq:type_of% @PySem.wpAny_bind:=@PySem.wpAny_bind
theorem Qqx:type_of% @Array.length_toList:=@Array.length_toList
theorem Qqz:type_of% @PySem.Heap.get?_push_of_some:=@PySem.Heap.get?_push_of_some
theorem Qqj:type_of% @List.mem_cons_self:=@List.mem_cons_self
theorem Qqk:type_of% @List.mem_cons_of_mem:=@List.mem_cons_of_mem
theorem Qqv:type_of% @List.length_map:=@List.length_map
theorem Qqw:type_of% @List.length_cons:=@List.length_cons
theorem Qqy:type_of% @List.getElem?_eq_getElem:=@List.getElem?_eq_getElem
theorem Qq0:type_of% @Nat.le_refl:=@Nat.le_refl
theorem Qq1:type_of% @List.length_append:=@List.length_append
theorem Qq2:type_of% @PySem.wpAny_pure:=@PySem.wpAny_pure
theorem Qq3:type_of% @List.size_toArray:=@List.size_toArray
theorem Qq4:type_of% @Nat.le_trans:=@Nat.le_trans
theorem Qq5:type_of% @List.mem_singleton:=@List.mem_singleton
theorem Qq6:type_of% @List.getElem?_eq_some_iff:=@List.getElem?_eq_some_iff
theorem Qq7:type_of% @List.mem_cons:=@List.mem_cons
theorem Qq8:type_of% @List.getElem?_set_ne:=@List.getElem?_set_ne
theorem Qq9:type_of% @PySem.Heap.lt_size:=@PySem.Heap.lt_size
theorem Qwq:type_of% @Nat.lt_of_lt_of_le:=@Nat.lt_of_lt_of_le
theorem Qwx:type_of% @decide_eq_false:=@decide_eq_false
theorem Qwz:type_of% @PySem.Heap.get?_push_size:=@PySem.Heap.get?_push_size
theorem Qwj:type_of% @List.append_assoc:=@List.append_assoc
theorem Qwk:type_of% @List.getD_eq_getElem?_getD:=@List.getD_eq_getElem?_getD
theorem Qwv:type_of% @List.map_cons:=@List.map_cons
theorem Qww:type_of% @List.getElem?_set_self:=@List.getElem?_set_self
theorem Qwy:type_of% @decide_eq_true:=@decide_eq_true
theorem Qw0:type_of% @List.append_nil:=@List.append_nil
theorem Qw1:type_of% @Option.some.inj:=@Option.some.inj
theorem Qw2:type_of% @Option.map_eq_some_iff:=@Option.map_eq_some_iff
theorem Qw3:type_of% @List.length_take:=@List.length_take
theorem Qw4:type_of% @List.mem_append:=@List.mem_append
theorem Qw5:type_of% @List.not_mem_nil:=@List.not_mem_nil
theorem Qw6:type_of% @Nat.ne_of_lt:=@Nat.ne_of_lt
theorem Qw7:type_of% @Option.some.injEq:=@Option.some.injEq
theorem Qw8:type_of% @List.length_set:=@List.length_set
theorem Qw9:type_of% @List.mem_map:=@List.mem_map
theorem Qxq:type_of% @Nat.lt_of_le_of_lt:=@Nat.lt_of_le_of_lt
theorem Qxx:type_of% @List.mem_append_right:=@List.mem_append_right
theorem Qxz:type_of% @congrArg:=@congrArg
theorem Qxj:type_of% @List.length_drop:=@List.length_drop
theorem Qxk:type_of% @Bool.false_ne_true:=@Bool.false_ne_true
theorem Qxv:type_of% @Nat.le_of_lt:=@Nat.le_of_lt
theorem Qxw:type_of% @List.getElem?_append_left:=@List.getElem?_append_left
theorem Qxy:type_of% @Nat.zero_le:=@Nat.zero_le
theorem Qx0:type_of% @List.length_singleton:=@List.length_singleton
theorem Qx1:type_of% @List.getElem?_map:=@List.getElem?_map
theorem Qx2:type_of% @of_decide_eq_true:=@of_decide_eq_true
theorem Qx3:type_of% @List.mem_append_left:=@List.mem_append_left
theorem Qx4:type_of% @Option.bind_eq_some_iff:=@Option.bind_eq_some_iff
theorem Qx5:type_of% @PySem.Heap.size_push:=@PySem.Heap.size_push
theorem Qx6:type_of% @List.all_eq_true:=@List.all_eq_true
theorem Qx7:type_of% @List.getElem_mem:=@List.getElem_mem
theorem Qx8:type_of% @PySem.wpAny_mono:=@PySem.wpAny_mono
theorem Qx9:type_of% @List.nodup_cons:=@List.nodup_cons
theorem Qzq:type_of% @List.lookup_cons:=@List.lookup_cons
theorem Qzx:type_of% @PySem.wpAny_call_entry:=@PySem.wpAny_call_entry
theorem Qzz:type_of% @List.drop_eq_getElem_cons:=@List.drop_eq_getElem_cons
theorem Qzj:type_of% @Nat.lt_irrefl:=@Nat.lt_irrefl
theorem Qzk:type_of% @List.length_replicate:=@List.length_replicate
theorem Qzv:type_of% @List.find?_cons:=@List.find?_cons
theorem Qzw:type_of% @Array.getElem?_toList:=@Array.getElem?_toList
theorem Qzy:type_of% @PySem.wpAny_holding:=@PySem.wpAny_holding
theorem Qz0:type_of% @PySem.wpAny_callSpecial?_slot:=@PySem.wpAny_callSpecial?_slot
theorem Qz1:type_of% @PySem.wpAny_newObj_type:=@PySem.wpAny_newObj_type
theorem Qz2:type_of% @List.getElem?_append_right:=@List.getElem?_append_right
theorem Qz3:type_of% @List.pairwise_cons:=@List.pairwise_cons
theorem Qz4:type_of% @List.map_append:=@List.map_append
theorem Qz5:type_of% @Bool.and_eq_true:=@Bool.and_eq_true
theorem Qz6:type_of% @beq_eq_false_iff_ne:=@beq_eq_false_iff_ne
theorem Qz7:type_of% @Option.isSome_iff_exists:=@Option.isSome_iff_exists
theorem Qz8:type_of% @List.length_nil:=@List.length_nil
theorem Qz9:type_of% @PySem.wpAny_field:=@PySem.wpAny_field
theorem Qjq:type_of% @List.getElem?_replicate:=@List.getElem?_replicate
theorem Qjx:type_of% @Int.toNat_natCast:=@Int.toNat_natCast
theorem Qjz:type_of% @List.length_reverse:=@List.length_reverse
theorem Qjj:type_of% @List.filterMap_cons:=@List.filterMap_cons
theorem Qjk:type_of% @or_false:=@or_false
theorem Qjv:type_of% @List.getElem?_take_of_lt:=@List.getElem?_take_of_lt
theorem Qjw:type_of% @Nat.le_add_right:=@Nat.le_add_right
theorem Qjy:type_of% @List.eq_nil_of_length_eq_zero:=@List.eq_nil_of_length_eq_zero
theorem Qj0:type_of% @PySem.sizeLine_eq:=@PySem.sizeLine_eq
theorem Qj1:type_of% @List.mem_of_getElem?:=@List.mem_of_getElem?
theorem Qj2:type_of% @List.map_map:=@List.map_map
theorem Qj3:type_of% @PySem.wpAny_seqItems:=@PySem.wpAny_seqItems
theorem Qj4:type_of% @PyProof.Rows.callWith_type1:=@PyProof.Rows.callWith_type1
theorem Qj5:type_of% @List.map_congr_left:=@List.map_congr_left
theorem Qj6:type_of% @List.mem_flatMap:=@List.mem_flatMap
theorem Qj7:type_of% @List.getElem?_toArray:=@List.getElem?_toArray
theorem Qj8:type_of% @PySem.wpAny_setField_rec:=@PySem.wpAny_setField_rec
theorem Qj9:type_of% @Nat.le_of_ble_eq_true:=@Nat.le_of_ble_eq_true
theorem Qkq:type_of% @List.forIn_nil:=@List.forIn_nil
theorem Qkx:type_of% @PySem.wpAny_passesOwn:=@PySem.wpAny_passesOwn
theorem Qkz:type_of% @Nat.ne_of_gt:=@Nat.ne_of_gt
theorem Qkj:type_of% @PySem.mem_of_lookup:=@PySem.mem_of_lookup
theorem Qkk:type_of% @PySem.wpAny_rule:=@PySem.wpAny_rule
theorem Qkv:type_of% @Nat.not_lt_zero:=@Nat.not_lt_zero
theorem Qkw:type_of% @List.forIn_cons:=@List.forIn_cons
theorem Qky:type_of% @Bool.eq_iff_iff:=@Bool.eq_iff_iff
theorem Qk0:type_of% @List.nil_append:=@List.nil_append
theorem Qk1:type_of% @Nat.lt_succ_of_lt:=@Nat.lt_succ_of_lt
theorem Qk2:type_of% @Nat.le_of_succ_le:=@Nat.le_of_succ_le
theorem Qk3:type_of% @PySem.W.mg_of:=@PySem.W.mg_of
theorem Qk4:type_of% @if_false:=@if_false
abbrev ju(x:PySem.Str):Prop:=(x == ("__debug__" : PySem.Str))=false
abbrev vG(x:PySem.Str):Prop:=(x == ("__classdict__" : PySem.Str))=false
open PySem PySem.Spec PyProof.Rows in
abbrev Ed(e:Expr)(E:PySem.Env):Prop:=starEach [e] E=(false,eval e E)::starEach [] E
namespace L2
open PySem PySem.Spec PyProof.Rows
inductive NK where
 | num (i:Int)
 | txt (x:Str)
 | tup (xs:List NK)
noncomputable instance:DecidableEq NK:=λ_ _=>Classical.propDecidable _
mutual
noncomputable def zZ(h:Heap):NK->Value->Prop
 | .num i,v=>(∃t,v = .int i t)\/∃b:Bool,v = .bool b/\i=if b then 1 else 0
 | .txt x,v=>∃t,v = .str x t
 | .tup ks,v=>∃a o items n,v = .ref a/\h.get? a=some o/\o.cls = .type "tuple"/\o.data = .seq items n/\mQ h ks items.toList
noncomputable def mQ(h:Heap):List NK->List Value->Prop
 | [],vs=>vs=[]
 | k::ks,vs=>∃v r,vs=v::r/\zZ h k v/\mQ h ks r
end
mutual
noncomputable def NK.dep:NK->Nat
 | .num _=>0
 | .txt _=>0
 | .tup ks=>1+NK.rJ ks
noncomputable def NK.rJ:List NK->Nat
 | []=>0
 | k::ks=>max (NK.dep k) (NK.rJ ks)
end
mutual
noncomputable def NK.draws:NK->Nat
 | .num _=>1
 | .txt _=>1
 | .tup ks=>NK.oE ks+1
noncomputable def NK.oE:List NK->Nat
 | []=>0
 | k::ks=>NK.draws k+NK.oE ks
end
section
variable(P:Program)(w:World)
mutual
noncomputable def NK.hash:NK->Int
 | .num i=>hashInt i
 | .txt x=>(strKind P w).hash x
 | .tup ks=>reduceHash (Builtin.Tuple.tupleHashOf (NK.hashes ks))
noncomputable def NK.hashes:List NK->List Int
 | []=>[]
 | k::ks=>NK.hash k::NK.hashes ks
end
end
theorem mQ.length{h:Heap}:∀{ks:List NK} {vs:List Value},mQ h ks vs->vs.length=ks.length
 | [],_,e=>by cases e;rfl
 | k::ks,_,e=>by obtain⟨v,r,rfl,_,q⟩:=e;rw[Qqw,Qqw,q.length]
theorem mQ.get{h:Heap}:∀{ks:List NK} {vs:List Value} {j:Nat} {v:Value},mQ h ks vs->vs[j]? = some v->∃k,ks[j]? = some k/\zZ h k v
 | [],_,_,_,e,g=>by cases e;simp at g
 | k::ks,_,j,v,e,g=>by
  obtain⟨u,r,rfl,h1,h2⟩:=e;cases j with
  | zero=>simp at g;subst g;exact⟨k,rfl,h1⟩
  | succ j=>obtain⟨k',e1,e2⟩:=mQ.get h2 (j:=j) (by simpa using g);exact⟨k',by simpa using e1,e2⟩
theorem NK.zy:∀{ks:List NK} {j:Nat} {k:NK},ks[j]? = some k->k.dep<=NK.rJ ks
 | [],_,_,e=>by simp at e
 | c::ks,j,k,e=>by
  unfold NK.rJ;cases j with
  | zero=>simp at e;subst e;exact Nat.le_max_left _ _
  | succ j=>exact Qq4 (NK.zy (j:=j) (by simpa using e)) (Nat.le_max_right _ _)
mutual
theorem zZ.inj{h:Heap}:∀{x y:NK} {v:Value},zZ h x v->zZ h y v->x=y
 | .num i,.num j,v,a,b=>by
  rcases a with ⟨t,rfl⟩|⟨c,rfl,rfl⟩
  ·rcases b with ⟨t',e⟩|⟨c,e,_⟩
   ·cases e;rfl
   ·cases e
  ·rcases b with ⟨t',e⟩|⟨c,e,rfl⟩
   ·cases e
   ·cases e;rfl
 | .num i,.txt x,v,a,b=>by obtain⟨t,rfl⟩:=b;rcases a with ⟨t',e⟩|⟨c,e,_⟩<;>cases e
 | .num i,.tup ks,v,a,b=>by obtain⟨_,_,_,_,rfl,_⟩:=b;rcases a with ⟨t',e⟩|⟨c,e,_⟩<;>cases e
 | .txt x,.num i,v,a,b=>by obtain⟨t,rfl⟩:=a;rcases b with ⟨t',e⟩|⟨c,e,_⟩<;>cases e
 | .txt x,.txt y,v,a,b=>by obtain⟨t,rfl⟩:=a;obtain⟨t',e⟩:=b;cases e;rfl
 | .txt x,.tup ks,v,a,b=>by obtain⟨t,rfl⟩:=a;obtain⟨_,_,_,_,e,_⟩:=b;cases e
 | .tup ks,.num i,v,a,b=>by obtain⟨_,_,_,_,rfl,_⟩:=a;rcases b with ⟨t',e⟩|⟨c,e,_⟩<;>cases e
 | .tup ks,.txt y,v,a,b=>by obtain⟨_,_,_,_,rfl,_⟩:=a;obtain⟨t',e⟩:=b;cases e
 | .tup ks,.tup ls,v,a,b=>by
  obtain⟨p,o,items,n,rfl,h1,_,h3,h4⟩:=a;obtain⟨p',o',items',n',e,h1',_,h3',h4'⟩:=b;cases e;rw[h1] at h1';cases h1';rw[h3] at h3';cases h3';rw[mQ.inj h4 h4']
theorem mQ.inj{h:Heap}:∀{x y:List NK} {v:List Value},mQ h x v->mQ h y v->x=y
 | [],[],_,_,_=>rfl
 | [],k::ks,_,a,b=>by cases a;obtain⟨_,_,e,_⟩:=b;cases e
 | k::ks,[],_,a,b=>by cases b;obtain⟨_,_,e,_⟩:=a;cases e
 | k::ks,l::ls,_,a,b=>by
  obtain⟨v,r,rfl,h1,h2⟩:=a;obtain⟨v',r',e,h1',h2'⟩:=b;cases e;rw[zZ.inj h1 h1',mQ.inj h2 h2']
end
mutual
theorem zZ.keeps{h h':Heap}{d:Addr}{o:Obj}{es ep}(ho:h.get? d=some o)(hd:o.data = .dict es ep)(hs:Heap.SameBut d h h'):∀{k:NK} {v:Value},zZ h k v->zZ h' k v
 | .num _,_,e=>e
 | .txt _,_,e=>e
 | .tup ks,_,e=>by
  obtain⟨a,o',items,n,rfl,h1,h2,h3,h4⟩:=e;have hne:a≠d:=by rintro rfl;rw[h1] at ho;cases ho;rw[h3] at hd;cases hd
  exact⟨a,o',items,n,rfl,(hs.2 a hne).trans h1,h2,h3,mQ.keeps ho hd hs h4⟩
theorem mQ.keeps{h h':Heap}{d:Addr}{o:Obj}{es ep}(ho:h.get? d=some o)(hd:o.data = .dict es ep)(hs:Heap.SameBut d h h'):∀{ks:List NK} {vs:List Value},mQ h ks vs->mQ h' ks vs
 | [],_,e=>e
 | k::ks,_,e=>by obtain⟨v,r,rfl,h1,h2⟩:=e;exact⟨v,r,rfl,zZ.keeps ho hd hs h1,mQ.keeps ho hd hs h2⟩
end
section
variable{P:Program}{w:World}
theorem Nv{A:Around}{E:Value->Shared->Prop}{s:Shared}{b:Bool}{Q:Int->Shared->Prop}(h:Q (hashInt (if b then 1 else 0)) { s with toks:=s.toks+1 }):wpAny (model P w) A (pyHash (.bool b)) Q E s:=by
 have hT:s.TypeIs (.bool b) "bool":=rfl;have hr:=rawHash_range (if b then 1 else 0);unfold pyHash;have hv:[Value.bool b].any Value.onHeap=false:=rfl;refine Qqq ?_;rw[cRoomFor,if_neg (by rw[hv];exact Qxk)];refine Qq2 ?_;refine Qqq (wpAny_specialOf hT F.slot_bool_hash.lookup ?_);show wpAny _ _ (if (some (Value.builtin "int.__hash__") == some Value.none)=true then _ else _) Q E s;rw[if_neg (by rw[beq_builtin_none];exact Qxk)];refine Qqq (wpAny_specialOf hT F.slot_bool_hash.lookup ?_);show wpAny _ _ (callSpecialIfBoundUnlessNone? (.bool b) "__hash__" _ >>= _) Q E s;refine Qqq (wpAny_callSpecialIfBoundUnlessNone?_slot hT F.slot_bool_hash
  (Qzx F.slot_bool_hash hT entry_int_hash
   (show wpAny _ _ (do ret (<-mkInt (rawHash (if b then 1 else 0)))) _ _ s from wpAny_ret_mkInt ?_) (args_int_hash _)))
 show wpAny _ _ (if (decide (-(2:Int)^63<=rawHash (if b then 1 else 0))&&decide (rawHash (if b then 1 else 0)<2^63))=true then _ else _) Q E _;rw[if_pos (by rw[Qwy hr.1,Qwy hr.2];rfl)];exact Qq2 h
mutual
theorem Rf:∀(k:NK) (v:Value) (A:Around) (E:Value->Shared->Prop) (s:Shared) (Q:Int->Shared->Prop),A.units+k.dep<cLine->zZ s.heap k v->Q (k.hash P w) { s with toks:=s.toks+k.draws }->wpAny (model P w) A (pyHash v) Q E s
 | .num i,v,A,E,s,Q,hu,e,h=>by
  rcases e with ⟨t,rfl⟩|⟨b,rfl,rfl⟩
  ·exact wpAny_pyHash_int h
  ·exact Nv h
 | .txt x,v,A,E,s,Q,hu,e,h=>by
  obtain⟨t,rfl⟩:=e;exact wpAny_pyHash_str h
 | .tup ks,v,A,E,s,Q,hu,e,h=>by
  obtain⟨a,o,items,n,rfl,ho,hc,hd,hi⟩:=e;have hT:s.TypeIs (.ref a) "tuple":=⟨o,ho,hc⟩;have aa2:(NK.tup ks).dep=1+NK.rJ ks:=by rw[NK.dep]
  rw[aa2] at hu;have hu0:A.units<cLine:=by omega
  have hin:A.in1.units+NK.rJ ks<cLine:=by show A.units+1+NK.rJ ks<cLine;omega
  unfold pyHash
  first|unfold pyHashByItsType|skip
  first|refine Qqq (wpAny_cRoomFor_or (.inr hu0) ?_)|skip
  refine Qqq (wpAny_specialOf hT F.slot_tuple_hash.lookup ?_);show wpAny _ _ (if (some (Value.builtin "tuple.__hash__") == some Value.none)=true then _ else _) Q E s;rw[if_neg (by rw[beq_builtin_none];exact Qxk)];refine Qqq (wpAny_specialOf hT F.slot_tuple_hash.lookup ?_);show wpAny _ _ (callSpecialIfBoundUnlessNone? (.ref a) "__hash__" _ >>= _) Q E s;refine Qqq (wpAny_callSpecialIfBoundUnlessNone?_slot hT F.slot_tuple_hash (Qzx F.slot_tuple_hash hT F.entry_tuple_hash ?_ (F.args_tuple_hash_1 _)));show wpAny _ _ (Builtin.Tuple.tupleItemsOf (.ref a) >>= _) _ _ s;refine Qqq (wpAny_tupleItemsOf ho hd ?_);refine Qqq ?_;rw[<-Array.forIn_toList];refine Gi ks items.toList A.in1 _ s _ _ #[] hin hi (λx b s' R q=>?_) ?_
  ·first
    | exact Qqq (Qx8 q (λz s2 hz=>Qq2 hz) λ_ _ z=>z)
    | exact Qqq (Qx8 q (λz s2 hz=>Qqq (Qq2 (Qq2 hz))) λ_ _ z=>z)
  ·show wpAny _ _ (retInt (Builtin.Tuple.tupleHashOf ((#[]:Array Int).toList++NK.hashes P w ks))) _ _ _;have hh:(NK.tup ks).hash P w=reduceHash (Builtin.Tuple.tupleHashOf (NK.hashes P w ks)):=by rw[NK.hash]
   have hdr:(NK.tup ks).draws=NK.oE ks+1:=by rw[NK.draws]
   rw[hh,hdr] at h;rw[show(#[]:Array Int).toList++NK.hashes P w ks=NK.hashes P w ks from rfl];refine wpAny_ret_mkInt ?_;show wpAny _ _ (if (decide (-(2:Int)^63<=Builtin.Tuple.tupleHashOf (NK.hashes P w ks))&&decide (Builtin.Tuple.tupleHashOf (NK.hashes P w ks)<2^63))=true then _ else _) Q E _;unfold reduceHash at h;by_cases hr:(decide (-(2:Int)^63<=Builtin.Tuple.tupleHashOf (NK.hashes P w ks))&&decide (Builtin.Tuple.tupleHashOf (NK.hashes P w ks)<2^63))=true
   ·rw[if_pos hr];rw[if_pos hr] at h;exact Qq2 (by simpa[Nat.add_assoc] using h)
   ·rw[if_neg hr];rw[if_neg hr] at h;exact Qqq (Qkk (Qq2 (by simpa[Nat.add_assoc] using h)))
theorem Gi:∀(ks:List NK) (vs:List Value) (A:Around) (E:Value->Shared->Prop) (s:Shared) (body:Value->Array Int->Sem (ForInStep (Array Int))) (Q:Array Int->Shared->Prop) (acc:Array Int),A.units+NK.rJ ks<cLine->mQ s.heap ks vs->
  (∀x b s' (R:ForInStep (Array Int)->Shared->Prop),wpAny (model P w) A (pyHash x) (λz s2=>R (.yield (b.push z)) s2) E s'->wpAny (model P w) A (body x b) R E s')->
  Q (acc.toList++NK.hashes P w ks).toArray { s with toks:=s.toks+NK.oE ks }->wpAny (model P w) A (forIn vs acc body) Q E s
 | [],vs,A,E,s,body,Q,acc,hu,e,hb,q=>by
  cases e;rw[Qkq];refine Qq2 ?_;have:(acc.toList++NK.hashes P w []).toArray=acc:=by rw[NK.hashes];simp
  rw[this] at q;have e0:NK.oE []=0:=by rw[NK.oE]
  rw[e0] at q;exact q
 | k::ks,vs,A,E,s,body,Q,acc,hu,e,hb,q=>by
  obtain⟨v,r,rfl,h1,h2⟩:=e;have aa2:NK.rJ (k::ks)=max k.dep (NK.rJ ks):=by rw[NK.rJ]
  rw[aa2] at hu;rw[Qkw];refine Qqq (hb v acc s _ (Rf k v A E s _ (by omega) h1 ?_));refine Gi ks r A E { s with toks:=s.toks+k.draws } body Q (acc.push (k.hash P w)) (by omega) h2 hb ?_;have e1:NK.hashes P w (k::ks)=k.hash P w::NK.hashes P w ks:=by rw[NK.hashes]
  have e2:NK.oE (k::ks)=k.draws+NK.oE ks:=by rw[NK.oE]
  rw[e1,e2] at q
  simpa[Nat.add_assoc] using q
end
theorem adG:∀(n:Nat) (x y:NK) (u v:Value) (A:Around) (s:Shared),x.dep<=n->A.units+n+1<cLine->zZ s.heap x u->zZ s.heap y v->SeqAt.EqAt A s u v (decide (x=y))
 | n,.num i,.num j,u,v,A,s,hn,hu,hx,hy=>by
  have e:decide (NK.num i=NK.num j)=(i == j):=by rw[Qky];simp
  rw[e];rcases hx with ⟨t,rfl⟩|⟨b,rfl,rfl⟩
  ·rcases hy with ⟨t',rfl⟩|⟨c,rfl,rfl⟩
   ·exact SeqAt.EqAt.int_int i t j t'
   ·exact SeqAt.EqAt.int_bool i t c
  ·rcases hy with ⟨t',rfl⟩|⟨c,rfl,rfl⟩
   ·exact SeqAt.EqAt.bool_int b j t'
   ·have:((if b then (1:Int) else 0) == (if c then 1 else 0))=(b == c):=by cases b<;>cases c<;>rfl
    rw[this];exact SeqAt.EqAt.bool_bool b c
 | n,.num i,.txt z,u,v,A,s,hn,hu,hx,hy=>by
  rw[Qwx (λe=>by cases e)];obtain⟨t,rfl⟩:=hy;rcases hx with ⟨t',rfl⟩|⟨b,rfl,rfl⟩
  ·exact SeqAt.EqAt.int_str i t' _ t
  ·exact SeqAt.EqAt.bool_str b _ t
 | n,.num i,.tup ks,u,v,A,s,hn,hu,hx,hy=>by
  rw[Qwx (λe=>by cases e)];obtain⟨a,o,items,m,rfl,h1,h2,h3,_⟩:=hy;have p:s.heap.IsTuple a items:=⟨o,h1,h2,m,h3⟩;rcases hx with ⟨t',rfl⟩|⟨b,rfl,rfl⟩
  ·exact SeqAt.EqAt.int_tuple i t' p (by omega)
  ·exact SeqAt.EqAt.bool_tuple b p (by omega)
 | n,.txt z,.num i,u,v,A,s,hn,hu,hx,hy=>by
  rw[Qwx (λe=>by cases e)];obtain⟨t,rfl⟩:=hx;rcases hy with ⟨t',rfl⟩|⟨b,rfl,rfl⟩
  ·exact SeqAt.EqAt.str_int _ t i t'
  ·exact SeqAt.EqAt.str_bool _ t b
 | n,.txt z,.txt z',u,v,A,s,hn,hu,hx,hy=>by
  have e:decide (NK.txt z=NK.txt z')=(z == z'):=by rw[Qky];simp
  rw[e];obtain⟨t,rfl⟩:=hx;obtain⟨t',rfl⟩:=hy;exact SeqAt.EqAt.str_str _ t _ t'
 | n,.txt z,.tup ks,u,v,A,s,hn,hu,hx,hy=>by
  rw[Qwx (λe=>by cases e)];obtain⟨t,rfl⟩:=hx;obtain⟨a,o,items,m,rfl,h1,h2,h3,_⟩:=hy;have p:s.heap.IsTuple a items:=⟨o,h1,h2,m,h3⟩;exact SeqAt.EqAt.str_tuple _ t p (by omega)
 | n,.tup ks,.num i,u,v,A,s,hn,hu,hx,hy=>by
  rw[Qwx (λe=>by cases e)];obtain⟨a,o,items,m,rfl,h1,h2,h3,_⟩:=hx;have p:s.heap.IsTuple a items:=⟨o,h1,h2,m,h3⟩;rcases hy with ⟨t',rfl⟩|⟨b,rfl,rfl⟩
  ·exact SeqAt.EqAt.tuple_int i t' p (by omega)
  ·exact SeqAt.EqAt.tuple_bool b p (by omega)
 | n,.tup ks,.txt z,u,v,A,s,hn,hu,hx,hy=>by
  rw[Qwx (λe=>by cases e)];obtain⟨a,o,items,m,rfl,h1,h2,h3,_⟩:=hx;have p:s.heap.IsTuple a items:=⟨o,h1,h2,m,h3⟩;obtain⟨t,rfl⟩:=hy;exact SeqAt.EqAt.tuple_str _ t p (by omega)
 | 0,.tup ks,.tup ls,u,v,A,s,hn,hu,hx,hy=>by
  rw[NK.dep] at hn;omega
 | n+1,.tup ks,.tup ls,u,v,A,s,hn,hu,hx,hy=>by
  have hx0:=hx;have hy0:=hy;obtain⟨a,o,items,m,rfl,h1,h2,h3,h4⟩:=hx;obtain⟨a',o',items',m',rfl,h1',h2',h3',h4'⟩:=hy;have p:s.heap.IsTuple a items:=⟨o,h1,h2,m,h3⟩;have p':s.heap.IsTuple a' items':=⟨o',h1',h2',m',h3'⟩;rw[NK.dep] at hn;by_cases haa:a=a'
  ·subst haa;rw[Qwy (zZ.inj hx0 hy0)];exact SeqAt.EqAt.same _
  ·refine SeqAt.EqAt.of_refs haa ?_;have l1:=h4.length;have l2:=h4'.length;rw[Qqx] at l1 l2;have hu0:A.units<cLine:=by omega
   have:=SeqAt.RcAt.tuples (e:=λj=>decide (ks[j]? = ls[j]?)) p p' hu0 λj q1 q2=>?_
   ·have e:((List.range (min items.size items'.size)).all (λj=>decide (ks[j]? = ls[j]?))&&items.size == items'.size)=decide (NK.tup ks=NK.tup ls):=by
     rw[Qky];simp only[Qz5,Qx6,List.mem_range,decide_eq_true_eq,beq_iff_eq,NK.tup.injEq];constructor
     ·rintro⟨g1,g2⟩;apply List.ext_getElem?;intro j;by_cases hj:j<min items.size items'.size
      ·exact g1 j hj
      ·rw[List.getElem?_eq_none (by omega),List.getElem?_eq_none (by omega)]
     ·rintro rfl;exact⟨λ_ _=>rfl,by omega⟩
    rw[<-e];exact this
   ·have g1:items.toList[j]? = some items[j]:=by simp
    have g2:items'.toList[j]? = some items'[j]:=by simp
    obtain⟨k,r1,r2⟩:=h4.get g1;obtain⟨l,r3,r4⟩:=h4'.get g2;have e:decide (ks[j]? = ls[j]?)=decide (k=l):=by rw[r1,r3];simp
    rw[e];exact adG n k l _ _ A.in1 s (Qq4 (NK.zy r1) (by omega)) (by show A.units+1+n+1<cLine;omega) r2 r4
theorem Kv:∀(n:Nat) (k:NK) (v:Value) (A:Around) (E:Value->Shared->Prop) (s:Shared) (Q:Bool->Shared->Prop),k.dep<=n->zZ s.heap k v->Q true s->wpAny (model P w) A (eqIsQuiet n v) Q E s
 | n,.num i,v,A,E,s,Q,hn,e,h=>by
  rcases e with ⟨t,rfl⟩|⟨b,rfl,rfl⟩
  ·rw[eqIsQuiet_byValue n rfl];exact Qq2 h
  ·rw[eqIsQuiet_byValue n rfl];exact Qq2 h
 | n,.txt x,v,A,E,s,Q,hn,e,h=>by
  obtain⟨t,rfl⟩:=e;rw[eqIsQuiet_byValue n rfl];exact Qq2 h
 | 0,.tup ks,v,A,E,s,Q,hn,e,h=>by
  rw[NK.dep] at hn;omega
 | n+1,.tup ks,v,A,E,s,Q,hn,e,h=>by
  obtain⟨a,o,items,m,rfl,ho,hc,hd,hi⟩:=e;rw[NK.dep] at hn;have hT:s.TypeIs (.ref a) "tuple":=⟨o,ho,hc⟩;unfold eqIsQuiet;refine Qqq (wpAny_specialOf hT F.slot_tuple_eq.lookup ?_);show wpAny _ _ (isInstance (.ref a) (.type "tuple") >>= _) _ _ s;refine Qqq (wpAny_isInstance hT isSubtype_tuple_tuple ?_);simp only[Bool.not_true,Bool.false_eq_true,Qk4];refine Qqq (Qj3 ho hd ?_);refine Qqq ?_;show wpAny _ _ (forIn items _ _) _ _ s;rw[<-Array.forIn_toList];refine wpAny_forIn_list _ (λrest r s'=>r.1=none/\s'=s/\∀v∈rest,∃k:NK,k.dep<=n/\zZ s.heap k v) _ ?_ ?_ _ _ ⟨rfl,rfl,λv hv=>?_⟩
  ·rintro v rest r s' ⟨hr,rfl,hall⟩;obtain⟨k,hk1,hk2⟩:=hall v Qqj;refine Qqq (Kv n k v A E _ _ hk1 hk2 ?_);simp only[Bool.not_true,Bool.false_eq_true,Qk4];exact Qq2 ⟨rfl,rfl,λu hu'=>hall u (Qqk _ hu')⟩
  ·rintro⟨r1,r2⟩ s' ⟨hr,rfl,_⟩;simp only at hr;subst hr;exact Qq2 h
  ·obtain⟨j,hj,rfl⟩:=List.mem_iff_getElem.mp hv;obtain⟨k,r1,r2⟩:=hi.get (Qqy hj);exact⟨k,Qq4 (NK.zy r1) (by omega),r2⟩
noncomputable def pJ(P:Program)(w:World):HeapKind P w NK where
 is:=λh k a=>zZ h k (.ref a)/\k.dep<=8
 hash:=NK.hash P w
 draws:=NK.draws
 room:=λA=>A.units+10<cLine
 inj:=λhx hy=>hx.1.inj hy.1
 keeps:=λx ho hd hs=>⟨x.1.keeps ho hd hs,x.2⟩
 pyHash:=λhu hk h=>Rf _ _ _ _ _ _ (by have:=hk.2;omega) hk.1 h
 eqBool:=λhu hx hy h=>adG 8 _ _ _ _ _ _ hx.2 (by omega) hx.1 hy.1 P w _ _ h
 quiet:=λhk h=>Kv 8 _ _ _ _ _ _ hk.2 hk.1 h
end
abbrev Key:=Sum Int Str
noncomputable def yO:Key->Value->Bool
 | .inl k,v=>Value.isInt k v
 | .inr x,v=>Value.isStrOf x v
noncomputable def afN(w:World):Key->Int
 | .inl k=>hashInt k
 | .inr x=>hashStr w x
theorem d9:∀{k:Key} {v:Value},yO k v=true->(∃i t,k=Sum.inl i/\v=Value.int i t)\/(∃x t,k=Sum.inr x/\v=Value.str x t)
 | .inl i,v,h=>by
  obtain⟨t,e⟩:=Value.isInt_shape (k:=i) (v:=v) h;exact .inl ⟨i,t,rfl,e⟩
 | .inr x,v,h=>by
  obtain⟨t,e⟩:=Value.isStrOf_shape (x:=x) (v:=v) h;exact .inr ⟨x,t,rfl,e⟩
theorem Ng(i:Int)(t:Tok):yO (.inl i) (.int i t)=true:=by simp[yO,Value.isInt]
theorem Nf(x:Str)(t:Tok):yO (.inr x) (.str x t)=true:=by simp[yO,Value.isStrOf]
theorem aaK(a b:Int):decide ((Sum.inl a:Key)=Sum.inl b)=(a == b):=by
 by_cases e:a=b
 ·subst e;simp
 ·have h:¬(Sum.inl a:Key)=Sum.inl b:=λq=>e (Sum.inl.inj q);rw[Qwx h];exact(Qz6.mpr e).symm
theorem aaH(a b:Str):decide ((Sum.inr a:Key)=Sum.inr b)=decide (a=b):=by
 by_cases e:a=b
 ·subst e;simp
 ·have h:¬(Sum.inr a:Key)=Sum.inr b:=λq=>e (Sum.inr.inj q);rw[Qwx h,Qwx e]
theorem aaJ(a:Int)(b:Str):decide ((Sum.inl a:Key)=Sum.inr b)=false:=Qwx (λq=>nomatch q)
theorem aaI(a:Str)(b:Int):decide ((Sum.inr a:Key)=Sum.inl b)=false:=Qwx (λq=>nomatch q)
noncomputable def dM(prog:Program)(w:World):PySem.KeyKind prog w Key where
 is:=yO
 hash:=afN w
 inj:=λv a b ha hb=>by
  rcases d9 ha with ⟨i,t,rfl,rfl⟩|⟨x,t,rfl,rfl⟩
  ·rcases d9 hb with ⟨j,u,rfl,e⟩|⟨y,u,rfl,e⟩
   ·injection e with e1 _;rw[e1]
   ·exact nomatch e
  ·rcases d9 hb with ⟨j,u,rfl,e⟩|⟨y,u,rfl,e⟩
   ·exact nomatch e
   ·injection e with e1 _;rw[e1]
 byValue:=λk v h=>by
  rcases d9 h with ⟨i,t,rfl,rfl⟩|⟨x,t,rfl,rfl⟩<;>rfl
 pyHash:=λhv h=>by
  rcases d9 hv with ⟨i,t,rfl,rfl⟩|⟨x,t,rfl,rfl⟩
  ·exact wpAny_pyHash_int h
  ·exact wpAny_pyHash_str h
 eqBool:=λhu hv h=>by
  rcases d9 hu with ⟨i,t,rfl,rfl⟩|⟨x,t,rfl,rfl⟩
  ·rcases d9 hv with ⟨j,u,rfl,rfl⟩|⟨y,u,rfl,rfl⟩
   ·rw[aaK] at h;exact wpAny_eqBool_int h
   ·rw[aaJ] at h;exact SeqAt.EqAt.int_str i t y u _ _ _ _ h
  ·rcases d9 hv with ⟨j,u,rfl,rfl⟩|⟨y,u,rfl,rfl⟩
   ·rw[aaI] at h;exact SeqAt.EqAt.str_int x t j u _ _ _ _ h
   ·rw[aaH] at h;exact wpAny_eqBool_str h
 «strs»:=λk x t v h=>by
  rcases d9 h with ⟨i,u,rfl,e⟩|⟨y,u,rfl,e⟩
  ·exact nomatch e
  ·injection e with e1 _
   subst e1;cases v<;>rfl
theorem Gm(prog:Program)(w:World)(i:Int)(t:Tok):(dM prog w).is (.inl i) (.int i t)=true:=Ng i t
theorem Gk(prog:Program)(w:World)(x:Str)(t:Tok):(dM prog w).is (.inr x) (.str x t)=true:=Nf x t
inductive V where
 | non|bl (b:Bool)|int (i:Int)|str (x:Str)|byt (b:Array UInt8)|flt (b:UInt64)|ref (a:Addr)|ty (n:String)
 deriving DecidableEq
def RelV:V->Value->Prop
 | .non,u=>u=Value.none
 | .bl b,u=>u=Value.bool b
 | .int i,u=>∃t,u=Value.int i t
 | .str x,u=>∃t,u=Value.str x t
 | .byt b,u=>∃t,u=Value.bytes b t
 | .flt b,u=>∃t,u=Value.float b t
 | .ref a,u=>u=Value.ref a
 | .ty n,u=>u=Value.type n
abbrev Vals:List V->List Value->Prop:=Paired RelV
theorem Vals.length{xs:List V}{us:List Value}(r:Vals xs us):xs.length=us.length:=Paired.length r
theorem Vals.get:∀{xs:List V} {us:List Value} {i:Nat} {x:V},Vals xs us->xs[i]? = some x->∃u,us[i]? = some u/\RelV x u
 | _,_,_,_,.nil,e=>by simp at e
 | _,_,0,_,.cons r _,e=>by simp at e;subst e;exact⟨_,rfl,r⟩
 | _,_,i+1,x,.cons _ t,e=>by
  obtain⟨u,h1,h2⟩:=Vals.get (i:=i) (x:=x) t (by simpa using e);exact⟨u,by simpa using h1,h2⟩
theorem Vals.set{x:V}{u:Value}(r:RelV x u):∀{xs:List V} {us:List Value} (i:Nat),Vals xs us->Vals (xs.set i x) (us.set i u)
 | _,_,_,.nil=>.nil
 | _,_,0,.cons _ t=>.cons r t
 | _,_,i+1,.cons q t=>.cons q (Vals.set r i t)
theorem Vals.append:∀{xs ys:List V} {us ws:List Value},Vals xs us->Vals ys ws->Vals (xs++ys) (us++ws)
 | _,_,_,_,.nil,s=>s
 | _,_,_,_,.cons r t,s=>.cons r (Vals.append t s)
theorem Vals.take:∀{xs:List V} {us:List Value} (n:Nat),Vals xs us->Vals (xs.take n) (us.take n)
 | _,_,0,_=>.nil
 | _,_,_+1,.nil=>.nil
 | _,_,n+1,.cons r t=>.cons r (Vals.take n t)
theorem Vals.drop:∀{xs:List V} {us:List Value} (n:Nat),Vals xs us->Vals (xs.drop n) (us.drop n)
 | _,_,0,r=>r
 | _,_,_+1,.nil=>.nil
 | _,_,n+1,.cons _ t=>Vals.drop n t
def uz:Option V->Option Value->Prop
 | some v,some u=>RelV v u
 | none,none=>True
 | _,_=>False
def KV{κ:Type}:List (κ×V)->List (κ×Value)->Prop:=Paired λ(p:κ×V) (q:κ×Value)=>p.1=q.1/\RelV p.2 q.2
noncomputable def kV:Key->V
 | .inl i=>.int i
 | .inr x=>.str x
inductive HO where
 /-- a list -/
 | lst (xs:List V)
 /-- a tuple (never changes) -/
 | tup (xs:List V)
 /-- a dict whose keys are ints and texts;one whose keys are tuples of ints and texts (the empty one is both) -/
 | dK (kvs:List (Key×V))|dT (kvs:List (List Key×V))|dN (kvs:List (NK×V×V))
 /-- a set of ints: its members,its size -/
 | set (S:Int->Bool) (n:Nat)
 /-- an instance of the class at C,its dict at dx,its attributes -/
 | ins (C dx:Addr) (fs:List (Str×V))
 /-- the dict of the instance at x -/
 | own (x:Addr)
 /-- the dict of an exception -/
 | xd (fs:List (Str×V))
 /-- a bound method,f of x -/
 | met (f x:Addr)
 /-- a range object lo,lo+1,.. below hi -/
 | rng (lo hi:Int)
 /-- a thing that is known to the object (the script;a dict while a loop walks it): read,never written while it is so -/
 | wH (o:Obj) (u:HO)
 /-- a code object's table -/
 | Xg (ps:Array Value)
 /-- a code object's table: whatever it holds,the codes made at these places are known and bear these names -/
 | tab (qs:List (Pos×Str))
 /-- any other thing,by what is true of its one object (a def of one's own: aep a S n:=HO.ext λh=>..) -/
 | ext (φ:Heap->Prop)
abbrev Hp:=Addr->Option HO
noncomputable def upd(H:Hp)(a:Addr)(o:HO):Hp:=λb=>if b=a then some o else H b
theorem aX{H:Hp}{a:Addr}{o:HO}:upd H a o a=some o:=by unfold upd;rw[if_pos rfl]
theorem bz{H:Hp}{a b:Addr}{o:HO}(h:b≠a):upd H a o b=H b:=by unfold upd;rw[if_neg h]
theorem TJ{H:Hp}{a:Addr}{o u:HO}:upd (upd H a o) a u=upd H a u:=by funext b;unfold upd;split<;>rfl
theorem adE{H:Hp}{a b:Addr}{o u:HO}(h:H a=some o)(h':H b=some u)(d:o≠u):a≠b:=by intro e;subst e;rw[h] at h';exact d (Qw1 h')
theorem dD{H:Hp}{a b:Addr}{o:HO}(h:H a=some o)(h':H b=none):a≠b:=by intro e;subst e;rw[h] at h';cases h'
def Aq(h:Heap)(a:Addr)(items:Array Value):Prop:=∃o,h.get? a=some o/\o.cls = .type "tuple"/\(∃n,o.data = .seq items n)/\o.dict=none
theorem Aq.is{h:Heap}{a:Addr}{items:Array Value}(x:Aq h a items):IsTup h a items:=let ⟨o,h1,h2,h3,_⟩:=x;⟨o,h1,h2,h3⟩
theorem Aq.new(h:Heap)(items:Array Value):Aq (h.push { cls:=.type "tuple",data:=.seq items }) h.objs.size items:=⟨_,Qwz _ rfl,rfl,⟨_,rfl⟩,rfl⟩
section
variable(P:Program)(w:World)
def fj(H:Hp)(h:Heap)(a:Addr):HO->Prop
 | .lst xs=>xs.length<=sizeLine/\∃(its:List Value) (n:Nat),Vals xs its/\h.get? a=some { cls:=.type "list",data:=.seq its.toArray n }
 | .tup xs=>xs.length<=sizeLine/\∃its:List Value,Vals xs its/\Aq h a its.toArray
 | .dK kvs=>kvs.length<=sizeLine/\(a == sysModules)=false/\∃vs,KV kvs vs/\h.DictOf (dM P w) a vs
 | .dT kvs=>kvs.length<=sizeLine/\(a == sysModules)=false/\∃xs:List (List Key×Addr×Value),
   Paired (λ(p:List Key×V) (q:List Key×Addr×Value)=>p.1=q.1/\H q.2.1=some (.tup (p.1.map kV))/\RelV p.2 q.2.2) kvs xs/\
   ∃o es ep,h.get? a=some o/\o.ExactDict/\o.data = .dict es ep/\es.toList=xs.map (entryOfKey (tupleKind (dM P w)))/\(xs.map (·.1)).Nodup
 | .dN kvs=>kvs.length<=sizeLine/\(a == sysModules)=false/\∃xs:List (NK×Addr×Value),
   Paired (λ(p:NK×V×V) (q:NK×Addr×Value)=>p.1=q.1/\p.2.1 = .ref q.2.1/\RelV p.2.2 q.2.2) kvs xs/\
   ∃o es ep,h.get? a=some o/\o.ExactDict/\o.data = .dict es ep/\es.toList=xs.map (entryOfKey (pJ P w))/\(xs.map (·.1)).Nodup
 | .set S n=>h.SetOf (intKind P w) a S n
 | .ins C dx fs=>H dx=some (.own a)/\fs.length<=1000/\dx≠a/\h.get? a=some (PySem.W.instObj C dx)/\
   ∃mA,h.Ns1 dx mA/\(∀f,uz (fs.lookup f) (mA f))/\PySem.Within mA (fs.map (·.1))
 | .own _=>∃o,h.get? a=some o
 | .xd fs=>∃mA,h.Ns1 a mA/\∀f,uz (fs.lookup f) (mA f)
 | .rng lo hi=>∃t u v,h.get? a=some { cls:=.type "range",data:=.fields #[.int lo t,.int hi u,.int 1 v] }
 | .wH o u=>h.get? a=some o/\fj H h a u
 | .Xg ps=>h.get? a=some { cls:=.none,data:=.fields ps }
 | .tab qs=>∃ps:Array Value,h.get? a=some { cls:=.none,data:=.fields ps }/\TriplesOk ps.toList/\∀q∈qs,codeAmong q.1 ps.toList=none\/∃(c:Addr) (o:Obj) (u:HO) (vs:Array Value) (t:Tok),codeAmong q.1 ps.toList=some (.ref c)/\H c=some (.wH o u)/\o.data = .fields vs/\vs[1]? = some (.str q.2 t)
 | .met f x=>h.get? a=some (PySem.W.methodObj (.ref f) (.ref x))
 | .ext φ=>φ h/\(∃o,h.get? a=some o)/\∀h1 h2:Heap,φ h1->(∀o,h1.get? a=some o->h2.get? a=some o)->φ h2
def oH(H:Hp)(h:Heap):Prop:=∀a o,H a=some o->fj P w H h a o
end
section
variable{P:Program}{w:World}{H H':Hp}{h h':Heap}{a:Addr}{o:HO}
theorem fj.lt(x:fj P w H h a o):a<h.objs.size:=by
 cases o with
 | lst xs=>obtain⟨_,_,_,_,e⟩:=x;exact Qq9 e
 | tup xs=>obtain⟨_,_,_,p⟩:=x;exact p.is.lt
 | dK kvs=>obtain⟨_,_,_,_,o,_,_,e,_⟩:=x;exact Qq9 e
 | dT kvs=>obtain⟨_,_,_,_,o,_,_,e,_⟩:=x;exact Qq9 e
 | dN kvs=>obtain⟨_,_,_,_,o,_,_,e,_⟩:=x;exact Qq9 e
 | set S n=>obtain⟨o,_,_,_,e,_⟩:=x;exact Qq9 e
 | ins C dx fs=>obtain⟨_,_,_,e,_⟩:=x;exact Qq9 e
 | own y=>obtain⟨_,e⟩:=x;exact Qq9 e
 | xd fs=>obtain⟨_,⟨_,_,_,e,_⟩,_⟩:=x;exact Qq9 e
 | rng lo hi=>obtain⟨_,_,_,e⟩:=x;exact Qq9 e
 | wH ob u=>obtain⟨e,_⟩:=x;exact Qq9 e
 | Xg ps=>exact Qq9 (show h.get? a=some _ from x)
 | tab qs=>obtain⟨_,e,_⟩:=x;exact Qq9 e
 | met f y=>exact Qq9 (show h.get? a=some _ from x)
 | ext φ=>obtain⟨_,⟨_,e⟩,_⟩:=x;exact Qq9 e
theorem Paired.aay{α β:Type}{F G:α->β->Prop}:∀{l₁:List α} {l₂:List β},Paired F l₁ l₂->(∀a b,F a b->G a b)->Paired G l₁ l₂
 | _,_,.nil,_=>.nil
 | _,_,.cons r t,f=>.cons (f _ _ r) (Paired.aay t f)
theorem fj.stay(x:fj P w H h a o)(k:∀b u,(b=a\/H b=some (.own a))->h.get? b=some u->h'.get? b=some u)
  (ho:∀b,H b=some (.own a)->H' b=some (.own a)) (ht:∀b xs,H b=some (.tup xs)->H' b=some (.tup xs))
  (hz:∀(b:Addr) (o:Obj) (u:HO) (vs:Array Value),o.data = .fields vs->H b=some (.wH o u)->H' b=some (.wH o u):=by intro _ _ _ _ _ q;exact q):fj P w H' h' a o:=by
 induction o with
 | lst xs=>obtain⟨z,its,n,r,e⟩:=x;exact⟨z,its,n,r,k _ _ (.inl rfl) e⟩
 | tup xs=>obtain⟨z,its,r,ob,e,c⟩:=x;exact⟨z,its,r,ob,k _ _ (.inl rfl) e,c⟩
 | dK kvs=>obtain⟨z,y,vs,r,ob,es,ep,e,c⟩:=x;exact⟨z,y,vs,r,ob,es,ep,k _ _ (.inl rfl) e,c⟩
 | dT kvs=>
  obtain⟨z,y,xs,r,ob,es,ep,e,c⟩:=x;exact⟨z,y,xs,Paired.aay r λp q z=>⟨z.1,ht _ _ z.2.1,z.2.2⟩,ob,es,ep,k _ _ (.inl rfl) e,c⟩
 | dN kvs=>obtain⟨z,y,xs,r,ob,es,ep,e,c⟩:=x;exact⟨z,y,xs,r,ob,es,ep,k _ _ (.inl rfl) e,c⟩
 | set S n=>obtain⟨ob,es,ep,t,e,c⟩:=x;exact⟨ob,es,ep,t,k _ _ (.inl rfl) e,c⟩
 | ins C dx fs=>
  obtain⟨d,z,ne,e,mA,⟨od,es,ep,e2,c⟩,r⟩:=x;exact⟨ho _ d,z,ne,k _ _ (.inl rfl) e,mA,⟨od,es,ep,k _ _ (.inr d) e2,c⟩,r⟩
 | own y=>obtain⟨ob,e⟩:=x;exact⟨ob,k _ _ (.inl rfl) e⟩
 | xd fs=>obtain⟨mA,⟨od,es,ep,e,c⟩,r⟩:=x;exact⟨mA,⟨od,es,ep,k _ _ (.inl rfl) e,c⟩,r⟩
 | rng lo hi=>obtain⟨t,u,v,e⟩:=x;exact⟨t,u,v,k _ _ (.inl rfl) e⟩
 | wH ob u ih=>obtain⟨e,q⟩:=x;exact⟨k _ _ (.inl rfl) e,ih q⟩
 | Xg ps=>
  have e:h.get? a=some { cls:=.none,data:=.fields ps }:=x;show h'.get? a=some { cls:=.none,data:=.fields ps };exact k a _ (.inl rfl) e
 | tab qs=>
  obtain⟨ps,e,t,r⟩:=x;refine⟨ps,k a _ (.inl rfl) e,t,λq hq=>?_⟩;rcases r q hq with z|⟨c,o,u,vs,t,h1,h2,h3,h4⟩
  ·exact .inl z
  ·exact .inr ⟨c,o,u,vs,t,h1,hz c o u vs h3 h2,h3,h4⟩
 | met f y=>
  have e:h.get? a=some (PySem.W.methodObj (.ref f) (.ref y)):=x;show h'.get? a=some (PySem.W.methodObj (.ref f) (.ref y));exact k a _ (.inl rfl) e
 | ext φ=>obtain⟨p,⟨o,e⟩,st⟩:=x;exact⟨st _ _ p λo q=>k _ _ (.inl rfl) q,⟨o,k _ _ (.inl rfl) e⟩,st⟩
theorem oH.lt(x:oH P w H h)(e:H a=some o):a<h.objs.size:=(x a o e).lt
theorem oH.fresh(x:oH P w H h)(e:h.objs.size<=a):H a=none:=by
 cases q:H a with
 | none=>rfl
 | some u=>exact absurd (Qwq (x.lt q) e) (Qzj _)
theorem oH.kept(x:oH P w H h)(k:∀b u,h.get? b=some u->h'.get? b=some u):oH P w H h':=λa o e=>
 (x a o e).stay (λb u _ q=>k b u q) (λ_ q=>q) λ_ _ q=>q
theorem oH.laid(x:oH P w H h)(k:∀b u,h.get? b=some u->h'.get? b=some u)(hp:h.objs.size<=a)(new:fj P w (upd H a o) h' a o):oH P w (upd H a o) h':=λb u e=>by
 have hn:=x.fresh hp;by_cases hb:b=a
 ·subst hb;rw[aX] at e;cases e;exact new
 ·rw[bz hb] at e;exact(x b u e).stay (λc v _ q=>k c v q) (λc q=>by rw[bz (dD q hn)];exact q) (λc xs q=>by rw[bz (dD q hn)];exact q) λc _ _ _ _ q=>by rw[bz (dD q hn)];exact q
end
def Rd(H:Hp)(a:Addr)(u:HO):Prop:=H a=some u\/∃o,H a=some (.wH o u)
theorem Rd.ok{P:Program}{w:World}{H:Hp}{h:Heap}{a:Addr}{u:HO}(r:Rd H a u)(x:oH P w H h):fj P w H h a u:=by
 rcases r with r|⟨o,r⟩
 ·exact x a u r
 ·obtain⟨_,q⟩:=x a _ r;exact q
def Mut:Option HO->Prop
 | some (.lst _)=>True
 | some (.dK _)=>True
 | some (.dT _)=>True
 | some (.dN _)=>True
 | some (.set _ _)=>True
 | some (.ins _ _ _)=>True
 | some (.ext _)=>True
 | _=>False
section
variable{P:Program}{w:World}{H:Hp}{h h':Heap}{x e:Addr}{o':HO}
theorem oH.write(ok:oH P w H h)(mu:Mut (H x))(he:e=x\/H e=some (.own x))(k:∀b u,b≠e->h.get? b=some u->h'.get? b=some u)(heo:∃u,h'.get? e=some u)
  (new:fj P w (upd H x o') h' x o'):oH P w (upd H x o') h':=λb u q=>by
 have adz:∀c y,H c=some (.own y)->c≠x:=λc y r z=>by subst z;rw[r] at mu;exact mu
 have afH:∀c xs,H c=some (.tup xs)->c≠x:=λc xs r z=>by subst z;rw[r] at mu;exact mu
 by_cases hb:b=x
 ·subst hb;rw[aX] at q;cases q;exact new
 ·rw[bz hb] at q;by_cases hbe:b=e
  ·have q':H b=some (.own x):=by
    rcases he with z|z
    ·exact absurd (hbe.trans z) hb
    ·rw[hbe];exact z
   rw[q] at q';cases q';obtain⟨v,hv⟩:=heo;exact⟨v,by rw[hbe];exact hv⟩
  ·refine(ok b u q).stay (λc v hc r=>k c v ?_ r) (λc r=>by rw[bz (adz c b r)];exact r) (λc xs r=>by rw[bz (afH c xs r)];exact r) λc _ _ _ _ r=>by rw[bz (λz=>by subst z;rw[r] at mu;exact mu)];exact r
   rcases hc with rfl|hc
   ·exact hbe
   ·rintro rfl;rcases he with z|z
    ·exact adz c b hc z
    ·rw[hc] at z;cases z;exact hb rfl
end
structure Un(fs ex:List Addr)(H H':Hp)(h h':Heap):Prop where
 keep:∀b o,h.get? b=some o->H b=none->b ∉ fs->b ∉ ex->h'.get? b=some o
 slot:∀b o,h.get? b=some o->H b=none->b∈fs->b ∉ ex->∃sl,h'.get? b=some { o with slots:=sl }
 free:∀b o,h.get? b=some o->H b=none->b ∉ ex->H' b=none
 there:∀b o,h.get? b=some o->b ∉ ex->∃o',h'.get? b=some o'
 tups:∀b xs,H b=some (.tup xs)->H' b=some (.tup xs)
 rF:∀b o u,H b=some (.wH o u)->H' b=some (.wH o u)
 wY:∀b ps,H b=some (.Xg ps)->∃more,H' b=some (.Xg (ps++more))
 tabs:∀b qs,H b=some (.tab qs)->H' b=some (.tab qs)
section
variable{fs fs' ex ex':List Addr}{H H1 H2:Hp}{h h1 h2 h':Heap}{a x e:Addr}{o:HO}
theorem Un.any(u:Un fs ex H H1 h h1){b:Addr}{ob:Obj}(q:h.get? b=some ob)(n:H b=none)(hx:b ∉ ex):∃sl,h1.get? b=some { ob with slots:=sl }:=by
 by_cases hb:b∈fs
 ·exact u.slot b ob q n hb hx
 ·exact⟨ob.slots,u.keep b ob q n hb hx⟩
theorem Un.kept(k:∀b u,h.get? b=some u->h'.get? b=some u):Un fs ex H H h h':=
 ⟨λb ob q _ _ _=>k b ob q,λb ob q _ _ _=>⟨ob.slots,k b ob q⟩,λ_ _ _ n _=>n,λb ob q _=>⟨ob,k b ob q⟩,λ_ _ q=>q,λ_ _ _ q=>q,λ_ ps q=>⟨#[],by rw[q];simp⟩,λ_ _ q=>q⟩
theorem Un.refl:Un fs ex H H h h:=Un.kept λ_ _ q=>q
theorem Un.laid(k:∀b u,h.get? b=some u->h'.get? b=some u)(hp:h.objs.size<=a)(hn:H a=none):Un fs ex H (upd H a o) h h' where
 keep:=λb u q _ _ _=>k b u q
 slot:=λb u q _ _ _=>⟨u.slots,k b u q⟩
 free:=λb u q n _=>by rw[bz (Qw6 (Qwq (Qq9 q) hp))];exact n
 there:=λb u q _=>⟨u,k b u q⟩
 tups:=λb xs q=>by rw[bz (dD q hn)];exact q
 rF:=λb u xs q=>by rw[bz (dD q hn)];exact q
 wY:=λb ps q=>⟨#[],by rw[bz (dD q hn),q];simp⟩
 tabs:=λb qs q=>by rw[bz (dD q hn)];exact q
theorem Un.write(mu:Mut (H x))(he:e=x\/H e=some (.own x))(k:∀b u,b≠e->h.get? b=some u->h'.get? b=some u)(heo:∃u,h'.get? e=some u):Un fs ex H (upd H x o) h h':=by
 have hx:∀b,H b=none->b≠x:=λb n z=>by subst z;rw[n] at mu;exact mu
 have hb:∀b,H b=none->b≠e:=λb n z=>by
  subst z;rcases he with r|r
  ·exact hx b n r
  ·rw[n] at r;cases r
 have hm:∀b u,H b=some u->¬Mut (some u)->b≠x:=λb u q nm z=>by subst z;rw[q] at mu;exact nm mu
 refine⟨λb u q n _ _=>k b u (hb b n) q,λb u q n _ _=>⟨u.slots,k b u (hb b n) q⟩,λb u q n _=>by rw[bz (hx b n)];exact n,λb u q _=>?_,
  λb xs q=>by rw[bz (hm b _ q λz=>z)];exact q,λb u xs q=>by rw[bz (hm b _ q λz=>z)];exact q,λb ps q=>⟨#[],by rw[bz (hm b _ q λz=>z),q];simp⟩,λb qs q=>by rw[bz (hm b _ q λz=>z)];exact q⟩
 by_cases hbe:b=e
 ·subst hbe;exact heo
 ·exact⟨u,k b u hbe q⟩
end
noncomputable def trk(h:Heap)(H:Hp):List Addr:=(List.range h.objs.size).filter λa=>(H a).isSome
noncomputable def Du(h:Heap)(H:Hp):Heap:=PySem.W.hideAll h (trk h H)
theorem Nu(h:Heap)(H:Hp):(Du h H).objs.size=h.objs.size:=PySem.W.hideAll_size _ _
theorem RN{h:Heap}{H:Hp}{b:Addr}{o:Obj}(e:h.get? b=some o)(n:H b=none):(Du h H).get? b=some o:=
 PySem.W.hideAll_get _ e λhm=>by
  have q:(H b).isSome=true:=(List.mem_filter.mp hm).2;rw[n] at q;simp at q
theorem Vj{h:Heap}{H:Hp}{b:Addr}{o:Obj}(e:(Du h H).get? b=some o):h.get? b=some o/\H b=none:=by
 have e':h.get? b=some o:=PySem.W.of_hideAll (trk h H) e;refine⟨e',?_⟩;cases q:H b with
 | none=>rfl
 | some x=>
  have hm:b∈trk h H:=List.mem_filter.mpr ⟨List.mem_range.mpr (Qq9 e'),by simp[q]⟩;have z:(Du h H).get? b=none:=PySem.W.hideAll_none (trk h H) hm;rw[z] at e;cases e
noncomputable def Wz(g h:Heap)(L:Addr):List (Addr×Obj):=(List.range h.objs.size).filterMap λa=>if a=L\/(g.get? a).isSome=true then none else (h.get? a).map λo=>(a,o)
noncomputable def rest(g h:Heap)(L d:Addr):List (Addr×Obj):=(Wz g h L).filter λp=>decide (p.1≠d)
structure Mod(K:PySem.W.Frag)(mg:Str->Option Value)(base:Heap):Prop where
 Hq:K.In base
 glob:base.Ns mainGlobals mg
 blt:∃mb,base.Ns builtinsNs mb/\∀x:Str,x ≠ "__name__"->mb x=bootBuiltins x
 nolimit:base.NoLimit
structure Cx where
 prog:Program
 w:World
 K:PySem.W.Frag
 mg:Str->Option Value
 base:Heap
 A:Around
 N:List Str
 s₀:Shared
 H₀:Hp
 env:Env
 outer:List Env
 stack:List Env
 ex:List Addr
 fn:Str->Bool
 calm:Bool
 pn:List (Addr×Obj)
 xe:Value->Shared->Prop
noncomputable def frs(l:List Env):List Addr:=l.filterMap (·.frame)
abbrev Cx.fs(X:Cx):List Addr:=frs X.outer
def vZ(sc:Scope)(x:Str):Prop:=sc.names.lookup x=some .local\/sc.names.lookup x=some .cell\/sc.names.lookup x=some .free
def Loc(sc:Scope)(x:Str):Prop:=sc.names.lookup x=some .local\/sc.names.lookup x=some .cell
def Look(env:Env)(h:Heap)(m:Str->Option Value)(x:Str)(u:Value):Prop:=
 (env.kindOf x=some .local/\m x=some u)\/((env.kindOf x=some .cell\/env.kindOf x=some .free)/\∃c,env.cells.lookup x=some c/\h.IsCell c (some u))
structure Cx.Ok(X:Cx):Prop where
 mod:Mod X.K X.mg X.base
 kind:X.env.scope.kind = .function
 glob:X.env.globals=mainGlobals
 blt:X.env.builtins=builtinsNs
 above:X.s₀.heap.objs.size<=X.env.locals
 inj:∀x y c,X.env.cells.lookup x=some c->X.env.cells.lookup y=some c->x=y
 has:∀x,(X.env.kindOf x=some .cell\/X.env.kindOf x=some .free)->∃c,X.env.cells.lookup x=some c
 cab:∀x c,X.fn x=true->X.env.cells.lookup x=some c->X.s₀.heap.objs.size<=c
 hd:X.calm=true->X.A.handled=none
 frames:X.A.frames=some X.stack
 ik:X.stack=X.outer\/(X.stack=X.env::X.outer/\X.env.frame=some X.env.locals)
 exf:∀b∈X.ex,b≠X.env.locals/\∀x c,X.env.cells.lookup x=some c->c≠b
 bs:∀b o,X.base.get? b=some o->X.s₀.heap.get? b=some o/\X.H₀ b=none
 Ww:X.base.objs.size<=X.s₀.heap.objs.size
 M5:∀b o,X.base.get? b=some o->b ∉ X.ex
 Nx:∀b∈X.ex,b ∉ X.fs
 vR:X.s₀.heap.FunFrames X.base X.outer
 frf:∀b∈X.fs,X.H₀ b=none
structure Inv(X:Cx)(pins:List (Addr×Obj))(σ:List (Option V))(H:Hp)(s:Shared):Prop where
 ok:X.Ok
 os:s.os=X.s₀.os
 bare:AllBare s.gens
 base:Un X.fs X.ex X.H₀ H X.s₀.heap s.heap
 loc:∃m,s.heap.Ns X.env.locals m/\∀(i:Nat) (x:Str) (v:V),X.N[i]? = some x->σ[i]? = some (some v)->vZ X.env.scope x->∃u,RelV v u/\Look X.env s.heap m x u
 cell:∀x c,X.env.cells.lookup x=some c->∃v,s.heap.IsCell c v
 free:H X.env.locals=none
 lU:∀x c,X.env.cells.lookup x=some c->H c=none\/(X.fn x=false/\∃o u,H c=some (.wH o u))
 pin:∀p∈X.pn++pins,s.heap.get? p.1=some p.2/\H p.1=none/\p.1≠X.env.locals/\p.1 ∉ X.fs/\∀v,p.2.data ≠ .cell v
 hok:oH X.prog X.w H s.heap
 len:σ.length=X.N.length
section
variable{X:Cx}{pins:List (Addr×Obj)}{σ:List (Option V)}{H H':Hp}{s:Shared}{h':Heap}
theorem Cx.Ok.aaq(ok:X.Ok){b:Addr}{o:Obj}(e:X.base.get? b=some o):b ∉ X.fs:=λhb=>by
 have:=(ok.vR.mem hb).1;rw[e] at this;cases this
theorem Inv.bs(I:Inv X pins σ H s):∀b o,X.base.get? b=some o->s.heap.get? b=some o/\H b=none:=λb o e=>
 ⟨I.base.keep b o (I.ok.bs b o e).1 (I.ok.bs b o e).2 (I.ok.aaq e) (I.ok.M5 b o e),I.base.free b o (I.ok.bs b o e).1 (I.ok.bs b o e).2 (I.ok.M5 b o e)⟩
theorem Inv.bk(I:Inv X pins σ H s):∀b o,X.base.get? b=some o->s.heap.get? b=some o:=λb o e=>(I.bs b o e).1
theorem Inv.mod(I:Inv X pins σ H s):Mod X.K X.mg X.base:=I.ok.mod
theorem Inv.KD(I:Inv X pins σ H s):X.K.In s.heap:=I.ok.mod.Hq.keeps I.bk
theorem Inv.lt(I:Inv X pins σ H s):X.env.locals<s.heap.objs.size:=let ⟨_,hn,_⟩:=I.loc;hn.lt
theorem Inv.sz(I:Inv X pins σ H s):X.s₀.heap.objs.size<=s.heap.objs.size:=Qq4 I.ok.above (Qxv I.lt)
theorem Inv.afI(I:Inv X pins σ H s){a:Addr}(h:s.heap.objs.size<=a):a ∉ X.fs:=λhb=>by
 obtain⟨_,o,ho,_⟩:=I.ok.vR.mem hb;exact absurd (Qwq (Qq9 ho) (Qq4 I.sz h)) (Qzj _)
theorem Inv.Wj(I:Inv X pins σ H s):∀x c,X.env.cells.lookup x=some c->c≠X.env.locals:=λx c e z=>by
 obtain⟨v,o,ho,hd⟩:=I.cell x c e;obtain⟨m,⟨o',es,ep,ho',hd',_⟩,_⟩:=I.loc;rw[z,ho'] at ho;cases ho;rw[hd'] at hd;cases hd
theorem Inv.vR(I:Inv X pins σ H s):s.heap.FunFrames X.base X.outer:=by
 have all:∀(l:List Env),(∀b∈frs l,b∈X.fs)->X.s₀.heap.FunFrames X.base l->s.heap.FunFrames X.base l:=by
  intro l
  induction l with
  | nil=>intro _ _;trivial
  | cons env r ih=>
   intro hs hl;obtain⟨hk,⟨L,o,hf,hn,ho,hd⟩,hr⟩:=hl;have hL:L∈X.fs:=hs L (by unfold frs;rw[Qjj,hf];exact Qqj);obtain⟨sl,e⟩:=I.base.slot L o ho (I.ok.frf L hL) hL λz=>I.ok.Nx L z hL;exact⟨hk,⟨L,_,hf,hn,e,hd⟩,ih (λb hb=>hs b (by unfold frs;rw[Qjj,hf];exact Qqk _ hb)) hr⟩
 exact all X.outer (λ_ hb=>hb) I.ok.vR
theorem Inv.stack(I:Inv X pins σ H s):s.heap.FunFrames X.base X.stack:=by
 rcases I.ok.ik with e|⟨e,hf⟩
 ·rw[e];exact I.vR
 ·rw[e];obtain⟨m,hn,_⟩:=I.loc;refine .cons (by rw[I.ok.kind];decide) hf hn ?_ I.vR;exact Heap.get?_none_of_le (Qq4 I.ok.Ww I.ok.above)
theorem Inv.Ie(I:Inv X pins σ H s):∀b∈frs X.stack,b∈X.env.locals::X.fs:=λb hb=>by
 rcases I.ok.ik with e|⟨e,hf⟩
 ·rw[e] at hb;exact Qqk _ hb
 ·rw[e] at hb;unfold frs at hb;rw[Qjj,hf] at hb;exact hb
theorem Inv.Cj(I:Inv X pins σ H s):∀b∈frs X.stack,H b=none:=λb hb=>by
 rcases Qq7.mp (I.Ie b hb) with e|hb
 ·rw[e];exact I.free
 ·obtain⟨_,o,ho,_⟩:=I.ok.vR.mem hb;exact I.base.free b o ho (I.ok.frf b hb) λz=>I.ok.Nx b z hb
theorem Inv.step{g':Array GenState}{t':Nat}{d':Drawn}{ch:List Addr}(I:Inv X pins σ H s)
  (hch:∀b∈ch,(b∈X.ex\/X.s₀.heap.objs.size<=b)/\b≠X.env.locals/\(∀x c,X.env.cells.lookup x=some c->c≠b)/\∀p∈X.pn++pins,p.1≠b)
  (keep:∀b o,b≠X.env.locals->b ∉ X.fs->b ∉ ch->s.heap.get? b=some o->H b=none->h'.get? b=some o)
  (slot:∀b o,b≠X.env.locals->b∈X.fs->b ∉ ch->s.heap.get? b=some o->H b=none->∃sl,h'.get? b=some { o with slots:=sl }) (free:∀b o,b ∉ ch->s.heap.get? b=some o->H b=none->H' b=none)
  (there:∀b o,b ∉ ch->s.heap.get? b=some o->∃o',h'.get? b=some o')
  (tups:∀b xs,H b=some (.tup xs)->H' b=some (.tup xs)) (rF:∀b o u,H b=some (.wH o u)->H' b=some (.wH o u)) (wY:∀b ps,H b=some (.Xg ps)->∃more,H' b=some (.Xg (ps++more)))
  (ns:∀m,s.heap.Ns X.env.locals m->h'.Ns X.env.locals m) (hok:oH X.prog X.w H' h') (hg:AllBare g')
  (tabs:∀(b:Addr) (qs:List (Pos×Str)),H b=some (.tab qs)->H' b=some (.tab qs):=by intro _ _ q;exact q) :
  Inv X pins σ H' { s with heap:=h',gens:=g',drawn:=d',toks:=t' }:=by
 have neL:∀b o,X.s₀.heap.get? b=some o->b≠X.env.locals:=λb o e=>Qw6 (Qwq (Qq9 e) I.ok.above);have neC:∀b o,X.s₀.heap.get? b=some o->b ∉ X.ex->b ∉ ch:=λb o e hx hb=>by
  rcases(hch b hb).1 with z|z
  ·exact hx z
  ·exact absurd (Qwq (Qq9 e) z) (Qzj _)
 have cellK:∀x c,X.env.cells.lookup x=some c->∀v,s.heap.IsCell c v->h'.IsCell c v:=λx c e v ⟨o,ho,hd⟩=>by
  have nch:c ∉ ch:=λz=>(hch c z).2.2.1 x c e rfl;rcases I.lU x c e with hn|⟨_,fo,fu,hz⟩
  ·by_cases hc:c∈X.fs
   ·obtain⟨sl,q⟩:=slot c o (I.Wj x c e) hc nch ho hn;exact⟨_,q,hd⟩
   ·exact⟨o,keep c o (I.Wj x c e) hc nch ho hn,hd⟩
  ·have e1:=(I.hok c _ hz).1;rw[ho] at e1;cases e1;exact⟨o,(hok c _ (rF c o fu hz)).1,hd⟩
 refine⟨I.ok,I.os,hg,⟨λb o e n hb hx=>?_,λb o e n hb hx=>?_,λb o e n hx=>?_,λb o e hx=>?_,λb xs e=>tups b xs (I.base.tups b xs e),λb o xs e=>rF b o xs (I.base.rF b o xs e),λb ps e=>?_,λb qs e=>tabs b qs (I.base.tabs b qs e)⟩,?_,λx c e=>?_,?_,λx c e=>?_,λp hp=>?_,hok,I.len⟩
 ·exact keep b o (neL b o e) hb (neC b o e hx) (I.base.keep b o e n hb hx) (I.base.free b o e n hx)
 ·obtain⟨sl,e1⟩:=I.base.slot b o e n hb hx;obtain⟨sl',e2⟩:=slot b _ (neL b o e) hb (neC b o e hx) e1 (I.base.free b o e n hx);exact⟨sl',e2⟩
 ·obtain⟨o',e1⟩:=I.base.there b o e hx;exact free b o' (neC b o e hx) e1 (I.base.free b o e n hx)
 ·obtain⟨o',e1⟩:=I.base.there b o e hx;exact there b o' (neC b o e hx) e1
 ·obtain⟨m1,e1⟩:=I.base.wY b ps e;obtain⟨m2,e2⟩:=wY b _ e1;exact⟨m1++m2,by rw[e2,Array.append_assoc]⟩
 ·obtain⟨m,hn,hl⟩:=I.loc;refine⟨m,ns m hn,λi x v e1 e2 e3=>?_⟩;obtain⟨u,r,l⟩:=hl i x v e1 e2 e3;refine⟨u,r,?_⟩;rcases l with l|⟨k,c,e,z⟩
  ·exact .inl l
  ·exact .inr ⟨k,c,e,cellK x c e _ z⟩
 ·obtain⟨v,z⟩:=I.cell x c e;exact⟨v,cellK x c e v z⟩
 ·obtain⟨m,⟨o,_,_,ho,_⟩,_⟩:=I.loc;exact free _ o (λz=>(hch _ z).2.1 rfl) ho I.free
 ·rcases I.lU x c e with hn|⟨h1,fo,fu,hz⟩
  ·obtain⟨v,o,ho,hd⟩:=I.cell x c e;exact .inl (free c o (λz=>(hch c z).2.2.1 x c e rfl) ho hn)
  ·exact .inr ⟨h1,fo,fu,rF c fo fu hz⟩
 ·obtain⟨e,n,ne,nf,d⟩:=I.pin p hp;have nch:p.1 ∉ ch:=λz=>(hch p.1 z).2.2.2 p hp rfl;exact⟨keep p.1 p.2 ne nf nch e n,free p.1 p.2 nch e n,ne,nf,d⟩
theorem Inv.un{t':Nat}(I:Inv X pins σ H s)(u:Un X.fs [] H H' s.heap h')(hok:oH X.prog X.w H' h'):Inv X pins σ H' { s with heap:=h',toks:=t' }:=by
 obtain⟨m,⟨o,es,ep,ho,r⟩,_⟩:=id I.loc;obtain⟨sl,hL⟩:=u.any ho I.free (by simp);exact I.step (g':=s.gens) (d':=s.drawn) (ch:=[]) (λ_ z=>nomatch z) (λb o _ hb _ e n=>u.keep b o e n hb (by simp)) (λb o _ hb _ e n=>u.slot b o e n hb (by simp)) (λb o _ e n=>u.free b o e n (by simp)) (λb o _ e=>u.there b o e (by simp)) u.tups u.rF u.wY (λm' hm=>by
  obtain⟨o',es',ep',ho',r'⟩:=hm;rw[ho] at ho';cases ho';exact⟨_,es',ep',hL,r'⟩) hok I.bare u.tabs
theorem Inv.call{g':Array GenState}{t':Nat}{d':Drawn}{ch:List Addr}(I:Inv X pins σ H s)(u:Un (frs X.stack) ch H H' s.heap h')(hok:oH X.prog X.w H' h')(hg:AllBare g')
  (hch:∀b∈ch,(b∈X.ex\/X.s₀.heap.objs.size<=b)/\b≠X.env.locals/\(∀x c,X.env.cells.lookup x=some c->c≠b)/\∀p∈X.pn++pins,p.1≠b) :
  Inv X pins σ H' { s with heap:=h',gens:=g',drawn:=d',toks:=t' }:=by
 obtain⟨m,⟨o,es,ep,ho,r⟩,_⟩:=id I.loc;obtain⟨sl,hL⟩:=u.any ho I.free λz=>(hch _ z).2.1 rfl;exact I.step (ch:=ch) hch (λb o hL hb hc e n=>u.keep b o e n (λz=>(Qq7.mp (I.Ie b z)).elim hL hb) hc) (λb o _ _ hc e n=>u.any e n hc) (λb o hc e n=>u.free b o e n hc) (λb o hc e=>u.there b o e hc) u.tups u.rF u.wY (λm' hm=>by
  obtain⟨o',es',ep',ho',r'⟩:=hm;rw[ho] at ho';cases ho';exact⟨_,es',ep',hL,r'⟩) hok hg u.tabs
theorem Inv.turned{t':Nat}{it:Addr}(I:Inv X pins σ H s)(k:∀b o,b≠it->s.heap.get? b=some o->h'.get? b=some o)(hn:H it=none)(hL:it≠X.env.locals)
  (h1:it∈X.ex\/X.s₀.heap.objs.size<=it) (h2:∀x c,X.env.cells.lookup x=some c->c≠it) (h3:∀p∈X.pn++pins,p.1≠it):Inv X pins σ H { s with heap:=h',toks:=t' }:=by
 have Xy:∀b u,H b=some u->b≠it:=λb u e z=>by rw[z,hn] at e;cases e
 refine I.step (g':=s.gens) (d':=s.drawn) (ch:=[it]) (λb hb=>?_) (λb o _ _ hc e _=>k b o (λz=>hc (by simp[z])) e) (λb o _ _ hc e _=>⟨o.slots,k b o (λz=>hc (by simp[z])) e⟩) (λ_ _ _ _ n=>n)
  (λb o hc e=>⟨o,k b o (λz=>hc (by simp[z])) e⟩) (λ_ _ e=>e) (λ_ _ _ e=>e) (λb ps e=>⟨#[],by rw[e];simp⟩) (λm hm=>?_) (λb u e=>?_) I.bare
 ·have e:b=it:=by simpa using hb
  subst e;exact⟨h1,hL,h2,h3⟩
 ·obtain⟨o,es,ep,ho,r⟩:=hm;exact⟨o,es,ep,k _ o (Ne.symm hL) ho,r⟩
 ·refine(I.hok b u e).stay (λc v hc q=>k c v ?_ q) (λ_ q=>q) λ_ _ q=>q;rcases hc with z|z
  ·rw[z];exact Xy b u e
  ·exact Xy c _ z
theorem Inv.tok(I:Inv X pins σ H s)(t:Nat):Inv X pins σ H { s with toks:=t }:=I.un (h':=s.heap) (t':=t) Un.refl I.hok
theorem Inv.kept{t':Nat}(I:Inv X pins σ H s)(k:∀b u,s.heap.get? b=some u->h'.get? b=some u):Inv X pins σ H { s with heap:=h',toks:=t' }:=I.un (Un.kept k) (I.hok.kept k)
theorem Inv.laid{a:Addr}{o:HO}{t':Nat}(I:Inv X pins σ H s)(k:∀b u,s.heap.get? b=some u->h'.get? b=some u)(hp:s.heap.objs.size<=a)(new:fj X.prog X.w (upd H a o) h' a o) :
  Inv X pins σ (upd H a o) { s with heap:=h',toks:=t' }:=I.un (Un.laid k hp (I.hok.fresh hp)) (I.hok.laid k hp new)
theorem Inv.write{x e:Addr}{o:HO}{t':Nat}(I:Inv X pins σ H s)(mu:Mut (H x))(he:e=x\/H e=some (.own x))(k:∀b u,b≠e->s.heap.get? b=some u->h'.get? b=some u)(heo:∃u,h'.get? e=some u)
  (new:fj X.prog X.w (upd H x o) h' x o):Inv X pins σ (upd H x o) { s with heap:=h',toks:=t' }:=I.un (Un.write mu he k heo) (I.hok.write mu he k heo new)
theorem Inv.weak{σ':List (Option V)}(I:Inv X pins σ H s)(hl:σ'.length=σ.length)(w:∀(i:Nat) v,σ'[i]? = some (some v)->σ[i]? = some (some v)):Inv X pins σ' H s:=
 ⟨I.ok,I.os,I.bare,I.base,let ⟨m,hn,hl'⟩:=I.loc;⟨m,hn,λi x v e1 e2 e3=>hl' i x v e1 (w i v e2) e3⟩,I.cell,I.free,I.lU,I.pin,I.hok,hl.trans I.len⟩
theorem Inv.Km{Xq:List (Addr×Obj)}(I:Inv X pins σ H s)(h:∀p∈Xq,s.heap.get? p.1=some p.2/\H p.1=none/\p.1≠X.env.locals/\p.1 ∉ X.fs/\∀v,p.2.data ≠ .cell v):Inv X Xq σ H s:=
 ⟨I.ok,I.os,I.bare,I.base,I.loc,I.cell,I.free,I.lU,λp hp=>(Qw4.mp hp).elim (λz=>I.pin p (Qx3 _ z)) (h p),I.hok,I.len⟩
theorem yu{N:List Str}(hN:N.Nodup){i j:Nat}{x:Str}(a:N[i]? = some x)(b:N[j]? = some x):i=j:=by obtain⟨h1,e1⟩:=Qq6.mp a;obtain⟨h2,e2⟩:=Qq6.mp b;exact(List.getElem_inj hN).mp (e1.trans e2.symm)
theorem Ay{M:Model}{A:Around}{E:Value->Shared->Prop}{i:Nat}{x:Str}{v:V}{u:Value}{Q:Unit->Shared->Prop}(I:Inv X pins σ H s)(hN:X.N.Nodup)(hi:X.N[i]? = some x)(hx:Loc X.env.scope x)(r:RelV v u)
  (h:∀s',Inv X pins (σ.set i (some v)) H s'->(∃a,Heap.SameBut a s.heap s'.heap/\(a=X.env.locals\/X.env.cells.lookup x=some a))->Q () s') (hf:X.fn x=true\/X.env.scope.names.lookup x=some .local:=by first|exact .inl rfl|exact .inr rfl|assumption):wpAny M A (storeName X.env x u) Q E s:=by
 obtain⟨m,hn,hl⟩:=id I.loc;have hcls:(X.env.scope.kind == .class||(X.env.scope.kind == .module&&X.env.locals != X.env.globals))=false:=by rw[I.ok.kind];rfl
 have hiσ:i<σ.length:=by rw[I.len];exact(Qq6.mp hi).1
 have Wj:=I.Wj;have tracked:∀{a:Addr} {h':Heap},(∃o,s.heap.get? a=some o/\H a=none)->Heap.SameBut a s.heap h'->oH X.prog X.w H h':=λ{a h'} ha hs b ob e=>by
  obtain⟨_,_,hfree⟩:=ha;refine(I.hok b ob e).stay (λc w' hc q=>(hs.2 c ?_).trans q) (λ_ q=>q) λ_ _ q=>q;rintro rfl;rcases hc with rfl|hc
  ·rw[hfree] at e;cases e
  ·rw[hfree] at hc;cases hc
 rcases hx with hk|hk
 ·refine wpAny_storeName_local hk hn (λh' hn' hs=>?_) hcls;obtain⟨oL,_,_,hoL,_⟩:=id hn;refine h _ ⟨I.ok,I.os,I.bare,⟨λb o e n hb hx=>?_,λb o e n hb hx=>?_,I.base.free,λb o e hx=>?_,I.base.tups,I.base.rF,I.base.wY,I.base.tabs⟩,⟨_,hn',λj y v' e1 e2 e3=>?_⟩,λy c e=>?_,I.free,I.lU,λp hp=>?_,tracked ⟨oL,hoL,I.free⟩ hs,by simpa using I.len⟩ ⟨_,hs,.inl rfl⟩
  ·exact(hs.2 b (Qw6 (Qwq (Qq9 e) I.ok.above))).trans (I.base.keep b o e n hb hx)
  ·obtain⟨sl,e1⟩:=I.base.slot b o e n hb hx;exact⟨sl,(hs.2 b (Qw6 (Qwq (Qq9 e) I.ok.above))).trans e1⟩
  ·obtain⟨o',e1⟩:=I.base.there b o e hx;exact⟨o',(hs.2 b (Qw6 (Qwq (Qq9 e) I.ok.above))).trans e1⟩
  ·by_cases hj:j=i
   ·subst hj;rw[hi] at e1;cases e1;rw[Qww hiσ] at e2;cases e2;exact⟨u,r,.inl ⟨hk,by simp⟩⟩
   ·rw[Qq8 (Ne.symm hj)] at e2;obtain⟨u',r',q⟩:=hl j y v' e1 e2 e3;refine⟨u',r',?_⟩;rcases q with ⟨k,e⟩|⟨k,c,e,z⟩
    ·refine .inl ⟨k,?_⟩;have:y≠x:=λe=>hj (yu hN e1 (e ▸ hi));simp[this,e]
    ·exact .inr ⟨k,c,e,z.sameBut hs (Wj y c e)⟩
  ·obtain⟨w',z⟩:=I.cell y c e;exact⟨w',z.sameBut hs (Wj y c e)⟩
  ·obtain⟨e,n,ne,nf,d⟩:=I.pin p hp;exact⟨(hs.2 p.1 ne).trans e,n,ne,nf,d⟩
 ·have hfn:X.fn x=true:=by
   rcases hf with z|z
   ·exact z
   ·rw[z] at hk;cases hk
  obtain⟨c,hc⟩:=I.ok.has x (.inl hk);obtain⟨w',z⟩:=I.cell x c hc;refine wpAny_storeName_cell I.ok.kind hk hc z (λh' hc' hs=>?_);obtain⟨oc,hoc,afZ⟩:=id z;refine h { s with heap:=h' } ⟨I.ok,I.os,I.bare,⟨λb o e n hb hx=>?_,λb o e n hb hx=>?_,I.base.free,λb o e hx=>?_,I.base.tups,I.base.rF,I.base.wY,I.base.tabs⟩,⟨m,hn.sameBut hs (Ne.symm (Wj x c hc)),λj y v' e1 e2 e3=>?_⟩,λy c' e=>?_,I.free,I.lU,λp hp=>?_,tracked ⟨oc,hoc,(I.lU x c hc).resolve_right λz=>by rw[hfn] at z;cases z.1⟩ hs,by simpa using I.len⟩ ⟨c,hs,.inr hc⟩
  ·exact(hs.2 b (Qw6 (Qwq (Qq9 e) (I.ok.cab x c hfn hc)))).trans (I.base.keep b o e n hb hx)
  ·obtain⟨sl,e1⟩:=I.base.slot b o e n hb hx;exact⟨sl,(hs.2 b (Qw6 (Qwq (Qq9 e) (I.ok.cab x c hfn hc)))).trans e1⟩
  ·obtain⟨o',e1⟩:=I.base.there b o e hx;exact⟨o',(hs.2 b (Qw6 (Qwq (Qq9 e) (I.ok.cab x c hfn hc)))).trans e1⟩
  ·by_cases hj:j=i
   ·subst hj;rw[hi] at e1;cases e1;rw[Qww hiσ] at e2;cases e2;exact⟨u,r,.inr ⟨.inl hk,c,hc,hc'⟩⟩
   ·rw[Qq8 (Ne.symm hj)] at e2;obtain⟨u',r',q⟩:=hl j y v' e1 e2 e3;refine⟨u',r',?_⟩;rcases q with q|⟨k,c',e,z'⟩
    ·exact .inl q
    ·refine .inr ⟨k,c',e,z'.sameBut hs ?_⟩;rintro rfl;exact hj (yu hN e1 (I.ok.inj _ _ _ e hc ▸ hi))
  ·by_cases hcc:c'=c
   ·subst hcc;exact⟨_,hc'⟩
   ·obtain⟨w2,z2⟩:=I.cell y c' e;exact⟨w2,z2.sameBut hs hcc⟩
  ·obtain⟨e,n,ne,nf,d⟩:=I.pin p hp;refine⟨(hs.2 p.1 ?_).trans e,n,ne,nf,d⟩;intro q;rw[q,hoc] at e;have q':oc=p.2:=Qw1 e;exact d w' (by rw[<-q'];exact afZ)
theorem xQ{M:Model}{A:Around}{E:Value->Shared->Prop}{i:Nat}{x:Str}{v:V}{u:Value}{Q:Unit->Shared->Prop}(I:Inv X pins σ H s)(hN:X.N.Nodup)(hi:X.N[i]? = some x)(hx:Loc X.env.scope x)(r:RelV v u)
  (h:∀s',Inv X pins (σ.set i (some v)) H s'->Q () s') (hf:X.fn x=true\/X.env.scope.names.lookup x=some .local:=by first|exact .inl rfl|exact .inr rfl|assumption):wpAny M A (storeName X.env x u) Q E s:=
 Ay I hN hi hx r (λs' I' _=>h s' I') hf
theorem Inv.call'{s':Shared}{ch:List Addr}(I:Inv X pins σ H s)(ho:s'.os=s.os)(u:Un (frs X.stack) ch H H' s.heap s'.heap)(hok:oH X.prog X.w H' s'.heap)(hg:AllBare s'.gens)
  (hch:∀b∈ch,(b∈X.ex\/X.s₀.heap.objs.size<=b)/\b≠X.env.locals/\(∀x c,X.env.cells.lookup x=some c->c≠b)/\∀p∈X.pn++pins,p.1≠b):Inv X pins σ H' s':=by
 obtain⟨h',g',d',t',o'⟩:=s';have e:o'=s.os:=ho;subst e;exact I.call (g':=g') (t':=t') (d':=d') u hok hg hch
end
abbrev XK:=Value->Option Addr->Hp->Prop
abbrev St:=List (Option V)
abbrev VK:=V->Hp->Prop
abbrev TE:=St->Hp->VK->Prop
abbrev TT:=St->Hp->(Bool->Hp->Prop)->Prop
abbrev TA:=St->Hp->(List V->Hp->Prop)->Prop
structure Ends where
 nx:St->Hp->Prop
 rt:VK
 bk:St->Hp->Prop:=λ_ _=>False
 ct:St->Hp->Prop:=λ_ _=>False
abbrev TS:=Ends->St->Hp->Prop
def EP(X:Cx)(pins:List (Addr×Obj))(σ:St)(Q:VK)(u:Value)(s':Shared):Prop:=∃v H',Inv X pins σ H' s'/\RelV v u/\Q v H'
def TP(X:Cx)(pins:List (Addr×Obj))(σ:St)(Q:Bool->Hp->Prop)(b:Bool)(s':Shared):Prop:=∃H',Inv X pins σ H' s'/\Q b H'
def AP(X:Cx)(pins:List (Addr×Obj))(σ:St)(Q:List V->Hp->Prop)(us:List Value)(s':Shared):Prop:=∃vs H',Inv X pins σ H' s'/\Vals vs us/\Q vs H'
def SP(X:Cx)(pins:List (Addr×Obj))(D:Ends)(f:Flow)(s':Shared):Prop:=
 match f with
 | .next=>∃σ' H',Inv X pins σ' H' s'/\D.nx σ' H'
 | .brk=>∃σ' H',Inv X pins σ' H' s'/\D.bk σ' H'
 | .cont=>∃σ' H',Inv X pins σ' H' s'/\D.ct σ' H'
 | .ret u=>∃v σ' H',Inv X pins σ' H' s'/\RelV v u/\D.rt v H'
def PE(X:Cx)(e:Expr)(t:TE):Prop:=
 ∀(pins:List (Addr×Obj)) (s:Shared) (σ:St) (H:Hp) (Q:VK),Inv X pins σ H s->t σ H Q->wpAny (model X.prog X.w) X.A (eval e X.env) (EP X pins σ Q) X.xe s
def PT(X:Cx)(e:Expr)(t:TT):Prop:=
 ∀(pins:List (Addr×Obj)) (s:Shared) (σ:St) (H:Hp) (Q:Bool->Hp->Prop),Inv X pins σ H s->t σ H Q->wpAny (model X.prog X.w) X.A (isTrue e X.env (eval e X.env)) (TP X pins σ Q) X.xe s
def PW(X:Cx)(e:Expr)(t:TT):Prop:=
 ∀(whole:Sem Value) (pins:List (Addr×Obj)) (s:Shared) (σ:St) (H:Hp) (Q:Bool->Hp->Prop),Inv X pins σ H s->t σ H Q->wpAny (model X.prog X.w) X.A (isTrue e X.env whole) (TP X pins σ Q) X.xe s
theorem PW.pt{X:Cx}{e:Expr}{t:TT}(h:PW X e t):PT X e t:=h _
def PA(X:Cx)(es:List Expr)(t:TA):Prop:=
 ∀(pos:Pos) (pins:List (Addr×Obj)) (s:Shared) (σ:St) (H:Hp) (Q:List V->Hp->Prop),Inv X pins σ H s->t σ H Q->wpAny (model X.prog X.w) X.A (spliced (backTo pos (starEach es X.env))) (AP X pins σ Q) X.xe s
def PS(X:Cx)(st:Stmt)(t:TS):Prop:=
 ∀(pins:List (Addr×Obj)) (s:Shared) (σ:St) (H:Hp) (D:Ends),Inv X pins σ H s->t D σ H->wpAny (model X.prog X.w) X.A (exec st X.env) (SP X pins D) X.xe s
def BZ(X:Cx)(st:List Stmt)(t:TS):Prop:=
 ∀(pins:List (Addr×Obj)) (s:Shared) (σ:St) (H:Hp) (D:Ends),Inv X pins σ H s->t D σ H->wpAny (model X.prog X.w) X.A (execs st X.env) (SP X pins D) X.xe s
theorem fV{α:Type}{t:Sem α}{Q Q':α->Shared->Prop}{M:Model}{A:Around}{E:Value->Shared->Prop}{s:Shared}(h:wpAny M A t Q E s)(hQ:∀a s,Q a s->Q' a s):wpAny M A t Q' E s:=Qx8 h hQ λ_ _ x=>x
section
variable{X:Cx}
def acv(i:Nat):TE:=λσ H Q=>∃v,σ[i]? = some (some v)/\Q v H
def tC(v:V):TE:=λ_ H Q=>Q v H
theorem iG{i:Nat}{x:Str}{pos:Pos}(hN:X.N[i]? = some x)(hv:vZ X.env.scope x)(hd:ju x:=by decide)(hcd:vG x:=by decide):PE X (.Name x pos) (acv i):=by
 intro pins s σ H Q I h;obtain⟨v,e,h⟩:=h;obtain⟨m,hn,hl⟩:=I.loc;obtain⟨u,r,l⟩:=hl i x v hN e hv;have fin:EP X pins σ Q u s:=⟨v,H,I,r,h⟩;rcases l with ⟨hk,hm⟩|⟨hk,c,hc,hcell⟩
 ·exact wpAny_Name (wpAny_loadName_local I.ok.kind hk hn hm fin) hd
 ·rcases hk with hk|hk
  ·exact wpAny_Name (wpAny_loadName_cell I.ok.kind hk hc hcell fin) hd
  ·exact wpAny_Name (wpAny_loadName_free I.ok.kind hk hc hcell fin hcd) hd
theorem ZL{i j pos}:PE X (.Constant (.int i) j pos) (tC (.int i)):=λ_ _ _ H _ I h=>wpAny_Constant_int ⟨.int i,H,I.tok _,⟨_,rfl⟩,h⟩
theorem adk{b j pos}:PE X (.Constant (.bool b) j pos) (tC (.bl b)):=λ_ _ _ H _ I h=>Constant_bool ⟨.bl b,H,I,rfl,h⟩
theorem ZJ{j pos}:PE X (.Constant .none j pos) (tC .non):=λ_ _ _ H _ I h=>Constant_none ⟨.non,H,I,rfl,h⟩
theorem ZF{x j pos}:PE X (.Constant (.str x) j pos) (tC (.str x)):=λ_ _ _ H _ I h=>Calls.Constant_str ⟨.str x,H,I.tok _,⟨_,rfl⟩,h⟩
def Gl(X:Cx)(x:Str):Prop:=X.env.kindOf x=some .globalImplicit
theorem tQ{E:Value->Shared->Prop}{pins:List (Addr×Obj)}{s:Shared}{σ:St}{H:Hp}{x:Str}{u:Value}{pos:Pos}{Q:Value->Shared->Prop}(I:Inv X pins σ H s)(hg:Gl X x)(hm:X.mg x=some u)(h:Q u s)
  (hd:ju x:=by decide):wpAny (model X.prog X.w) X.A (eval (.Name x pos) X.env) Q E s:=
 Calls.Name_function_global I.ok.kind hg (Calls.loadGlobal_global (by rw[I.ok.glob];exact I.mod.glob.keeps I.bk) hm h) hd
theorem vJ{E:Value->Shared->Prop}{pins:List (Addr×Obj)}{s:Shared}{σ:St}{H:Hp}{x:Str}{u:Value}{pos:Pos}{Q:Value->Shared->Prop}(I:Inv X pins σ H s)(hg:Gl X x)(hm:X.mg x=none)(hv:bootBuiltins x=some u)(h:Q u s)
  (hn:x ≠ "__name__":=by decide) (hd:ju x:=by decide):wpAny (model X.prog X.w) X.A (eval (.Name x pos) X.env) Q E s:=by
 obtain⟨mb,h1,h2⟩:=I.mod.blt;exact Calls.Name_function_global I.ok.kind hg (Calls.loadGlobal_builtin (by rw[I.ok.glob];exact I.mod.glob.keeps I.bk) hm (by rw[I.ok.blt];exact h1.keeps I.bk) ((h2 x hn).trans hv) h) hd
theorem Ko{x:Str}{v:V}{u:Value}{pos:Pos}(hg:Gl X x)(hm:X.mg x=some u)(r:RelV v u)(hd:ju x:=by decide):PE X (.Name x pos) (tC v):=
 λ_ _ _ H _ I h=>tQ I hg hm ⟨v,H,I,r,h⟩ hd
theorem Kq{x:Str}{v:V}{u:Value}{pos:Pos}(hg:Gl X x)(hm:X.mg x=none)(hv:bootBuiltins x=some u)(r:RelV v u)(hn:x ≠ "__name__":=by decide)(hd:ju x:=by decide):PE X (.Name x pos) (tC v):=
 λ_ _ _ H _ I h=>vJ I hg hm hv ⟨v,H,I,r,h⟩ hn hd
variable{a b:Expr}{ta tb:TE}{pos:Pos}
def tB(t:TE):TT:=λσ H Q=>t σ H λx H1=>∃c,x = .bl c/\Q c H1
theorem Zh{e:Expr}{t:TE}(h:PE X e t)(he:∀whole,isTrue e X.env whole=(do let v <-whole;standAt e.pos;holding [v] (truthy v)):=by intro _;rfl):PT X e (tB t):=by intro pins s σ H Q I hw;refine isTrue_plain (fV (h pins s σ H _ I hw) λv s1 ⟨x,H1,I1,r1,q1⟩=>?_) (he _);obtain⟨d,rfl,q⟩:=q1;cases r1;exact wpAny_truthy_bool ⟨H1,I1,q⟩
variable{tA tB':TT}{rest:List Expr}
def afw(t u:TT):TT:=λσ H Q=>t σ H λc H1=>if c=true then u σ H1 Q else Q false H1
def tOr(t u:TT):TT:=λσ H Q=>t σ H λc H1=>if c=true then Q true H1 else u σ H1 Q
def afo(t:TT):TT:=λσ H Q=>t σ H λc H1=>Q (!c) H1
theorem pw_and1(ha:PT X a tA):PW X (.BoolOp .And [a] pos) tA:=by
 intro wh pins s σ H Q I h;refine isTrue_and (fV (ha pins s σ H Q I h) λc s1 e=>?_);cases c with
 | true=>exact isTrue_and_nil e
 | false=>exact e
theorem pw_or1(ha:PT X a tA):PW X (.BoolOp .Or [a] pos) tA:=by
 intro wh pins s σ H Q I h;refine isTrue_or (fV (ha pins s σ H Q I h) λc s1 e=>?_);cases c with
 | false=>exact isTrue_or_nil e
 | true=>exact e
theorem pw_and(ha:PT X a tA)(hb:PW X (.BoolOp .And (b::rest) pos) tB'):PW X (.BoolOp .And (a::b::rest) pos) (afw tA tB'):=by
 intro wh pins s σ H Q I h;refine isTrue_and (fV (ha pins s σ H _ I h) λc s1 ⟨H1,I1,q1⟩=>?_);cases c with
 | true=>exact hb wh pins s1 σ H1 Q I1 q1
 | false=>exact⟨H1,I1,q1⟩
theorem pw_or(ha:PT X a tA)(hb:PW X (.BoolOp .Or (b::rest) pos) tB'):PW X (.BoolOp .Or (a::b::rest) pos) (tOr tA tB'):=by
 intro wh pins s σ H Q I h;refine isTrue_or (fV (ha pins s σ H _ I h) λc s1 ⟨H1,I1,q1⟩=>?_);cases c with
 | true=>exact⟨H1,I1,q1⟩
 | false=>exact hb wh pins s1 σ H1 Q I1 q1
theorem Zj(ha:PT X a tA):PT X (.UnaryOp .Not a pos) (afo tA):=by intro pins s σ H Q I h;exact isTrue_not (ha pins s σ H (λc H1=>Q (!c) H1) I h)
def acD(ta tb:TE):TE:=λσ H Q=>ta σ H λx H1=>∃c,x = .bl c/\if c=true then tb σ H1 Q else Q (.bl false) H1
def afn(ta tb:TE):TE:=λσ H Q=>ta σ H λx H1=>∃c,x = .bl c/\if c=true then Q (.bl true) H1 else tb σ H1 Q
theorem ZG{op}{t:TE}(h:PE X a t):PE X (.BoolOp op [a] pos) t:=λpins s σ H Q I hw=>BoolOp_one (h pins s σ H Q I hw)
theorem ZP(ha:PE X a ta)(hb:PE X (.BoolOp .And (b::rest) pos) tb):PE X (.BoolOp .And (a::b::rest) pos) (acD ta tb):=by
 intro pins s σ H Q I h;refine BoolOp_and (fV (ha pins s σ H _ I h) λv s1 ⟨x,H1,I1,r1,q1⟩=>?_);obtain⟨c,rfl,q1⟩:=q1;cases r1;refine wpAny_truthy_bool ?_;cases c with
 | true=>exact hb pins s1 σ H1 Q I1 q1
 | false=>exact⟨.bl false,H1,I1,rfl,q1⟩
theorem adh(ha:PE X a ta)(hb:PE X (.BoolOp .Or (b::rest) pos) tb):PE X (.BoolOp .Or (a::b::rest) pos) (afn ta tb):=by
 intro pins s σ H Q I h;refine BoolOp_or (fV (ha pins s σ H _ I h) λv s1 ⟨x,H1,I1,r1,q1⟩=>?_);obtain⟨c,rfl,q1⟩:=q1;cases r1;refine wpAny_truthy_bool ?_;cases c with
 | false=>exact hb pins s1 σ H1 Q I1 q1
 | true=>exact⟨.bl true,H1,I1,rfl,q1⟩
end
def jX(K:PySem.W.Frag)(H:Hp)(a:Addr)(xs:List V):Prop:=
 Rd H a (.lst xs)\/
  ∃(o:Obj) (its:Array Value) (n:Nat),K.lookup a=some o/\o.cls = .type "list"/\o.dict=none/\o.data = .seq its n/\its.size<=sizeLine/\Vals xs its.toList
def jZ(K:PySem.W.Frag)(H:Hp)(a:Addr)(xs:List V):Prop:=
 Rd H a (.tup xs)\/
  ∃(o:Obj) (its:Array Value) (n:Nat),K.lookup a=some o/\o.cls = .type "tuple"/\o.dict=none/\o.data = .seq its n/\its.size<=sizeLine/\Vals xs its.toList
noncomputable def age:Value->Option V
 | .none=>some .non
 | .bool b=>some (.bl b)
 | .int i _=>some (.int i)
 | .str x _=>some (.str x)
 | .bytes b _=>some (.byt b)
 | .float b _=>some (.flt b)
 | .ref a=>some (.ref a)
 | .type n=>some (.ty n)
 | _=>none
theorem RelV.abs{x:V}{u:Value}(r:RelV x u):age u=some x:=by
 cases x with
 | non=>cases r;rfl
 | bl _=>cases r;rfl
 | int _=>obtain⟨t,rfl⟩:=r;rfl
 | str _=>obtain⟨t,rfl⟩:=r;rfl
 | byt _=>obtain⟨t,rfl⟩:=r;rfl
 | flt _=>obtain⟨t,rfl⟩:=r;rfl
 | ref _=>cases r;rfl
 | ty _=>cases r;rfl
theorem RelV.inj{x y:V}{u:Value}(r:RelV x u)(q:RelV y u):x=y:=Qw1 (r.abs.symm.trans q.abs)
theorem Vals.inj:∀{xs ys:List V} {us:List Value},Vals xs us->Vals ys us->xs=ys
 | _,_,_,.nil,.nil=>rfl
 | _,_,_,.cons r t,.cons r' t'=>by rw[r.inj r',Vals.inj t t']
section
variable{X:Cx}{pins:List (Addr×Obj)}{σ:St}{H:Hp}{s:Shared}{a:Addr}{xs ys:List V}
theorem jX.of{K:PySem.W.Frag}(h:H a=some (.lst xs)):jX K H a xs:=.inl (.inl h)
theorem jZ.of{K:PySem.W.Frag}(h:H a=some (.tup xs)):jZ K H a xs:=.inl (.inl h)
theorem Inv.list(I:Inv X pins σ H s)(h:jX X.K H a xs):∃its:List Value,Vals xs its/\PlainL s.heap a its.toArray/\xs.length<=sizeLine:=by
 rcases h with h|⟨o,its,n,hk,hc,hd,hs,hz,r⟩
 ·obtain⟨z,its,n,r,e⟩:=h.ok I.hok;exact⟨its,r,⟨_,n,e,rfl,rfl,rfl⟩,z⟩
 ·refine⟨its.toList,r,⟨o,n,I.KD a o hk,hc,hd,by simpa using hs⟩,?_⟩;have e:=r.length;simp only[Qqx] at e;omega
theorem Inv.tuple(I:Inv X pins σ H s)(h:jZ X.K H a xs):∃its:List Value,Vals xs its/\IsTup s.heap a its.toArray/\xs.length<=sizeLine:=by
 rcases h with h|⟨o,its,n,hk,hc,hdn,hs,hz,r⟩
 ·obtain⟨z,its,r,p⟩:=h.ok I.hok;exact⟨its,r,p.is,z⟩
 ·refine⟨its.toList,r,⟨o,I.KD a o hk,hc,n,by simpa using hs⟩,?_⟩;have e:=r.length;simp only[Qqx] at e;omega
theorem Inv.Gq(I:Inv X pins σ H s)(h:jX X.K H a xs)(h':jX X.K H a ys):xs=ys:=by
 obtain⟨its,r,⟨o,n,e,_,_,d⟩,_⟩:=I.list h;obtain⟨its',r',⟨o',n',e',_,_,d'⟩,_⟩:=I.list h';rw[e] at e';cases e';rw[d] at d';injection d' with d1 _
 have:its=its':=by simpa using Qxz Array.toList d1
 subst this;exact r.inj r'
theorem Inv.qg(I:Inv X pins σ H s)(h:jZ X.K H a xs)(h':jZ X.K H a ys):xs=ys:=by
 obtain⟨its,r,⟨o,e,_,n,d⟩,_⟩:=I.tuple h;obtain⟨its',r',⟨o',e',_,n',d'⟩,_⟩:=I.tuple h';rw[e] at e';cases e';rw[d] at d';injection d' with d1 _
 have:its=its':=by simpa using Qxz Array.toList d1
 subst this;exact r.inj r'
end
abbrev Cx.wish(X:Cx)(E:Value->Shared->Prop):Cx:={ X with xe:=E }
abbrev Cx.vC(X:Cx):Cx:=X.wish λ_ _=>False
theorem Cx.Ok.wish{X:Cx}(ok:X.Ok)(E:Value->Shared->Prop):(X.wish E).Ok:=
 ⟨ok.mod,ok.kind,ok.glob,ok.blt,ok.above,ok.inj,ok.has,ok.cab,ok.hd,ok.frames,ok.ik,ok.exf,ok.bs,ok.Ww,ok.M5,ok.Nx,ok.vR,ok.frf⟩
theorem Cx.Ok.fO{X:Cx}{E:Value->Shared->Prop}(ok:(X.wish E).Ok):X.Ok:=
 ⟨ok.mod,ok.kind,ok.glob,ok.blt,ok.above,ok.inj,ok.has,ok.cab,ok.hd,ok.frames,ok.ik,ok.exf,ok.bs,ok.Ww,ok.M5,ok.Nx,ok.vR,ok.frf⟩
section
variable{X:Cx}{pins:List (Addr×Obj)}{σ:St}{H:Hp}{s:Shared}{E:Value->Shared->Prop}
theorem Inv.wish(I:Inv X pins σ H s)(E:Value->Shared->Prop):Inv (X.wish E) pins σ H s:=⟨I.ok.wish E,I.os,I.bare,I.base,I.loc,I.cell,I.free,I.lU,I.pin,I.hok,I.len⟩
theorem Inv.fO(I:Inv (X.wish E) pins σ H s):Inv X pins σ H s:=⟨I.ok.fO,I.os,I.bare,I.base,I.loc,I.cell,I.free,I.lU,I.pin,I.hok,I.len⟩
theorem SP.fO{D:Ends}{f:Flow}{s':Shared}(h:SP (X.wish E) pins D f s'):SP X pins D f s':=by
 cases f with
 | next=>obtain⟨σ',H',I,q⟩:=h;exact⟨σ',H',I.fO,q⟩
 | brk=>obtain⟨σ',H',I,q⟩:=h;exact⟨σ',H',I.fO,q⟩
 | cont=>obtain⟨σ',H',I,q⟩:=h;exact⟨σ',H',I.fO,q⟩
 | ret u=>obtain⟨v,σ',H',I,r,q⟩:=h;exact⟨v,σ',H',I.fO,r,q⟩
theorem PT.vC{e:Expr}{t:TT}(h:PT X.vC e t):PT X e t:=λpins s σ H Q I hw=>
 Qx8 (h pins s σ H Q (I.wish _) hw) (λ_ _ ⟨H',I',q⟩=>⟨H',I'.fO,q⟩) λ_ _ z=>False.elim z
theorem BZ.vC{st:List Stmt}{t:TS}(h:BZ X.vC st t):BZ X st t:=λpins s σ H D I hw=>
 Qx8 (h pins s σ H D (I.wish _) hw) (λ_ _ q=>q.fO) λ_ _ z=>False.elim z
end
section
variable{X:Cx}{st:Stmt}{rest:List Stmt}{t u:TS}{e:Expr}{te:TE}{pos:Pos}
def acy:TS:=λD σ H=>D.nx σ H
def afk(t u:TS):TS:=λD σ H=>t { D with nx:=u D } σ H
theorem UJ:BZ X [] acy:=λ_ _ σ H _ I h=>wpAny_execs_nil ⟨σ,H,I,h⟩
theorem Fz(h1:PS X st t)(h2:BZ X rest u):BZ X (st::rest) (afk t u):=by
 intro pins s σ H D I h;refine wpAny_execs_cons (fV (h1 pins s σ H { D with nx:=u D } I h) λf s1 q=>?_);cases f with
 | next=>
  obtain⟨σ',H',I',q⟩:=q;exact h2 pins s1 σ' H' D I' q
 | ret v=>exact q
 | brk=>exact q
 | cont=>exact q
theorem CZ(h1:PS X st t):BZ X [st] t:=by
 intro pins s σ H D I h;refine wpAny_execs_cons (fV (h1 pins s σ H D I h) λf s1 q=>?_);cases f with
 | next=>exact wpAny_execs_nil q
 | ret v=>exact q
 | brk=>exact q
 | cont=>exact q
theorem Inv.quiet{pins:List (Addr×Obj)}{σ:St}{H:Hp}{s:Shared}(I:Inv X pins σ H s):interactive X.env=false:=by simp[interactive,I.ok.kind]
def acz(te:TE):TS:=λD σ H=>te σ H λ_ H1=>D.nx σ H1
theorem UL(he:PE X e te)(hs:swapsWith e none pos.line X.env=pure false:=by rfl):PS X (.Expr e pos) (acz te):=by intro pins s σ H D I h;exact wpAny_Expr_any (fV (he pins s σ H _ I h) λv s1 ⟨x,H1,I1,r1,q1⟩=>⟨σ,H1,I1,q1⟩) I.quiet hs
def afl(te:TE):TS:=λD σ H=>te σ H D.rt
theorem Jd(he:PE X e te):PS X (.Return (some e) pos) (afl te):=by intro pins s σ H D I h;exact wpAny_Return_some (fV (he pins s σ H _ I h) λv s1 ⟨x,H1,I1,r1,q1⟩=>⟨x,σ,H1,I1,r1,q1⟩)
def afs(c:TT)(t u:TS):TS:=λD σ H=>c σ H λb H1=>if b=true then t D σ H1 else u D σ H1
theorem Xp{c:Expr}{a b:List Stmt}{tc:TT}(hc:PT X c tc)(ha:BZ X a t)(hb:BZ X b u):PS X (.If c a b pos) (afs tc t u):=by
 intro pins s σ H D I h;refine wpAny_If (fV (hc pins s σ H _ I h) λd s1 ⟨H1,I1,q1⟩=>?_);cases d with
 | true=>exact ha pins s1 σ H1 D I1 q1
 | false=>exact hb pins s1 σ H1 D I1 q1
end
abbrev TG:=V->St->Hp->(St->Hp->Prop)->Prop
abbrev WN:=List V->St->Hp->(St->Hp->Prop)->Prop
def PG(X:Cx)(target:Expr)(t:TG):Prop:=
 ∀(pins:List (Addr×Obj)) (s:Shared) (σ:St) (H:Hp) (v:V) (u:Value) (Q:St->Hp->Prop),Inv X pins σ H s->RelV v u->t v σ H Q->
  wpAny (model X.prog X.w) X.A (assign target X.env u) (λ_ s'=>∃σ' H',Inv X pins σ' H' s'/\Q σ' H') X.xe s
def Yn(X:Cx)(ts:List Expr)(t:WN):Prop:=
 ∀(pins:List (Addr×Obj)) (s:Shared) (σ:St) (H:Hp) (vs:List V) (us:List Value) (Q:St->Hp->Prop),Inv X pins σ H s->Vals vs us->t vs σ H Q->
  wpAny (model X.prog X.w) X.A (assignInOrder ((assignEach ts X.env).map (·.2)) us) (λ_ s'=>∃σ' H',Inv X pins σ' H' s'/\Q σ' H') X.xe s
abbrev JQ:=V->V->V->Hp->(Hp->Prop)->Prop
def aer(X:Cx)(t:JQ):Prop:=
 ∀(pins:List (Addr×Obj)) (s:Shared) (σ:St) (H:Hp) (o i v:V) (ov iv u:Value) (Q:Hp->Prop),Inv X pins σ H s->RelV o ov->RelV i iv->RelV v u->t o i v H Q->
  wpAny (model X.prog X.w) X.A (setItem ov iv u) (λ_ s'=>∃H',Inv X pins σ H' s'/\Q H') X.xe s
section
variable{X:Cx}{pos:Pos}
def GJ(i:Nat):TG:=λv σ H Q=>Q (σ.set i (some v)) H
theorem U7{i:Nat}{x:Str}(hN:X.N.Nodup)(hi:X.N[i]? = some x)(hx:Loc X.env.scope x)(hf:X.fn x=true\/X.env.scope.names.lookup x=some .local:=by first|exact .inl rfl|exact .inr rfl|assumption):PG X (.Name x pos) (GJ i):=by intro pins s σ H v u Q I r h;exact wpAny_assign_Name (xQ I hN hi hx r (λs' I'=>⟨_,H,I',h⟩) hf)
def af6:WN:=λvs σ H Q=>vs=[]/\Q σ H
def aea(t:TG)(u:WN):WN:=λvs σ H Q=>∃v r,vs=v::r/\t v σ H λσ' H'=>u r σ' H' Q
theorem U6:Yn X [] af6:=by intro pins s σ H vs us Q I r h;obtain⟨e,h⟩:=h;subst e;cases r;exact assignInOrder_nil ⟨σ,H,I,h⟩
theorem QL{e:Expr}{es:List Expr}{t:TG}{u:WN}(h1:PG X e t)(h2:Yn X es u)
  (hs:(assignEach (e::es) X.env).map (·.2)=assign e X.env::(assignEach es X.env).map (·.2):=by rfl):Yn X (e::es) (aea t u):=by
 intro pins s σ H vs us Q I r h;obtain⟨v,vr,e1,h⟩:=h;subst e1;cases r with
 | cons r rr=>
  rw[hs];refine assignInOrder_cons (fV (h1 pins s σ H _ _ _ I r h) λ_ s1 ⟨σ1,H1,I1,q1⟩=>?_);exact h2 pins s1 σ1 H1 _ _ Q I1 rr q1
def af4(K:PySem.W.Frag)(n:Nat)(t:WN):TG:=λv σ H Q=>∃a xs,v = .ref a/\jZ K H a xs/\xs.length=n/\t xs σ H Q
theorem Zz{es:List Expr}{k:Nat}{t:WN}{n:Nat}(hc:X.calm=true)(h:Yn X es t)
  (hn:(assignEach es X.env).length=n:=by rfl) (hst:(assignEach es X.env).findIdx? (·.1)=none:=by rfl):PG X (.Tuple es k pos) (af4 X.K n t):=by
 intro pins s σ H v u Q I r hw;obtain⟨a,xs,e1,hq,hl,hw⟩:=hw;subst e1;cases r;obtain⟨its,rv,ht,hz⟩:=I.tuple hq;refine assign_Tuple_tuple (I.ok.hd hc) ht (by simp[hn,<-hl,rv.length]) hst λh' hx=>?_;have I1:Inv X pins σ H { s with heap:=h' }:=I.kept (t':=s.toks) λb o e=>hx b o (Qw6 (Qq9 e)) e;exact h pins _ σ H xs _ Q I1 (by simpa using rv) hw
noncomputable def GC(to ti:TE)(t:JQ):TG:=λv σ H Q=>to σ H λo H1=>ti σ H1 λi H2=>t o i v H2 λH3=>Q σ H3
theorem ZC{o i:Expr}{to ti:TE}{t:JQ}(ho:PE X o to)(hi:PE X i ti)(hs:aer X t)
  (ha:∀v,assign (.Subscript o i pos) X.env v=(do
   let ov <-holding [v] (eval o X.env)
   let iv <-holding [v,ov] (eval i X.env)
   standAt pos
   holding [v,ov,iv] (setItem ov iv v)
   release [v,ov,iv] []):=by intro _;rfl):PG X (.Subscript o i pos) (GC to ti t):=by
 intro pins s σ H v u Q I r h;rw[ha];refine Qqq (Qzy (fV (ho pins s σ H _ I h) λov s1 ⟨x,H1,I1,r1,q1⟩=>?_));refine Qqq (Qzy (fV (hi pins s1 σ H1 _ I1 q1) λiv s2 ⟨y,H2,I2,r2,q2⟩=>?_));refine Qqq (wpAny_standAt (Qqq (Qzy (fV (hs pins s2 σ H2 x y v ov iv u _ I2 r1 r2 r q2) λ_ s3 ⟨H3,I3,q3⟩=>?_))));exact wpAny_release ⟨σ,H3,I3,q3⟩
def T3(te:TE)(g:TG):TS:=λD σ H=>te σ H λx H1=>g x σ H1 D.nx
theorem Zq{tg e:Expr}{te:TE}{g:TG}(he:PE X e te)(hg:PG X tg g)(hs:swapsWithSole [tg] e pos.line X.env=pure false:=by rfl)(hw:swappedStores [tg] e X.env=pure none:=by rfl)
  (h1:(assignEach [tg] X.env).map (·.2)=[assign tg X.env]:=by rfl):PS X (.Assign [tg] e pos) (T3 te g):=by
 intro pins s σ H D I h;refine wpAny_Assign_stores (fV (he pins s σ H _ I h) λv s1 ⟨x,H1,I1,r1,q1⟩=>?_) hs hw;rw[h1];exact fV (hg pins s1 σ H1 x v _ I1 r1 q1) λ_ s2 q=>q
theorem Jc{i:Nat}{x:Str}{e:Expr}{te:TE}{pos':Pos}(hN:X.N.Nodup)(hi:X.N[i]? = some x)(hx:Loc X.env.scope x)(he:PE X e te)(hs:swapsWith e (some (.Name x pos')) pos.line X.env=pure false:=by rfl)(hf:X.fn x=true\/X.env.scope.names.lookup x=some .local:=by first|exact .inl rfl|exact .inr rfl|assumption) :
  PS X (.Assign [.Name x pos'] e pos) (T3 te (GJ i)):=by
 intro pins s σ H D I h;refine wpAny_Assign_Name (fV (he pins s σ H _ I h) λv s1 ⟨y,H1,I1,r1,q1⟩=>?_) hs;exact xQ I1 hN hi hx r1 (λs2 I2=>⟨_,H1,I2,q1⟩) hf
def YD(c:TT)(tb:TS):TS:=λD σ H=>∃W:Nat->St->Hp->Prop,(∃m,W m σ H)/\∀m σ H,W m σ H->
 c σ H λb H1=>if b=true then ∃N:St->Hp->Prop,(∀σ' H',N σ' H'->∃m',m'<m/\W m' σ' H')/\tb { D with nx:=N,ct:=N,bk:=D.nx } σ H1 else D.nx σ H1
theorem FJ{c:Expr}{body:List Stmt}{tc:TT}{tb:TS}(hp:PassesOwn (model X.prog X.w) X.A X.env X.xe)(hc:PT X c tc)(hb:BZ X body tb):PS X (.While c body [] pos) (YD tc tb):=by
 intro pins s σ H D I h;obtain⟨W,⟨m0,w0⟩,turn⟩:=h;refine wpAny_While (codeAny_whileLoop (λn s'=>∃σ' H',Inv X pins σ' H' s'/\W n σ' H') ?_ m0 ⟨σ,H,I,w0⟩);rintro n s1 ⟨σ1,H1,I1,w1⟩;refine Qkx hp (fV (hc pins s1 σ1 H1 _ I1 (turn n σ1 H1 w1)) λb s2 ⟨H2,I2,q2⟩=>?_);cases b with
 | true=>
  obtain⟨N,hN,q2⟩:=q2;rw[if_pos rfl];refine Qkx hp (fV (hb pins s2 σ1 H2 _ I2 q2) λf s3 q3=>?_);cases f with
  | next=>
   obtain⟨σ3,H3,I3,n3⟩:=q3;obtain⟨m',hm,w3⟩:=hN σ3 H3 n3;exact⟨m',hm,σ3,H3,I3,w3⟩
  | cont=>
   obtain⟨σ3,H3,I3,n3⟩:=q3;obtain⟨m',hm,w3⟩:=hN σ3 H3 n3;exact⟨m',hm,σ3,H3,I3,w3⟩
  | brk=>exact q3
  | ret v=>exact q3
 | false=>
  rw[if_neg Qxk];exact wpAny_execs_nil ⟨σ1,H2,I2,q2⟩
end
structure It where
 go:Nat->Hp->Prop
 yld:Nat->Hp->V->Hp->Prop
 stop:Nat->Hp->Prop
def rO(X:Cx)(pins:List (Addr×Obj))(H:Hp)(b:Addr):Prop:=
 H b=none/\b≠X.env.locals/\b ∉ X.fs/\(b∈X.ex\/X.s₀.heap.objs.size<=b)/\(∀x c,X.env.cells.lookup x=some c->c≠b)/\∀p∈X.pn++pins,p.1≠b
theorem Inv.Wb{X:Cx}{pins:List (Addr×Obj)}{σ:St}{H H':Hp}{s:Shared}{b:Addr}(I:Inv X pins σ H s)(hb:s.heap.objs.size<=b)(hn:H' b=none):rO X pins H' b:=by
 refine⟨hn,Qkz (Qwq I.lt hb),I.afI hb,.inr (Qq4 I.sz hb),λx c e z=>?_,λp hp z=>?_⟩
 ·obtain⟨v,q⟩:=I.cell x c e;exact absurd (Qwq q.lt (by rw[z];exact hb)) (Qzj _)
 ·exact absurd (Qwq (Qq9 (I.pin p hp).1) (by rw[z];exact hb)) (Qzj _)
structure Turn(P:Program)(w:World)(K:PySem.W.Frag)(tg:Expr)(J:It)(fp:List Addr)(it:Addr)(tn:Nat->Heap->Prop):Prop where
 mem:it∈fp
 obj:∀i h,tn i h->∀b∈fp,∃o,h.get? b=some o/\∀v,o.data ≠ .cell v
 keep:∀i h h',tn i h->(∀b∈fp,∀o,h.get? b=some o->h'.get? b=some o)->tn i h'
 item:∀(X:Cx),X.prog=P->X.w=w->X.K=K->X.calm=true->∀(i:Nat) (pins:List (Addr×Obj)) (s:Shared) (σ:St) (H:Hp) (E:Value->Shared->Prop),Inv X pins σ H s->(∀b∈fp,rO X pins H b)->tn i s.heap->J.go i H->
  wpAny (model P w) X.A (pyNext (.ref it)) (λr s1=>∃u,r=some u/\
   wpAny (model P w) X.A (letOwnedTupleGo tg (.ref it) u) (λ_ s2=>∃x H',Inv X pins σ H' s2/\RelV x u/\J.yld i H x H'/\tn (i+1) s2.heap/\∀b∈fp,H' b=none) E s1) E s
 done:∀(X:Cx),X.prog=P->X.w=w->X.K=K->X.calm=true->∀(i:Nat) (pins:List (Addr×Obj)) (s:Shared) (σ:St) (H:Hp) (E:Value->Shared->Prop),Inv X pins σ H s->(∀b∈fp,rO X pins H b)->tn i s.heap->J.stop i H->
  wpAny (model P w) X.A (pyNext (.ref it)) (λr s1=>r=none/\Inv X pins σ H s1) E s
 self:∀(A:Around) (i:Nat) (s:Shared) (Q:Value->Shared->Prop) (E:Value->Shared->Prop),tn i s.heap->Q (.ref it) s->wpAny (model P w) A (pyIter (.ref it)) Q E s
abbrev TI:=St->Hp->(It->Hp->Prop)->Prop
def PIE(X:Cx)(pins:List (Addr×Obj))(σ:St)(tg:Expr)(R:It->Hp->Prop)(itv:Value)(s2:Shared):Prop:=
 ∃(it:Addr) (fp:List Addr) (tn:Nat->Heap->Prop) (J:It) (H':Hp),itv = .ref it/\Inv X pins σ H' s2/\Turn X.prog X.w X.K tg J fp it tn/\tn 0 s2.heap/\(∀b∈fp,rO X pins H' b)/\R J H'
def PI(X:Cx)(tg iter:Expr)(wi:TI):Prop:=
 ∀(pins:List (Addr×Obj)) (s:Shared) (σ:St) (H:Hp) (R:It->Hp->Prop),Inv X pins σ H s->wi σ H R->
  wpAny (model X.prog X.w) X.A (eval iter X.env) (λv s1=>wpAny (model X.prog X.w) X.A (pyIter v) (PIE X pins σ tg R) X.xe s1) X.xe s
theorem Gz{M : Model}{A : Around}{E : Value → Shared → Prop}{s : Shared}{tg : Expr}{it : Addr}{u : Value}{o : Obj}{n : String}{vs : Array Value}{Q : Unit → Shared → Prop}(ho : s.heap.get? it = some o)(hc : o.cls = .type n)(hd : o.data = .fields vs)
    (hn : ["enumerate", "zip", "dict_itemiterator", "dict_reverseitemiterator", "odict_iterator", "itertools.zip_longest", "itertools.pairwise"].contains n = false) (hQ : Q () s) : wpAny M A (letOwnedTupleGo tg (.ref it) u) Q E s := by
  unfold letOwnedTupleGo;cases tg <;> first
    | exact Qq2 hQ
    | (cases u <;> first
        | exact Qq2 hQ
        | (refine Qqq (wpAny_load ho ?_)
           rw [hc, hd];show wpAny M A (if (["enumerate", "zip", "dict_itemiterator", "dict_reverseitemiterator", "odict_iterator", "itertools.zip_longest", "itertools.pairwise"].contains n && vs[0]? == some (rawInt _)) = true then _ else _) Q E s;rw [if_neg (by intro h; rw [hn, Bool.false_and] at h; cases h)];exact Qq2 hQ))
noncomputable def Itl(K:PySem.W.Frag)(a:Addr):It:=
 ⟨λi H=>∃xs x,jX K H a xs/\xs[i]? = some x,λi H x H'=>H'=H/\∀xs,jX K H a xs->xs[i]? = some x,λi H=>∃xs,jX K H a xs/\xs.length<=i⟩
noncomputable def Itt(K:PySem.W.Frag)(a:Addr):It:=
 ⟨λi H=>∃xs x,jZ K H a xs/\xs[i]? = some x,λi H x H'=>H'=H/\∀xs,jZ K H a xs->xs[i]? = some x,λi H=>∃xs,jZ K H a xs/\xs.length<=i⟩
noncomputable def Itr(lo:Int)(n:Nat):It:=⟨λi _=>i<n,λi H x H'=>H'=H/\x = .int (lo+i),λi _=>n<=i⟩
theorem LR{P:Program}{w:World}{K:PySem.W.Frag}{tg:Expr}(a it:Addr):Turn P w K tg (Itl K a) [it] it (λi h=>h.IsListIter it a i) where
 mem:=by simp
 obj:=λi h st b hb=>by
  have e:b=it:=by simpa using hb
  subst e;obtain⟨o,e,c,d⟩:=st;exact⟨o,e,λv z=>by rw[d] at z;cases z⟩
 keep:=λi h h' st k=>st.at λo e=>k it (by simp) o e
 item:=by intro X hP hw hK hc i pins s σ H E I hf st hg;subst hP hw hK;obtain⟨xs,x,hq,hx⟩:=hg;obtain⟨its,rv,p,hz⟩:=I.list hq;obtain⟨u,hu,ru⟩:=rv.get hx;obtain⟨f0,f1,f2,f3,f4,f5⟩:=hf it (by simp);refine wpAny_pyNext_list_item st p.isList (x:=u) (by simpa using hu) λh' st' sb=>?_;have I1:Inv X pins σ H { s with heap:=h' }:=I.turned (t':=s.toks) (λb o hb e=>(sb.2 b hb).trans e) f0 f1 f3 f4 f5;obtain⟨o,e,c,d⟩:=id st';exact⟨u,rfl,Gz (s:={ s with heap:=h' }) e c d (by decide) ⟨x,H,I1,ru,⟨rfl,λys hy=>by rw[I.Gq hy hq];exact hx⟩,st',λb hb=>(hf b hb).1⟩⟩
 done:=by intro X hP hw hK hc i pins s σ H E I hf st hg;subst hP hw hK;obtain⟨xs,hq,hx⟩:=hg;obtain⟨its,rv,p,hz⟩:=I.list hq;obtain⟨f0,f1,f2,f3,f4,f5⟩:=hf it (by simp);have hl:=rv.length;exact wpAny_pyNext_list_end (I.ok.hd hc) st p.isList (by simp;omega) λh' eb=>⟨rfl,I.turned (t':=s.toks) (λb o hb e=>eb b o hb e) f0 f1 f3 f4 f5⟩
 self:=λ_ _ _ _ _ st h=>wpAny_pyIter_listiter st h
theorem HD{P:Program}{w:World}{K:PySem.W.Frag}{tg:Expr}(a it:Addr):Turn P w K tg (Itt K a) [it] it (λi h=>h.IsTupleIter it a i) where
 mem:=by simp
 obj:=λi h st b hb=>by
  have e:b=it:=by simpa using hb
  subst e;obtain⟨o,e,c,d⟩:=st;exact⟨o,e,λv z=>by rw[d] at z;cases z⟩
 keep:=λi h h' st k=>st.at λo e=>k it (by simp) o e
 item:=by intro X hP hw hK hc i pins s σ H E I hf st hg;subst hP hw hK;obtain⟨xs,x,hq,hx⟩:=hg;obtain⟨its,rv,p,hz⟩:=I.tuple hq;obtain⟨u,hu,ru⟩:=rv.get hx;obtain⟨f0,f1,f2,f3,f4,f5⟩:=hf it (by simp);refine wpAny_pyNext_tuple_item st (show s.heap.IsTuple a its.toArray from p) (x:=u) (by simpa using hu) λh' st' sb=>?_;have I1:Inv X pins σ H { s with heap:=h' }:=I.turned (t':=s.toks) (λb o hb e=>(sb.2 b hb).trans e) f0 f1 f3 f4 f5;obtain⟨o,e,c,d⟩:=id st';exact⟨u,rfl,Gz (s:={ s with heap:=h' }) e c d (by decide) ⟨x,H,I1,ru,⟨rfl,λys hy=>by rw[I.qg hy hq];exact hx⟩,st',λb hb=>(hf b hb).1⟩⟩
 done:=by intro X hP hw hK hc i pins s σ H E I hf st hg;subst hP hw hK;obtain⟨xs,hq,hx⟩:=hg;obtain⟨its,rv,p,hz⟩:=I.tuple hq;obtain⟨f0,f1,f2,f3,f4,f5⟩:=hf it (by simp);have hl:=rv.length;exact wpAny_pyNext_tuple_end (I.ok.hd hc) st (show s.heap.IsTuple a its.toArray from p) (by simp;omega) λh' eb=>⟨rfl,I.turned (t':=s.toks) (λb o hb e=>eb b o hb e) f0 f1 f3 f4 f5⟩
 self:=λ_ _ _ _ _ st h=>wpAny_pyIter_tupleiter st h
theorem HF{P:Program}{w:World}{K:PySem.W.Frag}{tg:Expr}(it:Addr)(lo:Int)(n:Nat):Turn P w K tg (Itr lo n) [it] it (λi h=>IsRangeIter h it (lo+(i:Nat)*1) ((n:Int) - (i:Nat)) 1) where
 mem:=by simp
 obj:=λi h st b hb=>by
  have e:b=it:=by simpa using hb
  subst e;exact⟨_,st,λv z=>by
   have z':Data.fields _=Data.cell v:=z;cases z'⟩
 keep:=λi h h' st k=>k it (by simp) _ st
 item:=by intro X hP hw hK hc i pins s σ H E I hf st hg;subst hP hw hK;obtain⟨f0,f1,f2,f3,f4,f5⟩:=hf it (by simp);have W:=Walks.range (prog:=X.prog) (w:=X.w) (I.ok.hd hc) it lo 1 n;refine W.item i s _ _ hg st λv h' tk hv st' kk=>?_;obtain⟨t,rfl⟩:=hv;have I1:Inv X pins σ H { s with heap:=h',toks:=tk }:=I.turned (λb o hb e=>kk b o (by simpa using hb) e) f0 f1 f3 f4 f5;refine⟨_,rfl,Gz (s:={ s with heap:=h',toks:=tk }) (n:="range_iterator") st' rfl rfl (by decide) ⟨.int (lo+i),H,I1,⟨t,?_⟩,⟨rfl,rfl⟩,st',λb hb=>(hf b hb).1⟩⟩;rw[Int.mul_one]
 done:=by intro X hP hw hK hc i pins s σ H E I hf st hg;subst hP hw hK;obtain⟨f0,f1,f2,f3,f4,f5⟩:=hf it (by simp);exact wpAny_pyNext_range_end (I.ok.hd hc) st (by have:n<=i:=hg;omega) λh' eb=>⟨rfl,I.turned (t':=s.toks) (λb o hb e=>eb b o hb e) f0 f1 f3 f4 f5⟩
 self:=λ_ _ _ _ _ st h=>wpAny_pyIter_rangeiter st h
section
variable{X:Cx}{tg:Expr}
theorem Qa{pins:List (Addr×Obj)}{σ:St}{H:Hp}{s:Shared}{R:It->Hp->Prop}{E:Value->Shared->Prop}{lo hi:Int}{t u v:Tok}{tk:Nat}(I:Inv X pins σ H s)(h1 : -(2^62)<=lo)(h2:lo<2^62)(h3 : -(2^62)<=hi)(h4:hi<2^62)
  (q:R (Itr lo (hi - lo).toNat) H):wpAny (model X.prog X.w) X.A (pyIter (.ref s.heap.objs.size)) (PIE X pins σ tg R) E { s with heap:=s.heap.push { cls:=.type "range",data:=.fields #[.int lo t,.int hi u,.int 1 v] },toks:=tk }:=by
 refine wpAny_pyIter_range (IsRange.new ..) (small_one h1 h2 h3 h4) ?_;have I1:Inv X pins σ H { s with heap:=s.heap.push { cls:=.type "range",data:=.fields #[.int lo t,.int hi u,.int 1 v] },toks:=tk }:=I.kept λb o e=>Qqz _ e;refine⟨(s.heap.push { cls:=.type "range",data:=.fields #[.int lo t,.int hi u,.int 1 v] }).objs.size,[(s.heap.push { cls:=.type "range",data:=.fields #[.int lo t,.int hi u,.int 1 v] }).objs.size],_,_,H,rfl,
  I1.kept (t':=tk) λb o e=>Qqz _ e,HF _ lo (hi - lo).toNat,?_,λb hb=>?_,q⟩
 ·have e1:lo+((0:Nat):Int)*1=lo:=by simp
  have e2:(((hi - lo).toNat:Nat):Int) - ((0:Nat):Int)=Builtin.Range.rangeSize lo hi 1:=by rw[rangeSize_one];split<;>omega
  show IsRangeIter _ _ (lo+((0:Nat):Int)*1) ((((hi - lo).toNat:Nat):Int) - ((0:Nat):Int)) 1;rw[e1,e2];exact Qwz _ rfl
 ·have e:b=(s.heap.push { cls:=.type "range",data:=.fields #[.int lo t,.int hi u,.int 1 v] }).objs.size:=by simpa using hb
  subst e;exact I1.Wb (Qq0 _) (I1.hok.fresh (Qq0 _))
def adV(ta:TA):TI:=λσ H R=>ta σ H λvs H1=>∃j:Int,vs=[.int j]/\-(2^62)<=j/\j<2^62/\R (Itr 0 j.toNat) H1
theorem My{a:Expr}{ta:TA}{p pos:Pos}(hg:Gl X "range")(hm:X.mg "range" = none)(ha:PA X [a] ta)(hs:starEach [a] X.env=[(false,eval a X.env)]:=by rfl):PI X tg (.Call (.Name "range" p) [a] [] pos) (adV ta):=by
 intro pins s σ H R I h;refine Call_ (vJ I hg hm boot_range (Qj4 (fV (ha pos pins s σ H _ I h) λus s1 ⟨vs,H1,I1,r1,q1⟩=>?_) hs rfl));obtain⟨j,e,q1,q2,q⟩:=q1;subst e;cases r1 with
 | cons r rr=>
  cases rr;obtain⟨t,rfl⟩:=r;exact call_range_1 (Qa I1 (by omega) (by omega) q1 q2 (by simpa using q))
def aft(wi:TI)(g:TG)(tb:TS):TS:=λD σ H=>wi σ H λJ H1=>∃W:Nat->Nat->St->Hp->Prop,(∃m,W 0 m σ H1)/\∀i m σ H,W i m σ H->
 (J.stop i H/\D.nx σ H)\/(J.go i H/\∃N:St->Hp->Prop,(∀σ' H',N σ' H'->∃m',m'<m/\W (i+1) m' σ' H')/\∀x H',J.yld i H x H'->g x σ H' λσ2 H2=>tb { D with nx:=N,ct:=N,bk:=D.nx } σ2 H2)
noncomputable def yl(fp:List Addr)(h:Heap):List (Addr×Obj):=fp.filterMap λb=>(h.get? b).map λo=>(b,o)
theorem nY{fp:List Addr}{h:Heap}{b:Addr}{o:Obj}(hb:b∈fp)(e:h.get? b=some o):(b,o)∈yl fp h:=List.mem_filterMap.mpr ⟨b,hb,by rw[e];rfl⟩
theorem MP{fp:List Addr}{h:Heap}{p:Addr×Obj}(hp:p∈yl fp h):p.1∈fp/\h.get? p.1=some p.2:=by
 obtain⟨b,hb,e⟩:=List.mem_filterMap.mp hp;cases q:h.get? b with
 | none=>rw[q] at e;cases e
 | some o=>
  rw[q] at e;have e':(b,o)=p:=Qw1 e;subst e';exact⟨hb,q⟩
theorem Inv.pinned{pins:List (Addr×Obj)}{σ:St}{H:Hp}{s:Shared}{fp:List Addr}(I:Inv X pins σ H s)(hf:∀b∈fp,rO X pins H b)(ho:∀b∈fp,∃o,s.heap.get? b=some o/\∀v,o.data ≠ .cell v):Inv X (pins++yl fp s.heap) σ H s:=
 I.Km λp hp=>(Qw4.mp hp).elim (λz=>I.pin p (Qxx _ z)) λz=>by
  obtain⟨hb,e⟩:=MP z;obtain⟨f0,f1,f2,_⟩:=hf p.1 hb;obtain⟨o,e',d⟩:=ho p.1 hb;rw[e] at e';cases e';exact⟨e,f0,f1,f2,d⟩
theorem Inv.su{pins pl:List (Addr×Obj)}{σ:St}{H:Hp}{s:Shared}(I:Inv X (pins++pl) σ H s):Inv X pins σ H s:=I.Km λp hp=>I.pin p (Qxx _ (Qx3 _ hp))
theorem Zo{iter:Expr}{body:List Stmt}{wi:TI}{g:TG}{tb:TS}{pos:Pos}(hp:PassesOwn (model X.prog X.w) X.A X.env X.xe)(hc:X.calm=true)(hi:PI X tg iter wi)(hg:PG X tg g)(hb:BZ X body tb)
  (hs:∀x,foldedSetIterable iter X.env x=pure x:=by intro _;rfl):PS X (.For tg iter body [] pos) (aft wi g tb):=by
 intro pins s σ H D I h;refine wpAny_For (fV (hi pins s σ H _ I h) λv s1 h1=>fV h1 λitv s2 h2=>?_) hs;obtain⟨it,fp,tn,J,H2,e,I2,T,st2,f2,W,⟨m0,w0⟩,turn⟩:=h2;subst e
 -- what stays true of the iterator's objects through the loop
 have stat:∀{H':Hp},(∀b∈fp,H' b=none)->∀b∈fp,rO X pins H' b:=λhn b hb=>⟨hn b hb,(f2 b hb).2⟩;refine codeAny_forLoop_any (λn s'=>∃i σ' H',Inv X pins σ' H' s'/\tn i s'.heap/\(∀b∈fp,H' b=none)/\W i n σ' H') ?_ m0 ⟨0,σ,H2,I2,st2,λb hb=>(f2 b hb).1,w0⟩;rintro n s3 ⟨i,σ3,H3,I3,st3,fr3,w3⟩;rcases turn i n σ3 H3 w3 with ⟨stop,qn⟩|⟨go,N,hN,step⟩
 ·refine Qkx hp (fV (T.done X rfl rfl rfl hc i pins s3 σ3 H3 X.xe I3 (stat fr3) st3 stop) λr s4 ⟨hr,I4⟩=>?_);subst hr;exact wpAny_execs_nil ⟨σ3,H3,I4,qn⟩
 ·refine Qkx hp (fV (T.item X rfl rfl rfl hc i pins s3 σ3 H3 X.xe I3 (stat fr3) st3 go) λr s4 ⟨u,hr,h4⟩=>?_);subst hr;refine Qkx hp (fV h4 λ_ s5 ⟨x,H5,I5,r5,y5,YK,fr5⟩=>?_);have I5':=I5.pinned (stat fr5) (T.obj _ _ YK);refine Qkx hp (fV (hg _ s5 σ3 H5 x u _ I5' r5 (step x H5 y5)) λ_ s6 ⟨σ6,H6,I6,q6⟩=>?_);refine Qkx hp (fV (hb _ s6 σ6 H6 _ I6 q6) λf s7 q7=>?_);have again:∀{σ7:St} {H7:Hp},Inv X (pins++yl fp s5.heap) σ7 H7 s7->N σ7 H7->∃m,m<n/\∃i σ' H',Inv X pins σ' H' s7/\tn i s7.heap/\(∀b∈fp,H' b=none)/\W i m σ' H':=λ{σ7 H7} I7 n7=>by
   obtain⟨m',hm,w7⟩:=hN σ7 H7 n7;refine⟨m',hm,i+1,σ7,H7,I7.su,T.keep _ _ _ YK λb hb o e=>(I7.pin (b,o) (Qxx _ (Qxx _ (nY hb e)))).1,λb hb=>?_,w7⟩;obtain⟨o,e,d⟩:=T.obj _ _ YK b hb;exact(I7.pin (b,o) (Qxx _ (Qxx _ (nY hb e)))).2.1
  cases f with
  | next=>obtain⟨σ7,H7,I7,n7⟩:=q7;exact again I7 n7
  | cont=>obtain⟨σ7,H7,I7,n7⟩:=q7;exact again I7 n7
  | brk=>obtain⟨σ7,H7,I7,q7⟩:=q7;exact⟨σ7,H7,I7.su,q7⟩
  | ret v=>obtain⟨x7,σ7,H7,I7,r7,q7⟩:=q7;exact⟨x7,σ7,H7,I7.su,r7,q7⟩
end
abbrev R2:=V->V->Hp->VK->Prop
def mD(X:Cx)(f:Value->Value->Sem Value)(r:R2):Prop:=
 ∀(pins:List (Addr×Obj)) (s:Shared) (σ:St) (H:Hp) (x y:V) (v u:Value) (Q:VK),Inv X pins σ H s->RelV x v->RelV y u->r x y H Q->
  wpAny (model X.prog X.w) X.A (f v u) (EP X pins σ Q) X.xe s
def gP(X:Cx)(f:Value)(r:List V->Hp->VK->Prop):Prop:=
 ∀(pins:List (Addr×Obj)) (s:Shared) (σ:St) (H:Hp) (xs:List V) (us:List Value) (Q:VK),Inv X pins σ H s->Vals xs us->r xs H Q->
  wpAny (model X.prog X.w) X.A (call f us) (EP X pins σ Q) X.xe s
def TX(r:R2)(ta tb:TE):TE:=λσ H Q=>ta σ H λx H1=>tb σ H1 λy H2=>r x y H2 Q
def rI(C:Int->Int->Prop)(g:Int->Int->V):R2:=λx y H Q=>∃i j,x = .int i/\y = .int j/\C i j/\Q (g i j) H
def Kc(g:Int->Int->V):R2:=λx y H Q=>∃i j,x = .int i/\y = .int j/\Q (g i j) H
section
variable{X:Cx}{a b c:Expr}{ta tb tc:TE}{pos:Pos}
theorem abA(ha:PE X a ta)(hb:PE X b tb){pins:List (Addr×Obj)}{s:Shared}{σ:St}{H:Hp}{R:V->V->Hp->Prop}(I:Inv X pins σ H s)
  (h:ta σ H λx H1=>tb σ H1 λy H2=>R x y H2) {Q:Value->Shared->Prop} {f:Value->Value->Sem Value}
  (hf:∀v u s2 x y H2,Inv X pins σ H2 s2->RelV x v->RelV y u->R x y H2->wpAny (model X.prog X.w) X.A (f v u) Q X.xe s2) :
  wpAny (model X.prog X.w) X.A (eval a X.env) (λv s₁=>wpAny (model X.prog X.w) X.A (eval b X.env) (λu s₂=>wpAny (model X.prog X.w) X.A (f v u) Q X.xe s₂) X.xe s₁) X.xe s:=by
 refine fV (ha pins s σ H _ I h) λv s1 ⟨x,H1,I1,r1,q1⟩=>?_;refine fV (hb pins s1 σ H1 _ I1 q1) λu s2 ⟨y,H2,I2,r2,q2⟩=>?_;exact hf v u s2 x y H2 I2 r1 r2 q2
theorem Xr{op:Operator}{r:R2}(ho:mD X (binaryOp op) r)(ha:PE X a ta)(hb:PE X b tb):PE X (.BinOp a op b pos) (TX r ta tb):=by intro pins s σ H Q I h;exact wpAny_BinOp (abA ha hb I h λv u s2 x y H2 I2 rx ry q=>ho pins s2 σ H2 x y v u Q I2 rx ry q)
theorem opI{f:Value->Value->Sem Value}{C:Int->Int->Prop}{g:Int->Int->Int}
  (rule:∀(i j:Int) (t u:Tok) (s:Shared) (Q:Value->Shared->Prop) (E:Value->Shared->Prop),C i j->Q (.int (g i j) s.toks) { s with toks:=s.toks+1 }->wpAny (model X.prog X.w) X.A (f (.int i t) (.int j u)) Q E s) :
  mD X f (rI C λi j=>.int (g i j)):=by
 intro pins s σ H x y v u Q I rx ry h;obtain⟨i,j,rfl,rfl,hc,q⟩:=h;obtain⟨t,rfl⟩:=rx;obtain⟨t',rfl⟩:=ry;exact rule i j t t' s _ _ hc ⟨.int (g i j),H,I.tok _,⟨_,rfl⟩,q⟩
theorem Z8{f:Value->Value->Sem Value}{g:Int->Int->Int}
  (rule:∀(i j:Int) (t u:Tok) (s:Shared) (Q:Value->Shared->Prop) (E:Value->Shared->Prop),Q (.int (g i j) s.toks) { s with toks:=s.toks+1 }->wpAny (model X.prog X.w) X.A (f (.int i t) (.int j u)) Q E s) :
  mD X f (Kc λi j=>.int (g i j)):=by
 intro pins s σ H x y v u Q I rx ry h;obtain⟨i,j,rfl,rfl,q⟩:=h;obtain⟨t,rfl⟩:=rx;obtain⟨t',rfl⟩:=ry;exact rule i j t t' s _ _ ⟨.int (g i j),H,I.tok _,⟨_,rfl⟩,q⟩
theorem ado{f:Value->Value->Sem Value}{g:Int->Int->Bool}
  (rule:∀(i j:Int) (t u:Tok) (s:Shared) (Q:Value->Shared->Prop) (E:Value->Shared->Prop),Q (.bool (g i j)) s->wpAny (model X.prog X.w) X.A (f (.int i t) (.int j u)) Q E s) :
  mD X f (Kc λi j=>.bl (g i j)):=by
 intro pins s σ H x y v u Q I rx ry h;obtain⟨i,j,rfl,rfl,q⟩:=h;obtain⟨t,rfl⟩:=rx;obtain⟨t',rfl⟩:=ry;exact rule i j t t' s _ _ ⟨.bl (g i j),H,I,rfl,q⟩
def aew(i j:Int):Prop:=0<j/\j<1073741824
def W3(i j:Int):Prop:=0<=j/\j<=1000000/\i.natAbs<2^64
theorem HB(k:Nat):(0:Int)<=2^k:=by rw[two_pow_cast];exact Int.natCast_nonneg _
theorem Z7:mD X (binaryOp .Add) (Kc λi j=>.int (i+j)):=Z8 λ_ _ _ _ _ _ _ q=>add_int q
theorem ZQ:mD X (binaryOp .Sub) (Kc λi j=>.int (i - j)):=Z8 λ_ _ _ _ _ _ _ q=>sub_int q
theorem ZX:mD X (binaryOp .Mod) (rI (λ_ j=>0<j) λi j=>.int (i % j)):=opI λi j _ _ _ _ _ hc q=>by
 have h1:(0:Int)<j:=hc;exact mod_int' (by omega) (by rw[Int.fmod_eq_emod_of_nonneg i (by omega)];exact q)
theorem ZV:mD X (binaryOp .Pow) (rI W3 λi j=>.int (i^j.toNat)):=opI λ_ _ _ _ _ _ _ hc q=>pow_int_small hc.1 hc.2.1 hc.2.2 q
theorem ZS:mD X (binaryOp .LShift) (rI W3 λi j=>.int (i*2^j.toNat)):=opI λ_ _ _ _ _ _ _ hc q=>lshift_int_small hc.1 hc.2.1 hc.2.2 q
theorem ZR:mD X (binaryOp .RShift) (rI (λ_ j=>0<=j) λi j=>.int (i / 2^j.toNat)):=opI λi j _ _ _ _ _ hc q=>
 rshift_int hc (by rw[Int.fdiv_eq_ediv_of_nonneg i (HB _)];exact q)
theorem Z6:mD X (binaryOp .BitAnd) (Kc λi j=>.int (Builtin.bitAnd i j)):=Z8 λ_ _ _ _ _ _ _ q=>and_int q
end
theorem abn{i j:Bool}:decide (V.bl i=V.bl j)=(i == j):=by rw[Qky];simp
section
variable{X:Cx}{a b c:Expr}{ta tb tc:TE}{pos:Pos}
theorem vU{pins:List (Addr×Obj)}{σ:St}{H:Hp}{s:Shared}{Q:VK}{k k':Bool}(I:Inv X pins σ H s)(q:Q (.bl k) H)(e:k=k'):EP X pins σ Q (.bool k') s:=by subst e;exact⟨.bl k,H,I,rfl,q⟩
theorem adl:mD X (compareOp .Lt) (Kc λi j=>.bl (decide (i<j))):=ado λ_ _ _ _ _ _ _ q=>lt_int q
theorem adm:mD X (compareOp .Gt) (Kc λi j=>.bl (decide (j<i))):=ado λ_ _ _ _ _ _ _ q=>gt_int q
theorem MJ:mD X (compareOp .Lt) (λx y H Q=>∃i j,x = .str i/\y = .str j/\Q (.bl (decide (i.cps.toList<j.cps.toList))) H):=by intro pins s σ H x y v u Q I rx ry h;obtain⟨i,j,rfl,rfl,q⟩:=h;obtain⟨t,rfl⟩:=rx;obtain⟨t',rfl⟩:=ry;exact lt_str (vU I q rfl)
theorem MN:mD X (compareOp .In) (λx y H Q=>∃i j,x = .str i/\y = .str j/\Q (.bl (!(Builtin.Str.occurrences j i 0 j.length 1).isEmpty)) H):=by intro pins s σ H x y v u Q I rx ry h;obtain⟨i,j,rfl,rfl,q⟩:=h;obtain⟨t,rfl⟩:=rx;obtain⟨t',rfl⟩:=ry;exact in_str (vU I q rfl)
theorem Z0:mD X (compareOp .Is) (λx y H Q=>y = .non/\Q (.bl (decide (x = .non))) H):=by
 intro pins s σ H x y v u Q I rx ry h;obtain⟨rfl,q⟩:=h;cases ry;refine is_none_gen (vU I q ?_);cases x<;>first
  | (cases rx;rfl)
  | (obtain⟨t,rfl⟩:=rx;rfl)
theorem Ve:mD X (compareOp .IsNot) (λx y H Q=>y = .non/\Q (.bl (!decide (x = .non))) H):=by
 intro pins s σ H x y v u Q I rx ry h;obtain⟨rfl,q⟩:=h;cases ry;refine isnot_none_gen (vU I q ?_);cases x<;>first
  | (cases rx;rfl)
  | (obtain⟨t,rfl⟩:=rx;rfl)
theorem mD.or{f:Value->Value->Sem Value}{r r':R2}(h:mD X f r)(h':mD X f r'):mD X f (λx y H Q=>r x y H Q\/r' x y H Q):=by
 intro pins s σ H x y v u Q I rx ry q;rcases q with q|q
 ·exact h pins s σ H x y v u Q I rx ry q
 ·exact h' pins s σ H x y v u Q I rx ry q
theorem Kp{op:CmpOp}{r:R2}(ho:mD X (compareOp op) r)(ha:PE X a ta)(hb:PE X b tb)(hm:behindInMarks op b=false):PE X (.Compare a [op] [b] pos) (TX r ta tb):=by intro pins s σ H Q I h;exact wpAny_Compare1 (abA ha hb I h λv u s2 x y H2 I2 rx ry q=>ho pins s2 σ H2 x y v u Q I2 rx ry q) hm
def acw(t:TE):TT:=λσ H Q=>t σ H λx H'=>∃k,x = .bl k/\Q k H'
theorem Kl{op:CmpOp}{r:R2}(ho:mD X (compareOp op) r)(ha:PE X a ta)(hb:PE X b tb)(hm:behindInMarks op b=false):PT X (.Compare a [op] [b] pos) (acw (TX r ta tb)):=by
 intro pins s σ H Q I h;refine wpAny_isTrue_Compare1 (fV (ha pins s σ H _ I h) λv s1 ⟨x,H1,I1,r1,q1⟩=>fV (hb pins s1 σ H1 _ I1 q1) λu s2 ⟨y,H2,I2,r2,q2⟩=>
  fV (ho pins s2 σ H2 x y v u _ I2 r1 r2 q2) λc s3 ⟨z,H3,I3,r3,k,e,q3⟩=>?_) hm
 subst e;cases r3;exact wpAny_truthy_bool ⟨H3,I3,q3⟩
theorem aaU{κ:Type}{kvs:List (κ×V)}{vs:List (κ×Value)}(r:KV kvs vs):(!vs.isEmpty) = !kvs.isEmpty:=by cases r<;>rfl
theorem aaT{xs:List V}{its:List Value}(r:Vals xs its):(!its.toArray.isEmpty) = !xs.isEmpty:=by cases r<;>simp
theorem vI:(sizeLine:Nat)<2^63:=by rw[Qj0];decide
theorem Jf:mD X (binaryOp .Add) (λx y H Q=>∃i j,x = .str i/\y = .str j/\i.length+j.length<=sizeLine/\Q (.str (i++j)) H):=by intro pins s σ H x y v u Q I rx ry h;obtain⟨i,j,rfl,rfl,hz,q⟩:=h;obtain⟨t,rfl⟩:=rx;obtain⟨t',rfl⟩:=ry;exact add_str (λt' tk=>⟨.str (i++j),H,I.tok _,⟨_,rfl⟩,q⟩) hz
theorem vals1{x:V}{us:List Value}(r:Vals [x] us):∃u,us=[u]/\RelV x u:=by
 cases r with
 | cons r1 r2=>cases r2;exact⟨_,rfl,r1⟩
theorem vals2{x y:V}{us:List Value}(r:Vals [x,y] us):∃u w',us=[u,w']/\RelV x u/\RelV y w':=by
 cases r with
 | cons r1 r2=>
  cases r2 with
  | cons r3 r4=>cases r4;exact⟨_,_,rfl,r1,r3⟩
def aet(K:PySem.W.Frag)(x:V)(H:Hp)(n:Nat):Prop:=
 match x with
 | .str y=>y.length<=sizeLine/\n=y.length
 | .byt y=>y.size<=sizeLine/\n=y.size
 | .ref p=>(∃xs,jX K H p xs/\n=xs.length)\/∃xs,jZ K H p xs/\n=xs.length
 | _=>False
theorem Su:gP X (.builtin "len") (λxs H Q=>∃x n,xs=[x]/\aet X.K x H n/\Q (.int n) H):=by
 intro pins s σ H xs us Q I r h;obtain⟨x,n,rfl,e,q⟩:=h;obtain⟨u,rfl,rx⟩:=vals1 r;have hl:=vI;have hs:sizeLine=16777216:=Qj0;cases x with
 | str y=>
  obtain⟨t,rfl⟩:=rx;obtain⟨hy,e'⟩:y.length<=sizeLine/\n=y.length:=e;subst e';exact len_str (by omega) ⟨.int _,H,I.tok _,⟨_,rfl⟩,q⟩
 | byt y=>
  obtain⟨t,rfl⟩:=rx;obtain⟨hy,e'⟩:y.size<=sizeLine/\n=y.size:=e;subst e';exact PySem.W.len_bytes (by omega) ⟨.int _,H,I.tok _,⟨_,rfl⟩,q⟩
 | ref p=>
  cases rx;have e':(∃xs,jX X.K H p xs/\n=xs.length)\/∃xs,jZ X.K H p xs/\n=xs.length:=e;rcases e' with ⟨xs,hx,e'⟩|⟨xs,hx,e'⟩
  ·subst e';obtain⟨its,r',pl,hz⟩:=I.list hx;have hlen:=r'.length;exact Calls.call_len_list pl.isList (by simp only[Qq3];omega) ⟨.int xs.length,H,I.tok _,⟨_,by simp only[Qq3];rw[hlen]⟩,q⟩
  ·subst e';obtain⟨its,r',pl,hz⟩:=I.tuple hx;have hlen:=r'.length;exact len_tuple pl (by simp only[Qq3];omega) ⟨.int xs.length,H,I.tok _,⟨_,by simp only[Qq3];rw[hlen]⟩,q⟩
 | _=>exact(show False from e).elim
theorem Hf:gP X (.builtin "divmod") (λxs H Q=>∃i j,xs=[.int i,.int j]/\aew i j/\∀p,H p=none->Q (.ref p) (upd H p (.tup [.int (i / j),.int (i % j)]))):=by intro pins s σ H xs us Q I r h;obtain⟨i,j,rfl,⟨h1,h2⟩,q⟩:=h;obtain⟨u,w',rfl,⟨t,rfl⟩,⟨t',rfl⟩⟩:=vals2 r;refine divmod_int (by omega) ?_ (.inl (PyProof.noPylong_small (by omega)));rw[Int.fdiv_eq_ediv_of_nonneg i (by omega),Int.fmod_eq_emod_of_nonneg i (by omega)];have hn:H s.heap.objs.size=none:=I.hok.fresh (Qq0 _);refine⟨.ref s.heap.objs.size,_,?_,rfl,q _ hn⟩;refine I.laid (λb o e=>Qqz _ e) (Qq0 _) ⟨by simp only[Qqw,Qz8];rw[Qj0];decide,[.int (i / j) s.toks,.int (i % j) (s.toks+1)],.cons ⟨_,rfl⟩ (.cons ⟨_,rfl⟩ .nil),?_⟩;exact⟨_,Qwz s.heap rfl,rfl,⟨0,rfl⟩,rfl⟩
end
theorem uz.some_of{v:V}{o:Option Value}(r:uz (some v) o):∃u,o=some u/\RelV v u:=by
 cases o with
 | none=>exact(show False from r).elim
 | some u=>exact⟨u,rfl,r⟩
structure gY(k:Nat)(A:Around):Prop where
 hd:A.handled=none
 dp:A.depth+3*k+5<recursionLimit
 un:A.units+16*k+200<cLine
theorem gY.mono{j k:Nat}{A:Around}(r:gY k A)(h:j<=k):gY j A:=⟨r.hd,by have:=r.dp;omega,by have:=r.un;omega⟩
theorem gY.deeper{k:Nat}{A:Around}(r:gY (k+1) A)(env:Env):gY k (A.deeper env):=
 ⟨r.hd,by have:=r.dp;show A.depth+1+3*k+5<_;omega,by have:=r.un;show A.units+3+16*k+200<_;omega⟩
theorem gY.depth{k:Nat}{A:Around}(r:gY k A):A.depth<recursionLimit:=by have:=r.dp;omega
theorem gY.units{k:Nat}{A:Around}(r:gY k A):A.units+64<cLine:=by have:=r.un;omega
def afp:TA:=λ_ H Q=>Q [] H
def acB(ta:TE)(tr:TA):TA:=λσ H Q=>ta σ H λx H1=>tr σ H1 λxs H2=>Q (x::xs) H2
section
variable{X:Cx}{e:Expr}{es:List Expr}{te:TE}{t:TA}{pos:Pos}
theorem nW:PA X [] afp:=λ_ _ _ _ H Q I h=>Calls.spliced_nil ⟨[],H,I,.nil,h⟩
theorem gw(ha:PE X e te)(hr:PA X es t)(hs:starEach (e::es) X.env=(false,eval e X.env)::starEach es X.env:=by rfl):PA X (e::es) (acB te t):=by intro pos pins s σ H Q I h;rw[hs];show wpAny _ _ (spliced ((false,eval e X.env)::backTo pos (starEach es X.env))) _ _ s;refine Calls.spliced_cons (fV (ha pins s σ H _ I h) λu s1 ⟨x,H1,I1,r1,q1⟩=>?_);exact fV (hr pos pins s1 σ H1 _ I1 q1) λus s2 ⟨xs,H2,I2,r2,q2⟩=>⟨x::xs,H2,I2,.cons r1 r2,q2⟩
def afj(t:TA):TE:=λσ H Q=>t σ H λxs H1=>xs.length<=sizeLine/\∀p,H1 p=none->Q (.ref p) (upd H1 p (.tup xs))
def afq(t:TA):TE:=λσ H Q=>t σ H λxs H1=>xs.length<=sizeLine/\∀p,H1 p=none->Q (.ref p) (upd H1 p (.lst xs))
theorem ZD{x1}(h:PA X es t):PE X (.Tuple es x1 pos) (afj t):=by intro pins s σ H Q I hq;refine wpAny_Tuple_spliced (fV (h pos pins s σ H _ I hq) λus s1 ⟨xs,H1,I1,r,z,q⟩=>⟨by rw[<-r.length];exact z,?_⟩);have hf:H1 s1.heap.objs.size=none:=I1.hok.fresh (Qq0 _);refine⟨.ref s1.heap.objs.size,upd H1 s1.heap.objs.size (.tup xs),I1.laid (t':=s1.toks) (λb u e=>Qqz _ e) (Qq0 _) ?_,rfl,q _ hf⟩;exact⟨z,us,r,Aq.new _ _⟩
theorem ZK(h:PA X es t):PE X (.List es pos) (afq t):=by intro pins s σ H Q I hq;refine wpAny_List_spliced (fV (h pos pins s σ H _ I hq) λus s1 ⟨xs,H1,I1,r,z,q⟩=>⟨by rw[<-r.length];exact z,?_⟩);have hf:H1 s1.heap.objs.size=none:=I1.hok.fresh (Qq0 _);refine⟨.ref s1.heap.objs.size,upd H1 s1.heap.objs.size (.lst xs),I1.laid (t':=s1.toks) (λb u e=>Qqz _ e) (Qq0 _) ?_,rfl,q _ hf⟩;exact⟨z,us,0,r,Qwz _ rfl⟩
end
abbrev Sp:=List V->Hp->VK->XK->Prop
abbrev Tr:=List Env->Hp->Shared->XK->Value->Shared->Prop
structure W0(P:Program)(w:World)(K:PySem.W.Frag)(mg:Str->Option Value)(base:Heap)(A:Around)(outer:List Env)(s:Shared)(H:Hp):Prop where
 frames:A.frames=some outer
 mod:Mod K mg base
 bs:∀b o,base.get? b=some o->s.heap.get? b=some o/\H b=none
 Ww:base.objs.size<=s.heap.objs.size
 vR:s.heap.FunFrames base outer
 frf:∀b∈frs outer,H b=none
 hok:oH P w H s.heap
 bare:AllBare s.gens
def CE(outer:List Env)(P:Program)(w:World)(H:Hp)(s:Shared)(Q:VK)(u:Value)(s':Shared):Prop:=
 ∃v H',s'.os=s.os/\AllBare s'.gens/\Un (frs outer) [] H H' s.heap s'.heap/\oH P w H' s'.heap/\RelV v u/\Q v H'
def CR(CX:Tr)(outer:List Env)(P:Program)(w:World)(H:Hp)(s:Shared)(Q:VK)(E:XK)(r:Result)(s':Shared):Prop:=
 match r with
 | .ok (.ret u)=>CE outer P w H s Q u s'
 | .ok _=>False
 | .error e=>CX outer H s E e s'
structure mR(P:Program)(w:World)(K:PySem.W.Frag)(mg:Str->Option Value)(base:Heap)(CX:Tr)(k:Nat)(f:Addr)(fd:FuncData)(ps:List Str)(sp:Sp):Prop where
 len:∀vs H Q E,sp vs H Q E->vs.length=ps.length
 run:∀(A:Around) (outer:List Env) (s:Shared) (H:Hp) (args:Args) (us:List Value) (vs:List V) (Q:VK) (E:XK),gY k A->W0 P w K mg base A outer s H->BindsTo s fd args (ps.zip us)->Vals vs us->sp vs H Q E->
  codeAny (model P w) A (.call (.ref f) args) (CR CX outer P w H s Q E) s
section
variable{X:Cx}{pins:List (Addr×Obj)}{σ:St}{H:Hp}{s s':Shared}
theorem Inv.env0(I:Inv X pins σ H s):W0 X.prog X.w X.K X.mg X.base X.A X.stack s H:=
 ⟨I.ok.frames,I.ok.mod,I.bs,Qq4 I.ok.Ww I.sz,I.stack,I.Cj,I.hok,I.bare⟩
theorem Inv.after{Q:VK}{u:Value}(I:Inv X pins σ H s)(h:CE X.stack X.prog X.w H s Q u s'):EP X pins σ Q u s':=by obtain⟨v,H',os,bare,un,hok,r,q⟩:=h;obtain⟨hh,g,d,t,os'⟩:=s';obtain rfl:os'=s.os:=os;exact⟨v,H',I.call (h':=hh) (g':=g) (d':=d) (t':=t) (ch:=[]) un hok bare (λb z=>absurd z (by simp)),r,q⟩
end
def acC(sp:Sp)(X6:List V)(E:XK)(t:TA):TE:=λσ H Q=>t σ H λvs H1=>sp (vs++X6) H1 Q E
def Binds(K:PySem.W.Frag)(fd:FuncData)(ps:List Str)(ds:List Value):Prop:=
 ∀(s:Shared) (us:List Value),K.In s.heap->(us++ds).length=ps.length->BindsTo s fd ⟨us,[]⟩ (ps.zip (us++ds))
theorem Binds.all{K:PySem.W.Frag}{fd:FuncData}{ps:List Str}(h:∀us:List Value,us.length=ps.length->bindArgs fd ⟨us,[]⟩=pure (ps.zip us)):Binds K fd ps []:=λs us _ hl=>by
 rw[Qw0] at hl ⊢;exact .of_eq (h us hl)
def Passes(CX:Tr)(X:Cx)(E:XK):Prop:=∀(pins:List (Addr×Obj)) (σ:St) (H:Hp) (s:Shared) (e:Value) (s':Shared),Inv X pins σ H s->CX X.stack H s E e s'->X.xe e s'
section
variable{X:Cx}{CX:Tr}{k:Nat}{f C:Addr}{fd:FuncData}{ps:List Str}{sp:Sp}{X6:List V}{ds:List Value}{E:XK}{x m:Str}{p pos apos:Pos}{e o:Expr}{es:List Expr}{ta:TE}{t:TA}
theorem YX{pins:List (Addr×Obj)}{σ:St}{H:Hp}{s:Shared}{Q:VK}{us:List Value}{vs:List V}(F:mR X.prog X.w X.K X.mg X.base CX k f fd ps sp)(hr:gY k X.A)(hb:Binds X.K fd ps ds)(hd:Vals X6 ds)(hx:Passes CX X E)
  (I:Inv X pins σ H s) (r:Vals vs us) (h:sp (vs++X6) H Q E):wpAny (model X.prog X.w) X.A (call (.ref f) us) (EP X pins σ Q) X.xe s:=by
 have r2:Vals (vs++X6) (us++ds):=r.append hd;have hl:(us++ds).length=ps.length:=by rw[<-r2.length];exact F.len _ _ _ _ h
 refine wpAny_call (codeAny_mono (F.run X.A X.stack s H ⟨us,[]⟩ (us++ds) (vs++X6) Q E hr I.env0 (hb s us I.KD hl) r2 h) λr s' hq=>?_);cases r with
 | error e=>exact hx pins σ H s e s' I hq
 | ok fl=>
  cases fl with
  | ret u=>exact I.after hq
  | next=>exact False.elim hq
  | brk=>exact False.elim hq
  | cont=>exact False.elim hq
theorem Dd(F:mR X.prog X.w X.K X.mg X.base CX k f fd ps sp)(hr:gY k X.A)(hg:Gl X x)(hm:X.mg x=some (.ref f))(hk:PySem.W.keepIn X.K (.ref f)=true)(hb:Binds X.K fd ps ds)(hd:Vals X6 ds)(hx:Passes CX X E)
  (ha:PA X (e::es) t) (hdb:ju x:=by decide) (he:starEach (e::es) X.env=(false,eval e X.env)::starEach es X.env:=by rfl) (hpl:(backTo pos (starEach es X.env)).any (·.1)=false:=by rfl) :
  PE X (.Call (.Name x p) (e::es) [] pos) (acC sp X6 E t):=by
 intro pins s σ H Q I h;refine wpAny_Call_Name_kw (tQ I hg hm ?_ hdb);refine PySem.W.callWith_K (h₀:=X.base) I.ok.mod.Hq hk (fV (ha pos pins s σ H _ I h) λus s1 ⟨vs,H1,I1,r,q⟩=>⟨I1.KD,?_⟩) he hpl;exact YX F hr hb hd hx I1 r q
end
structure bA(N P:List Str)(sc:Scope):Prop where
 kind:sc.kind = .function
 co:sc.isCoroutine=false
 gen:sc.isGenerator=false
 nd:N.Nodup
 pre:N.take P.length=P
 par:∀x∈P,sc.names.lookup x=some .local\/sc.names.lookup x=some .cell
 aap:∀y∈sc.names,y.2 ≠ .free
theorem Bx{kindOf:Str->Option NameKind}{x:Str}:∀{binds:List (Str×Value)} {m:Str->Option Value},(∀v,(x,v) ∉ binds)->bindL kindOf binds m x=m x
 | [],_,_=>rfl
 | (n,v)::r,m,h=>by
  unfold bindL;rw[Bx λw hw=>h w (Qqk _ hw)];split
  ·have:x≠n:=by rintro rfl;exact h v Qqj
   simp[this]
  ·rfl
theorem BJ{kindOf:Str->Option NameKind}{x:Str}:∀{binds:List (Str×Value)} {m:Str->Option Value},(∀v,(x,v) ∉ binds)->bindC kindOf binds m x=m x
 | [],_,_=>rfl
 | (n,v)::r,m,h=>by
  unfold bindC;rw[BJ λw hw=>h w (Qqk _ hw)];split
  ·rfl
  ·have:x≠n:=by rintro rfl;exact h v Qqj
   simp[this]
theorem By{kindOf:Str->Option NameKind}{x:Str}{v:Value}:∀{P:List Str} {vs:List Value} {i:Nat} {m:Str->Option Value},P.Nodup->P[i]? = some x->vs[i]? = some v->kindOf x=some .local->
  bindL kindOf (P.zip vs) m x=some v
 | [],_,_,_,_,h,_,_=>by simp at h
 | _::_,[],_,_,_,_,h,_=>by simp at h
 | p::P,w::vs,0,m,nd,h1,h2,hk=>by
  simp at h1 h2;subst h1;subst h2;show bindL kindOf ((p,w)::P.zip vs) m p=_;unfold bindL;rw[Bx λv hv=>(Qx9.mp nd).1 (List.of_mem_zip hv).1,if_pos hk];simp
 | p::P,w::vs,i+1,m,nd,h1,h2,hk=>by
  show bindL kindOf ((p,w)::P.zip vs) m x=_;unfold bindL;exact By (i:=i) (Qx9.mp nd).2 (by simpa using h1) (by simpa using h2) hk
theorem BK{kindOf:Str->Option NameKind}{x:Str}{v:Value}:∀{P:List Str} {vs:List Value} {i:Nat} {m:Str->Option Value},P.Nodup->P[i]? = some x->vs[i]? = some v->kindOf x≠some .local->
  bindC kindOf (P.zip vs) m x=some v
 | [],_,_,_,_,h,_,_=>by simp at h
 | _::_,[],_,_,_,_,h,_=>by simp at h
 | p::P,w::vs,0,m,nd,h1,h2,hk=>by
  simp at h1 h2;subst h1;subst h2;show bindC kindOf ((p,w)::P.zip vs) m p=_;unfold bindC;rw[BJ λv hv=>(Qx9.mp nd).1 (List.of_mem_zip hv).1,if_neg hk];simp
 | p::P,w::vs,i+1,m,nd,h1,h2,hk=>by
  show bindC kindOf ((p,w)::P.zip vs) m x=_;unfold bindC;exact BK (i:=i) (Qx9.mp nd).2 (by simpa using h1) (by simpa using h2) hk
noncomputable def start(N:List Str)(vs:List V):St:=vs.map some++List.replicate (N.length - vs.length) none
noncomputable def G8(CX:Tr)(P:Program)(w:World)(K:PySem.W.Frag)(mg:Str->Option Value)(base:Heap)(N:List Str)(qual:Str)(scope:Scope)(f:Addr)(cd:Value)(A:Around)(outer:List Env)(s:Shared)(H:Hp)(E:XK):Cx where
 prog:=P
 w:=w
 K:=K
 mg:=mg
 base:=base
 A:=A.deeper (envOfC qual scope s.heap.objs.size f cd)
 N:=N
 s₀:=s
 H₀:=H
 env:=envOfC qual scope s.heap.objs.size f cd
 outer:=outer
 stack:=envOfC qual scope s.heap.objs.size f cd::outer
 ex:=[]
 calm:=true
 fn:=λ_=>true
 pn:=[]
 xe:=λe s'=>wpAny (model P w) (A.deeper (envOfC qual scope s.heap.objs.size f cd)) (leaving (envOfC qual scope s.heap.objs.size f cd) e) (λ_ s''=>CX outer H s E e s'') (λe' s''=>CX outer H s E e' s'') s'
theorem zE{sc:Scope}{n:Nat}{x:Str}(h:sc.names.lookup x=some .cell):∃c,(cellsFrom n sc.names []).lookup x=some c:=by have q:=PySem.W.cellsFrom_some sc.names n [] (.inl h);exact Qz7.mp q
theorem Nj{CX:Tr}{P:Program}{w:World}{K:PySem.W.Frag}{mg:Str->Option Value}{base:Heap}{N ps:List Str}{qual:Str}{scope:Scope}{f:Addr}{cd:Value}{A:Around}{outer:List Env}{s s1:Shared}{H:Hp}{E:XK}{us:List Value}{vs:List V}
  (S:bA N ps scope) (hd:A.handled=none) (e0:W0 P w K mg base A outer s H) (hl:vs.length=ps.length) (r:Vals vs us)
  (x:InCallC s s.heap.objs.size (bindL (envOfC qual scope s.heap.objs.size f cd).kindOf (ps.zip us) λ_=>none) (cellsFrom (s.heap.objs.size+1) scope.names []) (bindC (envOfC qual scope s.heap.objs.size f cd).kindOf (ps.zip us) λ_=>none) s1) :
  Inv (G8 CX P w K mg base N qual scope f cd A outer s H E) [] (start N vs) H s1:=by
 have hpl:ps.length<=N.length:=by have:=Qxz List.length S.pre;rw[Qw3] at this;omega
 obtain⟨h1,tk,rfl,hk⟩:=x.done;have noA:∀b:Addr,b ∉ (G8 CX P w K mg base N qual scope f cd A outer s H E).ex:=λb z=>absurd (show b∈([]:List Addr) from z) (by simp);refine⟨⟨e0.mod,S.kind,rfl,rfl,Qq0 _,λy z c h1 h2=>?_,λy hy=>?_,λy c _ h=>?_,λ_=>hd,Around.frames_deeper e0.frames,.inr ⟨rfl,rfl⟩,λb z=>absurd z (noA b),e0.bs,e0.Ww,λb _ _=>noA b,λb z=>absurd z (noA b),e0.vR,e0.frf⟩,
  rfl,e0.bare,Un.kept hk,⟨_,x.toInCall.ns,λi y v h1 h2 h3=>?_⟩,λy c h=>⟨_,x.cell y c h⟩,e0.hok.fresh (Qq0 _),λy c h=>?_,λp hp=>absurd (show p∈([]:List (Addr×Obj)) from hp) (by simp),e0.hok.kept hk,?_⟩
 ·exact name_of_addr x.apart (Qkj h1) (Qkj h2)
 ·have hy:scope.names.lookup y=some .cell\/scope.names.lookup y=some .free:=hy;rcases hy with hy|hy
  ·exact zE hy
  ·exact absurd rfl (S.aap _ (Qkj hy))
 ·exact Qxv (x.above y c (Qkj h))
 ·have hi:i<vs.length:=by
   unfold start at h2;by_cases hi:i<vs.length
   ·exact hi
   ·rw[Qz2 (by simpa using hi)] at h2;rw[Qjq] at h2;split at h2<;>cases h2
  have ha:vs[i]? = some v:=by
   unfold start at h2;rw[Qxw (by simpa using hi),Qx1] at h2;cases e:vs[i]? with
   | none=>rw[e] at h2;cases h2
   | some a=>rw[e] at h2;cases h2;rfl
  obtain⟨u,hu,rv⟩:=r.get ha;have hp:ps[i]? = some y:=by rw[<-S.pre,Qjv (by omega)];exact h1
  have ndP:ps.Nodup:=by rw[<-S.pre];exact S.nd.sublist (List.take_sublist _ _)
  refine⟨u,rv,?_⟩;rcases S.par y (Qj1 hp) with k|k
  ·exact .inl ⟨k,By ndP hp hu k⟩
  ·obtain⟨c,e⟩:=zE (n:=s.heap.objs.size+1) k;refine .inr ⟨.inl k,c,e,?_⟩;have q:=x.cell y c e;rw[BK ndP hp hu (by show scope.names.lookup y≠_;rw[k];decide)] at q;exact q
 ·exact .inl (e0.hok.fresh (Qxv (x.above y c (Qkj h))))
 ·unfold start;show _=N.length;rw[Qq1,Qqv,Qzk];omega
theorem X4{CX:Tr}{P:Program}{w:World}{K:PySem.W.Frag}{mg:Str->Option Value}{base:Heap}{k:Nat}{f:Addr}{name qual:Str}{params:Arguments}{body:List Stmt}{scope:Scope}{dV kV doc pm cdv ct oc:Value}{an od:Option Addr}
  {osl:Array (Option Value)} {N ps:List Str} {sp:Sp} (lk:K.lookup f=some ⟨oc,od,.func (PySem.W.fnOf name qual params body scope dV kV doc pm an cdv ct),osl⟩) (hcd:PySem.W.codeIn K cdv qual=true) (S:bA N ps scope)
  (len:∀vs H Q E,sp vs H Q E->vs.length=ps.length)
  (hbody:∀(A:Around) (outer:List Env) (s:Shared) (H:Hp) (vs:List V) (Q:VK) (E:XK),gY k (A.deeper (envOfC qual scope s.heap.objs.size f cdv))->sp vs H Q E->
   ∃t,BZ (G8 CX P w K mg base N qual scope f cdv A outer s H E) body t/\t { nx:=λ_ H'=>Q .non H',rt:=Q } (start N vs) H) :
  mR P w K mg base CX (k+1) f (PySem.W.fnOf name qual params body scope dV kV doc pm an cdv ct) ps sp:=by
 refine⟨len,λA outer s H args us vs Q E hr e0 hb r hsp=>?_⟩;have hl:=len _ _ _ _ hsp;have KX:K.In s.heap:=e0.mod.Hq.keeps λb o e=>(e0.bs b o e).1;have lim:s.heap.NoLimit:=e0.mod.nolimit.keeps λb o e=>(e0.bs b o e).1;have hkind:∀y∈ps.zip us,scope.names.lookup y.1=some .local\/(scope.names.lookup y.1=some .cell/\((cellsFrom (s.heap.objs.size+1) scope.names []).lookup y.1).isSome=true):=λ⟨n,v⟩ hy=>by
  rcases S.par n (List.of_mem_zip hy).1 with q|q
  ·exact .inl q
  ·exact .inr ⟨q,PySem.W.cellsFrom_some _ _ _ (.inl q)⟩
 refine codeAny_call_function hr.depth (KX _ _ lk) rfl S.co S.gen rfl (PySem.W.codeRec_of KX hcd) (hb _ _ _ _ ?_);refine wpAny_newFunctionEnv_cells S.kind hkind λenv he s1 x=>?_;subst he;refine⟨lim.keeps x.toInCall.keep,codeAny_func ?_⟩;obtain⟨t,ht,hq⟩:=hbody A outer s H vs Q E (hr.deeper _) hsp;have I:Inv (G8 CX P w K mg base N qual scope f cdv A outer s H E) [] (start N vs) H s1:=Nj S hr.hd e0 hl r x;refine Qx8 (ht [] s1 (start N vs) H _ I hq) (λfl s' hs=>?_) λe s' hs=>hs;have fin:∀{σ':St} {H':Hp} {v:V} {u:Value},Inv (G8 CX P w K mg base N qual scope f cdv A outer s H E) [] σ' H' s'->RelV v u->Q v H'->CE outer P w H s Q u s':=
  λ{σ' H' v u} J rv q=>⟨v,H',J.os,J.bare,J.base,J.hok,rv,q⟩
 cases fl with
 | ret u=>
  obtain⟨v,σ',H',J,rv,q⟩:=hs;exact fin J rv q
 | next=>
  obtain⟨σ',H',J,q⟩:=hs;exact fin (v:=V.non) (u:=Value.none) J rfl q
 | brk=>
  obtain⟨_,_,_,q⟩:=hs;exact False.elim q
 | cont=>
  obtain⟨_,_,_,q⟩:=hs;exact False.elim q
section
variable{X:Cx}{x:Str}{p pos:Pos}{e:Expr}{es:List Expr}{t:TA}{id T:String}{r:List V->Hp->VK->Prop}
def tCB(r:List V->Hp->VK->Prop)(t:TA):TE:=λσ H Q=>t σ H λvs H1=>r vs H1 Q
theorem pI(hc:gP X (.builtin id) r)(hg:Gl X x)(hm:X.mg x=none)(hv:bootBuiltins x=some (.builtin id))(ha:PA X (e::es) t)(hn:x ≠ "__name__":=by decide)(hdb:ju x:=by decide)
  (he:starEach (e::es) X.env=(false,eval e X.env)::starEach es X.env:=by rfl) (hpl:(backTo pos (starEach es X.env)).any (·.1)=false:=by rfl):PE X (.Call (.Name x p) (e::es) [] pos) (tCB r t):=by
 intro pins s σ H Q I h;refine wpAny_Call_Name_kw (vJ I hg hm hv ?_ hn hdb);exact PyProof.Rows.callWith_builtin1 (fV (ha pos pins s σ H _ I h) λus s1 ⟨vs,H1,I1,r1,q1⟩=>hc pins s1 σ H1 vs us Q I1 r1 q1) he hpl
theorem Bd(hc:gP X (.type T) r)(hg:Gl X x)(hm:X.mg x=none)(hv:bootBuiltins x=some (.type T))(ha:PA X (e::es) t)(hn:x ≠ "__name__":=by decide)(hdb:ju x:=by decide)
  (he:starEach (e::es) X.env=(false,eval e X.env)::starEach es X.env:=by rfl) (hpl:(backTo pos (starEach es X.env)).any (·.1)=false:=by rfl):PE X (.Call (.Name x p) (e::es) [] pos) (tCB r t):=by
 intro pins s σ H Q I h;refine wpAny_Call_Name_kw (vJ I hg hm hv ?_ hn hdb);exact Qj4 (fV (ha pos pins s σ H _ I h) λus s1 ⟨vs,H1,I1,r1,q1⟩=>hc pins s1 σ H1 vs us Q I1 r1 q1) he hpl
end
end L2
namespace HT
open PySem PyProof.Rows
section
variable{prog:Program}{w:World}{A:Around}{E:Value->Shared->Prop}{s:Shared}
theorem Wr{t b:Addr}{vs ws:List Value}{Q:Value->Shared->Prop}(ht:IsTup s.heap t vs.toArray)(hb:IsTup s.heap b ws.toArray)(hv:vs≠[])
  (h1:ws=[]->Q (.ref t) s) (h2:ws≠[]->Q (.ref s.heap.objs.size) { s with heap:=s.heap.push { cls:=.type "tuple",data:=.seq (vs++ws).toArray } })
  (hsz:vs.length+ws.length<=sizeLine):wpAny (model prog w) A (binaryOp .Add (.ref t) (.ref b)) Q E s:=by
 obtain⟨⟨cls,dd,data,sl⟩,ho,hc,n,hd⟩:=id ht;obtain⟨⟨cls2,dd2,data2,sl2⟩,ho2,hc2,n2,hd2⟩:=id hb;simp only at hc hd hc2 hd2;subst hc hd hc2 hd2;have e:vs.toArray++ws.toArray=(vs++ws).toArray:=by simp
 by_cases hw:ws=[]
 ·exact concat_meets ⟨_,ho,rfl⟩ ⟨_,ho2,rfl⟩ noFill_tuple_add seq_tuple_add PySem.F.slot_tuple_add PySem.F.entry_tuple_add (PySem.F.args_tuple_add_2 _ _)
   (tuple_addW1 t b vs.toArray ws.toArray n n2 dd dd2 sl sl2 (by simpa using hv) (by simp[hw])) ⟨ho,ho2,h1 hw⟩
 ·refine concat_meets ⟨_,ho,rfl⟩ ⟨_,ho2,rfl⟩ noFill_tuple_add seq_tuple_add PySem.F.slot_tuple_add PySem.F.entry_tuple_add (PySem.F.args_tuple_add_2 _ _)
   (tuple_addW2 t b vs.toArray ws.toArray n n2 dd dd2 sl sl2 (by simpa using hv) (by simpa using hw) (by rw[Qq3,Qq3];exact hsz)) ⟨ho,ho2,?_⟩
  rw[e];exact h2 hw
noncomputable def jt(n d:Nat):Option Int->Nat
 | none=>d
 | some v=>if v<0 then (v+(n:Int)).toNat else min v.toNat n
theorem YT(n d:Nat)(hd:d<=n)(o:Option Int):jt n d o<=n:=by
 cases o with
 | none=>exact hd
 | some v=>
  show(if v<0 then (v+(n:Int)).toNat else min v.toNat n)<=n;by_cases hv:v<0
  ·rw[if_pos hv];omega
  ·rw[if_neg hv];exact Nat.min_le_right _ _
theorem Li(v:Int)(n d:Nat):(if v<0 then max (v+(n:Int)) 0 else min v (n:Int))=((jt n d (some v):Nat):Int):=by
 show(if v<0 then max (v+(n:Int)) 0 else min v (n:Int))=(((if v<0 then (v+(n:Int)).toNat else min v.toNat n):Nat):Int);by_cases hv:v<0
 ·simp only[if_pos hv];omega
 ·simp only[if_neg hv];omega
theorem JP(lo hi:Option Int)(n:Nat):Builtin.Slice.sliceAdjust lo hi 1 (n:Int)=(((jt n 0 lo:Nat):Int),((jt n n hi:Nat):Int)):=by
 have h1:¬((1:Int)<0):=by omega
 unfold Builtin.Slice.sliceAdjust;simp only[h1,Qk4];refine Prod.ext ?_ ?_
 ·cases lo with
  | none=>rfl
  | some v=>exact Li v n 0
 ·cases hi with
  | none=>rfl
  | some v=>exact Li v n n
theorem Je(i j:Nat):Builtin.Slice.slicePlaces (i:Int) (j:Int) 1=j - i:=by
 unfold Builtin.Slice.slicePlaces;have h1:(1:Int) > 0:=by omega
 simp only[h1,if_true,Int.ediv_one];split<;>omega
theorem xU{v:Value}{o:Option Int}{Q:Option Int->Shared->Prop}(p:IsPart v o)(h:Q o s):wpAny (model prog w) A (Builtin.Slice.slicePartIndex v) Q E s:=by
 cases p with
 | none=>exact slicePart_none h
 | int i t=>exact slicePart_int h
theorem uU{sl:Addr}{vl vu:Value}{lo hi:Option Int}{n:Nat}{Q:Int×Int×Nat->Shared->Prop}(hs:s.heap.IsSliceOf sl vl vu .none)(pl:IsPart vl lo)(pu:IsPart vu hi)
  (h:Q (((jt n 0 lo:Nat):Int),1,jt n n hi - jt n 0 lo) s):wpAny (model prog w) A (Builtin.Slice.sliceApplied (.ref sl) (pure (n:Int))) Q E s:=by
 obtain⟨os,hos,hcs,hds⟩:=id hs;unfold Builtin.Slice.sliceApplied Builtin.Slice.sliceFields;refine Qqq (Qqq (Qz9 hos hds (x:=vl) rfl (Qqq (Qz9 hos hds (x:=vu) rfl (Qqq (Qz9 hos hds (x:=.none) rfl (Qq2 ?_)))))));refine Qqq (slicePart_none ?_);show wpAny _ _ (if ((1:Int) == 0)=true then _ else _) _ _ s;rw[if_neg (by decide)];refine Qqq (xU pl (Qqq (xU pu (Qqq (Qq2 ?_)))));show wpAny _ _ (match Builtin.Slice.sliceAdjust lo hi 1 (n:Int) with|(lo,hi)=>pure (lo,(1:Int),Builtin.Slice.slicePlaces lo hi 1)) _ _ s;rw[JP lo hi n];show wpAny _ _ (pure (((jt n 0 lo:Nat):Int),(1:Int),Builtin.Slice.slicePlaces ((jt n 0 lo:Nat):Int) ((jt n n hi:Nat):Int) 1)) _ _ s;rw[Je];exact Qq2 h
theorem QK(xs:Array Value)(i k:Nat):((List.range k).filterMap λ(m:Nat)=>xs[((i:Int)+(m:Int)*1).toNat]?).toArray=((xs.toList.drop i).take k).toArray:=by
 have e:(λ(m:Nat)=>xs[((i:Int)+(m:Int)*1).toNat]?)=λm=>xs[i+m]?:=by
  funext m
  have:((i:Int)+(m:Int)*1).toNat=i+m:=by omega
  rw[this]
 rw[e];have:=pick_run xs i k;rw[List.filterMap_map] at this;have e2:((λx=>xs[x]?) ∘ λx=>i+x)=λm=>xs[i+m]?:=rfl;rw[e2] at this;rw[this]
theorem tZ{t sl:Addr}{items:Array Value}{vl vu:Value}{lo hi:Option Int}{Q:Value->Shared->Prop}(ht:IsTup s.heap t items)(hs:s.heap.IsSliceOf sl vl vu .none)(pl:IsPart vl lo)(pu:IsPart vu hi)
  (hw:¬(jt items.size 0 lo=0/\jt items.size items.size hi=items.size))
  (h:Q (.ref s.heap.objs.size) { s with heap:=s.heap.push { cls:=.type "tuple",data:=.seq ((items.toList.drop (jt items.size 0 lo)).take (jt items.size items.size hi - jt items.size 0 lo)).toArray } })
  (hsz:items.size<=sizeLine):wpAny (model prog w) A (getItem (.ref t) (.ref sl)) Q E s:=by
 have KQ:sizeOk (.seq ((items.toList.drop (jt items.size 0 lo)).take (jt items.size items.size hi - jt items.size 0 lo)).toArray):=by show((items.toList.drop (jt items.size 0 lo)).take (jt items.size items.size hi - jt items.size 0 lo)).toArray.size<=sizeLine;rw[Qq3,Qw3,Qxj,Qqx];omega
 have hj:jt items.size items.size hi<=items.size:=YT _ _ (Qq0 _) hi;obtain⟨os,hos,hcs,hds⟩:=id hs;have hTs:s.TypeIs (.ref sl) "slice":=⟨os,hos,hcs⟩;unfold getItem
 try with_reducible refine Qzy ?_
 first|refine Qqq (Qq2 ?_)|skip
 refine Qqq (wpAny_sequenceKey ht.typeIs (by decide) ?_);refine Qqq (Qz0 (name:=Str.ofString "__getitem__") ht.typeIs PyProof.Rows.slot_tuple_getitem
  (Qzx PyProof.Rows.slot_tuple_getitem ht.typeIs entry_tuple_getitem ?_ (args_tuple_getitem _ _)))
 show wpAny _ _ (Builtin.Tuple.tupleItemsOf (.ref t) >>= _) _ _ s;refine Qqq (tupleItemsOf_ ht ?_);refine Qqq (wpAny_typeOf hTs ?_);rw[if_pos (by decide)];refine Qqq (uU hs pl pu ?_);have hno:¬((((jt items.size 0 lo:Nat):Int) == 0&&(1:Int) == 1&&(jt items.size items.size hi - jt items.size 0 lo) == items.size)=true):=by intro q;rw[Qz5,Qz5] at q;have q1:((jt items.size 0 lo:Nat):Int)=0:=eq_of_beq q.1.1;have q2:jt items.size items.size hi - jt items.size 0 lo=items.size:=eq_of_beq q.2;exact hw ⟨by omega,by omega⟩
 show wpAny _ _ (if (((jt items.size 0 lo:Nat):Int) == 0&&(1:Int) == 1&&(jt items.size items.size hi - jt items.size 0 lo) == items.size)=true then _ else _) _ _ s;rw[if_neg hno,QK]
 first
  | exact Qqq (m:=Builtin.Tuple.tupleExact _) (Qz1 (Qq2 ⟨_,rfl,Qq2 h⟩) KQ)
  | exact Qqq (m:=Builtin.Tuple.tupleExact _) (Qz1 (Qqq (Qq2 (Qq2 ⟨_,rfl,Qq2 h⟩))) KQ)
  | exact Qqq (Qqq (m:=Builtin.Tuple.tupleExact _) (Qz1 (Qq2 (Qq2 ⟨_,rfl,Qq2 h⟩)) KQ))
  | exact Qqq (Qqq (m:=Builtin.Tuple.tupleExact _) (Qz1 (Qq2 ⟨_,rfl,Qq2 h⟩) KQ))
end
end HT
namespace L2
open PySem PySem.Spec PyProof.Rows
abbrev TO:=St->Hp->(Option Int->Hp->Prop)->Prop
def PO(X:Cx)(e:Option Expr)(t:TO):Prop:=
 ∀(pins:List (Addr×Obj)) (s:Shared) (σ:St) (H:Hp) (Q:Option Int->Hp->Prop),Inv X pins σ H s->t σ H Q->
  wpAny (model X.prog X.w) X.A (evalPart e X.env) (λu s'=>∃o H',Inv X pins σ H' s'/\IsPart u o/\Q o H') X.xe s
def TY:TO:=λ_ H Q=>Q none H
def acx(t:TE):TO:=λσ H Q=>t σ H λx H1=>∃i,x = .int i/\Q (some i) H1
section
variable{X:Cx}{e:Expr}{te:TE}{lo hi:Option Expr}{tl th:TO}{pos p2:Pos}
theorem U0:PO X none TY:=by intro pins s σ H Q I h;rw[evalPart_none];exact Qq2 ⟨none,H,I,.none,h⟩
theorem UW(h:PE X e te):PO X (some e) (acx te):=by intro pins s σ H Q I hw;rw[evalPart_some];refine fV (h pins s σ H _ I hw) λu s1 ⟨x,H1,I1,r1,q1⟩=>?_;obtain⟨i,rfl,q⟩:=q1;obtain⟨t,rfl⟩:=r1;exact⟨some i,H1,I1,.int i t,q⟩
def Yi(X:Cx)(r:V->Option Int->Option Int->Hp->VK->Prop):Prop:=
 ∀(pins:List (Addr×Obj)) (s:Shared) (σ:St) (H:Hp) (x:V) (v vl vu:Value) (lo hi:Option Int) (sl:Addr) (Q:VK),Inv X pins σ H s->RelV x v->s.heap.IsSliceOf sl vl vu .none->IsPart vl lo->IsPart vu hi->r x lo hi H Q->
  ∃T id,typeLookup (.type T) "__getitem__" = pure (some (.builtin id))/\s.TypeIs v T/\wpAny (model X.prog X.w) X.A (getItem v (.ref sl)) (EP X pins σ Q) X.xe s
theorem Yi.or{r r':V->Option Int->Option Int->Hp->VK->Prop}(h:Yi X r)(h':Yi X r'):Yi X (λx lo hi H Q=>r x lo hi H Q\/r' x lo hi H Q):=by
 intro pins s σ H x v vl vu lo hi sl Q I rx hs pl pu q;rcases q with q|q
 ·exact h pins s σ H x v vl vu lo hi sl Q I rx hs pl pu q
 ·exact h' pins s σ H x v vl vu lo hi sl Q I rx hs pl pu q
def tSl(r:V->Option Int->Option Int->Hp->VK->Prop)(te:TE)(tl th:TO):TE:=λσ H Q=>te σ H λx H1=>tl σ H1 λl H2=>th σ H2 λu H3=>r x l u H3 Q
theorem QM{r:V->Option Int->Option Int->Hp->VK->Prop}(hr:Yi X r)(he:PE X e te)(hl:PO X lo tl)(hu:PO X hi th):PE X (.Subscript e (.Slice lo hi none p2) pos) (tSl r te tl th):=by intro pins s σ H Q I h;refine Subscript_ (fV (he pins s σ H _ I h) λv s1 ⟨x,H1,I1,r1,q1⟩=>?_);refine wpAny_Slice (fV (hl pins s1 σ H1 _ I1 q1) λvl s2 ⟨l,H2,I2,pl,q2⟩=>fV (hu pins s2 σ H2 _ I2 q2) λvu s3 ⟨u,H3,I3,pu,q3⟩=>?_);rw[evalPart_none];refine Qq2 ?_;have I4:Inv X pins σ H3 { s3 with heap:=s3.heap.push { cls:=.type "slice",data:=.fields #[vl,vu,.none] } }:=I3.kept (t':=s3.toks) λb ob q=>Qqz _ q;obtain⟨T,id,hT,ht,hg⟩:=hr pins { s3 with heap:=s3.heap.push { cls:=.type "slice",data:=.fields #[vl,vu,.none] } } σ H3 x v vl vu l u s3.heap.objs.size Q I4 r1 (Heap.IsSliceOf.new ..) pl pu q3;show wpAny (model X.prog X.w) X.A (subscriptTail e (.Slice lo hi none p2) v (.ref s3.heap.objs.size)) (EP X pins σ Q) X.xe { s3 with heap:=s3.heap.push { cls:=.type "slice",data:=.fields #[vl,vu,.none] } };exact tail_any (ops:=[.ref s3.heap.objs.size,v]) ht hT hg (by with_unfolding_all rfl)
noncomputable def zz(xs:List V)(lo hi:Option Int):List V:=(xs.drop (HT.jt xs.length 0 lo)).take (HT.jt xs.length xs.length hi - HT.jt xs.length 0 lo)
theorem wJ(xs:List V)(lo hi:Option Int):(zz xs lo hi).length<=xs.length:=by unfold zz;rw[Qw3,Qxj];omega
def acT(K:PySem.W.Frag):V->Option Int->Option Int->Hp->VK->Prop:=λx lo hi H Q=>∃a xs,x = .ref a/\jZ K H a xs/\
 ¬(HT.jt xs.length 0 lo=0/\HT.jt xs.length xs.length hi=xs.length)/\∀p,H p=none->Q (.ref p) (upd H p (.tup (zz xs lo hi)))
theorem YQ:Yi X (acT X.K):=by
 intro pins s σ H x v vl vu lo hi sl Q I rx hs pl pu h;obtain⟨a,xs,rfl,hx,hw,q⟩:=h;cases rx;obtain⟨its,r,ht,hz⟩:=I.tuple hx;have hlen:its.toArray.size=xs.length:=by rw[Qq3];exact r.length.symm
 refine⟨"tuple",_,PyProof.Rows.slot_tuple_getitem.lookup,ht.typeIs,?_⟩;refine HT.tZ ht hs pl pu (by rw[hlen];exact hw) ?_ (by rw[hlen];exact hz);rw[hlen];refine⟨.ref s.heap.objs.size,_,I.laid (t':=s.toks) (o:=.tup (zz xs lo hi)) (λb ob q=>Qqz _ q) (Qq0 _) ?_,rfl,q _ (I.hok.fresh (Qq0 _))⟩;exact⟨Qq4 (wJ xs lo hi) hz,_,(r.drop (HT.jt xs.length 0 lo)).take (HT.jt xs.length xs.length hi - HT.jt xs.length 0 lo),Aq.new _ _⟩
def Xn(K:PySem.W.Frag):R2:=λx y H Q=>∃a b xs ys,x = .ref a/\y = .ref b/\jZ K H a xs/\jZ K H b ys/\xs≠[]/\xs.length+ys.length<=sizeLine/\
 (ys=[]->Q (.ref a) H)/\(ys≠[]->∀p,H p=none->Q (.ref p) (upd H p (.tup (xs++ys))))
theorem Vals.Dj{xs:List V}{us:List Value}(r:Vals xs us):us=[]↔xs=[]:=by
 cases r with
 | nil=>simp
 | cons _ _=>simp
theorem Vg:mD X (binaryOp .Add) (Xn X.K):=by intro pins s σ H x y v u Q I rx ry h;obtain⟨a,b,xs,ys,rfl,rfl,ha,hb,hx,hz,q1,q2⟩:=h;cases rx;cases ry;obtain⟨its,r1,p1,_⟩:=I.tuple ha;obtain⟨its2,r2,p2,_⟩:=I.tuple hb;refine HT.Wr p1 p2 (λz=>hx (r1.Dj.mp z)) (λz=>⟨.ref a,H,I,rfl,q1 (r2.Dj.mp z)⟩) (λz=>?_) (by rw[<-r1.length,<-r2.length];exact hz);refine⟨.ref s.heap.objs.size,_,I.laid (t':=s.toks) (o:=.tup (xs++ys)) (λb ob q=>Qqz _ q) (Qq0 _) ?_,rfl,q2 (λw=>z (r2.Dj.mpr w)) _ (I.hok.fresh (Qq0 _))⟩;exact⟨by rw[Qq1];exact hz,_,r1.append r2,Aq.new _ _⟩
end
noncomputable def XN(n:Nat)(i:Int):Option Nat:=if 0<=i then (if i<n then some i.toNat else none) else if -(n:Int)<=i then some (i+n).toNat else none
noncomputable def wL{α:Type}(xs:List α)(i:Int):Option α:=(XN xs.length i).bind λj=>xs[j]?
theorem KH{n:Nat}{i:Int}{j:Nat}(h:XN n i=some j):seqIndex? i n=some j/\j<n/\-(n:Int)<=i/\i<n:=by
 unfold XN at h;by_cases h0:0<=i
 ·rw[if_pos h0] at h;by_cases h1:i<n
  ·rw[if_pos h1] at h;have e:i.toNat=j:=Qw1 h;exact⟨by rw[seqIndex_of h0 h1,e],by omega,by omega,h1⟩
  ·rw[if_neg h1] at h;cases h
 ·rw[if_neg h0] at h;by_cases h1 : -(n:Int)<=i
  ·rw[if_pos h1] at h;have e:(i+n).toNat=j:=Qw1 h;exact⟨by rw[seqIndex_neg (by omega) h1,e],by omega,h1,by omega⟩
  ·rw[if_neg h1] at h;cases h
theorem DQ{α:Type}{xs:List α}{i:Int}{v:α}(h:wL xs i=some v):∃j,seqIndex? i xs.length=some j/\xs[j]? = some v/\j<xs.length/\-(xs.length:Int)<=i/\i<xs.length:=by
 unfold wL at h;cases e:XN xs.length i with
 | none=>rw[e] at h;cases h
 | some j=>
  rw[e] at h;obtain⟨h1,h2,h3,h4⟩:=KH e;exact⟨j,h1,h,h2,h3,h4⟩
theorem uq{α:Type}{xs:List α}{j:Nat}{v:α}(h:xs[j]? = some v):wL xs (j:Int)=some v:=by
 have hj:j<xs.length:=(Qq6.mp h).1;have e:XN xs.length (j:Int)=some j:=by unfold XN;rw[if_pos (by omega),if_pos (by omega)];simp
 unfold wL;rw[e];exact h
def qw(b:Expr):Prop:=∀o i,subscripted b false o i=operate [o,i] (getItem o i)
def WY(X:Cx)(r:R2):Prop:=
 ∀(value slice:Expr) (pins:List (Addr×Obj)) (s:Shared) (σ:St) (H:Hp) (x y:V) (v u:Value) (Q:VK),Inv X pins σ H s->RelV x v->RelV y u->r x y H Q->
  subscripted slice false v u=operate [v,u] (getItem v u)->wpAny (model X.prog X.w) X.A (subscriptTail value slice v u) (EP X pins σ Q) X.xe s
def MtR(X:Cx)(id:String)(r:V->List V->Hp->VK->Prop):Prop:=
 ∀(pins:List (Addr×Obj)) (s:Shared) (σ:St) (H:Hp) (x:V) (xs:List V) (v:Value) (us:List Value) (Q:VK),Inv X pins σ H s->RelV x v->Vals xs us->r x xs H Q->
  wpAny (model X.prog X.w) X.A (call (.builtin id) (v::us)) (EP X pins σ Q) X.xe s
section
variable{X:Cx}{a b:Expr}{ta tb:TE}{pos:Pos}
theorem WY.or{r r':R2}(h:WY X r)(h':WY X r'):WY X (λx y H Q=>r x y H Q\/r' x y H Q):=by
 intro value slice pins s σ H x y v u Q I rx ry q hs;rcases q with q|q
 ·exact h value slice pins s σ H x y v u Q I rx ry q hs
 ·exact h' value slice pins s σ H x y v u Q I rx ry q hs
theorem QR{r:R2}(hr:WY X r)(ha:PE X a ta)(hb:PE X b tb)(hs:qw b):PE X (.Subscript a b pos) (TX r ta tb):=by intro pins s σ H Q I h;exact Subscript_ (abA ha hb I h λv u s2 x y H2 I2 rx ry q=>hr a b pins s2 σ H2 x y v u Q I2 rx ry q (hs _ _))
def ac1(K:PySem.W.Frag):R2:=λx y H Q=>∃p xs i v,x = .ref p/\y = .int i/\jX K H p xs/\wL xs i=some v/\Q v H
def acZ(K:PySem.W.Frag):R2:=λx y H Q=>∃p xs i v,x = .ref p/\y = .int i/\jZ K H p xs/\wL xs i=some v/\Q v H
def ac0:R2:=λx y H Q=>∃z i c,x = .str z/\y = .int i/\z.length<=sizeLine/\wL z.cps.toList i=some c/\Q (.str ⟨#[c]⟩) H
theorem VN:WY X (ac1 X.K):=by
 intro value slice pins s σ H x y v u Q I rx ry h hs;obtain⟨p,xs,i,z,rfl,rfl,hq,he,q⟩:=h;cases rx;obtain⟨t,rfl⟩:=ry;obtain⟨its,r,pl,hz⟩:=I.list hq;obtain⟨j,h1,h2,h3,h4,h5⟩:=DQ he;obtain⟨w,ew,Io⟩:=r.get h2;have hl:=r.length;have hn:=vI;have fin:EP X pins σ Q w s:=⟨z,H,I,Io,q⟩;by_cases h0:0<=i
 ·have hj:i.toNat=j:=by
   rw[seqIndex_of h0 h5] at h1;exact Qw1 h1
  exact item_listR pl.isList h0 (by omega) (by rw[hj];simpa using ew) fin hs
 ·have hj:(i+(its.toArray.size:Int)).toNat=j:=by
   rw[seqIndex_neg (by omega) h4] at h1;rw[Qq3,<-hl];exact Qw1 h1
  exact subscriptTail_builtinR (x:=w) pl.isList.typeIs slot_list_getitem.lookup
   (wpAny_getItem_list_neg (Q:=λr s'=>r=w/\EP X pins σ Q r s') pl.isList (by omega) (by rw[Qq3]<;>omega) (by omega) (by rw[hj];simpa using ew) ⟨rfl,fin⟩) hs
theorem aaM:WY X (acZ X.K):=by
 intro value slice pins s σ H x y v u Q I rx ry h hs;obtain⟨p,xs,i,z,rfl,rfl,hq,he,q⟩:=h;cases rx;obtain⟨t,rfl⟩:=ry;obtain⟨its,r,pl,hz⟩:=I.tuple hq;obtain⟨j,h1,h2,h3,h4,h5⟩:=DQ he;obtain⟨w,ew,Io⟩:=r.get h2;have hl:=r.length;have hn:=vI;have fin:EP X pins σ Q w s:=⟨z,H,I,Io,q⟩;exact subscriptTail_builtinR (x:=w) pl.typeIs slot_tuple_getitem.lookup
  (getItem_tuple (j:=j) (Q:=λr s'=>r=w/\EP X pins σ Q r s') pl (by omega) (by omega) (by rw[Qq3,<-hl];exact h1) (by simpa using ew) ⟨rfl,fin⟩) hs
theorem aaN:WY X ac0:=by
 intro value slice pins s σ H x y v u Q I rx ry h hs;obtain⟨z,i,c,rfl,rfl,hz,he,q⟩:=h;obtain⟨t,rfl⟩:=rx;obtain⟨t',rfl⟩:=ry;obtain⟨j,h1,h2,h3,h4,h5⟩:=DQ he;have hl:z.cps.toList.length=z.length:=by simp[Str.length]
 rw[hl] at h1 h4 h5;have hn:=vI;exact tail_any (typeIs_str s z t) slot_str_getitem.lookup (getItem_str (c:=c) (by
  have e1:decide (i < -(2^63:Int))=false:=Qwx (by omega);have e2:decide (i ≥ 2^63)=false:=Qwx (by omega);rw[e1,e2,Bool.or_false]) (by rw[h1];simpa using h2) ⟨.str ⟨#[c]⟩,H,I.tok _,⟨_,rfl⟩,q⟩) hs
def rIx(K:PySem.W.Frag):R2:=λx y H Q=>ac1 K x y H Q\/acZ K x y H Q\/ac0 x y H Q
theorem RD:WY X (rIx X.K):=VN.or (aaM.or aaN)
theorem Jo(its:List Value)(n j:Nat)(u:Value):Obj.mapSeq (·.setIfInBounds j u) { cls:=.type "list",data:=.seq its.toArray n } = { cls:=.type "list",data:=.seq (its.set j u).toArray n }:=by simp[Obj.mapSeq]
theorem Inv.lst{pins:List (Addr×Obj)}{σ:St}{H:Hp}{s:Shared}{p:Addr}{xs:List V}(I:Inv X pins σ H s)(h:H p=some (.lst xs)) :
  ∃(its:List Value) (n:Nat),Vals xs its/\s.heap.get? p=some { cls:=.type "list",data:=.seq its.toArray n }/\xs.length<=sizeLine:=by
 obtain⟨z,its,n,r,e⟩:=I.hok p _ h;exact⟨its,n,r,e,z⟩
theorem Inv.aaG{pins:List (Addr×Obj)}{σ:St}{H:Hp}{s:Shared}{p:Addr}{xs ys:List V}{its its':List Value}{n n':Nat}{f:Obj->Obj}(I:Inv X pins σ H s)(h:H p=some (.lst xs))
  (ho:s.heap.get? p=some { cls:=.type "list",data:=.seq its.toArray n }) (hf:f { cls:=.type "list",data:=.seq its.toArray n } = { cls:=.type "list",data:=.seq its'.toArray n' }) (r:Vals ys its') (hz:ys.length<=sizeLine) (t:Nat) :
  Inv X pins σ (upd H p (.lst ys)) { s with heap:=s.heap.update p f,toks:=t }:=by
 have e:(s.heap.update p f).get? p=some { cls:=.type "list",data:=.seq its'.toArray n' }:=by rw[Heap.get?_update_self f ho (by rw[hf]<;>rfl),hf]
 refine I.write (x:=p) (e:=p) (by rw[h];trivial) (.inl rfl) (λb u hb q=>(Heap.get?_update_other _ _ (Ne.symm hb)).trans q) ⟨_,e⟩ ?_;exact⟨hz,its',n',r,e⟩
def acV:V->V->V->Hp->(Hp->Prop)->Prop:=λo i v H Q=>∃p xs k j,o = .ref p/\i = .int k/\H p=some (.lst xs)/\XN xs.length k=some j/\Q (upd H p (.lst (xs.set j v)))
theorem set_list:aer X acV:=by
 intro pins s σ H o i v ov iv u Q I ro ri rv h;obtain⟨p,xs,k,j,rfl,rfl,hp,hj,q⟩:=h;cases ro;obtain⟨t,rfl⟩:=ri;obtain⟨its,n,r,ho,hz⟩:=I.lst hp;obtain⟨h1,h2,h3,h4⟩:=KH hj;have hl:=r.length;have hn:=vI;have I':Inv X pins σ (upd H p (.lst (xs.set j v))) { s with heap:=s.heap.update p (Obj.mapSeq (·.setIfInBounds j u)) }:=
  I.aaG hp ho (Jo its n j u) (r.set rv j) (by rw[Qw8];exact hz) s.toks
 by_cases h0:0<=k
 ·have hk:k.toNat=j:=by
   rw[seqIndex_of h0 h4] at h1;exact Qw1 h1
  exact PySem.W.ki_setAt ho h0 (by omega) (by rw[Qq3,<-hl];exact h4) (by rw[hk];exact⟨_,I',q⟩)
 ·have hk:(k+(its.toArray.size:Int)).toNat=j:=by
   rw[seqIndex_neg (by omega) h3] at h1;rw[Qq3,<-hl];exact Qw1 h1
  exact PySem.W.ki_setBack ho (by omega) (by rw[Qq3,<-hl];exact h3) (by omega) (by rw[hk];exact⟨_,I',q⟩)
theorem Cv(lo hi:Option Int)(n:Nat):(sliceBounds lo hi none n).1=((HT.jt n 0 lo:Nat):Int)/\(sliceBounds lo hi none n).2.1=((HT.jt n n hi:Nat):Int)/\(sliceBounds lo hi none n).2.2=1:=by
 refine⟨?_,?_,rfl⟩
 ·cases lo with
  | none=>simp[sliceBounds,HT.jt]
  | some i=>
   simp only[sliceBounds,HT.jt,Option.getD_none,show(1:Int) > 0 by decide,if_true];by_cases h:i<0
   ·simp only[h,if_true]<;>omega
   ·simp only[h,Qk4]<;>omega
 ·cases hi with
  | none=>simp[sliceBounds,HT.jt]
  | some i=>
   simp only[sliceBounds,HT.jt,Option.getD_none,show(1:Int) > 0 by decide,if_true];by_cases h:i<0
   ·simp only[h,if_true]<;>omega
   ·simp only[h,Qk4]<;>omega
theorem z9(its:List Value)(lo hi:Option Int):slicePick its.toArray lo hi none=((its.drop (HT.jt its.length 0 lo)).take (HT.jt its.length its.length hi - HT.jt its.length 0 lo)).toArray:=by obtain⟨h1,h2,h3⟩:=Cv lo hi its.toArray.size;unfold slicePick;rw[h1,h2,h3];simp only[sliceRange_one,pick_run,Qq3]<;>rfl
def acU(K:PySem.W.Frag):V->Option Int->Option Int->Hp->VK->Prop:=λx lo hi H Q=>∃a xs,x = .ref a/\jX K H a xs/\∀p,H p=none->Q (.ref p) (upd H p (.lst (zz xs lo hi)))
theorem T5:Yi X (acU X.K):=by intro pins s σ H x v vl vu lo hi sl Q I rx hs pl pu h;obtain⟨a,xs,rfl,hx,q⟩:=h;cases rx;obtain⟨its,r,ht,hz⟩:=I.list hx;have hlen:=r.length;refine⟨"list",_,slot_list_getitem.lookup,ht.isList.typeIs,?_⟩;refine wpAny_getItem_list_slice ht.isList hs pl pu .none (by simp) ?_ (by rw[Qq3]<;>omega);rw[z9,<-hlen];refine⟨.ref s.heap.objs.size,_,I.laid (t':=s.toks) (o:=.lst (zz xs lo hi)) (λb ob q=>Qqz _ q) (Qq0 _) ?_,rfl,q _ (I.hok.fresh (Qq0 _))⟩;exact⟨Qq4 (wJ xs lo hi) hz,_,0,(r.drop (HT.jt xs.length 0 lo)).take (HT.jt xs.length xs.length hi - HT.jt xs.length 0 lo),Qwz _ rfl⟩
theorem gP.or{f:Value}{r r':List V->Hp->VK->Prop}(h:gP X f r)(h':gP X f r'):gP X f (λxs H Q=>r xs H Q\/r' xs H Q):=by
 intro pins s σ H xs us Q I rs q;rcases q with q|q
 ·exact h pins s σ H xs us Q I rs q
 ·exact h' pins s σ H xs us Q I rs q
theorem DK:gP X (.type "list") (λxs H Q=>∃p ys,xs=[.ref p]/\(jX X.K H p ys\/jZ X.K H p ys)/\∀l,H l=none->Q (.ref l) (upd H l (.lst ys))):=by
 intro pins s σ H xs us Q I r h;obtain⟨p,ys,rfl,hq,q⟩:=h;obtain⟨u,rfl,rx⟩:=vals1 r;cases rx;have fin:∀(its:List Value),Vals ys its->ys.length<=sizeLine->∀(h':Heap) (c':Nat),(∀b o',s.heap.get? b=some o'->h'.get? b=some o')->
   h'.get? s.heap.objs.size=some { cls:=.type "list",dict:=none,data:=.seq its.toArray c',slots:=#[] }->EP X pins σ Q (.ref s.heap.objs.size) { s with heap:=h' }:=λits r' hz h' c' kp e=>
  ⟨.ref s.heap.objs.size,_,I.laid (t':=s.toks) kp (Qq0 _) (show fj X.prog X.w _ h' _ (.lst ys) from⟨hz,its,c',r',e⟩),rfl,q _ (I.hok.fresh (Qq0 _))⟩
 rcases hq with hq|hq
 ·obtain⟨its,r',pl,hz⟩:=I.list hq;have hlen:=r'.length;obtain⟨o,ho,hc,n,hd⟩:=pl.isList;exact call_list_seq p (.inl rfl) ho hc hd (λh' c' kp e=>fin its r' hz h' c' kp e) (by simp only[Qq3]<;>omega)
 ·obtain⟨its,r',pl,hz⟩:=I.tuple hq;have hlen:=r'.length;obtain⟨o,ho,hc,n,hd⟩:=pl;exact call_list_seq p (.inr rfl) ho hc hd (λh' c' kp e=>fin its r' hz h' c' kp e) (by simp only[Qq3]<;>omega)
theorem Am:gP X (.type "tuple") (λxs H Q=>∃p ys,xs=[.ref p]/\((jX X.K H p ys/\∀l,H l=none->Q (.ref l) (upd H l (.tup ys)))\/(jZ X.K H p ys/\Q (.ref p) H))):=by
 intro pins s σ H xs us Q I r h;obtain⟨p,ys,rfl,h⟩:=h;obtain⟨u,rfl,rx⟩:=vals1 r;cases rx;rcases h with ⟨hq,q⟩|⟨hq,q⟩
 ·obtain⟨its,r',pl,hz⟩:=I.list hq;have hlen:=r'.length;refine call_tuple_list pl.isList (λh' kp=>?_) (by simp only[Qq3]<;>omega);have I1:Inv X pins σ H { s with heap:=h' }:=I.kept (t':=s.toks) kp;have I2:Inv X pins σ (upd H h'.objs.size (.tup ys)) { s with heap:=h'.push { cls:=.type "tuple",data:=.seq its.toArray } }:=
   I1.laid (t':=s.toks) (λb o e=>Qqz _ e) (Qq0 _) (show fj X.prog X.w _ _ _ (.tup ys) from⟨hz,its,r',Aq.new _ _⟩)
  exact⟨.ref h'.objs.size,_,I2,rfl,q _ (I1.hok.fresh (Qq0 _))⟩
 ·obtain⟨its,r',pl,hz⟩:=I.tuple hq;exact call_tuple_same pl ⟨.ref p,H,I,rfl,q⟩
def tyV(K:PySem.W.Frag)(T:String)(x:V)(H:Hp):Prop:=match x with
 | .str _=>T = "str"
 | .int _=>T = "int"
 | .ref p=>(T = "list"/\∃xs,jX K H p xs)\/(T = "tuple"/\∃o,K.lookup p=some o/\o.cls = .type "tuple"/\o.dict=none)\/
   (T = "dict"/\((∃kvs,H p=some (.dK kvs))\/∃kvs,H p=some (.dT kvs)))\/(T = "set"/\∃S n,H p=some (.set S n))
 | _=>False
theorem O4{pins:List (Addr×Obj)}{σ:St}{H:Hp}{s:Shared}{T:String}{x:V}{v:Value}(I:Inv X pins σ H s)(r:RelV x v)(ty:tyV X.K T x H) :
  s.TypeIs v T/\∀a,v = .ref a->∃ob,s.heap.get? a=some ob/\ob.dict=none:=by
 cases x with
 | str z=>
  obtain⟨t,rfl⟩:=r;cases(show T = "str" from ty);exact⟨typeIs_str s z t,λ_ e=>nomatch e⟩
 | int i=>
  obtain⟨t,rfl⟩:=r;cases(show T = "int" from ty);exact⟨typeIs_int s i t,λ_ e=>nomatch e⟩
 | ref p=>
  cases r;rcases ty with ⟨rfl,xs,hq⟩|⟨rfl,o,hk,hc,hd⟩|⟨rfl,hk⟩|⟨rfl,S,n,hk⟩
  ·obtain⟨its,_,pl,_⟩:=I.list hq;refine⟨pl.isList.typeIs,λa e=>?_⟩;cases e;obtain⟨o,n,e,c,hd,_⟩:=pl;exact⟨o,e,hd⟩
  ·refine⟨⟨o,I.KD p o hk,hc⟩,λa e=>?_⟩;cases e;exact⟨o,I.KD _ o hk,hd⟩
  ·have z:∃o,s.heap.get? p=some o/\o.ExactDict:=by
    rcases hk with ⟨kvs,hk⟩|⟨kvs,hk⟩
    ·obtain⟨_,_,_,_,o,_,_,e,ex,_⟩:=I.hok p _ hk;exact⟨o,e,ex⟩
    ·obtain⟨_,_,_,_,o,_,_,e,ex,_⟩:=I.hok p _ hk;exact⟨o,e,ex⟩
   obtain⟨o,e,ex⟩:=z;refine⟨⟨o,e,ex.1⟩,λa e2=>?_⟩;cases e2;exact⟨o,e,ex.2.1⟩
  ·obtain⟨o,_,_,_,e,ex,_⟩:=I.hok p _ hk;refine⟨⟨o,e,ex.1⟩,λa e2=>?_⟩;cases e2;exact⟨o,e,ex.2.1⟩
 | _=>exact False.elim ty
def afv(K:PySem.W.Frag)(T:String)(r:V->List V->Hp->VK->Prop)(to:TE):TE:=λσ H Q=>to σ H λx H1=>tyV K T x H1/\r x [] H1 Q
def tBM(K:PySem.W.Frag)(T:String)(r:V->List V->Hp->VK->Prop)(to:TE)(t:TA):TE:=λσ H Q=>to σ H λx H1=>tyV K T x H1/\t σ H1 λxs H2=>r x xs H2 Q
variable{o e:Expr}{es:List Expr}{to:TE}{t:TA}{name:Str}{apos cpos:Pos}{T id:String}{r:V->List V->Hp->VK->Prop}
theorem ZM(pa:PlainAttrs T)(slot:Slot T name id)(hty:typeOf (.builtin id)=pure (.type "method_descriptor"))(hm:MtR X id r)(ho:PE X o to)
  (hbase:attributeBase o name X.env (eval o X.env)=eval o X.env:=by rfl) (hline:(apos.endLine == cpos.line)=true:=by rfl):PE X (.Call (.Attribute o name apos) [] [] cpos) (afv X.K T r to):=by
 intro pins s σ H Q I h;refine wpAny_Call_method0_late hbase hline (fV (ho pins s σ H _ I h) λv s1 ⟨x,H1,I1,r1,ty,q1⟩=>?_);obtain⟨h1,h2⟩:=O4 I1 r1 ty;exact⟨T,id,pa,slot,hty,h1,h2,Calls.callWith_builtin rfl (PySem.evalArgs_none (hm pins s1 σ H1 x [] v [] Q I1 r1 .nil q1))⟩
theorem Xu(pa:PlainAttrs T)(slot:Slot T name id)(hty:typeOf (.builtin id)=pure (.type "method_descriptor"))(hm:MtR X id r)(ho:PE X o to)(ha:PA X (e::es) t)
  (hbase:attributeBase o name X.env (eval o X.env)=eval o X.env:=by rfl)
  (hfew:((backTo cpos (starEach (e::es) X.env)).all (λx=>!x.1)&&(backToKw cpos (keywordEach [] X.env)).all (λx=>x.1.isSome)
   && decide ((e::es).length+([]:List Keyword).length+(if ([]:List Keyword).isEmpty then 0 else 1)<30))=true:=by rfl)
  (hline:(apos.endLine == cpos.line)=true:=by rfl) (hs:starEach (e::es) X.env=(false,eval e X.env)::starEach es X.env:=by rfl) (hplain:(backTo cpos (starEach es X.env)).any (·.1)=false:=by rfl) :
  PE X (.Call (.Attribute o name apos) (e::es) [] cpos) (tBM X.K T r to t):=by
 intro pins s σ H Q I h;refine wpAny_Call_method_late hbase hfew hline rfl (fV (ho pins s σ H _ I h) λv s1 ⟨x,H1,I1,r1,ty,q1⟩=>?_);obtain⟨h1,h2⟩:=O4 I1 r1 ty;refine⟨T,id,pa,slot,hty,h1,h2,?_⟩;have hA:=ha cpos pins s1 σ H1 _ I1 q1;rw[hs] at hA ⊢;refine Calls.callWith_builtin (by show(false||(backTo cpos (starEach es X.env)).any (·.1))=false;rw[hplain]<;>rfl) (Calls.evalArgs_plain ?_);exact fV hA λus s2 ⟨vs,H2,I2,r2,q2⟩=>hm pins s2 σ H2 x vs v us Q I2 r1 r2 q2
end
def MtM(X:Cx)(id:String)(r:V->List V->Hp->VK->Prop):Prop:=
 ∀(pins:List (Addr×Obj)) (s:Shared) (σ:St) (H:Hp) (x:V) (xs:List V) (v:Value) (us:List Value) (Q:VK),Inv X pins σ H s->RelV x v->Vals xs us->r x xs H Q->
  wpAny (model X.prog X.w) X.A (call (.builtin id) (v::us)) (EP X pins σ Q) X.xe s
theorem Vals.one:∀{x:V} {us:List Value},Vals [x] us->∃u,us=[u]/\RelV x u
 | _,_,.cons r .nil=>⟨_,rfl,r⟩
theorem Vals.two:∀{x y:V} {us:List Value},Vals [x,y] us->∃u v,us=[u,v]/\RelV x u/\RelV y v
 | _,_,_,.cons r (.cons q .nil)=>⟨_,_,rfl,r,q⟩
theorem Vals.zero:∀{us:List Value},Vals [] us->us=[]
 | _,.nil=>rfl
theorem Vals.dropLast{xs:List V}{us:List Value}(h:Vals xs us):Vals xs.dropLast us.dropLast:=by
 induction h with
 | nil=>exact .nil
 | cons r t ih=>
  cases t with
  | nil=>exact .nil
  | cons q t'=>exact .cons r ih
theorem JC{α:Type}(l:List α):l.eraseIdx (l.length - 1)=l.dropLast:=by
 induction l with
 | nil=>rfl
 | cons a r ih=>
  cases r with
  | nil=>rfl
  | cons b r=>
   have e:(a::b::r).length - 1=((b::r).length - 1)+1:=by have h1:(a::b::r).length=r.length+2:=rfl;have h2:(b::r).length=r.length+1:=rfl;omega
   rw[e,List.eraseIdx_cons_succ,ih]
   all_goals rfl
section
variable{X:Cx}{pins:List (Addr×Obj)}{σ:St}{H:Hp}{s:Shared}{l b:Addr}{xs ys zs:List V}
theorem Inv.adJ{its its':List Value}{n:Nat}{f:Array Value->Array Value}{t':Nat}(I:Inv X pins σ H s)(hH:H l=some (.lst xs))
  (e:s.heap.get? l=some { cls:=.type "list",data:=.seq its.toArray n }) (hf:f its.toArray=its'.toArray) (hv:Vals ys its') (hz:ys.length<=sizeLine) :
  Inv X pins σ (upd H l (.lst ys)) { s with heap:=s.heap.update l (Obj.mapSeq f),toks:=t' }:=by
 have q:=PySem.IsL.update e f;rw[hf] at q;refine I.write (x:=l) (e:=l) (by rw[hH];exact trivial) (.inl rfl) (λb' u hb hu=>(Heap.get?_update_other s.heap (Obj.mapSeq f) (Ne.symm hb)).trans hu) ⟨_,q⟩ ?_;exact⟨hz,its',_,hv,q⟩
theorem Inv.adL{its:List Value}{t':Nat}(I:Inv X pins σ H s)(hv:Vals ys its)(hz:ys.length<=sizeLine) :
  Inv X pins σ (upd H s.heap.objs.size (.lst ys)) { s with heap:=s.heap.push { cls:=.type "list",data:=.seq its.toArray },toks:=t' }:=
 I.laid (λ_ _ q=>Qqz _ q) (Qq0 _) ⟨hz,its,0,hv,Qwz _ rfl⟩
theorem Inv.fresh(I:Inv X pins σ H s):H s.heap.objs.size=none:=I.hok.fresh (Qq0 _)
theorem Inv.Vw(I:Inv X pins σ H s)(hH:H l=some (.lst xs)):xs.length<=sizeLine/\∃(its:List Value) (n:Nat),Vals xs its/\xs.length=its.length/\s.heap.get? l=some { cls:=.type "list",data:=.seq its.toArray n }:=by obtain⟨z,its,n,r,e⟩:=I.hok l _ hH;exact⟨z,its,n,r,r.length,e⟩
theorem adA{n:Nat}(h:n<=sizeLine):Builtin.List.listTooLong n=false:=by unfold Builtin.List.listTooLong;exact Qwx (by omega)
end
section
variable{X:Cx}{prog:Program}{w:World}{A:Around}{E:Value->Shared->Prop}{s:Shared}
def Uk:V->List V->Hp->VK->Prop:=λx vs H Q=>∃l xs y,x = .ref l/\vs=[y]/\H l=some (.lst xs)/\xs.length<sizeLine/\Q .non (upd H l (.lst (xs++[y])))
theorem Bk:MtM X "list.append" Uk:=by intro pins s σ H x vs v us Q I rx rv h;obtain⟨l,xs,y,rfl,rfl,hH,hz,q⟩:=h;cases rx;obtain⟨u,rfl,ru⟩:=rv.one;obtain⟨z,its,n,r,hl,e⟩:=I.Vw hH;refine call_meets F.slot_list_append ⟨_,e,rfl⟩ F.entry_list_append (F.args_list_append_2 _ _) (PySem.list_append l its.toArray n u (by rw[Qq3];omega)) ⟨e,?_⟩;refine⟨.non,_,I.adJ (its':=its++[u]) hH e (by simp) (r.append (.cons ru .nil)) ?_,rfl,q⟩;rw[Qq1,Qx0];omega
def afE:V->List V->Hp->VK->Prop:=λx vs H Q=>∃l xs y,x = .ref l/\vs=[]/\H l=some (.lst xs)/\xs[xs.length - 1]? = some y/\Q y (upd H l (.lst xs.dropLast))
theorem aaw:MtM X "list.pop" afE:=by
 intro pins s σ H x vs v us Q I rx rv h;obtain⟨l,xs,y,rfl,rfl,hH,hy,q⟩:=h;cases rx;have hus:=rv.zero;subst hus;obtain⟨z,its,n,r,hl,e⟩:=I.Vw hH;obtain⟨u,hu,ru⟩:=r.get hy;have hy':its.toArray[its.toArray.size - 1]? = some u:=by show its.toArray[its.length - 1]? = some u;rw[<-Qzw,<-hl];exact hu
 refine call_meets F.slot_list_pop ⟨_,e,rfl⟩ F.entry_list_pop (F.args_list_pop_1 _) (MeetsSeq.list_pop_last l its.toArray n u hy' (by rw[Qq3];omega)) ⟨e,?_⟩;refine⟨y,_,I.adJ (its':=its.dropLast) hH e ?_ r.dropLast ?_,ru,q⟩
 ·show its.toArray.eraseIdxIfInBounds (its.toArray.size - 1)=its.dropLast.toArray;rw[Qq3,List.eraseIdxIfInBounds_toArray,JC]
 ·rw[List.length_dropLast];omega
def ac6:R2:=λx y H Q=>∃l b xs zs,x = .ref l/\y = .ref b/\H l=some (.lst xs)/\H b=some (.lst zs)/\xs.length+zs.length<=sizeLine/\∀p,H p=none->Q (.ref p) (upd H p (.lst (xs++zs)))
theorem Z5:mD X (binaryOp .Add) ac6:=by
 intro pins s σ H x y v u Q I rx ry h;obtain⟨l,b,xs,zs,rfl,rfl,hH,hB,hz,q⟩:=h;cases rx;cases ry;obtain⟨z,its,n,r,hl,e⟩:=I.Vw hH;obtain⟨z2,its2,n2,r2,hl2,e2⟩:=I.Vw hB;refine PySem.P.add_list e e2 ?_ (by rw[Qq3,Qq3];omega);have ea:its.toArray++its2.toArray=(its++its2).toArray:=by simp
 rw[ea];exact⟨.ref _,_,I.adL (t':=s.toks) (r.append r2) (by rw[Qq1];omega),rfl,q _ I.fresh⟩
set_option maxRecDepth 100000 in
end
end L2
namespace Att
open PySem PySem.W PySem.Calls PyProof.Rows
theorem xq{P:Params}{h:Heap}:∀(ns:List Int) (vs:List Value),WellAll P h vs (ns.map WData.int)->IntsAre vs ns:=by
 intro ns
 induction ns with
 | nil=>
  intro vs w;rw[List.map_nil] at w;cases w;exact .nil
 | cons n ns ih=>
  intro vs w;rw[Qwv] at w;cases w with
  | cons a b=>
   cases a;exact .cons _ _ (ih _ b)
theorem Ml{l:OpenLaw}{n:Nat}(hn:l.most=some n){P:Params}{h:Heap}{args:List WData}{vals:List Value}
  (hpre:l.row.toRowW.claim.pre args=true) (hwl:WellAll P h vals args) :
  ∃a vs ns,vals=[Value.ref a]/\args=[WData.list (ns.map WData.int)]/\h.get? a=some { cls:=.type "list",data:=.seq vs.toArray }/\IntsAre vs ns/\ns.length<=n:=by
 have hsh:WShape.hasAll [] args [.list .int]=true:=(pre_splitW hpre).1;have hc:l.pre.holds [] { args:=args }=true:=(pre_splitW hpre).2;obtain⟨d,r,rfl,h1,h2⟩:=hasAllW_cons hsh;obtain rfl:=hasAllW_nil h2;obtain⟨xs,rfl,h3⟩:=hasW_list h1;obtain⟨ns,rfl⟩:=items_int h3;have hlen:ns.length<=n:=by
  unfold OpenLaw.pre at hc;have h4:(WTm.not (.lt (.lit (.int (n:Int))) (.len (.arg 0)))).holds [] { args:=[.list (ns.map .int)] }=true:=by have h4:=(holds_andW hc).1;rw[hn] at h4;exact h4
  have h5:=condW_of h4 (w_not (w_lt w_lit (w_len_list (w_arg rfl))));rw[Qqv] at h5;refine Nat.le_of_not_lt λq=>?_;have q':(n:Int)<((ns.length:Nat):Int):=by omega
  first
   | (rw[Qwy q'] at h5;exact absurd h5 (by decide))
   | (simp at h5;omega)
 cases hwl with
 | cons w1 w2=>
  cases w2;cases w1 with
  | list ho hall=>exact⟨_,_,ns,rfl,rfl,ho,xq ns _ hall,hlen⟩
theorem Mx(l:OpenLaw)(args:List WData):l.row.toRowW.claim.post args (.bool true) args=true:=
 postW_of (r:=l.row.toRowW) (X:=(true == true))
  (show WShape.has [] (.bool true) .bool=true by first|rfl|decide|simp[WShape.has,WShape.arms,WShape.armsAll])
  (show(WTm.eq .res (.lit (.bool true))).value [] { args:=args,res:=some (.bool true),after:=args }=some (.bool (true == true)) from w_eq_bool (w_res rfl) w_lit) rfl
end Att
namespace L2
open PySem PySem.Spec PyProof.Rows
theorem Aw:∀{vs:List Value} {ns:List Int},IntsAre vs ns->Vals (ns.map V.int) vs
 | _,_,.nil=>.nil
 | _,_,.cons n t h=>.cons ⟨t,rfl⟩ (Aw h)
def Only(H:Hp):Prop:=∀b,H b=none\/∃o xs,H b=some (.wH o (.lst xs))
theorem Ru{P:Program}{w:World}{K:PySem.W.Frag}{mg mb:Str->Option Value}{CX:Tr}{k:Nat}{fa a:Addr}{fd:FuncData}{x:Str}{sp:Sp}{s₁:Shared}{vs:List Value}{ns:List Int}
  (KX:K.In s₁.heap) (hns:s₁.heap.Ns mainGlobals mg) (hb:s₁.heap.Ns builtinsNs mb) (hbb:∀x:Str,x ≠ "__name__"->mb x=bootBuiltins x) (hlim:s₁.heap.NoLimit) (hg:s₁.gens = #[])
  (ha:s₁.heap.get? a=some { cls:=.type "list",data:=.seq vs.toArray }) (hi:IntsAre vs ns) (hl:ns.length<=sizeLine) (hr:gY k callerA)
  (F:∀base:Heap,K.In base->base.Ns mainGlobals mg->mR P w K mg base CX k fa fd [x] sp) (hbind:∀(s:Shared) (u:Value),BindsTo s fd ⟨[u],[]⟩ [(x,u)])
  (hsp:∀H:Hp,Only H->jX K H a (ns.map V.int)->sp [.ref a] H (λv _=>v = .bl true) λ_ _ _=>False)
  (hCX:∀H e s',CX [] H s₁ (λ_ _ _=>False) e s'->False) :
  codeAny (model P w) callerA (.call (.ref fa) ⟨[.ref a],[]⟩) (λr s'=>r = .ok (.ret (.bool true))/\OldK s₁.heap s'.heap/\s'.os=s₁.os/\AllBare s'.gens) s₁:=by
 have rv:=Aw hi;have lenV:=hi.length
 -- from an abstract heap in which nothing but the script may be tracked
 have core:∀H:Hp,Only H->jX K H a (ns.map V.int)->oH P w H s₁.heap->(∀b,H b≠none->b=a)->(H a≠none->K.lookup a=none)->
   codeAny (model P w) callerA (.call (.ref fa) ⟨[.ref a],[]⟩) (λr s'=>r = .ok (.ret (.bool true))/\OldK s₁.heap s'.heap/\s'.os=s₁.os/\AllBare s'.gens) s₁:=by
  intro H hO hS hok hA hK;have Ln:∀{b:Addr} {o:Obj},s₁.heap.get? b=some o->H b=none->(Du s₁.heap H).get? b=some o:=λe n=>RN e n;have noA:∀{b:Addr} {o:Obj} {es:Array DictEntry} {ep:Nat},s₁.heap.get? b=some o->o.data = .dict es ep->H b=none:=λ{b o es ep} e d=>by
   cases q:H b with
   | none=>rfl
   | some u=>
    have e':b=a:=hA b (by rw[q];simp);subst e';rw[ha] at e;cases e;have d':Data.seq vs.toArray _=Data.dict es ep:=d;cases d'
  have nsK:∀{b:Addr} {m:Str->Option Value},s₁.heap.Ns b m->(Du s₁.heap H).Ns b m:=λ{b m} ⟨o,es,ep,e,d,r⟩=>⟨o,es,ep,Ln e (noA e d),d,r⟩;have hKb:K.In (Du s₁.heap H):=λb o e=>Ln (KX b o e) (by
   cases q:H b with
   | none=>rfl
   | some u=>
    have e':b=a:=hA b (by rw[q];simp);subst e';rw[hK (by rw[q];simp)] at e;cases e)
  have hM:Mod K mg (Du s₁.heap H):=⟨hKb,nsK hns,⟨mb,nsK hb,hbb⟩,let ⟨mc,h1,h2⟩:=hlim;⟨mc,nsK h1,h2⟩⟩;have e0:W0 P w K mg (Du s₁.heap H) callerA [] s₁ H:=⟨rfl,hM,λb o e=>Vj e,Nat.le_of_eq (Nu _ _),trivial,λb hb=>absurd (show b∈([]:List Addr) from hb) (by simp),hok,.of_eq hg⟩;refine codeAny_mono ((F _ hKb (nsK hns)).run callerA [] s₁ H ⟨[.ref a],[]⟩ [.ref a] [.ref a] _ _ hr e0 (hbind s₁ (.ref a)) (.cons rfl .nil) (hsp H hO hS)) λr s' h=>?_;cases r with
  | error e=>exact(hCX H e s' h).elim
  | ok fl=>
   cases fl with
   | next=>exact False.elim h
   | brk=>exact False.elim h
   | cont=>exact False.elim h
   | ret u=>
    obtain⟨v,H',os,bare,un,hok',r',q⟩:=h;have q':v = .bl true:=q;subst q';obtain rfl:u=Value.bool true:=r';refine⟨rfl,OldK.of_keep λb o e=>?_,os,bare⟩;cases q:H b with
    | none=>exact un.keep b o e q (by intro z;exact absurd (show b∈([]:List Addr) from z) (by simp)) (by simp)
    | some u=>
     rcases hO b with z|⟨ob,xs,z⟩
     ·rw[q] at z;cases z
     ·have z2:=un.rF b ob _ z;obtain⟨e1,_⟩:=hok b _ z;obtain⟨e2,_⟩:=hok' b _ z2;rw[e] at e1;cases e1;exact e2
 cases hk:K.lookup a with
 | some o=>
  -- the script is one of the module's own objects
  have e:=KX a o hk;rw[ha] at e;cases e;refine core (λ_=>none) (λ_=>.inl rfl) (.inr ⟨_,vs.toArray,_,hk,rfl,rfl,rfl,by rw[Qq3,lenV];exact hl,by simpa using rv⟩) (λb u z=>by have z':(none:Option HO)=some u:=z;cases z') (λb z=>absurd rfl z) λz=>absurd rfl z
 | none=>
  refine core (λb=>if b=a then some (.wH { cls:=.type "list",data:=.seq vs.toArray } (.lst (ns.map V.int))) else none) (λb=>?_) (.inl (.inr ⟨{ cls:=.type "list",data:=.seq vs.toArray },if_pos rfl⟩)) (λb u z=>?_) (λb z=>?_) λ_=>hk
  ·by_cases hb:b=a
   ·exact .inr ⟨_,_,if_pos hb⟩
   ·exact .inl (if_neg hb)
  ·by_cases hb:b=a
   ·have z':=(if_pos hb).symm.trans z;cases z';subst hb;exact⟨ha,by rw[Qqv];exact hl,vs,_,rv,ha⟩
   ·have z':=(if_neg hb).symm.trans z;cases z'
  ·by_cases hb:b=a
   ·exact hb
   ·exact absurd (if_neg hb) z
noncomputable def jj(s:Stmt):Arguments:=match s with
 | .FunctionDef _ a _ _ _ _ _ _ _ _=>a
 | _=>{ posonlyargs:=[],args:=[],vararg:=none,kwonlyargs:=[],kw_defaults:=[],kwarg:=none,defaults:=[] }
noncomputable def d8(s:Stmt):List Stmt:=match s with
 | .FunctionDef _ _ b _ _ _ _ _ _ _=>b
 | _=>[]
noncomputable def aM(s:Stmt):Scope:=match s with
 | .FunctionDef _ _ _ _ _ _ sc _ _ _=>sc
 | _=>{ kind:=.function,names:=[],isGenerator:=false,isCoroutine:=false }
abbrev Ec:Tr:=λ_ _ _ _ _ _=>False
abbrev E0:XK:=λ_ _ _=>False
theorem QW{X:Cx}:Passes Ec X E0:=λ_ _ _ _ _ _ _ h=>h.elim
structure Te(K:PySem.W.Frag)(x qual:Str)(st:Stmt)(f:Addr)(fd:FuncData):Prop where
 ex:∃(oc:Value) (od:Option Addr) (kV doc pm:Value) (an:Option Addr) (cdv ct:Value) (osl:Array (Option Value)),
  fd=PySem.W.fnOf x qual (jj st) (d8 st) (aM st) .none kV doc pm an cdv ct/\K.lookup f=some ⟨oc,od,.func fd,osl⟩/\PySem.W.codeIn K cdv qual=true
 kp:PySem.W.keepIn K (.ref f)=true
section
variable{P:Program}{w:World}{K:PySem.W.Frag}{mg:Str->Option Value}{base:Heap}
theorem Te.ok{x qual:Str}{st:Stmt}{f:Addr}{fd:FuncData}{N ps:List Str}{k:Nat}{sp:Sp}(F:Te K x qual st f fd)(S:bA N ps (aM st))(len:∀vs H Q E,sp vs H Q E->vs.length=ps.length)
  (hbody:∀(cdv:Value) (A:Around) (outer:List Env) (s:Shared) (H:Hp) (vs:List V) (Q:VK) (E:XK),gY k (A.deeper (envOfC qual (aM st) s.heap.objs.size f cdv))->sp vs H Q E->
   ∃t,BZ (G8 Ec P w K mg base N qual (aM st) f cdv A outer s H E).vC (d8 st) t/\t { nx:=λ_ H'=>Q .non H',rt:=Q } (start N vs) H):mR P w K mg base Ec (k+1) f fd ps sp:=by
 obtain⟨oc,od,kV,doc,pm,an,cdv,ct,osl,rfl,lk,hcd⟩:=F.ex;refine X4 lk hcd S len λA outer s H vs Q E hr hsp=>?_;obtain⟨t,h,q⟩:=hbody cdv A outer s H vs Q E hr hsp;exact⟨t,h.vC,q⟩
theorem Te.binds{x qual:Str}{st:Stmt}{f:Addr}{fd:FuncData}{ps:List Str}(F:Te K x qual st f fd)
  (h:∀(kV doc pm:Value) (an:Option Addr) (cdv ct:Value) (us:List Value),us.length=ps.length->bindArgs (PySem.W.fnOf x qual (jj st) (d8 st) (aM st) .none kV doc pm an cdv ct) ⟨us,[]⟩=pure (ps.zip us)):Binds K fd ps []:=by
 obtain⟨oc,od,kV,doc,pm,an,cdv,ct,osl,rfl,lk,hcd⟩:=F.ex;exact .all (h kV doc pm an cdv ct)
theorem Jz{x qual:Str}{st:Stmt}{f:Addr}{oc:Value}{od an:Option Addr}{osl:Array (Option Value)}{kV doc pm cdv ct:Value}(l:K.lookup f=some ⟨oc,od,.func (PySem.W.fnOf x qual (jj st) (d8 st) (aM st) .none kV doc pm an cdv ct),osl⟩)
  (c:PySem.W.codeIn K cdv qual=true) (k:PySem.W.keepIn K (.ref f)=true):Te K x qual st f (PySem.W.fnOf x qual (jj st) (d8 st) (aM st) .none kV doc pm an cdv ct):=⟨⟨oc,od,kV,doc,pm,an,cdv,ct,osl,rfl,l,c⟩,k⟩
end
theorem adS{A B:Prop}(h:B):if false=true then A else B:=by rw[if_neg Qxk];exact h
theorem adR{A B:Prop}(h:A):if true=true then A else B:=by rw[if_pos rfl];exact h
def aH(H H':Hp):Prop:=∀b o,H b=some o->H' b=some o
theorem aH.refl(H:Hp):aH H H:=λ_ _ h=>h
theorem aH.trans{H H1 H2:Hp}(a:aH H H1)(b:aH H1 H2):aH H H2:=λc o h=>b c o (a c o h)
theorem aH.free{H H':Hp}(e:aH H H'){l:Addr}(h:H' l=Option.none):H l=Option.none:=by
 cases q:H l with
 | none=>rfl
 | some o=>
  rw[e l o q] at h;cases h
theorem aH.seq{K:PySem.W.Frag}{H H':Hp}{a:Addr}{xs:List V}(e:aH H H')(h:jX K H a xs):jX K H' a xs:=by
 rcases h with (h|⟨o,h⟩)|h
 ·exact .inl (.inl (e _ _ h))
 ·exact .inl (.inr ⟨o,e _ _ h⟩)
 ·exact .inr h
section
variable{κ:Type}[DecidableEq κ]
noncomputable def uK(kvs:List (κ×V))(k:κ):Option V:=(kvs.find? λkv=>decide (kv.1=k)).map (·.2)
noncomputable def putK(kvs:List (κ×V))(k:κ)(v:V):List (κ×V):=
 if (kvs.any λkv=>decide (kv.1=k))=true then kvs.map (λkv=>if kv.1=k then (kv.1,v) else kv) else kvs++[(k,v)]
theorem rZ{p:κ×V}{r:List (κ×V)}{k:κ}(e:p.1=k):uK (p::r) k=some p.2:=by simp[uK,Qzv,e]
theorem sr{p:κ×V}{r:List (κ×V)}{k:κ}(e:¬p.1=k):uK (p::r) k=uK r k:=by simp[uK,Qzv,e]
theorem xO(k:κ):∀kvs:List (κ×V),(kvs.any λkv=>decide (kv.1=k))=(uK kvs k).isSome
 | []=>rfl
 | p::r=>by
  rw[List.any_cons];by_cases e:p.1=k
  ·simp only[rZ e,Qwy e,Bool.true_or,Option.isSome_some]
  ·rw[sr e,Qwx e,Bool.false_or];exact xO k r
theorem pN(kvs:List (κ×V))(k:κ)(v:V):(putK kvs k v).length<=kvs.length+1:=by
 unfold putK;split
 ·rw[Qqv];omega
 ·rw[Qq1,Qqw,Qz8];omega
theorem uz.vN{o:Option V}{u:Option Value}(r:uz o u):o.isSome=u.isSome:=by
 cases o with
 | none=>cases u with
  | none=>rfl
  | some _=>exact(show False from r).elim
 | some _=>cases u with
  | none=>exact(show False from r).elim
  | some _=>rfl
theorem uz.getD{o:Option V}{u:Option Value}{d:V}{d':Value}(r:uz o u)(rd:RelV d d'):RelV (o.getD d) (u.getD d'):=by
 cases o with
 | none=>cases u with
  | none=>exact rd
  | some _=>exact(show False from r).elim
 | some _=>cases u with
  | none=>exact(show False from r).elim
  | some _=>exact r
theorem KV.val{kvs:List (κ×V)}{vs:List (κ×Value)}(r:KV kvs vs)(k:κ):uz (uK kvs k) (valueAt vs k):=by
 unfold KV at r
 induction r with
 | nil=>exact True.intro
 | @cons p q ps qs h t ih=>
  obtain⟨h1,h2⟩:=h;by_cases e:p.1=k
  ·have e':q.1=k:=h1.symm.trans e;have b:valueAt (q::qs) k=some q.2:=by simp[valueAt,Qzv,e']
   rw[rZ e,b];exact h2
  ·have e':¬q.1=k:=λz=>e (h1.trans z);have b:valueAt (q::qs) k=valueAt qs k:=by simp[valueAt,Qzv,e']
   rw[sr e,b];exact ih
theorem KV.any{kvs:List (κ×V)}{vs:List (κ×Value)}(r:KV kvs vs)(k:κ):(kvs.any λkv=>decide (kv.1=k))=vs.any λkv=>decide (kv.1=k):=by
 unfold KV at r
 induction r with
 | nil=>rfl
 | cons h t ih=>rw[List.any_cons,List.any_cons,ih,h.1]
theorem KV.repl{kvs:List (κ×V)}{vs:List (κ×Value)}(r:KV kvs vs)(k:κ){y:V}{u:Value}(ry:RelV y u) :
  KV (kvs.map λkv=>if kv.1=k then (kv.1,y) else kv) (vs.map λkv=>if kv.1=k then (kv.1,u) else kv):=by
 unfold KV at r ⊢
 induction r with
 | nil=>exact .nil
 | @cons p q ps qs h t ih=>
  rw[Qwv,Qwv];refine .cons ?_ ih;obtain⟨h1,h2⟩:=h;by_cases e:p.1=k
  ·rw[if_pos e,if_pos (h1.symm.trans e)];exact⟨h1,ry⟩
  ·rw[if_neg e,if_neg (λz=>e (h1.trans z))];exact⟨h1,h2⟩
theorem KV.put{kvs:List (κ×V)}{vs:List (κ×Value)}(r:KV kvs vs)(k:κ){y:V}{u:Value}(ry:RelV y u):KV (putK kvs k y) (stored vs k u):=by
 unfold putK stored;rw[r.any k];by_cases e:(vs.any λkv=>decide (kv.1=k))=true
 ·rw[if_pos e,if_pos e];exact r.repl k ry
 ·rw[if_neg e,if_neg e];exact Paired.snoc r ⟨rfl,ry⟩
theorem KV.keys{kvs:List (κ×V)}{vs:List (κ×Value)}(r:KV kvs vs):kvs.map (·.1)=vs.map (·.1):=by
 unfold KV at r
 induction r with
 | nil=>rfl
 | cons h t ih=>rw[Qwv,Qwv,ih,h.1]
theorem KV.length{kvs:List (κ×V)}{vs:List (κ×Value)}(r:KV kvs vs):kvs.length=vs.length:=Paired.length r
end
theorem Gu{P:Program}{w:World}{k:Key}{u:Value}(r:RelV (kV k) u):(dM P w).is k u=true:=by
 cases k with
 | inl i=>obtain⟨t,e⟩:=(show ∃t,u=Value.int i t from r);subst e;exact Gm P w i t
 | inr x=>obtain⟨t,e⟩:=(show ∃t,u=Value.str x t from r);subst e;exact Gk P w x t
theorem Bo{P:Program}{w:World}:∀{ks:List Key} {us:List Value},Vals (ks.map kV) us->ItemsAre (dM P w) ks us
 | [],_,r=>by rw[List.map_nil] at r;cases r;exact .nil
 | k::ks,_,r=>by
  rw[Qwv] at r;cases r with
  | cons h t=>exact .cons (Gu h) (Bo t)
abbrev KT(H:Hp):List (List Key×V)->List (List Key×Addr×Value)->Prop:=Paired λp q=>p.1=q.1/\H q.2.1=some (.tup (p.1.map kV))/\RelV p.2 q.2.2
theorem KT.val{H:Hp}{kvs:List (List Key×V)}{xs:List (List Key×Addr×Value)}(r:KT H kvs xs)(k:List Key):uz (uK kvs k) ((atKey xs k).map (·.2)):=by
 induction r with
 | nil=>exact True.intro
 | @cons p q ps qs h t ih=>
  obtain⟨h1,_,h2⟩:=h;by_cases e:p.1=k
  ·have e':q.1=k:=h1.symm.trans e;have b:atKey (q::qs) k=some q.2:=by simp[atKey,Qzv,e']
   rw[rZ e,b];exact h2
  ·have e':¬q.1=k:=λz=>e (h1.trans z);have b:atKey (q::qs) k=atKey qs k:=by simp[atKey,Qzv,e']
   rw[sr e,b];exact ih
theorem KT.repl{H:Hp}{kvs:List (List Key×V)}{xs:List (List Key×Addr×Value)}(r:KT H kvs xs)(k:List Key){y:V}{u:Value}(ry:RelV y u) :
  KT H (kvs.map λkv=>if kv.1=k then (kv.1,y) else kv) (xs.map (putAt k u)):=by
 induction r with
 | nil=>exact .nil
 | @cons p q ps qs h t ih=>
  rw[Qwv,Qwv];refine .cons ?_ ih;obtain⟨h1,h2,h3⟩:=h;unfold putAt;by_cases e:p.1=k
  ·rw[if_pos e,if_pos (h1.symm.trans e)];exact⟨h1,h2,ry⟩
  ·rw[if_neg e,if_neg (λz=>e (h1.trans z))];exact⟨h1,h2,h3⟩
theorem KT.put{H:Hp}{kvs:List (List Key×V)}{xs:List (List Key×Addr×Value)}(r:KT H kvs xs)(k:List Key){b:Addr}{y:V}{u:Value}(hb:H b=some (.tup (k.map kV)))(ry:RelV y u) :
  KT H (putK kvs k y) (storedH xs k b u):=by
 have e:(kvs.any λkv=>decide (kv.1=k))=(atKey xs k).isSome:=by rw[xO,(r.val k).vN,Option.isSome_map]
 unfold putK storedH;rw[e];by_cases q:(atKey xs k).isSome=true
 ·rw[if_pos q,if_pos q];exact r.repl k ry
 ·rw[if_neg q,if_neg q];exact Paired.snoc r ⟨rfl,hb,ry⟩
theorem KT.keeps{H H':Hp}{kvs:List (List Key×V)}{xs:List (List Key×Addr×Value)}(r:KT H kvs xs)(ht:∀b ys,H b=some (.tup ys)->H' b=some (.tup ys)):KT H' kvs xs:=
 Paired.aay r λ_ _ z=>⟨z.1,ht _ _ z.2.1,z.2.2⟩
section
variable{P:Program}{w:World}{H:Hp}{h:Heap}{a:Addr}
theorem Xl{u:HO}(ok:oH P w H h)(e:Rd H a u):fj P w H h a u:=e.ok ok
theorem Bv{kvs:List (Key×V)}(ok:oH P w H h)(e:Rd H a (.dK kvs)):kvs.length<=sizeLine/\(a == sysModules)=false/\∃vs,KV kvs vs/\h.DictOf (dM P w) a vs:=
 show fj P w H h a (.dK kvs) from Xl ok e
theorem aef{kvs:List (Key×V)}(ok:oH P w H h)(e:H a=some (.dK kvs)):kvs.length<=sizeLine/\(a == sysModules)=false/\∃vs,KV kvs vs/\h.DictOf (dM P w) a vs:=Bv ok (.inl e)
theorem Ds{ks:List Key}(ok:oH P w H h)(e:H a=some (.tup (ks.map kV))):(tupleKind (dM P w)).is h ks a:=by obtain⟨_,its,r,o,h1,h2,⟨n,h3⟩,_⟩:=(show fj P w H h a (.tup (ks.map kV)) from ok a _ e);exact⟨o,its.toArray,n,h1,h2,h3,by simpa using Bo r⟩
theorem G5{kvs:List (List Key×V)}(ok:oH P w H h)(e:Rd H a (.dT kvs)):kvs.length<=sizeLine/\(a == sysModules)=false/\
  ∃xs,KT H kvs xs/\h.DictOfH (tupleKind (dM P w)) a xs:=by
 obtain⟨z,y,xs,r,o,es,ep,h1,h2,h3,h4,h5⟩:=(show fj P w H h a (.dT kvs) from Xl ok e);refine⟨z,y,xs,r,o,es,ep,h1,h2,h3,h4,λx hx=>?_,h5⟩;have all:∀{l:List (List Key×V)} {m:List (List Key×Addr×Value)},KT H l m->∀x∈m,(tupleKind (dM P w)).is h x.1 x.2.1:=by
  intro l m q
  induction q with
  | nil=>intro x hx;exact nomatch hx
  | @cons p q ps qs hq t ih=>
   intro x hx;rcases Qq7.mp hx with e|hx
   ·subst e;exact Ds ok (by rw[<-hq.1];exact hq.2.1)
   ·exact ih x hx
 exact all r x hx
theorem aee{kvs:List (List Key×V)}(ok:oH P w H h)(e:H a=some (.dT kvs)):kvs.length<=sizeLine/\(a == sysModules)=false/\
  ∃xs,KT H kvs xs/\h.DictOfH (tupleKind (dM P w)) a xs:=G5 ok (.inl e)
end
def Oh(H:Hp)(a:Addr)(y:V)(r:Option V):Prop:=
 (∃kvs k,Rd H a (.dK kvs)/\y=kV k/\r=uK kvs k)\/∃kvs k b,Rd H a (.dT kvs)/\y = .ref b/\H b=some (.tup (k.map kV))/\r=uK kvs k
def Tf(H:Hp)(a:Addr)(y v:V)(H':Hp):Prop:=
 (∃kvs k,H a=some (.dK kvs)/\y=kV k/\kvs.length<sizeLine/\H'=upd H a (.dK (putK kvs k v)))\/
 ∃kvs k b,H a=some (.dT kvs)/\y = .ref b/\H b=some (.tup (k.map kV))/\kvs.length<sizeLine/\H'=upd H a (.dT (putK kvs k v))
theorem Tf.k{H:Hp}{a:Addr}{kvs:List (Key×V)}{k:Key}{v:V}(e:H a=some (.dK kvs))(hl:kvs.length<sizeLine):Tf H a (kV k) v (upd H a (.dK (putK kvs k v))):=.inl ⟨kvs,k,e,rfl,hl,rfl⟩
section
variable{X:Cx}{pins:List (Addr×Obj)}{σ:St}{H:Hp}{s:Shared}{a:Addr}{y v:V}{u r:Value}{o:Option V}{A:Around}{E:Value->Shared->Prop}
theorem Inv.big(I:Inv X pins σ H s):sysModules<s.heap.objs.size:=by have h:mainGlobals<s.heap.objs.size:=(I.mod.glob.keeps I.bk).lt;exact Nat.lt_trans (by decide) h
theorem NQ{Q:Value->Shared->Prop}(hu:A.units+1<cLine)(I:Inv X pins σ H s)(g:Oh H a y (some v))(ry:RelV y u)(h:∀w' s',Inv X pins σ H s'->RelV v w'->Q w' s') :
  wpAny (model X.prog X.w) A (getItem (.ref a) u) Q E s:=by
 rcases g with ⟨kvs,k,e,ey,l⟩|⟨kvs,k,b,e,ey,eb,l⟩
 ·subst ey;obtain⟨z,hd,vs,rel,dd⟩:=Bv I.hok e;obtain⟨w',hw,Io⟩:=uz.some_of (v:=v) (o:=valueAt vs k) (by rw[l];exact rel.val k);exact wpAny_getItem_of (Gu ry) dd.mapOf hw (h w' _ (I.tok _) Io)
 ·subst ey;cases(show u=Value.ref b from ry);obtain⟨z,hd,xs,rel,dd⟩:=G5 I.hok e;obtain⟨w',hw,Io⟩:=uz.some_of (v:=v) (o:=(atKey xs k).map (·.2)) (by rw[l];exact rel.val k);obtain⟨p,hp,hp2⟩:=Qw2.mp hw;refine wpAny_getItem_heap (tupleKind_room_in1 hu) (Ds I.hok eb) dd hp ?_;rw[hp2];exact h w' _ (I.tok _) Io
theorem xM{h':Heap}{t':Nat}{ob:HO}(I:Inv X pins σ H s)(mu:Mut (H a))(hs:Heap.SameBut a s.heap h')(he:∃q,h'.get? a=some q)(new:fj X.prog X.w (upd H a ob) h' a ob) :
  Inv X pins σ (upd H a ob) { s with heap:=h',toks:=t' }:=
 I.write (x:=a) (e:=a) mu (.inl rfl) (λb q hb z=>(hs.2 b hb).trans z) he new
theorem abj{P:Program}{w:World}{H':Hp}{h':Heap}{kvs:List (Key×V)}{vs:List (Key×Value)}(z:kvs.length<=sizeLine)(hd:(a == sysModules)=false)(rel:KV kvs vs)(dd:h'.DictOf (dM P w) a vs) :
  fj P w H' h' a (.dK kvs):=⟨z,hd,vs,rel,dd⟩
theorem NP{H':Hp}{Q:Unit->Shared->Prop}(hu:A.units+1<cLine)(I:Inv X pins σ H s)(g:Tf H a y v H')(ry:RelV y u)(rv:RelV v r)(h:∀s',Inv X pins σ H' s'->Q () s') :
  wpAny (model X.prog X.w) A (setItem (.ref a) u r) Q E s:=by
 rcases g with ⟨kvs,k,e,ey,l,eH⟩|⟨kvs,k,b,e,ey,eb,l,eH⟩
 ·subst ey eH;obtain⟨z,hd,vs,rel,dd⟩:=aef I.hok e;have hz:vs.length<=sizeLine:=by rw[<-rel.length];exact z
  have hl:(putK kvs k v).length<=sizeLine:=by have:=pN kvs k v;omega
  refine wpAny_setItem_pairs (hsz:=hz) (Gu ry) dd λh' Yb hs=>h _ ?_;have he:∃q,h'.get? a=some q:=let ⟨q,_,_,hq,_⟩:=Yb;⟨q,hq⟩
  exact xM I (by rw[e];exact True.intro) hs he (abj hl hd (rel.put k rv) Yb)
 ·subst ey eH;cases(show u=Value.ref b from ry);obtain⟨z,hd,xs,rel,dd⟩:=aee I.hok e;have hz:xs.length<=sizeLine:=by rw[<-Paired.length rel];exact z
  have hl:(putK kvs k v).length<=sizeLine:=by have:=pN kvs k v;omega
  refine wpAny_setItem_heap (hsz:=hz) (tupleKind_room_in1 hu) (Ds I.hok eb) dd λh' Yb hs=>h _ ?_;obtain⟨q,es,ep,hq,h2,h3,h4,_,h5⟩:=Yb;refine xM I (by rw[e];exact True.intro) hs ⟨q,hq⟩ ⟨hl,hd,_,(rel.put k eb rv).keeps λc ys ec=>?_,q,es,ep,hq,h2,h3,h4,h5⟩;rw[bz (adE ec e (λz=>nomatch z))];exact ec
end
def Og(i:Expr):Prop:=∀ov iv,subscripted i false ov iv=operate [ov,iv] (getItem ov iv)
theorem J8{prog:Program}{w:World}{A:Around}{E:Value->Shared->Prop}{s:Shared}{env:Env}{value slice:Expr}{pos:Pos}{T id:String}{Q:Value->Shared->Prop}
  (hl:typeLookup (.type T) "__getitem__" = pure (some (.builtin id))) (hs:Og slice)
  (h:wpAny (model prog w) A (eval value env) (λo s₁=>wpAny (model prog w) A (eval slice env) (λi s₂=>s₂.TypeIs o T/\wpAny (model prog w) A (getItem o i) Q E s₂) E s₁) E s) :
  wpAny (model prog w) A (eval (.Subscript value slice pos) env) Q E s:=by
 refine Subscript_ (Qx8 h (λo s₁ h₁=>Qx8 h₁ (λi s₂ h₂=>?_) λ_ _ x=>x) λ_ _ x=>x);obtain⟨hT,h₂⟩:=h₂;unfold subscriptTail;refine Qqq ?_;rw[getitemInPython_of_ne hT.not_modules];refine Qqq (wpAny_specialOf hT hl ?_);have fin:wpAny (model prog w) A (subscripted slice false o i) (λr s₃=>wpAny (model prog w) A (letTemporaryGo value o r >>= λ_=>pure r) Q E s₃) E s₂:=by rw[hs o i];exact wpAny_operating (Qx8 h₂ (λr s₃ h₃=>Qqq (wpAny_letTemporaryGo (Qq2 h₃))) λ_ _ x=>x)
 first
  | exact Qq2 (Qqq fin)
  | exact Qqq (Qq2 (Qqq fin))
  | exact Qqq fin
theorem G6{X:Cx}{pins:List (Addr×Obj)}{σ:St}{H:Hp}{s:Shared}{a:Addr}{y:V}{o:Option V}(I:Inv X pins σ H s)(g:Oh H a y o):s.TypeIs (.ref a) "dict":=by
 rcases g with ⟨kvs,k,e,_,_⟩|⟨kvs,k,b,e,_,_,_⟩
 ·obtain⟨_,_,vs,_,dd⟩:=Bv I.hok e;exact dd.typeIs
 ·obtain⟨_,_,xs,_,dd⟩:=G5 I.hok e;exact dd.typeIs
def acA(td ty:TE):TE:=λσ H Q=>td σ H λx H1=>ty σ H1 λy H2=>∃a v,x = .ref a/\Oh H2 a y (some v)/\Q v H2
def acK(td ty tv:TE):TS:=λD σ H=>tv σ H λv H1=>td σ H1 λx H2=>ty σ H2 λy H3=>∃a H4,x = .ref a/\Tf H3 a y v H4/\D.nx σ H4
section
variable{X:Cx}{o i e value:Expr}{pos pos' tpos:Pos}{td ty tv:TE}
theorem Va(hu:X.A.units+1<cLine)(ho:PE X o td)(hi:PE X i ty)(hs:Og i):PE X (.Subscript o i pos) (acA td ty):=by intro pins s σ H Q I h;refine J8 PySem.F.slot_dict_getitem.lookup hs (fV (ho pins s σ H _ I h) λu s1 ⟨x,H1,I1,rx,q1⟩=>fV (hi pins s1 σ H1 _ I1 q1) λiv s2 ⟨y,H2,I2,ry,a,v,ex,g,q2⟩=>?_);subst ex;obtain rfl:u=Value.ref a:=rx;exact⟨G6 I2 g,NQ hu I2 g ry λw' s3 I3 Io=>⟨v,H2,I3,Io,q2⟩⟩
theorem UT(hu:X.A.units+1<cLine)(ho:PE X o td)(hi:PE X i ty)(hv:PE X value tv)(hs:swapsWith value (some (.Subscript o i pos')) pos.line X.env=pure false) :
  PS X (.Assign [.Subscript o i pos'] value pos) (acK td ty tv):=by
 intro pins s σ H D I h;refine wpAny_Assign_Subscript (fV (hv pins s σ H _ I h) λr s1 ⟨v,H1,I1,rv,q1⟩=>fV (ho pins s1 σ H1 _ I1 q1) λu s2 ⟨x,H2,I2,rx,q2⟩=>fV (hi pins s2 σ H2 _ I2 q2) λiv s3 ⟨y,H3,I3,ry,a,H4,ex,g,q3⟩=>?_) hs;subst ex;obtain rfl:u=Value.ref a:=rx;exact NP hu I3 g ry rv λs4 I4=>⟨σ,H4,I4,q3⟩
end
theorem R6{P:Program}{w:World}{H:Hp}(h:Heap)(hb:sysModules<h.objs.size):fj P w H (h.push { cls:=.type "dict",data:=.dict #[] }) h.objs.size (.dK []):=
 ⟨Qxy _,Qz6.mpr (Ne.symm (Qw6 hb)),[],.nil,Heap.DictOf.new h⟩
def YF:TE:=λ_ H Q=>∀p,H p=none->Q (.ref p) (upd H p (.dK []))
section
variable{X:Cx}{pos:Pos}
theorem QS:PE X (.Dict [] [] pos) YF:=λpins s σ H Q I h=>
 wpAny_Dict_empty ⟨.ref s.heap.objs.size,_,I.laid (a:=s.heap.objs.size) (o:=.dK []) (t':=s.toks) (λ_ _ q=>Qqz _ q) (Qq0 _) (R6 s.heap I.big),rfl,h _ (I.hok.fresh (Qq0 _))⟩
end
structure M2(X:Cx)(o:Expr)(m:Str)(apos:Pos)(e f:Expr)(cpos:Pos):Prop where
 base:attributeBase o m X.env (eval o X.env)=eval o X.env
 few:((backTo cpos (starEach [e,f] X.env)).all (λx=>!x.1)&&(backToKw cpos (keywordEach [] X.env)).all (λx=>x.1.isSome)
  && decide (([e,f]:List Expr).length+([]:List Keyword).length+(if ([]:List Keyword).isEmpty then 0 else 1)<30))=true
 line:(apos.endLine == cpos.line)=true
 trees:backTo cpos (starEach [e,f] X.env)=[(false,eval e X.env),(false,eval f X.env)]
def IsD(H:Hp)(a:Addr):Prop:=(∃kvs,Rd H a (.dK kvs))\/∃kvs,Rd H a (.dT kvs)
theorem aaV{X:Cx}{pins:List (Addr×Obj)}{σ:St}{H:Hp}{s:Shared}{a:Addr}(I:Inv X pins σ H s)(d:IsD H a) :
  s.TypeIs (.ref a) "dict"/\(∀b,Value.ref a = .ref b->∃ob,s.heap.get? b=some ob/\ob.dict=none)/\(a == sysModules)=false:=by
 rcases d with ⟨kvs,e⟩|⟨kvs,e⟩
 ·obtain⟨_,hd,vs,_,dd⟩:=Bv I.hok e;refine⟨dd.typeIs,λb q=>?_,hd⟩;cases q;obtain⟨ob,_,_,h1,h2,_⟩:=dd;exact⟨ob,h1,h2.2.1⟩
 ·obtain⟨_,hd,xs,_,dd⟩:=G5 I.hok e;refine⟨dd.typeIs,λb q=>?_,hd⟩;cases q;obtain⟨ob,_,_,h1,h2,_⟩:=dd;exact⟨ob,h1,h2.2.1⟩
section
variable{X:Cx}{pins:List (Addr×Obj)}{σ:St}{H:Hp}{s:Shared}{a:Addr}{y d:V}{u r:Value}{o:Option V}{A:Around}{E:Value->Shared->Prop}
theorem abq{Q:Value->Shared->Prop}(hu:A.units+1<cLine)(I:Inv X pins σ H s)(g:Oh H a y o)(ry:RelV y u)(rd:RelV d r)(h:∀w' s',Inv X pins σ H s'->RelV (o.getD d) w'->Q w' s') :
  wpAny (model X.prog X.w) A (call (.builtin "dict.get") [.ref a,u,r]) Q E s:=by
 rcases g with ⟨kvs,k,e,ey,l⟩|⟨kvs,k,b,e,ey,eb,l⟩
 ·subst ey;obtain⟨z,hd,vs,rel,dd⟩:=Bv I.hok e;refine call_meetsIn PySem.F.slot_dict_get dd.typeIs PySem.F.entry_dict_get (PySem.F.args_dict_get_3 _ _ _) (meets_dict_get_default (dM X.prog X.w) a (Gu ry) hd r) ⟨_,dd.mapOf,h _ _ (I.tok _) ?_⟩;rw[l];exact(rel.val k).getD rd
 ·subst ey;cases(show u=Value.ref b from ry);obtain⟨z,hd,xs,rel,dd⟩:=G5 I.hok e;refine call_meetsIn PySem.F.slot_dict_get dd.typeIs PySem.F.entry_dict_get (PySem.F.args_dict_get_3 _ _ _) (meetsH_dict_get_default (tupleKind (dM X.prog X.w)) a b hd r) ⟨tupleKind_room_in1 hu,k,xs,Ds I.hok eb,dd,h _ _ (I.tok _) ?_⟩;rw[l];exact(rel.val k).getD rd
end
def YG(td ty tx:TE):TE:=λσ H Q=>td σ H λx H1=>∃a,x = .ref a/\IsD H1 a/\ty σ H1 λy H2=>tx σ H2 λz H3=>∃o,Oh H3 a y o/\Q (o.getD z) H3
section
variable{X:Cx}{o e f:Expr}{apos cpos:Pos}{td ty tx:TE}
theorem QV(hu:X.A.units+1<cLine)(ho:PE X o td)(he:PE X e ty)(hf:PE X f tx)(m:M2 X o "get" apos e f cpos):PE X (.Call (.Attribute o "get" apos) [e,f] [] cpos) (YG td ty tx):=by
 intro pins s σ H Q I h;refine wpAny_Call_method m.base m.few m.line PySem.F.plainAttrs_dict PySem.F.slot_dict_get PySem.F.type_dict_get (fV (ho pins s σ H _ I h) λu s1 ⟨x,H1,I1,rx,a,ex,d,q1⟩=>?_);subst ex;obtain rfl:u=Value.ref a:=rx;obtain⟨t1,t2,_⟩:=aaV I1 d;refine⟨t1,t2,?_⟩;rw[m.trees];refine Calls.callWith_builtin rfl (Calls.evalArgs_plain (Calls.spliced_cons (fV (he pins s1 σ H1 _ I1 q1) λiv s2 ⟨y,H2,I2,ry,q2⟩=>
  Calls.spliced_cons (fV (hf pins s2 σ H2 _ I2 q2) λfv s3 ⟨z,H3,I3,rz,ov,g,q3⟩=>Calls.spliced_nil ?_))))
 exact abq hu I3 g ry rz λw' s4 I4 Io=>⟨_,H3,I4,Io,q3⟩
end
noncomputable def lL(env:Env):List (Str×NameKind)->List (Str×Addr)->List (Str×Addr)
 | [],acc=>acc
 | (n,k)::r,acc=>if k == .free then lL env r ((n,(env.cells.lookup n).getD 0)::acc) else lL env r acc
theorem zA{env:Env}(f:Str×NameKind->List (Str×Addr)->Sem (ForInStep (List (Str×Addr))))
  (hf:∀n k cs,f (n,k) cs=if k == .free then (do let a <-cellOf env n;pure (.yield ((n,a)::cs))) else pure (.yield cs)) :
  ∀(names:List (Str×NameKind)) (acc:List (Str×Addr)),(∀n,(n,NameKind.free)∈names->∃c,env.cells.lookup n=some c)->forIn names acc f=pure (lL env names acc)
 | [],acc,_=>by rw[Qkq];rfl
 | (n,k)::r,acc,h=>by
  have ih:=zA f hf r;have hr:∀n,(n,NameKind.free)∈r->∃c,env.cells.lookup n=some c:=λm hm=>h m (Qqk _ hm);rw[Qkw,hf];cases hk:k == NameKind.free with
  | true=>
   have hk':k = .free:=by simpa using hk
   obtain⟨c,hc⟩:=h n (by rw[hk'];exact Qqj);rw[if_pos rfl];unfold cellOf;rw[hc];simp only[pure_bind];rw[ih _ hr]
   conv=>rhs;unfold lL
   rw[if_pos hk,hc]
   rfl
  | false=>
   rw[if_neg (by simp)];simp only[pure_bind];rw[ih _ hr]
   conv=>rhs;unfold lL
   rw[if_neg (by simp[hk])]
theorem zB{scope:Scope}{env:Env}(h:∀n,(n,NameKind.free)∈scope.names->∃c,env.cells.lookup n=some c):closureFor scope env=pure (lL env scope.names []):=by
 simp only[closureFor];rw[zA (env:=env) _ (λn k cs=>by cases hk:k == NameKind.free<;>simp[hk]) _ _ h]
 rfl
theorem uh{env:Env}:∀(names:List (Str×NameKind)) (acc:List (Str×Addr)) (x:Str) (c:Addr),(∀n,(n,NameKind.free)∈names->∃c,env.cells.lookup n=some c)->
  (∀y d,acc.lookup y=some d->env.cells.lookup y=some d)->(lL env names acc).lookup x=some c->env.cells.lookup x=some c
 | [],acc,x,c,_,ha,h=>ha x c h
 | (n,k)::r,acc,x,c,hn,ha,h=>by
  have hr:∀n,(n,NameKind.free)∈r->∃c,env.cells.lookup n=some c:=λm hm=>hn m (Qqk _ hm);unfold lL at h;split at h
  ·rename_i hk;have hk':k = .free:=by simpa using hk
   obtain⟨d,hd⟩:=hn n (by rw[hk'];exact Qqj);refine uh r _ x c hr (λy e he=>?_) h;rw[Qzq] at he;cases hy:y == n with
   | true=>
    rw[hy] at he;have e1:y=n:=by simpa using hy
    rw[e1,hd];rw[hd] at he;exact he
   | false=>
    rw[hy] at he;exact ha y e he
  ·exact uh r acc x c hr ha h
theorem vY{env:Env}:∀(names:List (Str×NameKind)) (acc:List (Str×Addr)) (x:Str),(acc.lookup x).isSome=true->((lL env names acc).lookup x).isSome=true
 | [],acc,x,h=>h
 | (n,k)::r,acc,x,h=>by
  unfold lL;split
  ·refine vY r _ x ?_;rw[Qzq];split
   ·rfl
   ·exact h
  ·exact vY r acc x h
theorem ug{env:Env}:∀(names:List (Str×NameKind)) (acc:List (Str×Addr)) (x:Str),(x,NameKind.free)∈names->((lL env names acc).lookup x).isSome=true
 | [],acc,x,h=>nomatch h
 | (n,k)::r,acc,x,h=>by
  unfold lL;rcases Qq7.mp h with e|h
  ·obtain⟨e1,e2⟩:=Prod.mk.inj e;subst e1 e2;rw[if_pos (by rfl)];refine vY r _ x ?_;rw[Qzq];simp
  ·split
   ·exact ug r _ x h
   ·exact ug r acc x h
theorem fL:∀(names:List (Str×NameKind)) (n:Nat) (acc:List (Str×Addr)),cellsFrom n names acc=cellsFrom n names []++acc
 | [],n,acc=>rfl
 | (x,k)::r,n,acc=>by
  unfold cellsFrom;split
  ·rw[fL r (n+1) ((x,n)::acc),fL r (n+1) [(x,n)],Qwj]
   rfl
  ·exact fL r n acc
theorem mO:∀(names:List (Str×NameKind)) (n:Nat) (x:Str) (c:Addr),(x,c)∈cellsFrom n names []->(x,NameKind.cell)∈names
 | [],n,x,c,h=>nomatch h
 | (y,k)::r,n,x,c,h=>by
  unfold cellsFrom at h;split at h
  ·rename_i hk;have hk':k = .cell:=by simpa using hk
   rw[fL] at h;rcases Qw4.mp h with h|h
   ·exact Qqk _ (mO r _ x c h)
   ·have e:=Qq5.mp h;cases e;rw[hk'];exact Qqj
  ·exact Qqk _ (mO r _ x c h)
theorem nZ{α:Type}:∀(l m:List (Str×α)) (x:Str),(l++m).lookup x=match l.lookup x with|some v=>some v|none=>m.lookup x
 | [],m,x=>rfl
 | (k,v)::r,m,x=>by
  rw[List.cons_append,Qzq,Qzq];cases h:x == k with
  | true=>rfl
  | false=>exact nZ r m x
theorem pM{α:Type}:∀(l:List (Str×α)) (x:Str),(∀v,(x,v) ∉ l)->l.lookup x=none
 | [],x,_=>rfl
 | (k,v)::r,x,h=>by
  rw[Qzq];cases e:x == k with
  | true=>
   have e':x=k:=by simpa using e
   exact absurd (by rw[e'];exact Qqj) (h v)
  | false=>exact pM r x λw hw=>h w (Qqk _ hw)
theorem lookup_mem{α:Type}:∀(l:List (Str×α)) (x:Str) (v:α),l.lookup x=some v->(x,v)∈l
 | [],x,v,h=>nomatch h
 | (k,w)::r,x,v,h=>by
  rw[Qzq] at h;cases e:x == k with
  | true=>
   rw[e] at h;cases h;have e':x=k:=by simpa using e
   rw[e'];exact Qqj
  | false=>
   rw[e] at h;exact Qqk _ (lookup_mem r x v h)
theorem iu{α:Type}:∀(l:List (Str×α)) (x:Str) (v:α),(l.map (·.1)).Nodup->(x,v)∈l->l.lookup x=some v
 | [],x,v,_,h=>nomatch h
 | (k,w)::r,x,v,nd,h=>by
  rw[Qzq];have nd':=Qx9.mp nd;rcases Qq7.mp h with e|h
  ·cases e;simp
  ·have hne:¬x=k:=λe=>nd'.1 (by rw[<-e];exact Qw9.mpr ⟨(x,v),h,rfl⟩);have hb:(x == k)=false:=by simpa using hne
   rw[hb];exact iu r x v nd'.2 h
theorem Gh{M:Model}{A:Around}{E:Value->Shared->Prop}{s:Shared}{scope:Scope}{globals:Addr}{cl:List (Str×Addr)}{qual:Str}{outer:Env}{Q:Env->Shared->Prop}
  (hQ:∀h',h'.Ns s.heap.objs.size (λ_=>none)->(∀b o,s.heap.get? b=some o->h'.get? b=some o)->CellsOk h' (s.heap.objs.size+1) (cellsFrom (s.heap.objs.size+1) scope.names [])->
   Q { scope,locals:=s.heap.objs.size,globals,cells:=cellsFrom (s.heap.objs.size+1) scope.names cl,qual,func:=none,code:=outer.code,frame:=outer.frame,builtins:=outer.builtins } { s with heap:=h' }) :
  wpAny M A (newFunctionEnv scope globals cl [] qual none .none (some outer)) Q E s:=by
 simp only[newFunctionEnv,Option.isSome_some,if_true];refine Qqq (wpAny_alloc ?_);refine Qqq (wpAny_layCells _ (λname kind cells=>by cases hkc:kind == NameKind.cell<;>simp[hkc]) _ _ _ _ ?_);have ok:=cellsFrom_ok scope.names (s.heap.push { cls:=.type "dict",data:=.dict #[] }) (s.heap.objs.size+1) [] ⟨λ_ _ hm=>(nomatch hm),List.Pairwise.nil⟩ (by rw[Qx5];exact Qq0 _);rw[Qx5] at ok;rw[show({ s with heap:=s.heap.push { cls:=.type "dict",data:=.dict #[] } }:Shared).heap.objs.size=s.heap.objs.size+1 from Qx5 ..];refine Qqq ?_;rw[Qkq];refine Qq2 (Qq2 (hQ _ ?_ ?_ ?_))
 ·exact(Heap.Ns.new s.heap (.type "dict")).keeps (pushCells_keeps _ _)
 ·exact λb o e=>pushCells_keeps _ _ b o (Qqz _ e)
 ·exact ok
noncomputable def cxC(X:Cx)(scope:Scope)(N':List Str)(cells:List (Str×Addr))(C:Addr)(s0:Shared)(H0:Hp)(fp:List Addr):Cx:=
 { X with N:=N',s₀:=s0,H₀:=H0,env:=compEnvC scope cells C X.env,outer:=X.stack,stack:=X.stack,ex:=fp,fn:=λx=>decide (scope.names.lookup x=some .cell),pn:=[],xe:=λ_ _=>False }
theorem pL{env:Env}:∀(names:List (Str×NameKind)) (x:Str),
  (names.map λ(n,k)=>if (k == NameKind.free&&env.scope.kind == .function&&env.kindOf n == some .cell) then (n,NameKind.cell) else (n,k)).lookup x =
   (names.lookup x).map λk=>if (k == NameKind.free&&env.scope.kind == .function&&env.kindOf x == some .cell) then NameKind.cell else k
 | [],x=>rfl
 | (n,k)::r,x=>by
  show List.lookup x ((if (k == NameKind.free&&env.scope.kind == .function&&env.kindOf n == some .cell)=true then (n,NameKind.cell) else (n,k))::_)=_;cases hx:x == n with
  | true=>
   have e:x=n:=by simpa using hx
   subst e;simp only[Qzq,hx,Option.map_some];split<;>simp[Qzq]
  | false=>
   simp only[Qzq,hx];rw[<-pL r x];split<;>simp only[Qzq,hx]
noncomputable def R9(names:List (Str×NameKind)):List Str->List Str->Bool
 | _,[]=>true
 | [],_::_=>false
 | x'::N',x::N=>((names.lookup x').isNone||(x' == x&&names.lookup x' == some .free))&&R9 names N' N
theorem G9{names:List (Str×NameKind)}:∀{N' N:List Str},R9 names N' N=true->∀(i:Nat) (x:Str),i<N.length->N'[i]? = some x->(names.lookup x).isSome=true->N[i]? = some x/\names.lookup x=some .free
 | _,[],_,i,x,h,_,_=>absurd h (Qkv _)
 | [],_::_,h,_,_,_,_,_=>by cases h
 | x'::N',y::N,h,i,x,hi,e,hs=>by
  unfold R9 at h;have h1:=(Bool.and_eq_true_iff.mp h).1;have h2:=(Bool.and_eq_true_iff.mp h).2;cases i with
  | zero=>
   have e':x'=x:=by simpa using e
   subst e';rcases Bool.or_eq_true_iff.mp h1 with q|q
   ·cases z:names.lookup x' with
    | none=>rw[z] at hs;cases hs
    | some k=>rw[z] at q;cases q
   ·have q1:=(Bool.and_eq_true_iff.mp q).1;have q2:=(Bool.and_eq_true_iff.mp q).2;have e1:x'=y:=by simpa using q1
    have e2:names.lookup x'=some .free:=by simpa using q2
    exact⟨by rw[e1];rfl,e2⟩
  | succ i=>exact G9 h2 i x (by simpa using hi) (by simpa using e) hs
structure lJ(X:Cx)(scope:Scope)(N':List Str):Prop where
 kind:scope.kind = .function
 nd:(scope.names.map (·.1)).Nodup
 free:∀x∈scope.names,x.2 = .free->X.env.kindOf x.1=some .cell\/X.env.kindOf x.1=some .free
 chk:R9 scope.names N' X.N=true
 len:X.N.length<=N'.length
def PIf(X:Cx)(ifs:List Expr)(t:TT):Prop:=
 ∀(pins:List (Addr×Obj)) (s:Shared) (σ:St) (H:Hp) (Q:Bool->Hp->Prop),Inv X pins σ H s->t σ H Q->
  wpAny (model X.prog X.w) X.A (forIn ifs true λc r=>if r=true then do let ok <-isTrue c X.env (eval c X.env);pure (ForInStep.yield ok) else pure (ForInStep.yield r)) (TP X pins σ Q) X.xe s
theorem U4{X:Cx}:PIf X [] (λ_ H Q=>Q true H):=λpins s σ H Q I h=>by
 rw[Qkq];exact Qq2 ⟨H,I,h⟩
theorem U3{X:Cx}{c:Expr}{t:TT}(h:PT X c t):PIf X [c] t:=λpins s σ H Q I hw=>by
 rw[Qkw,if_pos rfl];refine Qqq (Qqq (fV (h pins s σ H Q I hw) λb s' q=>?_));refine Qq2 ?_;show wpAny _ _ (forIn [] b _) _ _ _;rw[Qkq];exact Qq2 q
noncomputable def tL(n:Nat)(σ:St):St:=σ++List.replicate n none
def tLC(n:Nat)(wi:TI)(g:TG)(tc:TT)(te:TE):TE:=λσ H Q=>wi σ H λJ H1=>∀d,H1 d=none->∃W:Nat->Nat->St->Hp->Prop,(∃m,W 0 m (tL (n - σ.length) σ) (upd H1 d (.lst [])))/\∀i m σ' H',W i m σ' H'->
 (J.stop i H'/\Q (.ref d) H')\/(J.go i H'/\∃N:St->Hp->Prop,(∀σ2 H2,N σ2 H2->∃m',m'<m/\W (i+1) m' σ2 H2)/\∀x H2,J.yld i H' x H2->g x σ' H2 λσ3 H3=>tc σ3 H3 λb H4=>
  if b=true then te σ3 H4 λy H5=>∃ys,H5 d=some (.lst ys)/\ys.length<sizeLine/\N σ3 (upd H5 d (.lst (ys++[y]))) else N σ3 H4)
section
variable{prog:Program}{w:World}{A:Around}{R:Result->Shared->Prop}{s:Shared}
theorem Dy{elt target iter:Expr}{ifs:List Expr}{scope:Scope}{pos:Pos}{it acc:Value}{env:Env}(I:Nat->Shared->Prop)
  (turn:∀n s,I n s->wpAny (model prog w) A (pyNext it) (λr s₁=>match r with
   | none=>R (.ok .next) s₁
   | some v=>wpAny (model prog w) A (letOwnedTupleGo target it v) (λ_ s₁'=>wpAny (model prog w) A (assign target env v) (λ_ s₂=>
     wpAny (model prog w) A (forIn ifs true λc r=>if r=true then do let ok <-isTrue c env (eval c env);pure (ForInStep.yield ok) else pure (ForInStep.yield r)) (λok s₃=>
      if ok=true then wpAny (model prog w) A (eval elt env) (λx s₄=>
       wpAny (model prog w) A (call (.builtin "list.append") [acc,x]) (λ_ s₅=>∃m,m<n/\I m s₅) (λ_ _=>False) s₄) (λ_ _=>False) s₃
      else ∃m,m<n/\I m s₃) (λ_ _=>False) s₂) (λ_ _=>False) s₁') (λ_ _=>False) s₁) (λ_ _=>False) s)
  (n:Nat) (h:I n s) :
  codeAny (model prog w) A (.compLoop (.ListComp elt [⟨target,iter,ifs,0⟩] scope pos) 0 it acc env) R s:=by
 refine codeAny_loop rfl I (λn s hI=>?_) n h;show wpAny _ A ((compTurn (.ListComp elt [⟨target,iter,ifs,0⟩] scope pos) 0 it acc env).onRaise (λx=>do noteFrame x env;theTreesLotGoes x)) _ _ s;refine wpAny_noted ?_;rw[compTurn_list];refine Qqq (wpAny_standAt (Qqq (Qx8 (turn n s hI) (λr s₁ h₁=>?_) λ_ _ h'=>h'.elim)));cases r with
 | none=>exact Qq2 h₁
 | some v=>
  refine Qqq (Qx8 h₁ (λ_ s₁' h₁'=>?_) λ_ _ h'=>h'.elim);refine Qqq (Qx8 h₁' (λ_ s₂ h₂=>Qqq (Qx8 h₂ (λok s₃ h₃=>?_) λ_ _ h'=>h'.elim)) λ_ _ h'=>h'.elim);cases ok with
  | false=>exact Qq2 ⟨rfl,h₃⟩
  | true=>
   exact Qqq (Qqq (Qx8 h₃ (λx s₄ h₄=>Qqq (Qx8 h₄ (λ_ s₅ h₅=>Qq2 (Qq2 ⟨rfl,h₅⟩)) λ_ _ h'=>h'.elim)) λ_ _ h'=>h'.elim))
end
theorem RL{X:Cx}{scope:Scope}{N':List Str}{pins:List (Addr×Obj)}{σ:St}{H:Hp}{s:Shared}{h':Heap}{fp:List Addr}(ok:lJ X scope N')(I:Inv X pins σ H s)(hf:∀b∈fp,rO X pins H b)(hlt:∀b∈fp,b<s.heap.objs.size)
  (hn:h'.Ns s.heap.objs.size (λ_=>none)) (hk:∀b o,s.heap.get? b=some o->h'.get? b=some o) (co:CellsOk h' (s.heap.objs.size+1) (cellsFrom (s.heap.objs.size+1) scope.names [])) :
  Inv (cxC X scope N' (cellsFrom (s.heap.objs.size+1) scope.names (lL X.env scope.names [])) s.heap.objs.size s H fp) [] (tL (N'.length - σ.length) σ) H { s with heap:=h' }:=by
 have hfree:∀n,(n,NameKind.free)∈scope.names->∃c,X.env.cells.lookup n=some c:=λn hm=>I.ok.has n (ok.free _ hm rfl)
 -- the cells by name
 have oF:∀x c,(cellsFrom (s.heap.objs.size+1) scope.names (lL X.env scope.names [])).lookup x=some c->
   ((x,c)∈cellsFrom (s.heap.objs.size+1) scope.names []/\(cellsFrom (s.heap.objs.size+1) scope.names []).lookup x=some c)\/((cellsFrom (s.heap.objs.size+1) scope.names []).lookup x=none/\X.env.cells.lookup x=some c):=λx c e=>by
  rw[fL,nZ] at e;cases q:(cellsFrom (s.heap.objs.size+1) scope.names []).lookup x with
  | some d=>rw[q] at e;cases e;exact .inl ⟨lookup_mem _ _ _ q,rfl⟩
  | none=>rw[q] at e;exact .inr ⟨rfl,uh _ _ x c hfree (λy d h=>by simp at h) e⟩
 have yq:∀x c,(x,c)∈cellsFrom (s.heap.objs.size+1) scope.names []->s.heap.objs.size+1<=c:=λx c h=>(co.empty x c h).2;have Q0:∀x c,X.env.cells.lookup x=some c->c<s.heap.objs.size:=λx c h=>let ⟨v,q⟩:=I.cell x c h;q.lt
 have Dr:∀x,(relabel scope X.env).names.lookup x=(scope.names.lookup x).map λk=>if (k == NameKind.free&&X.env.scope.kind == .function&&X.env.kindOf x == some .cell) then NameKind.cell else k:=λx=>pL _ _
 have Gy:∀x,(x,NameKind.cell)∈scope.names->∃c,(cellsFrom (s.heap.objs.size+1) scope.names []).lookup x=some c:=λx hx=>by
  have q:=PySem.W.cellsFrom_some scope.names (s.heap.objs.size+1) [] (.inl (iu _ _ _ ok.nd hx));exact Qz7.mp q
 have fpC:∀b∈fp,∀x c,(cellsFrom (s.heap.objs.size+1) scope.names (lL X.env scope.names [])).lookup x=some c->c≠b:=λb hb x c e=>by
  rcases oF x c e with ⟨h1,_⟩|⟨_,h2⟩
  ·have h3:=yq x c h1;have h4:=hlt b hb;rintro rfl;exact absurd (Qwq h4 (Qk2 h3)) (Qzj _)
  ·exact(hf b hb).2.2.2.2.1 x c h2
 refine⟨⟨I.ok.mod,ok.kind,I.ok.glob,I.ok.blt,Qq0 _,λx y c h1 h2=>?_,λx hx=>?_,λx c hx e=>?_,I.ok.hd,I.ok.frames,.inl rfl,λb hb=>⟨Qw6 (hlt b hb),λx c e=>fpC b hb x c e⟩,I.bs,Qq4 I.ok.Ww I.sz,λb o e hb=>?_,λb hb=>?_,I.stack,I.Cj⟩,
  rfl,I.bare,Un.kept hk,⟨_,hn,λi x v e1 e2 e3=>?_⟩,λx c e=>?_,I.hok.fresh (Qq0 _),λx c e=>?_,λp hp=>absurd (show p∈([]:List (Addr×Obj)) from hp) (by simp),I.hok.kept hk,?_⟩
 ·-- one name a cell
  rcases oF x c h1 with ⟨p1,_⟩|⟨_,p2⟩
  ·rcases oF y c h2 with ⟨q1,_⟩|⟨_,q2⟩
   ·exact name_of_addr co.apart p1 q1
   ·exact absurd (Qwq (Q0 y c q2) (Qk2 (yq x c p1))) (Qzj _)
  ·rcases oF y c h2 with ⟨q1,_⟩|⟨_,q2⟩
   ·exact absurd (Qwq (Q0 x c p2) (Qk2 (yq y c q1))) (Qzj _)
   ·exact I.ok.inj x y c p2 q2
 ·-- each cell name has one
  show ∃c,(cellsFrom (s.heap.objs.size+1) scope.names (lL X.env scope.names [])).lookup x=some c;have hx:(relabel scope X.env).names.lookup x=some .cell\/(relabel scope X.env).names.lookup x=some .free:=hx;rw[Dr] at hx;cases q:scope.names.lookup x with
  | none=>rw[q] at hx;rcases hx with hx|hx<;>cases hx
  | some k=>
   rw[q] at hx;rw[fL,nZ];cases z:(cellsFrom (s.heap.objs.size+1) scope.names []).lookup x with
   | some d=>exact⟨d,rfl⟩
   | none=>
    have hkf:k = .free:=by
     cases k with
     | free=>rfl
     | cell=>obtain⟨c,hc⟩:=Gy x (lookup_mem _ _ _ q);rw[hc] at z;cases z
     | _=>rcases hx with hx|hx<;>simp at hx
    subst hkf;exact Qz7.mp (ug _ _ x (lookup_mem _ _ _ q))
 ·-- its own cells are new
  have hx':scope.names.lookup x=some .cell:=Qx2 hx;rcases oF x c e with ⟨p1,_⟩|⟨p1,_⟩
  ·exact Qk2 (yq x c p1)
  ·obtain⟨d,hd⟩:=Gy x (lookup_mem _ _ _ hx');rw[hd] at p1;cases p1
 ·rcases(hf b hb).2.2.2.1 with z|z
  ·exact I.ok.M5 b o e z
  ·have h1:=Qq9 e;have h2:=I.ok.Ww;exact absurd (Qwq h1 (Qq4 h2 z)) (Qzj _)
 ·intro hm;rcases Qq7.mp (I.Ie b hm) with z|z
  ·exact(hf b hb).2.1 z
  ·exact(hf b hb).2.2.1 z
 ·-- the names
  have hiσ:i<σ.length:=by
   by_cases hi:i<σ.length
   ·exact hi
   ·unfold tL at e2;rw[Qz2 (by omega),Qjq] at e2;split at e2<;>cases e2
  have e2':σ[i]? = some (some v):=by
   unfold tL at e2
   rwa [Qxw hiσ] at e2
  have vis:(scope.names.lookup x).isSome=true:=by
   have e3:(relabel scope X.env).names.lookup x=some .local\/(relabel scope X.env).names.lookup x=some .cell\/(relabel scope X.env).names.lookup x=some .free:=e3;rw[Dr] at e3;cases q:scope.names.lookup x with
   | none=>rw[q] at e3;rcases e3 with z|z|z<;>cases z
   | some k=>rfl
  obtain⟨hN,hfr⟩:=G9 ok.chk i x (by rw[<-I.len];exact hiσ) e1 vis;have hm:=lookup_mem _ _ _ hfr;have hkk:=ok.free _ hm rfl;obtain⟨m,hns,hl⟩:=I.loc;obtain⟨u,ru,lk⟩:=hl i x v hN e2' (hkk.elim (λz=>.inr (.inl z)) λz=>.inr (.inr z));refine⟨u,ru,.inr ⟨?_,?_⟩⟩
  ·show(relabel scope X.env).names.lookup x=some .cell\/(relabel scope X.env).names.lookup x=some .free;rw[Dr,hfr];by_cases hc:(NameKind.free == NameKind.free&&X.env.scope.kind == .function&&X.env.kindOf x == some .cell)=true
   ·left;rw[Option.map_some,if_pos hc]
   ·right;rw[Option.map_some,if_neg hc]
  ·rcases lk with ⟨hl1,_⟩|⟨_,c,hc,hcell⟩
   ·rcases hkk with z|z<;>(rw[z] at hl1;cases hl1)
   ·refine⟨c,?_,hcell.keeps hk⟩;show(cellsFrom (s.heap.objs.size+1) scope.names (lL X.env scope.names [])).lookup x=some c;rw[fL,nZ];have hno:(cellsFrom (s.heap.objs.size+1) scope.names []).lookup x=none:=pM _ _ λd hd=>by
     have h1:=iu _ _ _ ok.nd (mO _ _ _ _ hd);rw[hfr] at h1;cases h1
    rw[hno];obtain⟨d,hd⟩:=Qz7.mp (ug (env:=X.env) scope.names [] x hm);have h2:=uh _ _ x d hfree (λy d h=>by simp at h) hd;rw[hc] at h2;show(lL X.env scope.names []).lookup x=some c;rw[hd,h2]
 ·rcases oF x c e with ⟨p1,_⟩|⟨_,p2⟩
  ·exact⟨_,(co.empty x c p1).1⟩
  ·obtain⟨v,q⟩:=I.cell x c p2;exact⟨v,q.keeps hk⟩
 ·rcases oF x c e with ⟨p1,_⟩|⟨p0,p2⟩
  ·exact .inl (I.hok.fresh (Qk2 (yq x c p1)))
  ·rcases I.lU x c p2 with z|⟨_,z⟩
   ·exact .inl z
   ·refine .inr ⟨?_,z⟩;show decide (scope.names.lookup x=some .cell)=false;refine Qwx λq=>?_;obtain⟨d,hd⟩:=zE (n:=s.heap.objs.size+1) q;rw[p0] at hd;cases hd
 ·show(tL (N'.length - σ.length) σ).length=N'.length;unfold tL;rw[Qq1,Qzk];have h1:=ok.len;have h2:=I.len;omega
abbrev jq(X:Cx)(scope:Scope)(N':List Str)(X':Cx):Prop:=
 ∃(cells:List (Str×Addr)) (C:Addr) (s0:Shared) (H0:{ H:Hp // ∀b qs,X.H₀ b=some (.tab qs)->H b=some (.tab qs) }) (fp:List Addr),X'=cxC X scope N' cells C s0 H0.1 fp
theorem Bw{X:Cx}{elt tg iter:Expr}{ifs:List Expr}{scope:Scope}{N':List Str}{pos:Pos}{g:TG}{tc:TT}{te:TE}{use:Option (Value->Sem Unit)}{QQ:Value->Shared->Prop}
  (ok:lJ X scope N') (hc:X.calm=true)
  (bg:∀X',jq X scope N' X'->PG X' tg g) (bc:∀X',jq X scope N' X'->PIf X' ifs tc) (be:∀X',jq X scope N' X'->PE X' elt te)
  {pins:List (Addr×Obj)} {s2:Shared} {σ:St} {H2:Hp} {Q:VK} {it:Addr} {fp:List Addr} {tn:Nat->Heap->Prop} {J:It} (I2:Inv X pins σ H2 s2) (T:Turn X.prog X.w X.K tg J fp it tn) (st2:tn 0 s2.heap) (f2:∀b∈fp,rO X pins H2 b)
  (q:∀d,H2 d=none->∃W:Nat->Nat->St->Hp->Prop,(∃m,W 0 m (tL (N'.length - σ.length) σ) (upd H2 d (.lst [])))/\∀i m σ' H',W i m σ' H'->
   (J.stop i H'/\Q (.ref d) H')\/(J.go i H'/\∃N:St->Hp->Prop,(∀σ2 H2,N σ2 H2->∃m',m'<m/\W (i+1) m' σ2 H2)/\∀x H2,J.yld i H' x H2->g x σ' H2 λσ3 H3=>tc σ3 H3 λb H4=>
    if b=true then te σ3 H4 λy H5=>∃ys,H5 d=some (.lst ys)/\ys.length<sizeLine/\N σ3 (upd H5 d (.lst (ys++[y]))) else N σ3 H4))
  (fin:∀d C m s' H',Inv X pins σ H' s'->Q (.ref d) H'->s'.heap.Ns C m->H' C=none->C≠X.env.locals->X.s₀.heap.objs.size<=C->(∀x c,X.env.cells.lookup x=some c->c≠C)->(∀p∈X.pn++pins,p.1≠C)->
   compPost (model X.prog X.w) X.A X.xe use QQ (.ref d) C (.ok .next) s') :
  wpAny (model X.prog X.w) X.A (newList []) (λacc s₃=>wpAny (model X.prog X.w) X.A (newFunctionEnv scope X.env.globals (lL X.env scope.names []) [] X.env.qual none .none (some X.env)) (λcenv s₄=>
   codeAny (model X.prog X.w) X.A (.compStart (.ListComp elt [⟨tg,iter,ifs,0⟩] scope pos) 0 (.ref it) acc { cenv with scope:=relabel scope X.env }) (compPost (model X.prog X.w) X.A X.xe use QQ acc cenv.locals) s₄) X.xe s₃) X.xe s2:=by
 have hd2:H2 s2.heap.objs.size=none:=I2.fresh;refine Qz1 (Gh λh' hns hkeep hco=>?_)
 -- the state behind the list
 obtain⟨W,⟨m0,w0⟩,turn⟩:=q s2.heap.objs.size hd2;have I3:Inv X pins σ (upd H2 s2.heap.objs.size (.lst [])) { s2 with heap:=s2.heap.push { cls:=.type "list",data:=.seq ([]:List Value).toArray } }:=I2.adL (t':=s2.toks) .nil (Qxy _);have vH:∀b∈fp,b<s2.heap.objs.size:=λb hb=>by
  obtain⟨o,e,_⟩:=T.obj _ _ st2 b hb;exact Qq9 e
 have f3:∀b∈fp,rO X pins (upd H2 s2.heap.objs.size (.lst [])) b:=λb hb=>by
  refine⟨?_,(f2 b hb).2⟩;rw[bz (Qw6 (vH b hb))];exact(f2 b hb).1
 have lt3:∀b∈fp,b<({ s2 with heap:=s2.heap.push { cls:=.type "list",data:=.seq ([]:List Value).toArray } }:Shared).heap.objs.size:=λb hb=>by
  show b<(s2.heap.push _).objs.size;rw[Qx5];exact Qk1 (vH b hb)
 have st3:tn 0 h':=T.keep _ _ _ st2 λb hb o e=>hkeep b o (Qqz _ e);have I4:=RL (fp:=fp) ok I3 f3 lt3 hns hkeep hco;generalize hs3:({ s2 with heap:=s2.heap.push { cls:=.type "list",data:=.seq ([]:List Value).toArray } }:Shared)=s3 at *;have sz3:s3.heap.objs.size=s2.heap.objs.size+1:=by rw[<-hs3];exact Qx5 ..
 generalize hX':cxC X scope N' (cellsFrom (s3.heap.objs.size+1) scope.names (lL X.env scope.names [])) s3.heap.objs.size s3 (upd H2 s2.heap.objs.size (.lst [])) fp=X' at I4;have at':jq X scope N' X':=⟨_,_,_,⟨_,I3.base.tabs⟩,_,hX'.symm⟩;have hg:=bg X' at';have hif:=bc X' at';have he:=be X' at';have eP:X'.prog=X.prog:=by rw[<-hX'];rfl
 have eW:X'.w=X.w:=by rw[<-hX'];rfl
 have eK:X'.K=X.K:=by rw[<-hX'];rfl
 have eA:X'.A=X.A:=by rw[<-hX'];rfl
 have eC:X'.calm=true:=by rw[<-hX'];exact hc
 have eX:X'.xe=λ_ _=>False:=by rw[<-hX'];rfl
 have ePn:X'.pn=[]:=by rw[<-hX'];rfl
 have eEx:X'.ex=fp:=by rw[<-hX'];rfl
 have eL:X'.env.locals=s3.heap.objs.size:=by rw[<-hX'];rfl
 have eFs:X'.fs=frs X.stack:=by rw[<-hX'];rfl
 have af9:compEnvC scope (cellsFrom (s3.heap.objs.size+1) scope.names (lL X.env scope.names [])) s3.heap.objs.size X.env=X'.env:=by rw[<-hX'];rfl
 have eS0:X'.s₀=s3:=by rw[<-hX'];rfl
 have eH0:X'.H₀=upd H2 s2.heap.objs.size (.lst []):=by rw[<-hX'];rfl
 -- what is true of the iterator's objects in the block
 have stat:∀{H':Hp},(∀b∈fp,H' b=none)->∀b∈fp,rO X' [] H' b:=λ{H'} hn b hb=>by
  refine⟨hn b hb,?_,?_,.inl (by rw[eEx];exact hb),λx c e=>?_,λp hp=>?_⟩
  ·rw[eL];exact Qw6 (lt3 b hb)
  ·have:=I4.ok.Nx b (by rw[eEx];exact hb);exact this
  ·exact(I4.ok.exf b (by rw[eEx];exact hb)).2 x c e
  ·rw[ePn] at hp;exact absurd hp (by simp)
 -- the outer context again
 have back:∀σ' H' s',Inv X' [] σ' H' s'->Inv X pins σ H' s':=λσ' H' s' J'=>by
  have hb:=J'.base;rw[eFs,eEx,eS0,eH0] at hb;have hos:=J'.os;rw[eS0] at hos;have hok:=J'.hok;rw[eP,eW] at hok;exact I3.call' (ch:=fp) hos hb hok J'.bare λb hbm=>⟨(f3 b hbm).2.2.2.1,(f3 b hbm).2.1,(f3 b hbm).2.2.2.2.1,(f3 b hbm).2.2.2.2.2⟩
 have loop:∀s4:Shared,s4 = { s3 with heap:=h' }->codeAny (model X.prog X.w) X.A (.compLoop (.ListComp elt [⟨tg,iter,ifs,0⟩] scope pos) 0 (.ref it) (.ref s2.heap.objs.size) X'.env) (compPost (model X.prog X.w) X.A X.xe use QQ (.ref s2.heap.objs.size) s3.heap.objs.size) s4:=by
  rintro s4 rfl;refine Dy (λn s'=>∃i σ' H',Inv X' [] σ' H' s'/\tn i s'.heap/\(∀b∈fp,H' b=none)/\W i n σ' H') ?_ m0 ⟨0,_,_,I4,st3,λb hb=>(f3 b hb).1,w0⟩;rintro n s5 ⟨i,σ5,H5,I5,YK,fr5,w5⟩;rcases turn i n σ5 H5 w5 with ⟨stop,qn⟩|⟨go,N,hN,step⟩
  ·have td:=T.done X' eP eW eK eC i [] s5 σ5 H5 (λ_ _=>False) I5 (stat fr5) YK stop;rw[eA] at td;refine fV td λr s6 ⟨hr,I6⟩=>?_;subst hr;obtain⟨mC,hnC,_⟩:=id I6.loc;rw[eL] at hnC;have lc:X.env.locals<s3.heap.objs.size:=by
    have:=I3.lt;exact this
   refine fin _ _ mC s6 H5 (back _ _ _ I6) qn hnC ?_ (Qkz lc) I3.sz (λx c e=>?_) (λp hp=>?_)
   ·have:=I6.free;rw[eL] at this;exact this
   ·obtain⟨v,z⟩:=I3.cell x c e;exact Qw6 z.lt
   ·exact Qw6 (Qq9 (I3.pin p hp).1)
  ·have ti:=T.item X' eP eW eK eC i [] s5 σ5 H5 (λ_ _=>False) I5 (stat fr5) YK go;rw[eA] at ti;refine fV ti λr s6 ⟨u,hr,h6⟩=>?_;subst hr;refine fV h6 λ_ s7 ⟨x,H7,I7,r7,y7,st7,fr7⟩=>?_;have I7':=I7.pinned (stat fr7) (T.obj _ _ st7);have hg':=hg _ s7 σ5 H7 x u _ I7' r7 (step x H7 y7);rw[eP,eW,eA,eX] at hg';refine fV hg' λ_ s8 ⟨σ8,H8,I8,q8⟩=>?_;have ad0:=hif _ s8 σ8 H8 _ I8 q8;rw[eP,eW,eA,eX] at ad0;refine fV ad0 λb s9 ⟨H9,I9,q9⟩=>?_;have again:∀{σz:St} {Hz:Hp} {sz:Shared},Inv X' ([]++yl fp s7.heap) σz Hz sz->N σz Hz->∃m,m<n/\∃i σ' H',Inv X' [] σ' H' sz/\tn i sz.heap/\(∀b∈fp,H' b=none)/\W i m σ' H':=λ{σz Hz sz} Iz nz=>by
    obtain⟨m',hm,wz⟩:=hN σz Hz nz;refine⟨m',hm,i+1,σz,Hz,Iz.su,T.keep _ _ _ st7 λb hb o e=>(Iz.pin (b,o) (Qxx _ (Qxx _ (nY hb e)))).1,λb hb=>?_,wz⟩;obtain⟨o,e,d⟩:=T.obj _ _ st7 b hb;exact(Iz.pin (b,o) (Qxx _ (Qxx _ (nY hb e)))).2.1
   cases b with
   | false=>
    rw[if_neg Qxk] at q9 ⊢;exact again I9 q9
   | true=>
    rw[if_pos rfl] at q9 ⊢;have he':=he _ s9 σ8 H9 _ I9 q9;rw[eP,eW,eA,eX] at he';refine fV he' λy sa ⟨yv,Ha,Ia,ra,ys,hys,hlen,qa⟩=>?_;have ap:=Bk (X:=X') _ sa σ8 Ha (.ref s2.heap.objs.size) [yv] (.ref s2.heap.objs.size) [y] (λv H'=>v = .non/\N σ8 H') Ia rfl (.cons ra .nil) ⟨_,ys,yv,rfl,rfl,hys,hlen,rfl,qa⟩;rw[eP,eW,eA,eX] at ap;refine fV ap λ_ sb ⟨vb,Hb,Ib,rb,_,nb⟩=>?_;exact again Ib nb
 show codeAny _ _ (.compStart _ 0 (.ref it) (.ref s2.heap.objs.size) (compEnvC scope (cellsFrom (s3.heap.objs.size+1) scope.names (lL X.env scope.names [])) s3.heap.objs.size X.env)) (compPost (model X.prog X.w) X.A X.xe use QQ (.ref s2.heap.objs.size) s3.heap.objs.size) _;rw[af9];exact codeAny_compStart_list (loop _ rfl) (T.self X.A 0 _ _ _ st3 (loop _ rfl))
theorem adi{X:Cx}{elt tg iter:Expr}{ifs:List Expr}{scope:Scope}{N':List Str}{pos:Pos}{wi:TI}{g:TG}{tc:TT}{te:TE}
  (ok:lJ X scope N') (hc:X.calm=true) (hi:PI X tg iter wi)
  (bg:∀X',jq X scope N' X'->PG X' tg g) (bc:∀X',jq X scope N' X'->PIf X' ifs tc) (be:∀X',jq X scope N' X'->PE X' elt te)
  (hs:∀x,foldedSetIterable iter X.env x=pure x:=by intro _;rfl) :
  PE X (.ListComp elt [⟨tg,iter,ifs,0⟩] scope pos) (tLC N'.length wi g tc te):=by
 intro pins s σ H Q I h;rw[eval_ListComp];have hfree:∀n,(n,NameKind.free)∈scope.names->∃c,X.env.cells.lookup n=some c:=λn hm=>I.ok.has n (ok.free _ hm rfl);refine wpAny_comprehension_free (use:=none) rfl hs (zB hfree) ok.kind (λx hx hl=>iu _ _ _ ok.nd (by rw[<-hl];exact hx)) ?_;refine fV (hi pins s σ H _ I h) λv s1 h1=>fV h1 λitv s2 h2=>?_;obtain⟨it,fp,tn,J,H2,e,I2,T,st2,f2,q⟩:=h2;subst e;refine Bw ok hc bg bc be I2 T st2 f2 q λd C m s' H' I' hq hn hC hL h0 hcell hpin=>?_;refine⟨m,hn,λh' hs'=>?_⟩;have I'':Inv X pins σ H' { s' with heap:=h',toks:=s'.toks }:=I'.turned (it:=C) (λb o hb e=>(hs'.2 b hb).trans e) hC hL (.inr h0) hcell hpin;exact⟨.ref d,H',I'',rfl,hq⟩
theorem QF{X:Cx}{elt tg iter:Expr}{ifs:List Expr}{scope:Scope}{N':List Str}{pos spos py:Pos}{wi:TI}{g:TG}{tc:TT}{te:TE}{i:Nat}{y:Str}
  (ok:lJ X scope N') (hc:X.calm=true) (hi:PI X tg iter wi)
  (bg:∀X',jq X scope N' X'->PG X' tg g) (bc:∀X',jq X scope N' X'->PIf X' ifs tc) (be:∀X',jq X scope N' X'->PE X' elt te)
  (hN:X.N.Nodup) (hy:X.N[i]? = some y) (hx:Loc X.env.scope y)
  (hsw:swapsWith (.ListComp elt [⟨tg,iter,ifs,0⟩] scope pos) (some (.Name y py)) spos.line X.env=pure true)
  (hf:X.fn y=true\/X.env.scope.names.lookup y=some .local:=by first|exact .inl rfl|exact .inr rfl|assumption)
  (hs:∀x,foldedSetIterable iter X.env x=pure x:=by intro _;rfl) :
  PS X (.Assign [.Name y py] (.ListComp elt [⟨tg,iter,ifs,0⟩] scope pos) spos) (T3 (tLC N'.length wi g tc te) (GJ i)):=by
 intro pins s σ H D I h;rw[exec_Assign_Name_used _ _ _ _ hsw];refine Qqq (wpAny_standAt (Qqq ?_));have hfree:∀n,(n,NameKind.free)∈scope.names->∃c,X.env.cells.lookup n=some c:=λn hm=>I.ok.has n (ok.free _ hm rfl);show wpAny _ X.A (do let _ <-comprehension (.ListComp elt [⟨tg,iter,ifs,0⟩] scope pos) scope X.env _ (newList []) false (eval iter X.env) (some (assign (.Name y py) X.env))) _ _ s;refine Qqq (Qx8 (wpAny_comprehension_free (use:=some (assign (.Name y py) X.env)) (Q:=λ_ s'=>SP X pins D .next s') rfl hs (zB hfree) ok.kind (λx hx hl=>iu _ _ _ ok.nd (by rw[<-hl];exact hx)) ?_) (λ_ s' hq=>Qq2 (Qq2 hq)) λ_ _ e=>e);refine fV (hi pins s σ H _ I h) λv s1 h1=>fV h1 λitv s2 h2=>?_;obtain⟨it,fp,tn,J,H2,e,I2,T,st2,f2,q⟩:=h2;subst e;refine Bw (Q:=λx H1=>GJ i x σ H1 D.nx) ok hc bg bc be I2 T st2 f2 q λd C m s' H' I' hq hn hC hL h0 hcell hpin=>?_;refine wpAny_assign_Name (Ay (v:=.ref d) I' hN hy hx rfl (λs'' I'' sb=>?_) hf);obtain⟨a,hsb,ha⟩:=sb;have haC:C≠a:=by
  rcases ha with z|z
  ·rw[z];exact hL
  ·exact(hcell y a z).symm
 refine⟨m,hn.sameBut hsb haC,λh' hs'=>?_⟩;have I3:Inv X pins (σ.set i (some (.ref d))) H' { s'' with heap:=h',toks:=s''.toks }:=I''.turned (it:=C) (λb o hb e=>(hs'.2 b hb).trans e) hC hL (.inr h0) hcell hpin;exact⟨_,H',I3,hq⟩
end L2
namespace Ev
open PySem PySem.Spec PyProof.Rows L2
inductive D where
 | non
 | bl (b:Bool)
 | int (i:Int)
 | str (x:List Nat)
 | tup (xs:List D)
 | lst (xs:List D)
 | arr (xs:List D)
 | dct (kvs:List (D×D))
 | gh (kvs:List (D×D))
 | clo (st:Stmt) (ds:List D)
 deriving Inhabited
abbrev Fg:=PySem.W.Frag
noncomputable def strOf(x:List Nat):Str:=⟨x.toArray⟩
noncomputable def qz:D->Option Key
 | .int i=>some (.inl i)
 | .str x=>some (.inr (strOf x))
 | _=>none
mutual
noncomputable def tO:D->Option NK
 | .int i=>some (.num i)
 | .bl b=>some (.num (if b then 1 else 0))
 | .str x=>some (.txt (strOf x))
 | .tup xs=>(Gf xs).map .tup
 | _=>none
noncomputable def Gf:List D->Option (List NK)
 | []=>some []
 | d::ds=>match tO d,Gf ds with
  | some k,some ks=>some (k::ks)
  | _,_=>none
end
noncomputable def defName(s:Stmt):Str:=match s with
 | .FunctionDef n _ _ _ _ _ _ _ _ _=>n
 | _=>""
noncomputable def freeOf(s:Stmt):List Str:=(((aM s).names.filter (·.2 == .free)).map (·.1)).reverse
def abO(F:Hp)(c:Addr)(v:V):Prop:=∃(o:Obj) (u:HO) (w:Value),F c=some (.wH o u)/\o.data = .cell (some w)/\RelV v w
def xN(F:Hp):List (Str×Addr)->List V->Prop
 | [],vs=>vs=[]
 | (_,c)::r,vs=>∃v vs',vs=v::vs'/\abO F c v/\xN F r vs'
def abN(F:Hp)(c:Addr)(q:Str):Prop:=∃(o:Obj) (u:HO) (vs:Array Value) (t:Tok),F c=some (.wH o u)/\o.data = .fields vs/\vs[1]? = some (.str q t)
def ago(F:Hp)(st:Stmt)(a:Addr)(vs:List V):Prop:=∃(u:HO) (q:Str) (cl:List (Str×Addr)) (doc pm ctv:Value) (c:Addr),
 F a=some (.wH (PySem.W.fnMade (defName st) q (jj st) (d8 st) (aM st) cl doc pm c ctv) u)/\abN F c q/\cl.map (·.1)=freeOf st/\(cl.map (·.2)).Nodup/\xN F cl vs
theorem aH.cells{F F':Hp}(e:aH F F'):∀{cl:List (Str×Addr)} {vs:List V},xN F cl vs->xN F' cl vs
 | [],_,h=>h
 | (_,c)::r,_,⟨v,vs',h0,⟨o,u,w,h1,h2⟩,h3⟩=>⟨v,vs',h0,⟨o,u,w,e _ _ h1,h2⟩,aH.cells e h3⟩
def Mark(K:Fg)(st:Stmt)(a:Addr):Prop:=∃(n:Str) (p:Pos) (oc:Value) (od:Option Addr) (fd:FuncData) (sl:Array (Option Value)),st = .Global [n] p/\PySem.W.nsIn K mainGlobals n=some (some (.ref a))/\K.lookup a=some ⟨oc,od,.func fd,sl⟩
def ExcAt(K:Fg)(F:Hp)(st:Stmt)(a:Addr)(vs:List V):Prop:=∃(n:Str) (r:List Str) (p:Pos) (o:Obj) (u:HO) (c:Addr) (fs:Array Value),st = .Nonlocal (n::r) p/\PySem.W.nsIn K mainGlobals n=some (some (.ref c))/\F a=some (.wH o u)/\o.cls = .ref c/\o.data = .fields fs/\
 (r=[]/\vs=[]\/∃(x:Str) (v:V) (w:Value) (dx:Addr) (od:Obj) (ud:HO) (m:Str->Option Value),r=[x]/\vs=[v]/\RelV v w/\o.dict=some dx/\F dx=some (.wH od ud)/\(∀h:Heap,h.get? dx=some od->h.Ns dx m)/\m x=some w)
theorem aH.excAt{K:Fg}{F F':Hp}{st:Stmt}{a:Addr}{vs:List V}(e:aH F F')(h:ExcAt K F st a vs):ExcAt K F' st a vs:=by
 obtain⟨n,r,p,o,u,c,fs,h1,h2,h3,h4,h5,h6⟩:=h;refine⟨n,r,p,o,u,c,fs,h1,h2,e _ _ h3,h4,h5,?_⟩;rcases h6 with h6|⟨x,v,w,dx,od,ud,m,q1,q2,q3,q4,q5,q6⟩
 ·exact .inl h6
 ·exact .inr ⟨x,v,w,dx,od,ud,m,q1,q2,q3,q4,e _ _ q5,q6⟩
noncomputable def afQ(st:Stmt):Bool:=match st with
 | .Global _ _=>true
 | .Nonlocal _ _=>true
 | _=>false
def Clo(K:Fg)(F:Hp)(st:Stmt)(a:Addr)(vs:List V):Prop:=ago F st a vs/\afQ st=false\/Mark K st a\/ExcAt K F st a vs
theorem aH.clo{K:Fg}{F F':Hp}{st:Stmt}{a:Addr}{vs:List V}(e:aH F F')(h:Clo K F st a vs):Clo K F' st a vs:=by
 rcases h with ⟨h,hg⟩|h|h
 rotate_left
 ·exact .inr (.inl h)
 ·exact .inr (.inr (aH.excAt e h))
 refine .inl ⟨?_,hg⟩;obtain⟨u,q,cl,doc,pm,ctv,c,h1,⟨o,u2,ws,t,h2,h3⟩,h4,h5,h6⟩:=h;exact⟨u,q,cl,doc,pm,ctv,c,e _ _ h1,⟨o,u2,ws,t,e _ _ h2,h3⟩,h4,h5,aH.cells e h6⟩
mutual
noncomputable def Rep(K:Fg)(F:Hp):D->V->Prop
 | .non,v=>v = .non
 | .bl b,v=>v = .bl b
 | .int i,v=>v = .int i
 | .str x,v=>v = .str (strOf x)/\x.length<=sizeLine
 | .tup xs,v=>xs.length<=sizeLine/\∃a vs,v = .ref a/\jZ K F a vs/\bu K F xs vs
 | .lst xs,v=>xs.length<=sizeLine/\∃a vs,v = .ref a/\F a=some (.lst vs)/\bu K F xs vs
 | .arr xs,v=>xs.length<=sizeLine/\∃a vs,v = .ref a/\jX K F a vs/\bu K F xs vs
 | .dct kvs,v=>kvs.length<=sizeLine/\∃a ks,v = .ref a/\Rd F a (.dK ks)/\dw K F kvs ks
 | .gh kvs,v=>kvs.length<=sizeLine/\∃a ks,v = .ref a/\Rd F a (.dN ks)/\cC K F kvs ks
 | .clo st ds,v=>∃a vs,v = .ref a/\Clo K F st a vs/\bu K F ds vs
noncomputable def bu(K:Fg)(F:Hp):List D->List V->Prop
 | [],vs=>vs=[]
 | d::ds,vs=>∃v r,vs=v::r/\Rep K F d v/\bu K F ds r
noncomputable def dw(K:Fg)(F:Hp):List (D×D)->List (Key×V)->Prop
 | [],vs=>vs=[]
 | (k,d)::ds,vs=>∃q v r,vs=(q,v)::r/\qz k=some q/\Rep K F d v/\dw K F ds r
noncomputable def cC(K:Fg)(F:Hp):List (D×D)->List (NK×V×V)->Prop
 | [],vs=>vs=[]
 | (k,d)::ds,vs=>∃q u v r,vs=(q,u,v)::r/\tO k=some q/\q.dep<=8/\Rep K F k u/\Rep K F d v/\cC K F ds r
end
theorem aH.rd{F F':Hp}{a:Addr}{u:HO}(e:aH F F')(h:Rd F a u):Rd F' a u:=by
 rcases h with h|⟨o,h⟩
 ·exact .inl (e _ _ h)
 ·exact .inr ⟨o,e _ _ h⟩
theorem aH.tupK{K:Fg}{F F':Hp}{a:Addr}{xs:List V}(e:aH F F')(h:jZ K F a xs):jZ K F' a xs:=by
 rcases h with h|h
 ·exact .inl (aH.rd e h)
 ·exact .inr h
mutual
theorem Rep.mono{K:Fg}{F F':Hp}(e:aH F F'):∀(d:D) (v:V),Rep K F d v->Rep K F' d v
 | .non,_,h=>h
 | .bl _,_,h=>h
 | .int _,_,h=>h
 | .str _,_,h=>h
 | .tup xs,v,h=>by
  obtain⟨z,a,vs,rfl,h1,h2⟩:=h;exact⟨z,a,vs,rfl,aH.tupK e h1,bu.mono e xs vs h2⟩
 | .lst xs,v,h=>by
  obtain⟨z,a,vs,rfl,h1,h2⟩:=h;exact⟨z,a,vs,rfl,e _ _ h1,bu.mono e xs vs h2⟩
 | .arr xs,v,h=>by
  obtain⟨z,a,vs,rfl,h1,h2⟩:=h;exact⟨z,a,vs,rfl,e.seq h1,bu.mono e xs vs h2⟩
 | .dct kvs,v,h=>by
  obtain⟨z,a,ks,rfl,h1,h2⟩:=h;exact⟨z,a,ks,rfl,aH.rd e h1,dw.mono e kvs ks h2⟩
 | .gh kvs,v,h=>by
  obtain⟨z,a,ks,rfl,h1,h2⟩:=h;exact⟨z,a,ks,rfl,aH.rd e h1,cC.mono e kvs ks h2⟩
 | .clo st ds,v,h=>by
  obtain⟨a,vs,rfl,h1,h2⟩:=h;exact⟨a,vs,rfl,aH.clo e h1,bu.mono e ds vs h2⟩
theorem bu.mono{K:Fg}{F F':Hp}(e:aH F F'):∀(ds:List D) (vs:List V),bu K F ds vs->bu K F' ds vs
 | [],_,h=>h
 | d::ds,vs,h=>by
  obtain⟨v,r,rfl,h1,h2⟩:=h;exact⟨v,r,rfl,Rep.mono e d v h1,bu.mono e ds r h2⟩
theorem dw.mono{K:Fg}{F F':Hp}(e:aH F F'):∀(ds:List (D×D)) (vs:List (Key×V)),dw K F ds vs->dw K F' ds vs
 | [],_,h=>h
 | (k,d)::ds,vs,h=>by
  obtain⟨q,v,r,rfl,h0,h1,h2⟩:=h;exact⟨q,v,r,rfl,h0,Rep.mono e d v h1,dw.mono e ds r h2⟩
theorem cC.mono{K:Fg}{F F':Hp}(e:aH F F'):∀(ds:List (D×D)) (vs:List (NK×V×V)),cC K F ds vs->cC K F' ds vs
 | [],_,h=>h
 | (k,d)::ds,vs,h=>by
  obtain⟨q,u,v,r,rfl,h0,h3,h4,h1,h2⟩:=h;exact⟨q,u,v,r,rfl,h0,h3,Rep.mono e k u h4,Rep.mono e d v h1,cC.mono e ds r h2⟩
end
theorem bu.length{K:Fg}{F:Hp}:∀{ds:List D} {vs:List V},bu K F ds vs->vs.length=ds.length
 | [],_,h=>by cases h;rfl
 | d::ds,vs,h=>by
  obtain⟨v,r,rfl,_,h2⟩:=h;rw[Qqw,Qqw,h2.length]
theorem bu.get{K:Fg}{F:Hp}:∀{ds:List D} {vs:List V} {i:Nat} {d:D},bu K F ds vs->ds[i]? = some d->∃v,vs[i]? = some v/\Rep K F d v
 | [],_,_,_,_,e=>by simp at e
 | c::ds,vs,i,d,h,e=>by
  obtain⟨v,r,rfl,h1,h2⟩:=h;cases i with
  | zero=>simp at e;subst e;exact⟨v,rfl,h1⟩
  | succ i=>obtain⟨u,e1,e2⟩:=bu.get h2 (i:=i) (by simpa using e);exact⟨u,by simpa using e1,e2⟩
theorem bu.append{K:Fg}{F:Hp}:∀{ds es:List D} {vs ws:List V},bu K F ds vs->bu K F es ws->bu K F (ds++es) (vs++ws)
 | [],es,vs,ws,h,g=>by cases h;exact g
 | d::ds,es,vs,ws,h,g=>by
  obtain⟨v,r,rfl,h1,h2⟩:=h;exact⟨v,r++ws,rfl,h1,bu.append h2 g⟩
theorem bu.drop{K:Fg}{F:Hp}:∀(n:Nat) {ds:List D} {vs:List V},bu K F ds vs->bu K F (ds.drop n) (vs.drop n)
 | 0,_,_,h=>h
 | _+1,[],_,h=>by cases h;exact rfl
 | n+1,d::ds,vs,h=>by
  obtain⟨v,r,rfl,_,h2⟩:=h;exact bu.drop n h2
theorem bu.take{K:Fg}{F:Hp}:∀(n:Nat) {ds:List D} {vs:List V},bu K F ds vs->bu K F (ds.take n) (vs.take n)
 | 0,_,_,_=>rfl
 | _+1,[],_,h=>by cases h;exact rfl
 | n+1,d::ds,vs,h=>by
  obtain⟨v,r,rfl,h1,h2⟩:=h;exact⟨v,r.take n,rfl,h1,bu.take n h2⟩
theorem bu.set{K:Fg}{F:Hp}{d:D}{v:V}(hd:Rep K F d v):∀(i:Nat) {ds:List D} {vs:List V},bu K F ds vs->bu K F (ds.set i d) (vs.set i v)
 | _,[],_,h=>by cases h;exact rfl
 | 0,c::ds,vs,h=>by
  obtain⟨u,r,rfl,_,h2⟩:=h;exact⟨v,r,rfl,hd,h2⟩
 | i+1,c::ds,vs,h=>by
  obtain⟨u,r,rfl,h1,h2⟩:=h;exact⟨u,r.set i v,rfl,h1,bu.set hd i h2⟩
theorem bu.one{K:Fg}{F:Hp}{d:D}{v:V}(h:Rep K F d v):bu K F [d] [v]:=⟨v,[],rfl,h,rfl⟩
abbrev Env:=List (Option (Bool×D))
inductive R (α:Type) where
 | ok (a:α) (env:Env)
 | stuck
abbrev Ev:=Env->R D
abbrev eO:=Env->R Bool
abbrev dg:=Env->R (List D)
structure Cfg where
 K:Fg
 fx:Nat->Option Addr
def jo(K:Fg)(F H:Hp):D->Addr->Prop
 | .lst xs,a=>xs.length<=sizeLine/\∃vs,H a=some (.lst vs)/\bu K F xs vs
 | .dct kvs,a=>kvs.length<=sizeLine/\∃ks,H a=some (.dK ks)/\dw K F kvs ks
 | .gh kvs,a=>kvs.length<=sizeLine/\∃ks,H a=some (.dN ks)/\cC K F kvs ks
 | _,_=>False
theorem jo.mono{K:Fg}{F F' H H':Hp}(e:aH F F'){d:D}{a:Addr}(k:H' a=H a)(h:jo K F H d a):jo K F' H' d a:=by
 cases d with
 | lst xs=>obtain⟨z,vs,h1,h2⟩:=h;exact⟨z,vs,k.trans h1,bu.mono e _ _ h2⟩
 | dct kvs=>obtain⟨z,ks,h1,h2⟩:=h;exact⟨z,ks,k.trans h1,dw.mono e _ _ h2⟩
 | gh kvs=>obtain⟨z,ks,h1,h2⟩:=h;exact⟨z,ks,k.trans h1,cC.mono e _ _ h2⟩
 | _=>exact h
theorem jo.some{K:Fg}{F H:Hp}{d:D}{a:Addr}(h:jo K F H d a):∃o,H a=some o:=by
 cases d with
 | lst xs=>obtain⟨z,vs,h1,h2⟩:=h;exact⟨_,h1⟩
 | dct kvs=>obtain⟨z,ks,h1,h2⟩:=h;exact⟨_,h1⟩
 | gh kvs=>obtain⟨z,ks,h1,h2⟩:=h;exact⟨_,h1⟩
 | _=>exact h.elim
def gC(K:Fg)(F H:Hp)(d:D)(v:V):Prop:=Rep K F d v\/∃a,v = .ref a/\jo K F H d a
theorem gC.rep{K:Fg}{F H:Hp}{d:D}{v:V}(s:aH F H)(h:gC K F H d v):Rep K H d v:=by
 rcases h with h|⟨a,rfl,h⟩
 ·exact Rep.mono s d v h
 ·cases d with
  | lst xs=>obtain⟨z,vs,h1,h2⟩:=h;exact⟨z,a,vs,rfl,h1,bu.mono s _ _ h2⟩
  | dct kvs=>obtain⟨z,ks,h1,h2⟩:=h;exact⟨z,a,ks,rfl,.inl h1,dw.mono s _ _ h2⟩
  | gh kvs=>obtain⟨z,ks,h1,h2⟩:=h;exact⟨z,a,ks,rfl,.inl h1,cC.mono s _ _ h2⟩
  | _=>exact h.elim
theorem gC.lst{K:Fg}{F H:Hp}{xs:List D}{v:V}(s:aH F H)(h:gC K F H (.lst xs) v):xs.length<=sizeLine/\∃a vs,v = .ref a/\H a=some (.lst vs)/\bu K F xs vs:=by
 rcases h with ⟨z,a,vs,rfl,h1,h2⟩|⟨a,rfl,z,vs,h1,h2⟩
 ·exact⟨z,a,vs,rfl,s _ _ h1,h2⟩
 ·exact⟨z,a,vs,rfl,h1,h2⟩
theorem gC.arr{K:Fg}{F H:Hp}{xs:List D}{v:V}(s:aH F H)(h:gC K F H (.arr xs) v):xs.length<=sizeLine/\∃a vs,v = .ref a/\jX K H a vs/\bu K F xs vs:=by
 rcases h with ⟨z,a,vs,rfl,h1,h2⟩|⟨a,rfl,h⟩
 ·exact⟨z,a,vs,rfl,s.seq h1,h2⟩
 ·exact h.elim
theorem gC.tup{K:Fg}{F H:Hp}{xs:List D}{v:V}(s:aH F H)(h:gC K F H (.tup xs) v):xs.length<=sizeLine/\∃a vs,v = .ref a/\jZ K H a vs/\jZ K F a vs/\bu K F xs vs:=by
 rcases h with ⟨z,a,vs,rfl,h1,h2⟩|⟨a,rfl,h⟩
 ·exact⟨z,a,vs,rfl,aH.tupK s h1,h1,h2⟩
 ·exact h.elim
theorem gC.int{K:Fg}{F H:Hp}{i:Int}{v:V}(h:gC K F H (.int i) v):v = .int i:=by
 rcases h with h|⟨a,rfl,h⟩
 ·exact h
 ·exact h.elim
theorem gC.bl{K:Fg}{F H:Hp}{i:Bool}{v:V}(h:gC K F H (.bl i) v):v = .bl i:=by
 rcases h with h|⟨a,rfl,h⟩
 ·exact h
 ·exact h.elim
theorem gC.non{K:Fg}{F H:Hp}{v:V}(h:gC K F H .non v):v = .non:=by
 rcases h with h|⟨a,rfl,h⟩
 ·exact h
 ·exact h.elim
theorem gC.str{K:Fg}{F H:Hp}{x:List Nat}{v:V}(h:gC K F H (.str x) v):v = .str (strOf x)/\x.length<=sizeLine:=by
 rcases h with h|⟨a,rfl,h⟩
 ·exact h
 ·exact h.elim
structure Rel(C:Cfg)(Pr F:Hp)(env:Env)(σ:L2.St)(H:Hp):Prop where
 pr:aH Pr H
 fr:aH F H
 len:env.length=σ.length
 val:∀(i:Nat) (d:D),env[i]? = some (some (false,d))->∃v,σ[i]? = some (some v)/\Rep C.K F d v
 own:∀(i:Nat) (d:D),env[i]? = some (some (true,d))->∃a,σ[i]? = some (some (V.ref a))/\jo C.K F H d a/\F a=none/\Pr a=none
 apart:∀(i j:Nat) (d e:D) (a:Addr),env[i]? = some (some (true,d))->env[j]? = some (some (true,e))->σ[i]? = some (some (V.ref a))->σ[j]? = some (some (V.ref a))->i=j
 dj:∀b o,F b=some o->Pr b=none
 fix:∀i a,C.fx i=some a->σ[i]? = some (some (V.ref a))
theorem kY{H:Hp}{a:Addr}{o:HO}(h:H a=none):aH H (upd H a o):=λb u e=>by
 rw[bz (dD e h)];exact e
theorem Rel.new{C:Cfg}{Pr F:Hp}{env:Env}{σ:L2.St}{H:Hp}{a:Addr}{o:HO}(r:Rel C Pr F env σ H)(h:H a=none):Rel C Pr (upd F a o) env σ (upd H a o)/\aH F (upd F a o):=by
 have hF:F a=none:=r.fr.free h;have s1:aH F (upd F a o):=kY hF;refine⟨⟨r.pr.trans (kY h),λb u e=>?_,r.len,λi d e1=>?_,λi d e1=>?_,r.apart,λb u e=>?_,r.fix⟩,s1⟩
 ·by_cases hb:b=a
  ·subst hb;rw[aX] at e ⊢;exact e
  ·rw[bz hb] at e ⊢;exact r.fr b u e
 ·obtain⟨v,h1,h2⟩:=r.val i d e1;exact⟨v,h1,Rep.mono s1 d v h2⟩
 ·obtain⟨b,h1,h2,h3,h4⟩:=r.own i d e1;obtain⟨u,hu⟩:=h2.some;have hb:b≠a:=dD hu h;exact⟨b,h1,h2.mono s1 (bz hb),by rw[bz hb];exact h3,h4⟩
 ·by_cases hb:b=a
  ·subst hb;exact r.pr.free h
  ·rw[bz hb] at e;exact r.dj b u e
theorem Rel.fresh{C:Cfg}{Pr F:Hp}{env:Env}{σ:L2.St}{H:Hp}{a:Addr}{o:HO}(r:Rel C Pr F env σ H)(h:H a=none):Rel C Pr F env σ (upd H a o):=by refine⟨r.pr.trans (kY h),r.fr.trans (kY h),r.len,r.val,λi d e1=>?_,r.apart,r.dj,r.fix⟩;obtain⟨b,h1,h2,h3,h4⟩:=r.own i d e1;obtain⟨u,hu⟩:=h2.some;have hb:b≠a:=dD hu h;exact⟨b,h1,h2.mono (aH.refl F) (bz hb),h3,h4⟩
theorem Rel.aside{C:Cfg}{Pr F:Hp}{env:Env}{σ:L2.St}{H:Hp}{a:Addr}{o:HO}(r:Rel C Pr F env σ H)(h:H a=none):Rel C (upd Pr a o) F env σ (upd H a o):=by
 have r':=r.fresh (o:=o) h;have hF:F a=none:=r.fr.free h;refine⟨λb u e=>?_,r'.fr,r.len,r.val,λi d e1=>?_,r.apart,λb u e=>?_,r.fix⟩
 ·by_cases hb:b=a
  ·subst hb;rw[aX] at e ⊢;exact e
  ·rw[bz hb] at e ⊢;exact r.pr b u e
 ·obtain⟨b,h1,h2,h3,h4⟩:=r'.own i d e1;obtain⟨b',h1',h2',_⟩:=r.own i d e1;rw[h1] at h1';cases h1';obtain⟨u,hu⟩:=h2'.some;have hb:b≠a:=dD hu h;exact⟨b,h1,h2,h3,by rw[bz hb];exact h4⟩
 ·have hb:b≠a:=λz=>by rw[z,hF] at e;cases e
  rw[bz hb];exact r.dj b u e
theorem Rel.turn{C:Cfg}{Pr F:Hp}{env:Env}{σ:L2.St}{H:Hp}{a:Addr}{o u:HO}(r:Rel C Pr F env σ H)(h:Pr a=some o):Rel C (upd Pr a u) F env σ (upd H a u):=by
 have hF:F a=none:=by
  cases e:F a with
  | none=>rfl
  | some w=>have:=r.dj a w e;rw[h] at this;cases this
 refine⟨λb w e=>?_,λb w e=>?_,r.len,r.val,λi d e1=>?_,r.apart,λb w e=>?_,r.fix⟩
 ·by_cases hb:b=a
  ·subst hb;rw[aX] at e ⊢;exact e
  ·rw[bz hb] at e ⊢;exact r.pr b w e
 ·have hb:b≠a:=λz=>by rw[z,hF] at e;cases e
  rw[bz hb];exact r.fr b w e
 ·obtain⟨b,h1,h2,h3,h4⟩:=r.own i d e1;have hb:b≠a:=λz=>by rw[z,h] at h4;cases h4
  exact⟨b,h1,h2.mono (aH.refl F) (bz hb),h3,by rw[bz hb];exact h4⟩
 ·have hb:b≠a:=λz=>by rw[z,hF] at e;cases e
  rw[bz hb];exact r.dj b w e
theorem Rel.less{C:Cfg}{Pr Pr' F:Hp}{env:Env}{σ:L2.St}{H:Hp}(r:Rel C Pr F env σ H)(s:aH Pr' Pr):Rel C Pr' F env σ H:=
 ⟨s.trans r.pr,r.fr,r.len,r.val,λi d e=>let ⟨b,h1,h2,h3,h4⟩:=r.own i d e;⟨b,h1,h2,h3,s.free h4⟩,r.apart,λb o e=>s.free (r.dj b o e),r.fix⟩
theorem Rel.freeze{C:Cfg}{Pr F:Hp}{env:Env}{σ:L2.St}{H:Hp}(r:Rel C Pr F env σ H){i:Nat}{d:D}(h:env[i]? = some (some (true,d))) :
  ∃(F':Hp) (v:V),Rel C Pr F' (env.set i (some (false,d))) σ H/\aH F F'/\σ[i]? = some (some v)/\Rep C.K F' d v:=by
 obtain⟨a,h1,h2,h3,h4⟩:=r.own i d h;obtain⟨o,ho⟩:=h2.some;have s1:aH F (upd F a o):=kY h3;have hi:i<env.length:=(Qq6.mp h).1;have rep:Rep C.K (upd F a o) d (.ref a):=by
  cases d with
  | lst xs=>obtain⟨z,vs,g1,g2⟩:=h2;rw[ho] at g1;cases g1;exact⟨z,a,vs,rfl,aX,bu.mono s1 _ _ g2⟩
  | dct kvs=>obtain⟨z,ks,g1,g2⟩:=h2;rw[ho] at g1;cases g1;exact⟨z,a,ks,rfl,.inl aX,dw.mono s1 _ _ g2⟩
  | gh kvs=>obtain⟨z,ks,g1,g2⟩:=h2;rw[ho] at g1;cases g1;exact⟨z,a,ks,rfl,.inl aX,cC.mono s1 _ _ g2⟩
  | _=>exact h2.elim
 refine⟨upd F a o,.ref a,⟨r.pr,λb u e=>?_,by rw[Qw8];exact r.len,λj e he=>?_,λj e he=>?_,λj k e f b hj hk g1 g2=>?_,λb u e=>?_,r.fix⟩,s1,h1,rep⟩
 ·by_cases hb:b=a
  ·subst hb;rw[aX] at e;cases e;exact ho
  ·rw[bz hb] at e;exact r.fr b u e
 ·by_cases hj:j=i
  ·subst hj;rw[Qww hi] at he;cases he;exact⟨_,h1,rep⟩
  ·rw[Qq8 (Ne.symm hj)] at he;obtain⟨v,g1,g2⟩:=r.val j e he;exact⟨v,g1,Rep.mono s1 e v g2⟩
 ·by_cases hj:j=i
  ·subst hj;rw[Qww hi] at he;cases he
  ·rw[Qq8 (Ne.symm hj)] at he;obtain⟨b,g1,g2,g3,g4⟩:=r.own j e he;have hb:b≠a:=λz=>hj (r.apart j i e d a he h (by rw[<-z];exact g1) h1);exact⟨b,g1,g2.mono s1 rfl,by rw[bz hb];exact g3,g4⟩
 ·have nj:j≠i:=λz=>by subst z;rw[Qww hi] at hj;cases hj
  have nk:k≠i:=λz=>by subst z;rw[Qww hi] at hk;cases hk
  rw[Qq8 (Ne.symm nj)] at hj;rw[Qq8 (Ne.symm nk)] at hk;exact r.apart j k e f b hj hk g1 g2
 ·by_cases hb:b=a
  ·subst hb;exact h4
  ·rw[bz hb] at e;exact r.dj b u e
def tE(C:Cfg)(ev:Ev):TE:=λσ H Q=>∃(Pr F:Hp) (env env':Env) (d:D),Rel C Pr F env σ H/\ev env = .ok d env'/\
 ∀v H' F',Rel C Pr F' env' σ H'->aH F F'->Rep C.K F' d v->Q v H'
def tRd(C:Cfg)(ev:Ev):TE:=λσ H Q=>∃(Pr F:Hp) (env env':Env) (d:D),Rel C Pr F env σ H/\ev env = .ok d env'/\
 ∀v H' F',Rel C Pr F' env' σ H'->aH F F'->gC C.K F' H' d v->Q v H'
def tT(C:Cfg)(ev:eO):TT:=λσ H Q=>∃(Pr F:Hp) (env env':Env) (b:Bool),Rel C Pr F env σ H/\ev env = .ok b env'/\
 ∀H' F',Rel C Pr F' env' σ H'->aH F F'->Q b H'
def tA(C:Cfg)(ev:dg):TA:=λσ H Q=>∃(Pr F:Hp) (env env':Env) (ds:List D),Rel C Pr F env σ H/\ev env = .ok ds env'/\
 ∀vs H' F',Rel C Pr F' env' σ H'->aH F F'->bu C.K F' ds vs->Q vs H'
def PX(X:Cx)(C:Cfg)(e:Expr)(ev:Ev):Prop:=PE X e (tE C ev)
def Tc(X:Cx)(C:Cfg)(e:Expr)(ev:Ev):Prop:=PE X e (tRd C ev)
def PXT(X:Cx)(C:Cfg)(e:Expr)(ev:eO):Prop:=PT X e (tT C ev)
def Lx(X:Cx)(C:Cfg)(es:List Expr)(ev:dg):Prop:=PA X es (tA C ev)
theorem _root_.L2.PE.imp{X:Cx}{e:Expr}{t t':TE}(h:PE X e t)(i:∀σ H Q,t' σ H Q->t σ H Q):PE X e t':=λpins s σ H Q I q=>h pins s σ H Q I (i σ H Q q)
theorem _root_.L2.PT.imp{X:Cx}{e:Expr}{t t':TT}(h:PT X e t)(i:∀σ H Q,t' σ H Q->t σ H Q):PT X e t':=λpins s σ H Q I q=>h pins s σ H Q I (i σ H Q q)
theorem _root_.L2.PW.imp{X:Cx}{e:Expr}{t t':TT}(h:PW X e t)(i:∀σ H Q,t' σ H Q->t σ H Q):PW X e t':=λwhole pins s σ H Q I q=>h whole pins s σ H Q I (i σ H Q q)
theorem _root_.L2.PA.imp{X:Cx}{e:List Expr}{t t':TA}(h:PA X e t)(i:∀σ H Q,t' σ H Q->t σ H Q):PA X e t':=λpos pins s σ H Q I q=>h pos pins s σ H Q I (i σ H Q q)
theorem _root_.L2.PS.imp{X:Cx}{e:Stmt}{t t':TS}(h:PS X e t)(i:∀D σ H,t' D σ H->t D σ H):PS X e t':=λpins s σ H D I q=>h pins s σ H D I (i D σ H q)
theorem _root_.L2.BZ.imp{X:Cx}{e:List Stmt}{t t':TS}(h:BZ X e t)(i:∀D σ H,t' D σ H->t D σ H):BZ X e t':=λpins s σ H D I q=>h pins s σ H D I (i D σ H q)
noncomputable def bindR{α β:Type}(x:R α)(f:α->Env->R β):R β:=match x with
 | .ok a env=>f a env
 | .stuck=>.stuck
noncomputable def je{α:Type}(o:Option α)(env:Env):R α:=match o with
 | some a=>.ok a env
 | none=>.stuck
theorem aY{α β:Type}{x:R α}{f:α->Env->R β}{b:β}{env':Env}(h:bindR x f = .ok b env'):∃a aG,x = .ok a aG/\f a aG = .ok b env':=by
 cases x with
 | ok a aG=>exact⟨a,aG,rfl,h⟩
 | stuck=>cases h
theorem gb{α:Type}{o:Option α}{env env':Env}{a:α}(h:je o env = .ok a env'):o=some a/\env'=env:=by
 cases o with
 | some b=>cases h;exact⟨rfl,rfl⟩
 | none=>cases h
section
variable{X:Cx}{C:Cfg}{pos:Pos}
noncomputable def aK(i:Nat):Ev:=λenv=>match env[i]? with
 | some (some (false,d))=>.ok d env
 | some (some (true,d))=>.ok d (env.set i (some (false,d)))
 | _=>.stuck
theorem Y7(i:Nat){x:Str}(hN:X.N[i]? = some x)(hv:vZ X.env.scope x)(hd:ju x:=by decide)(hcd:vG x:=by decide):PX X C (.Name x pos) (aK i):=by
 refine(iG hN hv hd hcd).imp λσ H Q h=>?_;obtain⟨Pr,F,env,env',d,r,e,q⟩:=h;unfold aK at e;split at e
 ·rename_i d' hd';cases e;obtain⟨v,h1,h2⟩:=r.val i d hd';exact⟨v,h1,q v H F r (aH.refl F) h2⟩
 ·rename_i d' hd';cases e;obtain⟨F',v,r',s',h1,h2⟩:=r.freeze hd';exact⟨v,h1,q v H F' r' s' h2⟩
 ·cases e
theorem PX.b{e:Expr}{ev:Ev}(h:PX X C e ev):Tc X C e ev:=PE.imp h λσ H Q hq=>by
 obtain⟨Pr,F,env,env',d,r,e,q⟩:=hq;exact⟨Pr,F,env,env',d,r,e,λv H' F' r' s' p'=>q v H' F' r' s' (.inl p')⟩
noncomputable def bf(i:Nat):Ev:=λenv=>match env[i]? with
 | some (some (_,d))=>.ok d env
 | _=>.stuck
theorem Rel.rd{Pr F:Hp}{env:Env}{σ:L2.St}{H:Hp}(r:Rel C Pr F env σ H){i:Nat}{o:Bool}{d:D}(h:env[i]? = some (some (o,d))):∃v,σ[i]? = some (some v)/\gC C.K F H d v:=by
 cases o with
 | true=>obtain⟨a,h1,h2,_⟩:=r.own i d h;exact⟨_,h1,.inr ⟨a,rfl,h2⟩⟩
 | false=>obtain⟨v,h1,h2⟩:=r.val i d h;exact⟨v,h1,.inl h2⟩
theorem Uw(i:Nat){x:Str}(hN:X.N[i]? = some x)(hv:vZ X.env.scope x)(hd:ju x:=by decide)(hcd:vG x:=by decide):Tc X C (.Name x pos) (bf i):=by
 refine(iG hN hv hd hcd).imp λσ H Q h=>?_;obtain⟨Pr,F,env,env',d,r,e,q⟩:=h;unfold bf at e;split at e
 ·rename_i o' d' hd';cases e;obtain⟨v,h1,h2⟩:=r.rd hd';exact⟨v,h1,q v H F r (aH.refl F) h2⟩
 ·cases e
noncomputable def rQ(d:D):Ev:=λenv=>.ok d env
theorem Ze{i:Int}{j:Nat}:PX X C (.Constant (.int i) j pos) (rQ (.int i)):=ZL.imp λσ H Q h=>by
 obtain⟨Pr,F,env,env',d,r,e,q⟩:=h;cases e;exact q _ _ F r (aH.refl F) rfl
theorem adf{b:Bool}{j:Nat}:PX X C (.Constant (.bool b) j pos) (rQ (.bl b)):=adk.imp λσ H Q h=>by
 obtain⟨Pr,F,env,env',d,r,e,q⟩:=h;cases e;exact q _ _ F r (aH.refl F) rfl
theorem Za{j:Nat}:PX X C (.Constant .none j pos) (rQ .non):=ZJ.imp λσ H Q h=>by
 obtain⟨Pr,F,env,env',d,r,e,q⟩:=h;cases e;exact q _ _ F r (aH.refl F) rfl
noncomputable def aj:dg:=λenv=>.ok [] env
noncomputable def aa(a:Ev)(r:dg):dg:=λenv=>bindR (a env) λd aG=>bindR (r aG) λds fK=>.ok (d::ds) fK
theorem Ke:Lx X C [] aj:=nW.imp λσ H Q h=>by
 obtain⟨Pr,F,env,env',d,r,e,q⟩:=h;cases e;exact q _ _ F r (aH.refl F) rfl
theorem Fw{e:Expr}{es:List Expr}{a:Ev}{r:dg}(ha:PX X C e a)(hr:Lx X C es r)(hs:starEach (e::es) X.env=(false,eval e X.env)::starEach es X.env:=by rfl):Lx X C (e::es) (aa a r):=
 (gw ha hr hs).imp λσ H Q h=>by
  obtain⟨Pr,F,env,env',ds,rl,e,q⟩:=h;obtain⟨d1,aG,e1,e2⟩:=aY e;obtain⟨ds2,fK,e3,e4⟩:=aY e2;cases e4;refine⟨Pr,F,env,aG,d1,rl,e1,λv H1 F1 r1 s1 p1=>?_⟩;refine⟨Pr,F1,aG,env',ds2,r1,e3,λvs H2 F2 r2 s2 p2=>?_⟩;exact q _ H2 F2 r2 (s1.trans s2) ⟨v,vs,rfl,Rep.mono s2 d1 v p1,p2⟩
noncomputable def bN(r:dg):Ev:=λenv=>bindR (r env) λds aG=>if ds.length<=sizeLine then .ok (.tup ds) aG else .stuck
noncomputable def cu(r:dg):Ev:=λenv=>bindR (r env) λds aG=>if ds.length<=sizeLine then .ok (.lst ds) aG else .stuck
noncomputable def aF(g:D->D->Option D)(a b:Ev):Ev:=λenv=>bindR (a env) λx aG=>bindR (b aG) λy fK=>je (g x y) fK
noncomputable def oX(g:D->Option D)(a:Ev):Ev:=λenv=>bindR (a env) λx aG=>je (g x) aG
def oU(C:Cfg)(r:R2)(g:D->D->Option D):Prop:=∀(Pr F:Hp) (env:Env) (σ:L2.St) (H:Hp) (x y d:D) (vx vy:V) (Q:VK),Rel C Pr F env σ H->gC C.K F H x vx->gC C.K F H y vy->g x y=some d->
 (∀v H' F',Rel C Pr F' env σ H'->aH F F'->Rep C.K F' d v->Q v H')->r vx vy H Q
theorem DN{r:R2}{g:D->D->Option D}{a b:Ev}(o:oU C r g)(σ:L2.St)(H:Hp)(Q:VK)(h:tE C (aF g a b) σ H Q):TX r (tE C a) (tRd C b) σ H Q:=by obtain⟨Pr,F,env,env',d,rl,e,q⟩:=h;obtain⟨x,aG,e1,e2⟩:=aY e;obtain⟨y,fK,e3,e4⟩:=aY e2;obtain⟨e5,rfl⟩:=gb e4;refine⟨Pr,F,env,aG,x,rl,e1,λvx H1 F1 r1 s1 p1=>⟨Pr,F1,aG,env',y,r1,e3,λvy H2 F2 r2 s2 p2=>?_⟩⟩;exact o Pr F2 env' σ H2 x y d vx vy Q r2 (.inl (Rep.mono s2 x vx p1)) p2 e5 λv H3 F3 r3 s3 p3=>q v H3 F3 r3 ((s1.trans s2).trans s3) p3
noncomputable def az(g:D->D->Option D)(i:Nat)(b:Ev):Ev:=λenv=>match env[i]? with
 | some (some (_,_))=>bindR (b env) λy fK=>(match fK[i]? with
  | some (some (_,x))=>je (g x y) fK
  | _=>.stuck)
 | _=>.stuck
theorem qu{r:R2}{g:D->D->Option D}{i:Nat}{b:Ev}(o:oU C r g)(σ:L2.St)(H:Hp)(Q:VK)(h:tE C (az g i b) σ H Q):TX r (acv i) (tRd C b) σ H Q:=by
 obtain⟨Pr,F,env,env',d,rl,e,q⟩:=h;unfold az at e;split at e
 ·rename_i o0 d0 h0;obtain⟨v,hv,_⟩:=rl.rd h0;obtain⟨y,fK,e1,e2⟩:=aY e;split at e2
  ·rename_i o2 x h2;obtain⟨e5,rfl⟩:=gb e2;refine⟨v,hv,Pr,F,env,env',y,rl,e1,λvy H2 F2 r2 s2 p2=>?_⟩;obtain⟨v',hv',p⟩:=r2.rd h2;rw[hv] at hv';cases hv';exact o Pr F2 env' σ H2 x y d v vy Q r2 p p2 e5 λv H3 F3 r3 s3 p3=>q v H3 F3 r3 (s2.trans s3) p3
  ·cases e2
 ·cases e
theorem ada{op:Operator}{r:R2}{g:D->D->Option D}{x y:Expr}{a b:Ev}(ho:mD X (binaryOp op) r)(o:oU C r g)(ha:PX X C x a)(hb:Tc X C y b):PX X C (.BinOp x op y pos) (aF g a b):=
 (Xr ho ha hb).imp (DN o)
theorem Y9{op:Operator}{r:R2}{g:D->D->Option D}{y:Expr}{b:Ev}{px:Pos}(i:Nat){x:Str}(hN:X.N[i]? = some x)(hv:vZ X.env.scope x)(ho:mD X (binaryOp op) r)(o:oU C r g)(hb:Tc X C y b)
  (hd:ju x:=by decide) (hcd:vG x:=by decide):PX X C (.BinOp (.Name x px) op y pos) (az g i b):=
 (Xr ho (iG hN hv hd hcd) hb).imp (qu o)
theorem Zg{op:CmpOp}{r:R2}{g:D->D->Option D}{x y:Expr}{a b:Ev}(ho:mD X (compareOp op) r)(o:oU C r g)(ha:PX X C x a)(hb:Tc X C y b)(hm:behindInMarks op y=false):PX X C (.Compare x [op] [y] pos) (aF g a b):=
 (Kp ho ha hb hm).imp (DN o)
noncomputable def eY(a:Ev):eO:=λenv=>bindR (a env) λd aG=>match d with
 | .bl b=>.ok b aG
 | _=>.stuck
theorem Pa{a:Ev}{σ:L2.St}{H:Hp}{Q:Bool->Hp->Prop}(h:tT C (eY a) σ H Q):tE C a σ H λx H'=>∃k,x = .bl k/\Q k H':=by
 obtain⟨Pr,F,env,env',b,rl,e,q⟩:=h;obtain⟨d,aG,e1,e2⟩:=aY e;refine⟨Pr,F,env,aG,d,rl,e1,λv H1 F1 r1 s1 p1=>?_⟩;cases d with
 | bl c=>cases e2;exact⟨_,p1,q H1 F1 r1 s1⟩
 | _=>cases e2
theorem Ul{op:CmpOp}{r:R2}{g:D->D->Option D}{x y:Expr}{a b:Ev}(ho:mD X (compareOp op) r)(o:oU C r g)(ha:PX X C x a)(hb:Tc X C y b)(hm:behindInMarks op y=false):PXT X C (.Compare x [op] [y] pos) (eY (aF g a b)):=
 (Kl ho ha hb hm).imp λσ H Q h=>by
  have h1:=Pa h;exact DN o σ H _ h1
noncomputable def pU(a:eO):eO:=λenv=>bindR (a env) λb aG=>.ok (!b) aG
noncomputable def lC(a b:eO):eO:=λenv=>bindR (a env) λc aG=>if c=true then b aG else .ok false aG
noncomputable def wI(a b:eO):eO:=λenv=>bindR (a env) λc aG=>if c=true then .ok true aG else b aG
def PXW(X:Cx)(C:Cfg)(e:Expr)(ev:eO):Prop:=PW X e (tT C ev)
theorem PXW.pt{e:Expr}{a:eO}(h:PXW X C e a):PXT X C e a:=PW.pt h
noncomputable def qJ(a b:Ev):Ev:=λenv=>bindR (a env) λc aG=>match c with
 | .bl true=>b aG
 | .bl false=>.ok (.bl false) aG
 | _=>.stuck
noncomputable def Dw(a b:Ev):Ev:=λenv=>bindR (a env) λc aG=>match c with
 | .bl true=>.ok (.bl true) aG
 | .bl false=>b aG
 | _=>.stuck
end
noncomputable def uC(f:D->D->Option Bool):List D->List D->Option Bool
 | [],[]=>some true
 | x::xs,y::ys=>match f x y,uC f xs ys with
  | some a,some b=>some (a&&b)
  | _,_=>none
 | [],_::_=>some false
 | _::_,[]=>some false
noncomputable def aZ:Nat->D->D->Option Bool
 | 0,_,_=>none
 | n+1,.tup xs,.tup ys=>uC (aZ n) xs ys
 | n+1,.lst xs,.lst ys=>uC (aZ n) xs ys
 | _+1,.dct _,_=>none
 | _+1,.gh _,_=>none
 | _+1,.clo _ _,_=>none
 | _+1,_,.dct _=>none
 | _+1,_,.gh _=>none
 | _+1,_,.clo _ _=>none
 | _+1,.arr _,_=>none
 | _+1,_,.arr _=>none
 | _+1,.non,.non=>some true
 | _+1,.bl a,.bl b=>some (a == b)
 | _+1,.bl a,.int b=>some ((if a then 1 else 0) == b)
 | _+1,.int a,.bl b=>some (a == (if b then 1 else 0))
 | _+1,.int a,.int b=>some (a == b)
 | _+1,.str a,.str b=>some (a == b)
 | _+1,_,_=>some false
mutual
noncomputable def Sh(h:Heap):D->Value->Prop
 | .non,u=>u = .none
 | .bl b,u=>u = .bool b
 | .int i,u=>∃t,u = .int i t
 | .str x,u=>∃t,u = .str (strOf x) t
 | .tup xs,u=>∃a its,u = .ref a/\IsTup h a its.toArray/\kW h xs its
 | .lst xs,u=>∃a its,u = .ref a/\PlainL h a its.toArray/\kW h xs its
 | .arr xs,u=>∃a its,u = .ref a/\PlainL h a its.toArray/\kW h xs its
 | .dct _,u=>∃a o,u = .ref a/\h.get? a=some o/\o.ExactDict
 | .gh _,u=>∃a o,u = .ref a/\h.get? a=some o/\o.ExactDict
 | .clo _ _,u=>∃a,u = .ref a
noncomputable def kW(h:Heap):List D->List Value->Prop
 | [],us=>us=[]
 | d::ds,us=>∃u r,us=u::r/\Sh h d u/\kW h ds r
end
theorem kW.length{h:Heap}:∀{ds:List D} {us:List Value},kW h ds us->us.length=ds.length
 | [],_,e=>by cases e;rfl
 | d::ds,us,e=>by obtain⟨u,r,rfl,_,h2⟩:=e;rw[Qqw,Qqw,h2.length]
section
variable{X:Cx}{pins:List (Addr×Obj)}{σ:L2.St}{H:Hp}{s:Shared}
mutual
theorem Rep.sh(I:Inv X pins σ H s):∀(d:D) (v:V) (u:Value),Rep X.K H d v->RelV v u->Sh s.heap d u
 | .non,_,_,h,r=>by cases h;exact r
 | .bl _,_,_,h,r=>by cases h;exact r
 | .int _,_,_,h,r=>by cases h;exact r
 | .str _,_,_,h,r=>by obtain⟨h,_⟩:=h;cases h;exact r
 | .tup xs,v,u,h,r=>by
  obtain⟨z,a,vs,rfl,h1,h2⟩:=h;cases r;obtain⟨its,rv,p,_⟩:=I.tuple h1;exact⟨a,its,rfl,p,bu.sh I xs vs its h2 rv⟩
 | .lst xs,v,u,h,r=>by
  obtain⟨z,a,vs,rfl,h1,h2⟩:=h;cases r;obtain⟨its,rv,p,_⟩:=I.list (jX.of h1);exact⟨a,its,rfl,p,bu.sh I xs vs its h2 rv⟩
 | .arr xs,v,u,h,r=>by
  obtain⟨z,a,vs,rfl,h1,h2⟩:=h;cases r;obtain⟨its,rv,p,_⟩:=I.list h1;exact⟨a,its,rfl,p,bu.sh I xs vs its h2 rv⟩
 | .dct kvs,v,u,h,r=>by
  obtain⟨z,a,ks,rfl,h1,h2⟩:=h;cases r;obtain⟨_,_,vs,_,o,_,_,e,ex,_⟩:=h1.ok I.hok;exact⟨a,o,rfl,e,ex⟩
 | .gh kvs,v,u,h,r=>by
  obtain⟨z,a,ks,rfl,h1,h2⟩:=h;cases r;obtain⟨_,_,vs,_,o,_,_,e,ex,_⟩:=h1.ok I.hok;exact⟨a,o,rfl,e,ex⟩
 | .clo st ds,v,u,h,r=>by
  obtain⟨a,vs,rfl,h1,h2⟩:=h;cases r;exact⟨a,rfl⟩
theorem bu.sh(I:Inv X pins σ H s):∀(ds:List D) (vs:List V) (us:List Value),bu X.K H ds vs->Vals vs us->kW s.heap ds us
 | [],_,_,h,r=>by cases h;cases r;exact rfl
 | d::ds,vs,us,h,r=>by
  obtain⟨v,rr,rfl,h1,h2⟩:=h;cases r with
  | cons q qs=>exact⟨_,_,rfl,Rep.sh I d v _ h1 q,bu.sh I ds rr _ h2 qs⟩
end
end
theorem J6{h:Heap}{a:Addr}{xs ys:Array Value}(p:IsTup h a xs)(q:IsTup h a ys):xs=ys:=by obtain⟨o,e,_,n,d⟩:=p;obtain⟨o',e',_,n',d'⟩:=q;rw[e] at e';cases e';rw[d] at d';cases d';rfl
theorem Kw{h:Heap}{a:Addr}{xs ys:Array Value}(p:PlainL h a xs)(q:PlainL h a ys):xs=ys:=by obtain⟨o,e,_,n,d⟩:=p.isList;obtain⟨o',e',_,n',d'⟩:=q.isList;rw[e] at e';cases e';rw[d] at d';cases d';rfl
theorem xA{h:Heap}{a:Addr}{xs ys:Array Value}(p:IsTup h a xs)(q:PlainL h a ys):False:=by obtain⟨o,e,c,n,d⟩:=p;obtain⟨o',e',c',n',d'⟩:=q.isList;rw[e] at e';cases e';rw[c] at c';simp at c'
theorem zp{h:Heap}:∀(n:Nat) (d e:D) (u:Value) (b:Bool),Sh h d u->Sh h e u->aZ n d e=some b->b=true
 | 0,_,_,_,_,_,_,hb=>by simp[aZ] at hb
 | n+1,d,e,u,b,hd,he,hb=>by
  have all:∀(xs ys:List D) (us:List Value) (b:Bool),kW h xs us->kW h ys us->uC (aZ n) xs ys=some b->b=true:=by
   intro xs
   induction xs with
   | nil=>
    intro ys us b h1 h2 hb;cases h1;cases ys with
    | nil=>simp[uC] at hb;exact hb
    | cons y ys=>obtain⟨u,r,q,_⟩:=h2;cases q
   | cons x xs ih=>
    intro ys us b h1 h2 hb;obtain⟨u,r,rfl,h3,h4⟩:=h1;cases ys with
    | nil=>cases h2
    | cons y ys=>
     obtain⟨u',r',q,h5,h6⟩:=h2;cases q;unfold uC at hb;cases q1:aZ n x y with
     | none=>rw[q1] at hb;simp at hb
     | some c=>
      cases q2:uC (aZ n) xs ys with
      | none=>rw[q1,q2] at hb;simp at hb
      | some c'=>
       rw[q1,q2] at hb;have e1:=zp n x y u c h3 h5 q1;have e2:=ih ys r c' h4 h6 q2;subst e1 e2;simp at hb;exact hb
  cases d with
  | non=>cases hd;cases e<;>simp[Sh] at he;simp[aZ] at hb;exact hb
  | bl c=>cases hd;cases e<;>simp[Sh] at he;subst he;simp[aZ] at hb;exact hb
  | int i=>obtain⟨t,rfl⟩:=hd;cases e<;>simp[Sh] at he;subst he;simp[aZ] at hb;exact hb
  | str x=>
   obtain⟨t,rfl⟩:=hd;cases e with
   | str y=>
    obtain⟨t',q⟩:=he;injection q with q1 _
    unfold strOf at q1;injection q1 with q2
    have q3:=Qxz Array.toList q2;simp at q3;subst q3;simp[aZ] at hb;exact hb
   | _=>simp[Sh] at he
  | tup xs=>
   obtain⟨a,its,rfl,p,hs⟩:=hd;cases e with
   | tup ys=>
    obtain⟨a',its',q,p',hs'⟩:=he;cases q;have e2:its=its':=by simpa using J6 p p'
    subst e2;exact all xs ys its b hs hs' (by simpa only[aZ] using hb)
   | lst ys=>
    obtain⟨a',its',q,p',hs'⟩:=he;cases q;exact(xA p p').elim
   | dct kvs=>simp[aZ] at hb
   | gh kvs=>simp[aZ] at hb
   | clo _ _=>simp[aZ] at hb
   | arr kvs=>simp[aZ] at hb
   | _=>simp[Sh] at he
  | lst xs=>
   obtain⟨a,its,rfl,p,hs⟩:=hd;cases e with
   | lst ys=>
    obtain⟨a',its',q,p',hs'⟩:=he;cases q;have e2:its=its':=by simpa using Kw p p'
    subst e2;exact all xs ys its b hs hs' (by simpa only[aZ] using hb)
   | tup ys=>
    obtain⟨a',its',q,p',hs'⟩:=he;cases q;exact(xA p' p).elim
   | dct kvs=>simp[aZ] at hb
   | gh kvs=>simp[aZ] at hb
   | clo _ _=>simp[aZ] at hb
   | arr kvs=>simp[aZ] at hb
   | _=>simp[Sh] at he
  | dct kvs=>cases e<;>simp[aZ] at hb
  | gh kvs=>cases e<;>simp[aZ] at hb
  | clo _ _=>cases e<;>simp[aZ] at hb
  | arr kvs=>cases e<;>simp[aZ] at hb
theorem Le{h:Heap}:∀(n:Nat) (d d' e:D) (u:Value) (b b':Bool),Sh h d u->Sh h d' u->aZ n d e=some b->aZ n d' e=some b'->b=b'
 | 0,_,_,_,_,_,_,_,_,hb,_=>by simp[aZ] at hb
 | n+1,d,d',e,u,b,b',hd,hd',hb,hb'=>by
  have all:∀(xs xs' ys:List D) (us:List Value) (b b':Bool),kW h xs us->kW h xs' us->uC (aZ n) xs ys=some b->uC (aZ n) xs' ys=some b'->b=b':=by
   intro xs
   induction xs with
   | nil=>
    intro xs' ys us b b' h1 h2 hb hb';cases h1;cases xs' with
    | nil=>rw[hb] at hb';exact Qw1 hb'
    | cons y ys=>obtain⟨u,r,q,_⟩:=h2;cases q
   | cons x xs ih=>
    intro xs' ys us b b' h1 h2 hb hb';obtain⟨u,r,rfl,h3,h4⟩:=h1;cases xs' with
    | nil=>cases h2
    | cons x' xs'=>
     obtain⟨u',r',q,h5,h6⟩:=h2;cases q;cases ys with
     | nil=>simp[uC] at hb hb';rw[hb,hb']
     | cons y ys=>
      unfold uC at hb hb';cases q1:aZ n x y with
      | none=>rw[q1] at hb;simp at hb
      | some c=>
       cases q2:uC (aZ n) xs ys with
       | none=>rw[q1,q2] at hb;simp at hb
       | some c2=>
        cases q3:aZ n x' y with
        | none=>rw[q3] at hb';simp at hb'
        | some c3=>
         cases q4:uC (aZ n) xs' ys with
         | none=>rw[q3,q4] at hb';simp at hb'
         | some c4=>
          rw[q1,q2] at hb;rw[q3,q4] at hb';have e1:=Le n x x' y u c c3 h3 h5 q1 q3;have e2:=ih xs' ys r c2 c4 h4 h6 q2 q4;subst e1 e2;simp at hb hb';rw[<-hb,<-hb']
  cases d with
  | non=>cases hd;cases d'<;>simp[Sh] at hd';rw[hb] at hb';exact Qw1 hb'
  | bl c=>cases hd;cases d'<;>simp[Sh] at hd';subst hd';rw[hb] at hb';exact Qw1 hb'
  | int i=>obtain⟨t,rfl⟩:=hd;cases d'<;>simp[Sh] at hd';subst hd';rw[hb] at hb';exact Qw1 hb'
  | str x=>
   obtain⟨t,rfl⟩:=hd;cases d' with
   | str y=>
    obtain⟨t',q⟩:=hd';injection q with q1 _
    unfold strOf at q1;injection q1 with q2
    have q3:=Qxz Array.toList q2;simp at q3;subst q3;rw[hb] at hb';exact Qw1 hb'
   | _=>simp[Sh] at hd'
  | tup xs=>
   obtain⟨a,its,rfl,p,hs⟩:=hd;cases d' with
   | tup xs'=>
    obtain⟨a',its',q,p',hs'⟩:=hd';cases q;have e2:its=its':=by simpa using J6 p p'
    subst e2;cases e with
    | tup ys=>exact all xs xs' ys its b b' hs hs' (by simpa only[aZ] using hb) (by simpa only[aZ] using hb')
    | _=>first|(simp[aZ] at hb;done)|(simp only[aZ,Qw7] at hb hb';rw[<-hb,<-hb'])
   | lst ys=>
    obtain⟨a',its',q,p',hs'⟩:=hd';cases q;exact(xA p p').elim
   | dct kvs=>cases e<;>simp[aZ] at hb'
   | gh kvs=>cases e<;>simp[aZ] at hb'
   | clo _ _=>cases e<;>simp[aZ] at hb'
   | arr kvs=>cases e<;>simp[aZ] at hb'
   | _=>simp[Sh] at hd'
  | lst xs=>
   obtain⟨a,its,rfl,p,hs⟩:=hd;cases d' with
   | lst xs'=>
    obtain⟨a',its',q,p',hs'⟩:=hd';cases q;have e2:its=its':=by simpa using Kw p p'
    subst e2;cases e with
    | lst ys=>exact all xs xs' ys its b b' hs hs' (by simpa only[aZ] using hb) (by simpa only[aZ] using hb')
    | _=>first|(simp[aZ] at hb;done)|(simp only[aZ,Qw7] at hb hb';rw[<-hb,<-hb'])
   | tup ys=>
    obtain⟨a',its',q,p',hs'⟩:=hd';cases q;exact(xA p' p).elim
   | dct kvs=>cases e<;>simp[aZ] at hb'
   | gh kvs=>cases e<;>simp[aZ] at hb'
   | clo _ _=>cases e<;>simp[aZ] at hb'
   | arr kvs=>cases e<;>simp[aZ] at hb'
   | _=>simp[Sh] at hd'
  | dct kvs=>cases e<;>simp[aZ] at hb
  | gh kvs=>cases e<;>simp[aZ] at hb
  | clo _ _=>cases e<;>simp[aZ] at hb
  | arr kvs=>cases e<;>simp[aZ] at hb
theorem uT(x y:List Nat):(strOf x == strOf y)=(x == y):=by
 rw[Qky];simp only[beq_iff_eq];constructor
 ·intro e;unfold strOf at e;injection e with e
  simpa using Qxz Array.toList e
 ·intro e;rw[e]
theorem xJ:∀{f:D->D->Option Bool} {xs ys:List D},xs.length≠ys.length->∀b,uC f xs ys=some b->b=false
 | f,[],[],h,b,e=>absurd rfl h
 | f,[],_::_,_,b,e=>by simp[uC] at e;exact e
 | f,_::_,[],_,b,e=>by simp[uC] at e;exact e
 | f,x::xs,y::ys,h,b,e=>by
  unfold uC at e;cases h1:f x y with
  | none=>rw[h1] at e;simp at e
  | some c=>
   cases h2:uC f xs ys with
   | none=>rw[h1,h2] at e;simp at e
   | some d=>
    rw[h1,h2] at e;have:=xJ (f:=f) (xs:=xs) (ys:=ys) (by simpa using h) d h2;subst this;simp at e;exact e
theorem rH:∀{f:D->D->Option Bool} (xs ys:List D) (b:Bool),uC f xs ys=some b->∃e:Nat->Bool,(∀(j:Nat) (x y:D),xs[j]? = some x->ys[j]? = some y->f x y=some (e j))/\b=((List.range (min xs.length ys.length)).all e&&xs.length == ys.length)
 | f,[],ys,b,h=>by
  refine⟨λ_=>true,λj x y hx=>by simp at hx,?_⟩;cases ys with
  | nil=>simp[uC] at h;simp[h.symm]
  | cons y ys=>simp[uC] at h;simp[h.symm]
 | f,x::xs,[],b,h=>by
  refine⟨λ_=>true,λj x y _ hy=>by simp at hy,?_⟩;simp[uC] at h;simp[h.symm]
 | f,x::xs,y::ys,b,h=>by
  unfold uC at h;cases h1:f x y with
  | none=>rw[h1] at h;simp at h
  | some c=>
   cases h2:uC f xs ys with
   | none=>rw[h1,h2] at h;simp at h
   | some d=>
    rw[h1,h2] at h;obtain⟨e,he,hd⟩:=rH xs ys d h2;refine⟨λj=>match j with|0=>c|j+1=>e j,λj x' y' hx hy=>?_,?_⟩
    ·cases j with
     | zero=>simp at hx hy;subst hx hy;exact h1
     | succ j=>exact he j x' y' (by simpa using hx) (by simpa using hy)
    ·have hb:b=(c&&d):=by simpa using h.symm
     have hm:min (x::xs).length (y::ys).length=min xs.length ys.length+1:=by simp only[Qqw];omega
     rw[hb,hd,hm,List.range_succ_eq_map,List.all_cons,List.all_map,Bool.and_assoc];have hl:((x::xs).length == (y::ys).length)=(xs.length == ys.length):=by simp
     rw[hl]
     rfl
theorem lN{h:Heap}:∀{ds:List D} {us:List Value} {j:Nat} {u:Value},kW h ds us->us[j]? = some u->∃d,ds[j]? = some d/\Sh h d u
 | [],_,_,_,e,g=>by cases e;simp at g
 | d::ds,us,j,u,e,g=>by
  obtain⟨v,r,rfl,h1,h2⟩:=e;cases j with
  | zero=>simp at g;subst g;exact⟨d,rfl,h1⟩
  | succ j=>obtain⟨c,e1,e2⟩:=lN h2 (j:=j) (by simpa using g);exact⟨c,by simpa using e1,e2⟩
theorem pW:∀(n:Nat) (d e:D) (u v:Value) (b:Bool) (A:Around) (s:Shared),Sh s.heap d u->Sh s.heap e v->aZ n d e=some b->A.units+n<cLine->SeqAt.EqAt A s u v b
 | 0,_,_,_,_,_,_,_,_,_,h,_=>by simp[aZ] at h
 | n+1,d,e,u,v,b,A,s,hd,he,h,hu=>by
  have hu0:A.units<cLine:=by omega
  have hin:A.in1.units+n<cLine:=by show A.units+1+n<cLine;omega
  cases d with
  | non=>
   cases hd;cases e with
   | non=>cases he;simp[aZ] at h;subst h;exact SeqAt.EqAt.same _
   | bl c=>cases he;simp[aZ] at h;subst h;exact SeqAt.EqAt.none_bool c
   | int i=>obtain⟨t,rfl⟩:=he;simp[aZ] at h;subst h;exact SeqAt.EqAt.none_int i t
   | str x=>obtain⟨t,rfl⟩:=he;simp[aZ] at h;subst h;exact SeqAt.EqAt.none_str _ t
   | tup ys=>obtain⟨a,its,rfl,p,_⟩:=he;simp[aZ] at h;subst h;exact SeqAt.EqAt.none_tuple p hu0
   | lst ys=>obtain⟨a,its,rfl,p,_⟩:=he;simp[aZ] at h;subst h;exact SeqAt.EqAt.none_list p.isList hu0
   | dct kvs=>simp[aZ] at h
   | gh kvs=>simp[aZ] at h
   | clo _ _=>simp[aZ] at h
   | arr kvs=>simp[aZ] at h
  | bl c=>
   cases hd;cases e with
   | non=>cases he;simp[aZ] at h;subst h;exact SeqAt.EqAt.bool_none c
   | bl c'=>cases he;simp only[aZ,Qw7] at h;subst h;exact SeqAt.EqAt.bool_bool c c'
   | int i=>obtain⟨t,rfl⟩:=he;simp only[aZ,Qw7] at h;subst h;exact SeqAt.EqAt.bool_int c i t
   | str x=>obtain⟨t,rfl⟩:=he;simp[aZ] at h;subst h;exact SeqAt.EqAt.bool_str c _ t
   | tup ys=>obtain⟨a,its,rfl,p,_⟩:=he;simp[aZ] at h;subst h;exact SeqAt.EqAt.bool_tuple c p hu0
   | lst ys=>obtain⟨a,its,rfl,p,_⟩:=he;simp[aZ] at h;subst h;exact SeqAt.EqAt.bool_list c p.isList hu0
   | dct kvs=>simp[aZ] at h
   | gh kvs=>simp[aZ] at h
   | clo _ _=>simp[aZ] at h
   | arr kvs=>simp[aZ] at h
  | int i=>
   obtain⟨t',rfl⟩:=hd;cases e with
   | non=>cases he;simp[aZ] at h;subst h;exact SeqAt.EqAt.int_none i t'
   | bl c'=>cases he;simp only[aZ,Qw7] at h;subst h;exact SeqAt.EqAt.int_bool i t' c'
   | int j=>obtain⟨t,rfl⟩:=he;simp only[aZ,Qw7] at h;subst h;exact SeqAt.EqAt.int_int i t' j t
   | str x=>obtain⟨t,rfl⟩:=he;simp[aZ] at h;subst h;exact SeqAt.EqAt.int_str i t' _ t
   | tup ys=>obtain⟨a,its,rfl,p,_⟩:=he;simp[aZ] at h;subst h;exact SeqAt.EqAt.int_tuple i t' p hu0
   | lst ys=>obtain⟨a,its,rfl,p,_⟩:=he;simp[aZ] at h;subst h;exact SeqAt.EqAt.int_list i t' p.isList hu0
   | dct kvs=>simp[aZ] at h
   | gh kvs=>simp[aZ] at h
   | clo _ _=>simp[aZ] at h
   | arr kvs=>simp[aZ] at h
  | str x=>
   obtain⟨t',rfl⟩:=hd;cases e with
   | non=>cases he;simp[aZ] at h;subst h;exact SeqAt.EqAt.str_none _ t'
   | bl c'=>cases he;simp[aZ] at h;subst h;exact SeqAt.EqAt.str_bool _ t' c'
   | int j=>obtain⟨t,rfl⟩:=he;simp[aZ] at h;subst h;exact SeqAt.EqAt.str_int _ t' j t
   | str y=>obtain⟨t,rfl⟩:=he;simp only[aZ,Qw7] at h;subst h;rw[<-uT];exact SeqAt.EqAt.str_str _ t' _ t
   | tup ys=>obtain⟨a,its,rfl,p,_⟩:=he;simp[aZ] at h;subst h;exact SeqAt.EqAt.str_tuple _ t' p hu0
   | lst ys=>obtain⟨a,its,rfl,p,_⟩:=he;simp[aZ] at h;subst h;exact SeqAt.EqAt.str_list _ t' p.isList hu0
   | dct kvs=>simp[aZ] at h
   | gh kvs=>simp[aZ] at h
   | clo _ _=>simp[aZ] at h
   | arr kvs=>simp[aZ] at h
  | tup xs=>
   obtain⟨a,its,rfl,p,hs⟩:=hd;cases e with
   | non=>cases he;simp[aZ] at h;subst h;exact SeqAt.EqAt.tuple_none p hu0
   | bl c'=>cases he;simp[aZ] at h;subst h;exact SeqAt.EqAt.tuple_bool c' p hu0
   | int j=>obtain⟨t,rfl⟩:=he;simp[aZ] at h;subst h;exact SeqAt.EqAt.tuple_int j t p hu0
   | str y=>obtain⟨t,rfl⟩:=he;simp[aZ] at h;subst h;exact SeqAt.EqAt.tuple_str _ t p hu0
   | tup ys=>
    obtain⟨a',its',rfl,p',hs'⟩:=he;by_cases haa:a=a'
    ·subst haa;have:=zp (n+1) (.tup xs) (.tup ys) (.ref a) b ⟨a,its,rfl,p,hs⟩ ⟨a,its',rfl,p',hs'⟩ h;subst this;exact SeqAt.EqAt.same _
    ·simp only[aZ] at h;obtain⟨f,hf,hb⟩:=rH xs ys b h;have l1:=hs.length;have l2:=hs'.length;refine SeqAt.EqAt.of_refs haa ?_;have:=SeqAt.RcAt.tuples (e:=f) p p' hu0 λj h1 h2=>?_
     ·rw[hb];simp only[Qq3] at this;rw[l1,l2] at this;exact this
     ·have g1:its[j]? = some its.toArray[j]:=by simp at h1 ⊢
      have g2:its'[j]? = some its'.toArray[j]:=by simp at h2 ⊢
      obtain⟨x,q1,q2⟩:=lN hs g1;obtain⟨y,q3,q4⟩:=lN hs' g2;exact pW n x y _ _ _ A.in1 s q2 q4 (hf j x y q1 q3) hin
   | lst ys=>obtain⟨a',its',rfl,p',_⟩:=he;simp[aZ] at h;subst h;exact SeqAt.EqAt.tuple_list p p'.isList hu0
   | dct kvs=>simp[aZ] at h
   | gh kvs=>simp[aZ] at h
   | clo _ _=>simp[aZ] at h
   | arr kvs=>simp[aZ] at h
  | lst xs=>
   obtain⟨a,its,rfl,p,hs⟩:=hd;cases e with
   | non=>cases he;simp[aZ] at h;subst h;exact SeqAt.EqAt.list_none p.isList hu0
   | bl c'=>cases he;simp[aZ] at h;subst h;exact SeqAt.EqAt.list_bool c' p.isList hu0
   | int j=>obtain⟨t,rfl⟩:=he;simp[aZ] at h;subst h;exact SeqAt.EqAt.list_int j t p.isList hu0
   | str y=>obtain⟨t,rfl⟩:=he;simp[aZ] at h;subst h;exact SeqAt.EqAt.list_str _ t p.isList hu0
   | lst ys=>
    obtain⟨a',its',rfl,p',hs'⟩:=he;have l1:=hs.length;have l2:=hs'.length;by_cases haa:a=a'
    ·subst haa;have:=zp (n+1) (.lst xs) (.lst ys) (.ref a) b ⟨a,its,rfl,p,hs⟩ ⟨a,its',rfl,p',hs'⟩ h;subst this;exact SeqAt.EqAt.same _
    ·simp only[aZ] at h;refine SeqAt.EqAt.of_refs haa ?_;by_cases hl:xs.length=ys.length
     ·obtain⟨f,hf,hb⟩:=rH xs ys b h;have:=SeqAt.RcAt.lists (e:=f) p.isList p'.isList (by simp only[Qq3];omega) hu0 λj h1 h2=>?_
      ·rw[hb,<-hl,Nat.min_self,beq_self_eq_true,Bool.and_true,<-l1];simp only[Qq3] at this;exact this
      ·have g1:its[j]? = some its.toArray[j]:=by simp at h1 ⊢
       have g2:its'[j]? = some its'.toArray[j]:=by simp at h2 ⊢
       obtain⟨x,q1,q2⟩:=lN hs g1;obtain⟨y,q3,q4⟩:=lN hs' g2;exact pW n x y _ _ _ A.in1 s q2 q4 (hf j x y q1 q3) hin
     ·have:=xJ hl b h;subst this;exact SeqAt.RcAt.lists_lengths p.isList p'.isList (by simp only[Qq3];rw[l1,l2];simpa using hl) hu0
   | tup ys=>obtain⟨a',its',rfl,p',_⟩:=he;simp[aZ] at h;subst h;exact SeqAt.EqAt.list_tuple p.isList p' hu0
   | dct kvs=>simp[aZ] at h
   | gh kvs=>simp[aZ] at h
   | clo _ _=>simp[aZ] at h
   | arr kvs=>simp[aZ] at h
  | dct kvs=>cases e<;>simp[aZ] at h
  | gh kvs=>cases e<;>simp[aZ] at h
  | clo _ _=>cases e<;>simp[aZ] at h
  | arr kvs=>cases e<;>simp[aZ] at h
theorem tR(n:Nat)(its its':List Value)(xs ys:List D)(f:Nat->Bool)(A:Around)(s:Shared)(hs:kW s.heap xs its)(hs':kW s.heap ys its')(hf:∀(j:Nat) (x y:D),xs[j]? = some x->ys[j]? = some y->aZ n x y=some (f j))(hin:A.in1.units+n<cLine)
  (j:Nat) (h1:j<its.toArray.size) (h2:j<its'.toArray.size):SeqAt.EqAt A.in1 s its.toArray[j] its'.toArray[j] (f j):=by
 have g1:its[j]? = some its.toArray[j]:=by simp at h1 ⊢
 have g2:its'[j]? = some its'.toArray[j]:=by simp at h2 ⊢
 obtain⟨x,q1,q2⟩:=lN hs g1;obtain⟨y,q3,q4⟩:=lN hs' g2;exact pW n x y _ _ _ A.in1 s q2 q4 (hf j x y q1 q3) hin
theorem acQ(n:Nat)(d e:D)(u v:Value)(b:Bool)(A:Around)(s:Shared)(hd:Sh s.heap d u)(he:Sh s.heap e v)(h:aZ (n+1) d e=some b)(hu:A.units+(n+1)<cLine):SeqAt.RcAt A s u v b:=by
 have hu0:A.units<cLine:=by omega
 have hin:A.in1.units+n<cLine:=by show A.units+1+n<cLine;omega
 cases d with
 | non=>
  cases hd;cases e with
  | non=>
   cases he;simp[aZ] at h;subst h;exact SeqAt.RcAt.none_none
  | bl c'=>
   cases he;simp[aZ] at h;subst h;exact SeqAt.RcAt.none_bool c'
  | int j=>
   obtain⟨t,rfl⟩:=he;simp[aZ] at h;subst h;exact SeqAt.RcAt.none_int j t
  | str y=>
   obtain⟨t,rfl⟩:=he;simp[aZ] at h;subst h;exact SeqAt.RcAt.none_str _ t
  | tup ys=>
   obtain⟨a',its',rfl,p',hs'⟩:=he;simp[aZ] at h;subst h;exact SeqAt.RcAt.none_tuple p' hu0
  | lst ys=>
   obtain⟨a',its',rfl,p',hs'⟩:=he;simp[aZ] at h;subst h;exact SeqAt.RcAt.none_list p'.isList hu0
  | arr kvs=>
   simp[aZ] at h
  | dct kvs=>
   simp[aZ] at h
  | gh kvs=>
   simp[aZ] at h
  | clo _ _=>
   simp[aZ] at h
 | bl c=>
  cases hd;cases e with
  | non=>
   cases he;simp[aZ] at h;subst h;exact SeqAt.RcAt.bool_none c
  | bl c'=>
   cases he;simp only[aZ,Qw7] at h;subst h;exact SeqAt.RcAt.bool_bool c c'
  | int j=>
   obtain⟨t,rfl⟩:=he;simp only[aZ,Qw7] at h;subst h;exact SeqAt.RcAt.bool_int c j t
  | str y=>
   obtain⟨t,rfl⟩:=he;simp[aZ] at h;subst h;exact SeqAt.RcAt.bool_str c _ t
  | tup ys=>
   obtain⟨a',its',rfl,p',hs'⟩:=he;simp[aZ] at h;subst h;exact SeqAt.RcAt.bool_tuple c p' hu0
  | lst ys=>
   obtain⟨a',its',rfl,p',hs'⟩:=he;simp[aZ] at h;subst h;exact SeqAt.RcAt.bool_list c p'.isList hu0
  | arr kvs=>
   simp[aZ] at h
  | dct kvs=>
   simp[aZ] at h
  | gh kvs=>
   simp[aZ] at h
  | clo _ _=>
   simp[aZ] at h
 | int i=>
  obtain⟨t',rfl⟩:=hd;cases e with
  | non=>
   cases he;simp[aZ] at h;subst h;exact SeqAt.RcAt.int_none i t'
  | bl c'=>
   cases he;simp only[aZ,Qw7] at h;subst h;exact SeqAt.RcAt.int_bool i t' c'
  | int j=>
   obtain⟨t,rfl⟩:=he;simp only[aZ,Qw7] at h;subst h;exact SeqAt.RcAt.int_int i t' j t
  | str y=>
   obtain⟨t,rfl⟩:=he;simp[aZ] at h;subst h;exact SeqAt.RcAt.int_str i t' _ t
  | tup ys=>
   obtain⟨a',its',rfl,p',hs'⟩:=he;simp[aZ] at h;subst h;exact SeqAt.RcAt.int_tuple i t' p' hu0
  | lst ys=>
   obtain⟨a',its',rfl,p',hs'⟩:=he;simp[aZ] at h;subst h;exact SeqAt.RcAt.int_list i t' p'.isList hu0
  | arr kvs=>
   simp[aZ] at h
  | dct kvs=>
   simp[aZ] at h
  | gh kvs=>
   simp[aZ] at h
  | clo _ _=>
   simp[aZ] at h
 | str x=>
  obtain⟨t',rfl⟩:=hd;cases e with
  | non=>
   cases he;simp[aZ] at h;subst h;exact SeqAt.RcAt.str_none _ t'
  | bl c'=>
   cases he;simp[aZ] at h;subst h;exact SeqAt.RcAt.str_bool _ t' c'
  | int j=>
   obtain⟨t,rfl⟩:=he;simp[aZ] at h;subst h;exact SeqAt.RcAt.str_int _ t' j t
  | str y=>
   obtain⟨t,rfl⟩:=he;simp only[aZ,Qw7] at h;subst h;rw[<-uT];exact SeqAt.RcAt.str_str _ t' _ t
  | tup ys=>
   obtain⟨a',its',rfl,p',hs'⟩:=he;simp[aZ] at h;subst h;exact SeqAt.RcAt.str_tuple _ t' p' hu0
  | lst ys=>
   obtain⟨a',its',rfl,p',hs'⟩:=he;simp[aZ] at h;subst h;exact SeqAt.RcAt.str_list _ t' p'.isList hu0
  | arr kvs=>
   simp[aZ] at h
  | dct kvs=>
   simp[aZ] at h
  | gh kvs=>
   simp[aZ] at h
  | clo _ _=>
   simp[aZ] at h
 | tup xs=>
  obtain⟨a,its,rfl,p,hs⟩:=hd;cases e with
  | non=>
   cases he;simp[aZ] at h;subst h;exact SeqAt.RcAt.tuple_none p hu0
  | bl c'=>
   cases he;simp[aZ] at h;subst h;exact SeqAt.RcAt.tuple_bool c' p hu0
  | int j=>
   obtain⟨t,rfl⟩:=he;simp[aZ] at h;subst h;exact SeqAt.RcAt.tuple_int j t p hu0
  | str y=>
   obtain⟨t,rfl⟩:=he;simp[aZ] at h;subst h;exact SeqAt.RcAt.tuple_str _ t p hu0
  | tup ys=>
   obtain⟨a',its',rfl,p',hs'⟩:=he;simp only[aZ] at h;have l1:=hs.length;have l2:=hs'.length;obtain⟨f,hf,hb⟩:=rH xs ys b h;have:=SeqAt.RcAt.tuples (e:=f) p p' hu0 λj h1 h2=>?_
   ·rw[hb];simp only[Qq3] at this;rw[l1,l2] at this;exact this
   ·exact tR n its its' xs ys f A s hs hs' hf hin j h1 h2
  | lst ys=>
   obtain⟨a',its',rfl,p',hs'⟩:=he;simp[aZ] at h;subst h;exact SeqAt.RcAt.tuple_list p p'.isList hu0
  | arr kvs=>
   simp[aZ] at h
  | dct kvs=>
   simp[aZ] at h
  | gh kvs=>
   simp[aZ] at h
  | clo _ _=>
   simp[aZ] at h
 | lst xs=>
  obtain⟨a,its,rfl,p,hs⟩:=hd;cases e with
  | non=>
   cases he;simp[aZ] at h;subst h;exact SeqAt.RcAt.list_none p.isList hu0
  | bl c'=>
   cases he;simp[aZ] at h;subst h;exact SeqAt.RcAt.list_bool c' p.isList hu0
  | int j=>
   obtain⟨t,rfl⟩:=he;simp[aZ] at h;subst h;exact SeqAt.RcAt.list_int j t p.isList hu0
  | str y=>
   obtain⟨t,rfl⟩:=he;simp[aZ] at h;subst h;exact SeqAt.RcAt.list_str _ t p.isList hu0
  | tup ys=>
   obtain⟨a',its',rfl,p',hs'⟩:=he;simp[aZ] at h;subst h;exact SeqAt.RcAt.list_tuple p.isList p' hu0
  | lst ys=>
   obtain⟨a',its',rfl,p',hs'⟩:=he;simp only[aZ] at h;have l1:=hs.length;have l2:=hs'.length;by_cases hl:xs.length=ys.length
   ·obtain⟨f,hf,hb⟩:=rH xs ys b h;have:=SeqAt.RcAt.lists (e:=f) p.isList p'.isList (by simp only[Qq3];omega) hu0 λj h1 h2=>?_
    ·rw[hb,<-hl,Nat.min_self,beq_self_eq_true,Bool.and_true,<-l1];simp only[Qq3] at this;exact this
    ·exact tR n its its' xs ys f A s hs hs' hf hin j h1 h2
   ·have:=xJ hl b h;subst this;exact SeqAt.RcAt.lists_lengths p.isList p'.isList (by simp only[Qq3];rw[l1,l2];simpa using hl) hu0
  | arr kvs=>
   simp[aZ] at h
  | dct kvs=>
   simp[aZ] at h
  | gh kvs=>
   simp[aZ] at h
  | clo _ _=>
   simp[aZ] at h
 | arr kvs=>
  cases e<;>simp[aZ] at h
 | dct kvs=>
  cases e<;>simp[aZ] at h
 | gh kvs=>
  cases e<;>simp[aZ] at h
 | clo _ _=>
  cases e<;>simp[aZ] at h
theorem Ue(n:Nat)(d e:D)(u v:Value)(b:Bool)(A:Around)(s:Shared)(hd:Sh s.heap d u)(he:Sh s.heap e v)(h:aZ (n+1) d e=some b)(hu:A.units+(n+1)<cLine):SeqAt.RcNeAt A s u v (!b):=by
 have hu0:A.units<cLine:=by omega
 have hin:A.in1.units+n<cLine:=by show A.units+1+n<cLine;omega
 cases d with
 | non=>
  cases hd;cases e with
  | non=>
   cases he;simp[aZ] at h;subst h;exact SeqAt.RcNeAt.none_none
  | bl c'=>
   cases he;simp[aZ] at h;subst h;exact SeqAt.RcNeAt.none_bool c'
  | int j=>
   obtain⟨t,rfl⟩:=he;simp[aZ] at h;subst h;exact SeqAt.RcNeAt.none_int j t
  | str y=>
   obtain⟨t,rfl⟩:=he;simp[aZ] at h;subst h;exact SeqAt.RcNeAt.none_str _ t
  | tup ys=>
   obtain⟨a',its',rfl,p',hs'⟩:=he;simp[aZ] at h;subst h;exact SeqAt.RcNeAt.none_tuple p' hu0
  | lst ys=>
   obtain⟨a',its',rfl,p',hs'⟩:=he;simp[aZ] at h;subst h;exact SeqAt.RcNeAt.none_list p'.isList hu0
  | arr kvs=>
   simp[aZ] at h
  | dct kvs=>
   simp[aZ] at h
  | gh kvs=>
   simp[aZ] at h
  | clo _ _=>
   simp[aZ] at h
 | bl c=>
  cases hd;cases e with
  | non=>
   cases he;simp[aZ] at h;subst h;exact SeqAt.RcNeAt.bool_none c
  | bl c'=>
   cases he;simp only[aZ,Qw7] at h;subst h;exact SeqAt.RcNeAt.bool_bool c c'
  | int j=>
   obtain⟨t,rfl⟩:=he;simp only[aZ,Qw7] at h;subst h;exact SeqAt.RcNeAt.bool_int c j t
  | str y=>
   obtain⟨t,rfl⟩:=he;simp[aZ] at h;subst h;exact SeqAt.RcNeAt.bool_str c _ t
  | tup ys=>
   obtain⟨a',its',rfl,p',hs'⟩:=he;simp[aZ] at h;subst h;exact SeqAt.RcNeAt.bool_tuple c p' hu0
  | lst ys=>
   obtain⟨a',its',rfl,p',hs'⟩:=he;simp[aZ] at h;subst h;exact SeqAt.RcNeAt.bool_list c p'.isList hu0
  | arr kvs=>
   simp[aZ] at h
  | dct kvs=>
   simp[aZ] at h
  | gh kvs=>
   simp[aZ] at h
  | clo _ _=>
   simp[aZ] at h
 | int i=>
  obtain⟨t',rfl⟩:=hd;cases e with
  | non=>
   cases he;simp[aZ] at h;subst h;exact SeqAt.RcNeAt.int_none i t'
  | bl c'=>
   cases he;simp only[aZ,Qw7] at h;subst h;exact SeqAt.RcNeAt.int_bool i t' c'
  | int j=>
   obtain⟨t,rfl⟩:=he;simp only[aZ,Qw7] at h;subst h;exact SeqAt.RcNeAt.int_int i t' j t
  | str y=>
   obtain⟨t,rfl⟩:=he;simp[aZ] at h;subst h;exact SeqAt.RcNeAt.int_str i t' _ t
  | tup ys=>
   obtain⟨a',its',rfl,p',hs'⟩:=he;simp[aZ] at h;subst h;exact SeqAt.RcNeAt.int_tuple i t' p' hu0
  | lst ys=>
   obtain⟨a',its',rfl,p',hs'⟩:=he;simp[aZ] at h;subst h;exact SeqAt.RcNeAt.int_list i t' p'.isList hu0
  | arr kvs=>
   simp[aZ] at h
  | dct kvs=>
   simp[aZ] at h
  | gh kvs=>
   simp[aZ] at h
  | clo _ _=>
   simp[aZ] at h
 | str x=>
  obtain⟨t',rfl⟩:=hd;cases e with
  | non=>
   cases he;simp[aZ] at h;subst h;exact SeqAt.RcNeAt.str_none _ t'
  | bl c'=>
   cases he;simp[aZ] at h;subst h;exact SeqAt.RcNeAt.str_bool _ t' c'
  | int j=>
   obtain⟨t,rfl⟩:=he;simp[aZ] at h;subst h;exact SeqAt.RcNeAt.str_int _ t' j t
  | str y=>
   obtain⟨t,rfl⟩:=he;simp only[aZ,Qw7] at h;subst h;rw[<-uT];exact SeqAt.RcNeAt.str_str _ t' _ t
  | tup ys=>
   obtain⟨a',its',rfl,p',hs'⟩:=he;simp[aZ] at h;subst h;exact SeqAt.RcNeAt.str_tuple _ t' p' hu0
  | lst ys=>
   obtain⟨a',its',rfl,p',hs'⟩:=he;simp[aZ] at h;subst h;exact SeqAt.RcNeAt.str_list _ t' p'.isList hu0
  | arr kvs=>
   simp[aZ] at h
  | dct kvs=>
   simp[aZ] at h
  | gh kvs=>
   simp[aZ] at h
  | clo _ _=>
   simp[aZ] at h
 | tup xs=>
  obtain⟨a,its,rfl,p,hs⟩:=hd;cases e with
  | non=>
   cases he;simp[aZ] at h;subst h;exact SeqAt.RcNeAt.tuple_none p hu0
  | bl c'=>
   cases he;simp[aZ] at h;subst h;exact SeqAt.RcNeAt.tuple_bool c' p hu0
  | int j=>
   obtain⟨t,rfl⟩:=he;simp[aZ] at h;subst h;exact SeqAt.RcNeAt.tuple_int j t p hu0
  | str y=>
   obtain⟨t,rfl⟩:=he;simp[aZ] at h;subst h;exact SeqAt.RcNeAt.tuple_str _ t p hu0
  | tup ys=>
   obtain⟨a',its',rfl,p',hs'⟩:=he;simp only[aZ] at h;have l1:=hs.length;have l2:=hs'.length;obtain⟨f,hf,hb⟩:=rH xs ys b h;have:=SeqAt.RcNeAt.tuples (e:=f) p p' hu0 λj h1 h2=>?_
   ·rw[hb];simp only[Qq3] at this;rw[l1,l2] at this;exact this
   ·exact tR n its its' xs ys f A s hs hs' hf hin j h1 h2
  | lst ys=>
   obtain⟨a',its',rfl,p',hs'⟩:=he;simp[aZ] at h;subst h;exact SeqAt.RcNeAt.tuple_list p p'.isList hu0
  | arr kvs=>
   simp[aZ] at h
  | dct kvs=>
   simp[aZ] at h
  | gh kvs=>
   simp[aZ] at h
  | clo _ _=>
   simp[aZ] at h
 | lst xs=>
  obtain⟨a,its,rfl,p,hs⟩:=hd;cases e with
  | non=>
   cases he;simp[aZ] at h;subst h;exact SeqAt.RcNeAt.list_none p.isList hu0
  | bl c'=>
   cases he;simp[aZ] at h;subst h;exact SeqAt.RcNeAt.list_bool c' p.isList hu0
  | int j=>
   obtain⟨t,rfl⟩:=he;simp[aZ] at h;subst h;exact SeqAt.RcNeAt.list_int j t p.isList hu0
  | str y=>
   obtain⟨t,rfl⟩:=he;simp[aZ] at h;subst h;exact SeqAt.RcNeAt.list_str _ t p.isList hu0
  | tup ys=>
   obtain⟨a',its',rfl,p',hs'⟩:=he;simp[aZ] at h;subst h;exact SeqAt.RcNeAt.list_tuple p.isList p' hu0
  | lst ys=>
   obtain⟨a',its',rfl,p',hs'⟩:=he;simp only[aZ] at h;have l1:=hs.length;have l2:=hs'.length;by_cases hl:xs.length=ys.length
   ·obtain⟨f,hf,hb⟩:=rH xs ys b h;have:=SeqAt.RcNeAt.lists (e:=f) p.isList p'.isList (by simp only[Qq3];omega) hu0 λj h1 h2=>?_
    ·rw[hb,<-hl,Nat.min_self,beq_self_eq_true,Bool.and_true,<-l1];simp only[Qq3] at this;exact this
    ·exact tR n its its' xs ys f A s hs hs' hf hin j h1 h2
   ·have:=xJ hl b h;subst this;exact SeqAt.RcNeAt.lists_lengths p.isList p'.isList (by simp only[Qq3];rw[l1,l2];simpa using hl) hu0
  | arr kvs=>
   simp[aZ] at h
  | dct kvs=>
   simp[aZ] at h
  | gh kvs=>
   simp[aZ] at h
  | clo _ _=>
   simp[aZ] at h
 | arr kvs=>
  cases e<;>simp[aZ] at h
 | dct kvs=>
  cases e<;>simp[aZ] at h
 | gh kvs=>
  cases e<;>simp[aZ] at h
 | clo _ _=>
  cases e<;>simp[aZ] at h
section
variable{X:Cx}{C:Cfg}
def ac5(K:Fg):R2:=λx y H Q=>∃dx dy b,Rep K H dx x/\Rep K H dy y/\aZ 60 dx dy=some b/\Q (.bl b) H
def acW(K:Fg):R2:=λx y H Q=>∃dx dy b,Rep K H dx x/\Rep K H dy y/\aZ 60 dx dy=some b/\Q (.bl (!b)) H
theorem Z4(hu:X.A.units+60<cLine):mD X (compareOp .Eq) (ac5 X.K):=by intro pins s σ H x y v u Q I rx ry h;obtain⟨dx,dy,b,h1,h2,h3,q⟩:=h;exact acQ 59 dx dy v u b X.A s (Rep.sh I dx x v h1 rx) (Rep.sh I dy y u h2 ry) h3 hu X.prog X.w X.xe _ ⟨.bl b,H,I,rfl,q⟩
theorem ZW(hu:X.A.units+60<cLine):mD X (compareOp .NotEq) (acW X.K):=by intro pins s σ H x y v u Q I rx ry h;obtain⟨dx,dy,b,h1,h2,h3,q⟩:=h;exact Ue 59 dx dy v u b X.A s (Rep.sh I dx x v h1 rx) (Rep.sh I dy y u h2 ry) h3 hu X.prog X.w X.xe _ ⟨.bl (!b),H,I,rfl,q⟩
noncomputable def oW(x y:D):Option D:=(aZ 60 x y).map .bl
noncomputable def zY(x y:D):Option D:=(aZ 60 x y).map λb=>.bl (!b)
theorem adw:oU C (ac5 C.K) oW:=by
 intro Pr F env σ H x y d vx vy Q r hx hy h q;unfold oW at h;cases e:aZ 60 x y with
 | none=>rw[e] at h;cases h
 | some b=>
  rw[e] at h;cases h;exact⟨x,y,b,hx.rep r.fr,hy.rep r.fr,e,q _ H F r (aH.refl F) rfl⟩
theorem adp:oU C (acW C.K) zY:=by
 intro Pr F env σ H x y d vx vy Q r hx hy h q;unfold zY at h;cases e:aZ 60 x y with
 | none=>rw[e] at h;cases h
 | some b=>
  rw[e] at h;cases h;exact⟨x,y,b,hx.rep r.fr,hy.rep r.fr,e,q _ H F r (aH.refl F) rfl⟩
noncomputable def Oj(x:D):List D->Option Bool
 | []=>some false
 | y::ys=>match aZ 59 y x,Oj x ys with
  | some a,some b=>some (a||b)
  | _,_=>none
theorem KJ(x:D):∀(ys:List D) (b:Bool),Oj x ys=some b->(∀y∈ys,∃c,aZ 59 y x=some c)/\(b=true ↔ ∃y∈ys,aZ 59 y x=some true)
 | [],b,h=>by simp[Oj] at h;subst h;simp
 | y::ys,b,h=>by
  unfold Oj at h;cases h1:aZ 59 y x with
  | none=>rw[h1] at h;simp at h
  | some c=>
   cases h2:Oj x ys with
   | none=>rw[h1,h2] at h;simp at h
   | some d=>
    rw[h1,h2] at h;obtain⟨i1,i2⟩:=KJ x ys d h2;have hb:b=(c||d):=by simpa using h.symm
    refine⟨λz hz=>?_,?_⟩
    ·rcases Qq7.mp hz with rfl|hz
     ·exact⟨c,h1⟩
     ·exact i1 z hz
    ·rw[hb,Bool.or_eq_true];constructor
     ·rintro(hc|hd)
      ·exact⟨y,Qqj,by rw[h1,hc]⟩
      ·obtain⟨z,hz,e⟩:=i2.mp hd;exact⟨z,Qqk _ hz,e⟩
     ·rintro⟨z,hz,e⟩;rcases Qq7.mp hz with rfl|hz
      ·rw[h1] at e;left;simpa using e
      ·right;exact i2.mpr ⟨z,hz,e⟩
open Classical in
noncomputable def JN(h:Heap)(x:D)(u:Value):Bool:=decide (∃y,Sh h y u/\aZ 59 y x=some true)
open Classical in
theorem DR{h:Heap}{x y:D}{u:Value}{c:Bool}(hy:Sh h y u)(e:aZ 59 y x=some c):JN h x u=c:=by
 unfold JN;cases c with
 | true=>exact Qwy ⟨y,hy,e⟩
 | false=>
  refine Qwx ?_;rintro⟨z,hz,e'⟩;have:=Le 59 z y x u true false hz hy e' e;cases this
theorem Jt{s:Shared}{A:Around}{x:D}{v:Value}{ys:List D}{us:List Value}{b:Bool}(hx:Sh s.heap x v)(hs:kW s.heap ys us)(h:Oj x ys=some b)(hu:A.units+59<cLine) :
  (∀w,w∈us.toArray->SeqAt.EqAt A s w v (JN s.heap x w))/\us.toArray.any (JN s.heap x)=b:=by
 obtain⟨h1,h2⟩:=KJ x ys b h;have item:∀w∈us,∃y∈ys,Sh s.heap y w:=λw hw=>by
  obtain⟨j,hj,e⟩:=List.mem_iff_getElem.mp hw;obtain⟨d,e1,e2⟩:=lN hs (show us[j]? = some w by rw[Qqy hj,e]);exact⟨d,Qj1 e1,e2⟩
 have back:∀{ys:List D} {us:List Value},kW s.heap ys us->∀y∈ys,∃w∈us,Sh s.heap y w:=by
  intro ys
  induction ys with
  | nil=>intro us _ y hy;cases hy
  | cons z zs ih=>
   intro us hs y hy;obtain⟨w,r,rfl,g1,g2⟩:=hs;rcases Qq7.mp hy with rfl|hy
   ·exact⟨w,Qqj,g1⟩
   ·obtain⟨w',m,g⟩:=ih g2 y hy;exact⟨w',Qqk _ m,g⟩
 refine⟨λw hw=>?_,?_⟩
 ·obtain⟨y,hy,sy⟩:=item w (by simpa using hw);obtain⟨c,hc⟩:=h1 y hy;rw[DR sy hc];exact pW 59 y x w v c A s sy hx hc hu
 ·rw[List.any_toArray,Qky,h2,List.any_eq_true];constructor
  ·rintro⟨w,hw,e⟩;obtain⟨y,hy,sy⟩:=item w hw;obtain⟨c,hc⟩:=h1 y hy;rw[DR sy hc] at e;subst e;exact⟨y,hy,hc⟩
  ·rintro⟨y,hy,e⟩;obtain⟨w,hw,sy⟩:=back hs y hy;exact⟨w,hw,DR sy e⟩
noncomputable def Pj:D->Option (List D)
 | .tup xs=>some xs
 | .lst xs=>some xs
 | .arr xs=>some xs
 | _=>none
def Y0(K:Fg)(neg:Bool):R2:=λx y H Q=>∃dx dy ys b,Rep K H dx x/\Rep K H dy y/\Pj dy=some ys/\Oj dx ys=some b/\Q (.bl (if neg then !b else b)) H
theorem Z2(hu:X.A.units+61<cLine):mD X (compareOp .In) (Y0 X.K false):=by
 intro pins s σ H x y v u Q I rx ry h;obtain⟨dx,dy,ys,b,h1,h2,h3,h4,q⟩:=h;have hx:=Rep.sh I dx x v h1 rx;have hy:=Rep.sh I dy y u h2 ry;have hin:X.A.in1.units+59<cLine:=by show X.A.units+1+59<cLine;omega
 cases dy with
 | tup zs=>
  cases h3;obtain⟨a,its,rfl,p,hs⟩:=hy;obtain⟨g1,g2⟩:=Jt (A:=X.A.in1) hx hs h4 hin;refine SeqAt.in_tupleAt (JN s.heap dx) p g1 ⟨.bl _,H,I,rfl,?_⟩;rw[g2];exact q
 | lst zs=>
  cases h3;obtain⟨a,its,rfl,p,hs⟩:=hy;obtain⟨g1,g2⟩:=Jt (A:=X.A.in1) hx hs h4 hin;refine SeqAt.in_listAt (JN s.heap dx) p.isList g1 ⟨.bl _,H,I,rfl,?_⟩;rw[g2];exact q
 | arr zs=>
  cases h3;obtain⟨a,its,rfl,p,hs⟩:=hy;obtain⟨g1,g2⟩:=Jt (A:=X.A.in1) hx hs h4 hin;refine SeqAt.in_listAt (JN s.heap dx) p.isList g1 ⟨.bl _,H,I,rfl,?_⟩;rw[g2];exact q
 | _=>cases h3
end
theorem oU.or{C:Cfg}{r r':R2}{g g':D->D->Option D}(h:oU C r g)(h':oU C r' g'):oU C (λx y H Q=>r x y H Q\/r' x y H Q) (λx y=>(g x y).or (g' x y)):=by
 intro Pr F env σ H x y d vx vy Q rl hx hy e q;have e:(g x y).or (g' x y)=some d:=e;cases e1:g x y with
 | some c=>
  rw[e1] at e;cases e;exact .inl (h Pr F env σ H x y d vx vy Q rl hx hy e1 q)
 | none=>
  rw[e1] at e;exact .inr (h' Pr F env σ H x y d vx vy Q rl hx hy e q)
section
variable{X:Cx}{C:Cfg}
noncomputable def aba(x y:D):Option D:=match Pj y with
 | some ys=>(Oj x ys).map .bl
 | none=>none
theorem aam:oU C (Y0 C.K false) aba:=by
 intro Pr F env σ H x y d vx vy Q r hx hy h q;unfold aba at h;cases e1:Pj y with
 | none=>rw[e1] at h;cases h
 | some ys=>
  rw[e1] at h;cases e:Oj x ys with
  | none=>simp only[e,Option.map_none] at h;cases h
  | some b=>
   simp only[e,Option.map_some] at h;cases h;exact⟨x,y,ys,b,hx.rep r.fr,hy.rep r.fr,e1,e,q _ H F r (aH.refl F) rfl⟩
noncomputable def aa9(x y:D):Option D:=match x,y with
 | .str [c],.str z=>some (.bl (decide (c∈z)))
 | _,_=>none
abbrev ac2:R2:=λx y H Q=>∃i j,x = .str i/\y = .str j/\Q (.bl (!(Builtin.Str.occurrences j i 0 j.length 1).isEmpty)) H
theorem one_sign(c:Nat)(z:List Nat):(!(Builtin.Str.occurrences (strOf z) (strOf [c]) 0 (strOf z).length 1).isEmpty)=decide (c∈z):=by
 have:=StrLaws.found_one (strOf z) c;unfold strOf at this ⊢
 simpa using this
theorem aal:oU C ac2 aa9:=by
 intro Pr F env σ H x y d vx vy Q r hx hy h q;unfold aa9 at h;split at h
 ·rename_i c z;cases h;obtain⟨rfl,_⟩:=hx.str;obtain⟨rfl,_⟩:=hy.str;refine⟨_,_,rfl,rfl,?_⟩;rw[one_sign];exact q _ H F r (aH.refl F) rfl
 ·cases h
noncomputable def gIn(x y:D):Option D:=(aba x y).or (aa9 x y)
abbrev ac4(K:Fg):R2:=λx y H Q=>Y0 K false x y H Q\/ac2 x y H Q
theorem Z3(hu:X.A.units+61<cLine):mD X (compareOp .In) (ac4 X.K):=(Z2 hu).or MN
theorem adu:oU C (ac4 C.K) gIn:=aam.or aal
def isPlain(x:V):Prop:=x = .non\/∃b,x = .bl b
theorem Z1:mD X (compareOp .Is) (λx y H Q=>isPlain y/\Q (.bl (decide (x=y))) H):=by
 intro pins s σ H x y v u Q I rx ry h;obtain⟨hp,q⟩:=h;rcases hp with rfl|⟨b,rfl⟩
 ·exact Z0 pins s σ H x .non v u Q I rx ry ⟨rfl,q⟩
 ·cases ry;refine wpAny_is_plain ?_ (vU I q ?_)
  ·cases x<;>first|(cases rx;rfl)|(obtain⟨t,rfl⟩:=rx;rfl)
  ·cases x with
   | bl c=>cases rx;cases b<;>cases c<;>rfl
   | _=>first|(cases rx;rfl)|(obtain⟨t,rfl⟩:=rx;rfl)
theorem MK:mD X (compareOp .IsNot) (λx y H Q=>isPlain y/\Q (.bl (!decide (x=y))) H):=by
 intro pins s σ H x y v u Q I rx ry h;obtain⟨hp,q⟩:=h;rcases hp with rfl|⟨b,rfl⟩
 ·exact Ve pins s σ H x .non v u Q I rx ry ⟨rfl,q⟩
 ·cases ry;refine wpAny_isNot_plain ?_ (vU I q ?_)
  ·cases x<;>first|(cases rx;rfl)|(obtain⟨t,rfl⟩:=rx;rfl)
  ·cases x with
   | bl c=>cases rx;cases b<;>cases c<;>rfl
   | _=>first|(cases rx;rfl)|(obtain⟨t,rfl⟩:=rx;rfl)
noncomputable def isD:D->D->Option Bool
 | .non,.non=>some true
 | .bl a,.bl b=>some (a == b)
 | _,.non=>some false
 | _,.bl _=>some false
 | _,_=>none
noncomputable def gIs(x y:D):Option D:=(isD x y).map .bl
noncomputable def yW(x y:D):Option D:=(isD x y).map λb=>.bl (!b)
theorem XR{F H:Hp}{x y:D}{vx vy:V}{b:Bool}(hx:gC C.K F H x vx)(hy:gC C.K F H y vy)(h:isD x y=some b):isPlain vy/\decide (vx=vy)=b:=by
 have afD:∀a,¬(V.ref a=V.non):=λa e=>by cases e
 cases y with
 | non=>
  obtain rfl:=hy.non;refine⟨.inl rfl,?_⟩;cases x with
  | non=>obtain rfl:=hx.non;simp[isD] at h;simp[h]
  | bl c=>obtain rfl:=hx.bl;simp[isD] at h;simp[h]
  | int i=>obtain rfl:=hx.int;simp[isD] at h;simp[h]
  | str z=>obtain⟨rfl,_⟩:=hx.str;simp[isD] at h;simp[h]
  | tup xs=>rcases hx with ⟨_,a,_,rfl,_⟩|⟨a,rfl,_⟩<;>(simp[isD] at h;simp[h])
  | lst xs=>rcases hx with ⟨_,a,_,rfl,_⟩|⟨a,rfl,_⟩<;>(simp[isD] at h;simp[h])
  | arr xs=>rcases hx with ⟨_,a,_,rfl,_⟩|⟨a,rfl,_⟩<;>(simp[isD] at h;simp[h])
  | dct xs=>rcases hx with ⟨_,a,_,rfl,_⟩|⟨a,rfl,_⟩<;>(simp[isD] at h;simp[h])
  | gh xs=>rcases hx with ⟨_,a,_,rfl,_⟩|⟨a,rfl,_⟩<;>(simp[isD] at h;simp[h])
  | clo st xs=>rcases hx with ⟨a,_,rfl,_⟩|⟨a,rfl,_⟩<;>(simp[isD] at h;simp[h])
 | bl k=>
  obtain rfl:=hy.bl;refine⟨.inr ⟨k,rfl⟩,?_⟩;cases x with
  | non=>obtain rfl:=hx.non;simp[isD] at h;simp[h]
  | bl c=>obtain rfl:=hx.bl;simp only[isD,Qw7] at h;rw[<-h,abn]
  | int i=>obtain rfl:=hx.int;simp[isD] at h;simp[h]
  | str z=>obtain⟨rfl,_⟩:=hx.str;simp[isD] at h;simp[h]
  | tup xs=>rcases hx with ⟨_,a,_,rfl,_⟩|⟨a,rfl,_⟩<;>(simp[isD] at h;simp[h])
  | lst xs=>rcases hx with ⟨_,a,_,rfl,_⟩|⟨a,rfl,_⟩<;>(simp[isD] at h;simp[h])
  | arr xs=>rcases hx with ⟨_,a,_,rfl,_⟩|⟨a,rfl,_⟩<;>(simp[isD] at h;simp[h])
  | dct xs=>rcases hx with ⟨_,a,_,rfl,_⟩|⟨a,rfl,_⟩<;>(simp[isD] at h;simp[h])
  | gh xs=>rcases hx with ⟨_,a,_,rfl,_⟩|⟨a,rfl,_⟩<;>(simp[isD] at h;simp[h])
  | clo st xs=>rcases hx with ⟨a,_,rfl,_⟩|⟨a,rfl,_⟩<;>(simp[isD] at h;simp[h])
 | _=>cases x<;>simp[isD] at h
theorem adt:oU C (λx y H Q=>isPlain y/\Q (.bl (decide (x=y))) H) gIs:=by
 intro Pr F env σ H x y d vx vy Q r hx hy h q;unfold gIs at h;cases e:isD x y with
 | none=>rw[e] at h;cases h
 | some b=>
  rw[e] at h;cases h;obtain⟨h1,h2⟩:=XR hx hy e;exact⟨h1,by rw[h2];exact q _ H F r (aH.refl F) rfl⟩
theorem Q6:oU C (λx y H Q=>isPlain y/\Q (.bl (!decide (x=y))) H) yW:=by
 intro Pr F env σ H x y d vx vy Q r hx hy h q;unfold yW at h;cases e:isD x y with
 | none=>rw[e] at h;cases h
 | some b=>
  rw[e] at h;cases h;obtain⟨h1,h2⟩:=XR hx hy e;exact⟨h1,by rw[h2];exact q _ H F r (aH.refl F) rfl⟩
noncomputable def gI(c:Int->Int->Bool)(f:Int->Int->D)(x y:D):Option D:=match x,y with
 | .int i,.int j=>if c i j=true then some (f i j) else none
 | _,_=>none
theorem Q7{Cd:Int->Int->Prop}{c:Int->Int->Bool}{f:Int->Int->D}{g:Int->Int->V}(hc:∀i j,c i j=true->Cd i j)(hf:∀i j F,Rep C.K F (f i j) (g i j)):oU C (rI Cd g) (gI c f):=by
 intro Pr F env σ H x y d vx vy Q r hx hy h q;unfold gI at h;split at h
 ·rename_i i j;split at h
  ·rename_i hcc;cases h;obtain rfl:=hx.int;obtain rfl:=hy.int;exact⟨i,j,rfl,rfl,hc i j hcc,q _ H F r (aH.refl F) (hf i j F)⟩
  ·cases h
 ·cases h
theorem Kr{f:Int->Int->D}{g:Int->Int->V}(hf:∀i j F,Rep C.K F (f i j) (g i j)):oU C (Kc g) (gI (λ_ _=>true) f):=by
 intro Pr F env σ H x y d vx vy Q r hx hy h q;unfold gI at h;split at h
 ·rename_i i j;rw[if_pos rfl] at h;cases h;obtain rfl:=hx.int;obtain rfl:=hy.int;exact⟨i,j,rfl,rfl,q _ H F r (aH.refl F) (hf i j F)⟩
 ·cases h
noncomputable def jK(i j:Int):Bool:=decide (Builtin.Int.intBits i+Builtin.Int.intBits j<=134217728)
theorem Vf:mD X (binaryOp .Mult) (rI (λi j=>jK i j=true) λi j=>.int (i*j)):=
 opI λi j _ _ _ _ _ hc q=>mul_int q (mulOk_of_bits (Qq0 _) (Qq0 _) (Qx2 hc))
noncomputable def rD:D->D->Option D:=gI jK λi j=>.int (i*j)
noncomputable def GC:D->D->Option D:=gI (λ_ _=>true) λi j=>.int (i - j)
noncomputable def aa7:D->D->Option D:=gI (λ_ j=>decide (0<j)) λi j=>.int (i % j)
noncomputable def Jx:D->D->Option D:=gI (λi j=>decide (0<=j/\j<=1000000/\i.natAbs<2^64)) λi j=>.int (i^j.toNat)
noncomputable def Jw:D->D->Option D:=gI (λi j=>decide (0<=j/\j<=1000000/\i.natAbs<2^64)) λi j=>.int (i*2^j.toNat)
noncomputable def yV:D->D->Option D:=gI (λ_ j=>decide (0<=j)) λi j=>.int (i / 2^j.toNat)
noncomputable def Al:D->D->Option D:=gI (λ_ _=>true) λi j=>.int (Builtin.bitAnd i j)
theorem aah:oU C (rI (λi j=>jK i j=true) λi j=>.int (i*j)) rD:=Q7 (λ_ _ h=>h) λ_ _ _=>rfl
theorem aad:oU C (Kc λi j=>.int (i - j)) GC:=Kr λ_ _ _=>rfl
theorem aai:oU C (rI (λ_ j=>0<j) λi j=>.int (i % j)) aa7:=Q7 (λ_ _ h=>Qx2 h) λ_ _ _=>rfl
theorem aag:oU C (rI W3 λi j=>.int (i^j.toNat)) Jx:=Q7 (λi j h=>(show 0<=j/\j<=1000000/\i.natAbs<2^64 from Qx2 h)) λ_ _ _=>rfl
theorem aaf:oU C (rI W3 λi j=>.int (i*2^j.toNat)) Jw:=Q7 (λi j h=>(show 0<=j/\j<=1000000/\i.natAbs<2^64 from Qx2 h)) λ_ _ _=>rfl
theorem aae:oU C (rI (λ_ j=>0<=j) λi j=>.int (i / 2^j.toNat)) yV:=Q7 (λ_ _ h=>Qx2 h) λ_ _ _=>rfl
theorem aan:oU C (Kc λi j=>.int (Builtin.bitAnd i j)) Al:=Kr λ_ _ _=>rfl
abbrev acX:R2:=λx y H Q=>∃i j,x = .str i/\y = .str j/\Q (.bl (decide (i.cps.toList<j.cps.toList))) H
noncomputable def ad9:D->D->Option D:=gI (λ_ _=>true) λi j=>.bl (decide (i<j))
noncomputable def aa8(x y:D):Option D:=match x,y with
 | .str a,.str b=>some (.bl (decide (a<b)))
 | _,_=>none
noncomputable def Ol(x y:D):Option D:=(ad9 x y).or (aa8 x y)
noncomputable def V9:D->D->Option D:=gI (λ_ _=>true) λi j=>.bl (decide (j<i))
theorem aaj:oU C acX aa8:=by
 intro Pr F env σ H x y d vx vy Q r hx hy h q;unfold aa8 at h;split at h
 ·cases h;obtain⟨rfl,_⟩:=hx.str;obtain⟨rfl,_⟩:=hy.str;exact⟨_,_,rfl,rfl,q _ H F r (aH.refl F) (by show V.bl _=V.bl _;congr)⟩
 ·cases h
abbrev acY:R2:=λx y H Q=>Kc (λi j=>.bl (decide (i<j))) x y H Q\/acX x y H Q
theorem ZZ:mD X (compareOp .Lt) acY:=adl.or MJ
theorem aak:oU C (Kc λi j=>.bl (decide (i<j))) ad9:=Kr λ_ _ _=>rfl
theorem adq:oU C acY Ol:=aak.or aaj
theorem adv:oU C (Kc λi j=>.bl (decide (j<i))) V9:=Kr λ_ _ _=>rfl
def Ql(K:Fg):R2:=λx y H Q=>∃a b ys,x = .ref a/\y = .ref b/\jZ K H a []/\jZ K H b ys/\Q (.ref b) H
theorem Q4:mD X (binaryOp .Add) (Ql X.K):=by
 intro pins s σ H x y v u Q I rx ry h;obtain⟨a,b,ys,rfl,rfl,ha,hb,q⟩:=h;cases rx;cases ry;obtain⟨its,r1,p1,_⟩:=I.tuple ha;obtain⟨its2,r2,p2,_⟩:=I.tuple hb;cases r1;obtain⟨⟨cls,dd,data,sl⟩,ho,hc,n,hd⟩:=id p1;obtain⟨⟨cls2,dd2,data2,sl2⟩,ho2,hc2,n2,hd2⟩:=id p2;simp only at hc hd hc2 hd2;subst hc hd hc2 hd2;exact concat_meets ⟨_,ho,rfl⟩ ⟨_,ho2,rfl⟩ noFill_tuple_add seq_tuple_add PySem.F.slot_tuple_add PySem.F.entry_tuple_add (PySem.F.args_tuple_add_2 _ _)
  (tuple_addW0 a b ([]:List Value).toArray its2.toArray n n2 dd dd2 sl sl2 (by simp)) ⟨ho,ho2,⟨.ref b,H,I,rfl,q⟩⟩
abbrev ac7:R2:=λx y H Q=>∃i j,x = .str i/\y = .str j/\i.length+j.length<=sizeLine/\Q (.str (i++j)) H
abbrev ac8(K:Fg):R2:=λx y H Q=>Kc (λi j=>.int (i+j)) x y H Q\/ac7 x y H Q\/ac6 x y H Q\/Xn K x y H Q\/Ql K x y H Q
theorem Vh:mD X (binaryOp .Add) (ac8 X.K):=Z7.or (Jf.or (Z5.or (Vg.or Q4)))
noncomputable def du(x y:D):Option D:=match x,y with
 | .int i,.int j=>some (.int (i+j))
 | .str a,.str b=>if a.length+b.length<=sizeLine then some (.str (a++b)) else none
 | .lst a,.lst b=>if a.length+b.length<=sizeLine then some (.lst (a++b)) else none
 | .tup a,.tup b=>if a.length+b.length<=sizeLine then some (.tup (a++b)) else none
 | _,_=>none
theorem sG(a b:List Nat):strOf a++strOf b=strOf (a++b):=by show(⟨(strOf a).cps++(strOf b).cps⟩:Str)=_;unfold strOf;simp
theorem dI(a:List Nat):(strOf a).length=a.length:=by show a.toArray.size=a.length;simp
theorem aao:oU C (ac8 C.K) du:=by
 intro Pr F env σ H x y d vx vy Q r hx hy h q;unfold du at h;split at h
 ·cases h;obtain rfl:=hx.int;obtain rfl:=hy.int;exact .inl ⟨_,_,rfl,rfl,q _ H F r (aH.refl F) rfl⟩
 ·split at h
  ·rename_i hz;cases h;obtain⟨rfl,_⟩:=hx.str;obtain⟨rfl,_⟩:=hy.str;refine .inr (.inl ⟨_,_,rfl,rfl,by rw[dI,dI];exact hz,?_⟩);rw[sG];exact q _ H F r (aH.refl F) ⟨rfl,by rw[Qq1];exact hz⟩
  ·cases h
 ·split at h
  ·rename_i hz;cases h;obtain⟨_,a,vs,rfl,h1,h2⟩:=hx.lst r.fr;obtain⟨_,b,ws,rfl,h3,h4⟩:=hy.lst r.fr;refine .inr (.inr (.inl ⟨a,b,vs,ws,rfl,rfl,h1,h3,by rw[h2.length,h4.length];exact hz,λp hp=>?_⟩));obtain⟨r2,s2⟩:=r.new (o:=.lst (vs++ws)) hp;exact q _ _ _ r2 s2 ⟨by rw[Qq1];exact hz,p,_,rfl,aX,bu.mono s2 _ _ (h2.append h4)⟩
  ·cases h
 ·split at h
  ·rename_i hz;cases h;obtain⟨z1,a,vs,rfl,h1,f1,h2⟩:=hx.tup r.fr;obtain⟨z2,b,ws,rfl,h3,f3,h4⟩:=hy.tup r.fr;by_cases hv:vs=[]
   ·subst hv;have e1:_=0:=h2.length.symm;have e2:=Qjy e1;subst e2;refine .inr (.inr (.inr (.inr ⟨a,b,ws,rfl,rfl,h1,h3,?_⟩)));exact q _ H F r (aH.refl F) ⟨z2,b,ws,rfl,f3,h4⟩
   ·refine .inr (.inr (.inr (.inl ⟨a,b,vs,ws,rfl,rfl,h1,h3,hv,by rw[h2.length,h4.length];exact hz,λhw=>?_,λhw p hp=>?_⟩)))
    ·subst hw;have e1:_=0:=h4.length.symm;have e2:=Qjy e1;subst e2;rw[Qw0] at q;exact q _ H F r (aH.refl F) ⟨z1,a,vs,rfl,f1,h2⟩
    ·obtain⟨r2,s2⟩:=r.new (o:=.tup (vs++ws)) hp;exact q _ _ _ r2 s2 ⟨by rw[Qq1];exact hz,p,_,rfl,jZ.of aX,bu.mono s2 _ _ (h2.append h4)⟩
  ·cases h
 ·cases h
def Hn(K:Fg)(F H:Hp):List D->List V->Prop
 | [],vs=>vs=[]
 | d::ds,vs=>∃v r,vs=v::r/\gC K F H d v/\Hn K F H ds r
def tAB(C:Cfg)(ev:dg):TA:=λσ H Q=>∃(Pr F:Hp) (env env':Env) (ds:List D),Rel C Pr F env σ H/\ev env = .ok ds env'/\
 ∀vs H' F',Rel C Pr F' env' σ H'->aH F F'->Hn C.K F' H' ds vs->Q vs H'
def WX(X:Cx)(C:Cfg)(es:List Expr)(ev:dg):Prop:=PA X es (tAB C ev)
def CallD(C:Cfg)(r:List V->Hp->VK->Prop)(g:List D->Option D):Prop:=∀(Pr F:Hp) (env:Env) (σ:L2.St) (H:Hp) (ds:List D) (d:D) (vs:List V) (Q:VK),Rel C Pr F env σ H->Hn C.K F H ds vs->g ds=some d->
 (∀v H' F',Rel C Pr F' env σ H'->aH F F'->Rep C.K F' d v->Q v H')->r vs H Q
noncomputable def ao(g:List D->Option D)(a:dg):Ev:=λenv=>bindR (a env) λds aG=>je (g ds) aG
theorem Lj{r:List V->Hp->VK->Prop}{g:List D->Option D}{a:dg}(o:CallD C r g)(σ:L2.St)(H:Hp)(Q:VK)(h:tE C (ao g a) σ H Q):tCB r (tAB C a) σ H Q:=by obtain⟨Pr,F,env,env',d,rl,e,q⟩:=h;obtain⟨ds,aG,e1,e2⟩:=aY e;obtain⟨e3,rfl⟩:=gb e2;exact⟨Pr,F,env,env',ds,rl,e1,λvs H1 F1 r1 s1 p1=>o Pr F1 env' σ H1 ds d vs Q r1 p1 e3 λv H2 F2 r2 s2 p2=>q v H2 F2 r2 (s1.trans s2) p2⟩
theorem lg{x:Str}{p pos:Pos}{e:Expr}{es:List Expr}{id:String}{r:List V->Hp->VK->Prop}{g:List D->Option D}{a:dg}(hc:gP X (.builtin id) r)(o:CallD C r g)(hg:Gl X x)(hm:X.mg x=none)(hv:bootBuiltins x=some (.builtin id))(ha:WX X C (e::es) a)
  (hn:x ≠ "__name__":=by decide) (hdb:ju x:=by decide) (he:starEach (e::es) X.env=(false,eval e X.env)::starEach es X.env:=by rfl) (hpl:(backTo pos (starEach es X.env)).any (·.1)=false:=by rfl) :
  PX X C (.Call (.Name x p) (e::es) [] pos) (ao g a):=(pI hc hg hm hv ha hn hdb he hpl).imp (Lj o)
theorem qm{x:Str}{p pos:Pos}{e:Expr}{es:List Expr}{T:String}{r:List V->Hp->VK->Prop}{g:List D->Option D}{a:dg}(hc:gP X (.type T) r)(o:CallD C r g)(hg:Gl X x)(hm:X.mg x=none)(hv:bootBuiltins x=some (.type T))(ha:WX X C (e::es) a)
  (hn:x ≠ "__name__":=by decide) (hdb:ju x:=by decide) (he:starEach (e::es) X.env=(false,eval e X.env)::starEach es X.env:=by rfl) (hpl:(backTo pos (starEach es X.env)).any (·.1)=false:=by rfl) :
  PX X C (.Call (.Name x p) (e::es) [] pos) (ao g a):=(Bd hc hg hm hv ha hn hdb he hpl).imp (Lj o)
theorem jl{K:Fg}{F H:Hp}{d:D}{vs:List V}(h:Hn K F H [d] vs):∃v,vs=[v]/\gC K F H d v:=by obtain⟨v,r,rfl,h1,h2⟩:=h;cases h2;exact⟨v,rfl,h1⟩
theorem abz{K:Fg}{F H:Hp}{d e:D}{vs:List V}(h:Hn K F H [d,e] vs):∃v w,vs=[v,w]/\gC K F H d v/\gC K F H e w:=by obtain⟨v,r,rfl,h1,h2⟩:=h;obtain⟨w,rfl,h3⟩:=jl h2;exact⟨v,w,rfl,h1,h3⟩
noncomputable def d7:List D->Option D
 | [.str x]=>some (.int x.length)
 | [.tup xs]=>some (.int xs.length)
 | [.lst xs]=>some (.int xs.length)
 | [.arr xs]=>some (.int xs.length)
 | _=>none
theorem abu:CallD C (λxs H Q=>∃x n,xs=[x]/\aet C.K x H n/\Q (.int n) H) d7:=by
 intro Pr F env σ H ds d vs Q r hs h q;unfold d7 at h;split at h
 ·cases h;obtain⟨v,rfl,hv⟩:=jl hs;obtain⟨rfl,hz⟩:=hv.str;exact⟨_,_,rfl,⟨by rw[dI];exact hz,(dI _).symm⟩,q _ H F r (aH.refl F) rfl⟩
 ·cases h;obtain⟨v,rfl,hv⟩:=jl hs;obtain⟨_,a,ws,rfl,h1,_,h2⟩:=hv.tup r.fr;exact⟨_,_,rfl,.inr ⟨ws,h1,h2.length.symm⟩,q _ H F r (aH.refl F) rfl⟩
 ·cases h;obtain⟨v,rfl,hv⟩:=jl hs;obtain⟨_,a,ws,rfl,h1,h2⟩:=hv.lst r.fr;exact⟨_,_,rfl,.inl ⟨ws,jX.of h1,h2.length.symm⟩,q _ H F r (aH.refl F) rfl⟩
 ·cases h;obtain⟨v,rfl,hv⟩:=jl hs;obtain⟨_,a,ws,rfl,h1,h2⟩:=hv.arr r.fr;exact⟨_,_,rfl,.inl ⟨ws,h1,h2.length.symm⟩,q _ H F r (aH.refl F) rfl⟩
 ·cases h
noncomputable def cA:List D->Option D
 | [.tup xs]=>some (.tup xs)
 | [.lst xs]=>some (.tup xs)
 | _=>none
abbrev Qd(K:Fg):List V->Hp->VK->Prop:=λxs H Q=>∃p ys,xs=[.ref p]/\((jX K H p ys/\∀l,H l=none->Q (.ref l) (upd H l (.tup ys)))\/(jZ K H p ys/\Q (.ref p) H))
theorem Sd:CallD C (Qd C.K) cA:=by
 intro Pr F env σ H ds d vs Q r hs h q;unfold cA at h;split at h
 ·cases h;obtain⟨v,rfl,hv⟩:=jl hs;obtain⟨z,a,ws,rfl,h1,f1,h2⟩:=hv.tup r.fr;exact⟨a,ws,rfl,.inr ⟨h1,q _ H F r (aH.refl F) ⟨z,a,ws,rfl,f1,h2⟩⟩⟩
 ·cases h;obtain⟨v,rfl,hv⟩:=jl hs;obtain⟨z,a,ws,rfl,h1,h2⟩:=hv.lst r.fr;refine⟨a,ws,rfl,.inl ⟨jX.of h1,λl hl=>?_⟩⟩;obtain⟨r2,s2⟩:=r.new (o:=.tup ws) hl;exact q _ _ _ r2 s2 ⟨z,l,ws,rfl,jZ.of aX,bu.mono s2 _ _ h2⟩
 ·cases h
noncomputable def signs(x:List Nat):List D:=x.map λc=>.str [c]
abbrev Qf:List V->Hp->VK->Prop:=λxs H Q=>∃z,xs=[.str z]/\z.length<=sizeLine/\∀l,H l=none->Q (.ref l) (upd H l (.lst (z.cps.toList.map λc=>V.str ⟨#[c]⟩)))
theorem JG(hh:X.calm=true):gP X (.type "list") Qf:=by
 intro pins s σ H xs us Q I r h;obtain⟨z,rfl,hz,q⟩:=h;obtain⟨u,rfl,⟨t,rfl⟩⟩:=vals1 r;refine call_list_str (I.ok.hd hh) z t (λh' tk acc' c' kp e hacc=>?_) hz;refine⟨.ref s.heap.objs.size,_,I.laid kp (Qq0 _) (show fj X.prog X.w _ h' _ (.lst (z.cps.toList.map λc=>V.str ⟨#[c]⟩)) from⟨?_,acc'.toList,c',?_,by simpa using e⟩),rfl,q _ (I.hok.fresh (Qq0 _))⟩
 ·simpa[Str.length] using hz
 ·obtain⟨hsz,hit⟩:=hacc;have go:∀(cs:List Nat) (vs:List Value),vs.length=cs.length->(∀(j:Nat) (v:Value),vs[j]? = some v->∃(c:Nat) (u:Tok),cs[j]? = some c/\v=Value.str ⟨#[c]⟩ u)->Vals (cs.map λc=>V.str ⟨#[c]⟩) vs:=by
   intro cs
   induction cs with
   | nil=>intro vs hl _;rw[Qjy hl];exact .nil
   | cons c cs ih=>
    intro vs hl hv;cases vs with
    | nil=>simp at hl
    | cons v vs=>
     obtain⟨c',u,e1,e2⟩:=hv 0 v rfl;simp at e1;subst e1 e2;exact .cons ⟨u,rfl⟩ (ih vs (by simpa using hl) λj w hw=>by simpa using hv (j+1) w (by simpa using hw))
  refine go _ _ (by simpa using hsz) λj v hv=>?_;obtain⟨c,u,e1,e2⟩:=hit j v (by simpa using hv);exact⟨c,u,by simpa using e1,e2⟩
noncomputable def t7:List D->Option D
 | [.tup xs]=>some (.lst xs)
 | [.lst xs]=>some (.lst xs)
 | [.str x]=>some (.lst (signs x))
 | _=>none
abbrev Qg(K:Fg):List V->Hp->VK->Prop:=λxs H Q=>(∃p ys,xs=[.ref p]/\(jX K H p ys\/jZ K H p ys)/\∀l,H l=none->Q (.ref l) (upd H l (.lst ys)))\/Qf xs H Q
theorem JK(hh:X.calm=true):gP X (.type "list") (Qg X.K):=DK.or (JG hh)
theorem yg{K:Fg}{F:Hp}:∀x:List Nat,bu K F (signs x) (x.map λc=>V.str ⟨#[c]⟩)
 | []=>rfl
 | c::x=>⟨_,_,rfl,⟨rfl,by rw[Qj0];simp⟩,yg x⟩
theorem Wm:CallD C (Qg C.K) t7:=by
 intro Pr F env σ H ds d vs Q r hs h q;unfold t7 at h;split at h
 ·cases h;obtain⟨v,rfl,hv⟩:=jl hs;obtain⟨z,a,ws,rfl,h1,f1,h2⟩:=hv.tup r.fr;refine .inl ⟨a,ws,rfl,.inr h1,λl hl=>?_⟩;obtain⟨r2,s2⟩:=r.new (o:=.lst ws) hl;exact q _ _ _ r2 s2 ⟨z,l,ws,rfl,aX,bu.mono s2 _ _ h2⟩
 ·cases h;obtain⟨v,rfl,hv⟩:=jl hs;obtain⟨z,a,ws,rfl,h1,h2⟩:=hv.lst r.fr;refine .inl ⟨a,ws,rfl,.inl (jX.of h1),λl hl=>?_⟩;obtain⟨r2,s2⟩:=r.new (o:=.lst ws) hl;exact q _ _ _ r2 s2 ⟨z,l,ws,rfl,aX,bu.mono s2 _ _ h2⟩
 ·rename_i x;cases h;obtain⟨v,rfl,hv⟩:=jl hs;obtain⟨rfl,hz⟩:=hv.str;refine .inr ⟨_,rfl,by rw[dI];exact hz,λl hl=>?_⟩;obtain⟨r2,s2⟩:=r.new (o:=.lst ((strOf x).cps.toList.map λc=>V.str ⟨#[c]⟩)) hl;refine q _ _ _ r2 s2 ⟨by simpa[signs] using hz,l,_,rfl,aX,?_⟩;have e:(strOf x).cps.toList=x:=by simp[strOf]
  rw[e];exact yg x
 ·cases h
noncomputable def ue:List D->Option D
 | [.int i,.int j]=>if 0<j/\j<1073741824 then some (.tup [.int (i / j),.int (i % j)]) else none
 | _=>none
theorem N5:CallD C (λxs H Q=>∃i j,xs=[.int i,.int j]/\aew i j/\∀p,H p=none->Q (.ref p) (upd H p (.tup [.int (i / j),.int (i % j)]))) ue:=by
 intro Pr F env σ H ds d vs Q r hs h q;unfold ue at h;split at h
 ·split at h
  ·rename_i hj;cases h;obtain⟨v,w,rfl,hv,hw⟩:=abz hs;obtain rfl:=hv.int;obtain rfl:=hw.int;refine⟨_,_,rfl,hj,λp hp=>?_⟩;obtain⟨r2,s2⟩:=r.new (o:=.tup [.int _,.int _]) hp;exact q _ _ _ r2 s2 ⟨by rw[Qj0];simp,p,_,rfl,jZ.of aX,⟨_,_,rfl,rfl,_,_,rfl,rfl,rfl⟩⟩
  ·cases h
 ·cases h
noncomputable def TV:D->String
 | .non=>"NoneType"
 | .bl _=>"bool"
 | .int _=>"int"
 | .str _=>"str"
 | .tup _=>"tuple"
 | .lst _=>"list"
 | .arr _=>"list"
 | .dct _=>"dict"
 | .gh _=>"dict"
 | .clo _ _=>"NoneType"
noncomputable def tU(d:D)(T:String):Bool:=TV d == T||(TV d == "bool" && T == "int")
theorem aaP{d:D}{u c:Value}{b:Bool}{s:Shared}{A:Around}{E:Value->Shared->Prop}{Q:Value->Shared->Prop}(Hq:X.K.In s.heap)(nc:∀st ds,d ≠ .clo st ds)(h:Sh s.heap d u)(e:PySem.W.kitOne X.K (.type (TV d)) c=some b)(q:∀tk,Q (.bool b) { s with toks:=tk }) :
  wpAny (model X.prog X.w) A (call (.builtin "isinstance") [u,c]) Q E s:=by
 cases d with
 | non=>cases h;exact PySem.W.kia_one PySem.W.kitx_none Hq True.intro e (λz=>nomatch z) q
 | bl y=>cases h;exact PySem.W.kia_one PySem.W.kitx_bool Hq True.intro e (λz=>nomatch z) q
 | int i=>obtain⟨t,rfl⟩:=h;exact PySem.W.kia_one PySem.W.kitx_int Hq True.intro e (λz=>nomatch z) q
 | str y=>obtain⟨t,rfl⟩:=h;exact PySem.W.kia_one PySem.W.kitx_str Hq True.intro e (λz=>nomatch z) q
 | tup xs=>
  obtain⟨a,its,rfl,p,_⟩:=h;obtain⟨o,h1,h2,_⟩:=p;exact PySem.W.kia_one PySem.W.kitx_tuple Hq ⟨o,h1,h2⟩ e (λz=>nomatch z) q
 | lst xs=>
  obtain⟨a,its,rfl,p,_⟩:=h;obtain⟨o,h1,h2,_⟩:=p.isList;exact PySem.W.kia_one PySem.W.kitx_list Hq ⟨o,h1,h2⟩ e (λz=>nomatch z) q
 | arr xs=>
  obtain⟨a,its,rfl,p,_⟩:=h;obtain⟨o,h1,h2,_⟩:=p.isList;exact PySem.W.kia_one PySem.W.kitx_list Hq ⟨o,h1,h2⟩ e (λz=>nomatch z) q
 | dct kvs=>
  obtain⟨a,o,rfl,h1,h2⟩:=h;exact PySem.W.kia_one PySem.W.kitx_dict Hq ⟨o,h1,h2.1⟩ e (λz=>nomatch z) q
 | gh kvs=>
  obtain⟨a,o,rfl,h1,h2⟩:=h;exact PySem.W.kia_one PySem.W.kitx_dict Hq ⟨o,h1,h2.1⟩ e (λz=>nomatch z) q
 | clo st ds=>exact(nc st ds rfl).elim
noncomputable def Jy(T:String)(d:D):Option D:=match d with
 | .clo _ _=>none
 | _=>some (.bl (tU d T))
theorem V8{T:String}{d e:D}(h:Jy T d=some e):(∀st ds,d ≠ .clo st ds)/\e = .bl (tU d T):=by cases d<;>simp[Jy] at h<;>exact⟨λ_ _ z=>(by cases z),h.symm⟩
theorem Sv{T:String}(hk:∀d:D,PySem.W.kitOne X.K (.type (TV d)) (.type T)=some (tU d T)) :
  gP X (.builtin "isinstance") (λxs H Q=>∃d x,xs=[x,.ty T]/\(∀st ds,d ≠ .clo st ds)/\Rep X.K H d x/\Q (.bl (tU d T)) H):=by
 intro pins s σ H xs us Q I r h;obtain⟨d,x,rfl,nc,hr,q⟩:=h;obtain⟨u,w,rfl,r1,r2⟩:=vals2 r;cases r2;exact aaP (X:=X) I.KD nc (Rep.sh I d x u hr r1) (hk d) λtk=>⟨.bl _,H,I.tok tk,rfl,q⟩
noncomputable def p8:List D->Option (List Bool)
 | []=>some []
 | .bl b::r=>(p8 r).map (b :: ·)
 | _=>none
theorem Fj{K:Fg}{F:Hp}:∀{ds:List D} {bs:List Bool} {vs:List V},p8 ds=some bs->bu K F ds vs->vs=bs.map V.bl
 | [],bs,vs,h,hr=>by simp[p8] at h;subst h;cases hr;rfl
 | d::ds,bs,vs,h,hr=>by
  obtain⟨v,r,rfl,h1,h2⟩:=hr;cases d with
  | bl b=>
   simp only[p8] at h;cases e:p8 ds with
   | none=>rw[e] at h;cases h
   | some cs=>
    rw[e] at h;cases h;cases h1;rw[Fj e h2]
    rfl
  | _=>simp[p8] at h
theorem Ej:∀{bs:List Bool} {us:List Value},Vals (bs.map V.bl) us->us=bs.map Value.bool
 | [],_,.nil=>rfl
 | b::bs,_,.cons r t=>by
  cases r;rw[Ej t]
  rfl
theorem Ao(bs:List Bool):(List.range bs.length).all (λi=>bs.getD i true)=bs.all id:=by
 induction bs with
 | nil=>rfl
 | cons b bs ih=>
  rw[Qqw,List.range_succ_eq_map,List.all_cons,List.all_map,List.all_cons];simp only[List.getD_cons_zero,id]
  congr 1
theorem Oa(hc:X.calm=true):gP X (.builtin "all") (λxs H Q=>∃(p:Addr) (bs:List Bool),xs=[.ref p]/\jX X.K H p (bs.map V.bl)/\Q (.bl (bs.all id)) H):=by
 intro pins s σ H xs us Q I r h;obtain⟨p,bs,rfl,hq,q⟩:=h;obtain⟨u,rfl,rx⟩:=vals1 r;cases rx;obtain⟨its,rv,pl,_⟩:=I.list hq;have e:=Ej rv;subst e;refine call_all_walk (wpAny_pyIter_list pl.isList ?_);have hlt:p<s.heap.objs.size:=by obtain⟨o,e,_⟩:=pl.isList;exact Qq9 e
 refine⟨s.heap.objs.size,_,_,_,_,_,λi=>bs.getD i true,rfl,Walks.list (A:=X.A.in1) (show X.A.in1.handled=none from I.ok.hd hc) s.heap.objs.size p (Qw6 hlt) (bs.map Value.bool).toArray,⟨⟨_,Qwz _ rfl,rfl,rfl⟩,by obtain⟨o,e,rr⟩:=pl.isList;exact⟨o,Qqz _ e,rr⟩⟩,?_,λh' tk hk=>?_⟩
 ·intro i v s' Q' E' hv hq';have hv:(bs.map Value.bool).toArray[i]? = some v:=hv;rw[Qj7,Qx1] at hv;cases hb:bs[i]? with
  | none=>rw[hb] at hv;cases hv
  | some b=>
   rw[hb] at hv;cases hv;refine wpAny_truthy_bool ?_;have this:bs.getD i true=b:=by simp[Qwk,hb]
   have hq':Q' (bs.getD i true) s':=hq'
   rwa [this] at hq'
 ·have I1:Inv X pins σ H { s with heap:=h',toks:=tk }:=I.kept λb o e=>hk b o (by simp;exact Qw6 (Qq9 e)) (Qqz _ e);refine⟨.bl _,H,I1,rfl,?_⟩;have e2:(bs.map Value.bool).toArray.size=bs.length:=by simp
  rw[e2,Ao];exact q
noncomputable def Wa:List D->Option D
 | [.lst ds]=>(p8 ds).map λbs=>.bl (bs.all id)
 | _=>none
theorem abv:CallD C (λxs H Q=>∃(p:Addr) (bs:List Bool),xs=[.ref p]/\jX C.K H p (bs.map V.bl)/\Q (.bl (bs.all id)) H) Wa:=by
 intro Pr F env σ H ds d vs Q r hs h q;unfold Wa at h;split at h
 ·rename_i es;cases e:p8 es with
  | none=>rw[e] at h;cases h
  | some bs=>
   rw[e] at h;cases h;obtain⟨v,rfl,hv⟩:=jl hs;obtain⟨z,a,ws,rfl,h1,h2⟩:=hv.lst r.fr;have e2:=Fj e h2;subst e2;exact⟨a,bs,rfl,jX.of h1,q _ H F r (aH.refl F) rfl⟩
 ·cases h
noncomputable def iQ:List D->Option (List (List Nat))
 | []=>some []
 | .str x::r=>(iQ r).map (x :: ·)
 | _=>none
noncomputable def yP(sep:List Nat):List (List Nat)->List Nat
 | []=>[]
 | x::r=>r.foldl (λacc y=>acc++sep++y) x
theorem RB(sep:List Nat)(xs:List (List Nat)):Txt.join (strOf sep) (xs.map strOf)=strOf (yP sep xs):=by
 unfold Txt.join;unfold Builtin.Str.glued;cases xs with
 | nil=>rfl
 | cons x r=>
  show(⟨(r.map strOf).foldl (λacc p=>acc++(strOf sep).cps++p.cps) (strOf x).cps⟩:Str)=strOf (r.foldl (λacc y=>acc++sep++y) x);have go:∀(r:List (List Nat)) (x:List Nat),(r.map strOf).foldl (λacc p=>acc++(strOf sep).cps++p.cps) (strOf x).cps=(strOf (r.foldl (λacc y=>acc++sep++y) x)).cps:=by
   intro r
   induction r with
   | nil=>intro x;rfl
   | cons y r ih=>
    intro x;rw[Qwv,List.foldl_cons,List.foldl_cons];rw[<-ih (x++sep++y)]
    congr 1
    simp[strOf]
  rw[go]
theorem vf{K:Fg}{F:Hp}:∀{ds:List D} {xs:List (List Nat)} {vs:List V},iQ ds=some xs->bu K F ds vs->vs=xs.map λx=>V.str (strOf x)
 | [],bs,vs,h,hr=>by simp[iQ] at h;subst h;cases hr;rfl
 | d::ds,bs,vs,h,hr=>by
  obtain⟨v,r,rfl,h1,h2⟩:=hr;cases d with
  | str b=>
   simp only[iQ] at h;cases e:iQ ds with
   | none=>rw[e] at h;cases h
   | some cs=>
    rw[e] at h;cases h;cases h1.1;rw[vf e h2]
    rfl
  | _=>simp[iQ] at h
theorem uI:∀{xs:List (List Nat)} {us:List Value},Vals (xs.map λx=>V.str (strOf x)) us->StrsAre us (xs.map strOf)
 | [],_,.nil=>.nil
 | x::xs,_,.cons r t=>by
  obtain⟨k,rfl⟩:=r;exact .cons _ k (uI t)
noncomputable def joinFits(sep:List Nat)(xs:List (List Nat)):Bool:=decide ((xs.map List.length).sum+xs.length*sep.length<=16777216)
def rJoin(K:Fg):V->List V->Hp->VK->Prop:=λx vs H Q=>∃sep xs p,x = .str (strOf sep)/\vs=[.ref p]/\jX K H p (xs.map λx=>V.str (strOf x))/\joinFits sep xs=true/\Q (.str (strOf (yP sep xs))) H
theorem Vq:MtR X "str.join" (rJoin X.K):=by
 intro pins s σ H x vs v us Q I rx rv h;obtain⟨sep,xs,p,rfl,rfl,hq,hf,q⟩:=h;obtain⟨t,rfl⟩:=rx;obtain⟨u,rfl,ru⟩:=vals1 rv;cases ru;obtain⟨its,r,pl,_⟩:=I.list hq;have hs:=uI r;refine join_list pl.isList (by simpa using hs) ?_ λt' k=>?_
 ·have hf':=Qx2 hf;have e:((xs.map strOf).map (·.length))=xs.map List.length:=by
   rw[Qj2];apply Qj5;intro z _;exact dI z
  rw[e,dI,Qqv];exact hf'
 ·rw[RB];exact⟨.str _,H,I.tok k,⟨t',rfl⟩,q⟩
theorem Eu(sep:List Nat):∀(r:List (List Nat)) (x:List Nat),(r.foldl (λacc y=>acc++sep++y) x).length=x.length+(r.map List.length).sum+r.length*sep.length
 | [],x=>by simp
 | y::r,x=>by
  rw[List.foldl_cons,Eu sep r,Qq1,Qq1,Qwv,List.sum_cons,Qqw,Nat.add_mul];omega
theorem RC{sep:List Nat}{xs:List (List Nat)}(h:joinFits sep xs=true):(yP sep xs).length<=sizeLine:=by
 have h':=Qx2 h;rw[Qj0];cases xs with
 | nil=>simp[yP]
 | cons x r=>
  show(r.foldl (λacc y=>acc++sep++y) x).length<=_;rw[Eu];rw[Qwv,List.sum_cons,Qqw,Nat.add_mul] at h';omega
noncomputable def qG(x y:D):Option D:=match x,y with
 | .str sep,.lst ds=>(match iQ ds with
  | some xs=>if joinFits sep xs=true then some (.str (yP sep xs)) else none
  | none=>none)
 | _,_=>none
theorem Ux{o e:Expr}{a b:Ev}{apos cpos:Pos}(hK:X.K=C.K)(ho:PX X C o a)(he:Tc X C e b)(hbase:attributeBase o "join" X.env (eval o X.env)=eval o X.env:=by rfl)
  (hs:Ed e X.env:=by rfl)
  (hfew:((backTo cpos (starEach [e] X.env)).all (λx=>!x.1)&&(backToKw cpos (keywordEach [] X.env)).all (λx=>x.1.isSome)
   && decide ([e].length+([]:List Keyword).length+(if ([]:List Keyword).isEmpty then 0 else 1)<30))=true:=by rfl)
  (hline:(apos.endLine == cpos.line)=true:=by rfl) (hplain:(backTo cpos (starEach [] X.env)).any (·.1)=false:=by rfl) :
  PX X C (.Call (.Attribute o "join" apos) [e] [] cpos) (aF qG a b):=by
 refine(Xu PySem.F.plainAttrs_str PySem.F.slot_str_join PySem.F.type_str_join Vq ho (gw he nW hs) hbase hfew hline hs hplain).imp λσ H Q h=>?_;obtain⟨Pr,F,env,env',d,rl,e0,q⟩:=h;obtain⟨x,aG,e1,e2⟩:=aY e0;obtain⟨y,fK,e3,e4⟩:=aY e2;obtain⟨e5,rfl⟩:=gb e4;unfold qG at e5;split at e5
 ·rename_i sep ds;split at e5
  ·rename_i xs hxs;split at e5
   ·rename_i hf;cases e5;refine⟨Pr,F,env,aG,_,rl,e1,λvx H1 F1 r1 s1 p1=>?_⟩;obtain⟨rfl,_⟩:=p1;refine⟨rfl,Pr,F1,aG,env',_,r1,e3,λvy H2 F2 r2 s2 p2=>?_⟩;obtain⟨z,l,ws,rfl,h1,h2⟩:=p2.lst r2.fr;have e6:=vf hxs h2;subst e6;exact⟨sep,xs,l,rfl,rfl,jX.of h1,hf,q _ H2 F2 r2 (s1.trans s2) ⟨rfl,RC hf⟩⟩
   ·cases e5
  ·cases e5
 ·cases e5
end
theorem Rel.put{C:Cfg}{Pr F:Hp}{env:Env}{σ:L2.St}{H:Hp}(r:Rel C Pr F env σ H){i:Nat}{d:D}{v:V}(hfx:C.fx i=none)(p:Rep C.K F d v):Rel C Pr F (env.set i (some (false,d))) (σ.set i (some v)) H:=by
 refine⟨r.pr,r.fr,by rw[Qw8,Qw8];exact r.len,λj e he=>?_,λj e he=>?_,λj k e f b hj hk g1 g2=>?_,r.dj,λj a hj=>?_⟩
 ·by_cases hji:j=i
  ·subst hji;have hl:j<env.length:=by
    have:=(Qq6.mp he).1
    rwa [Qw8] at this
   rw[Qww hl] at he;cases he;exact⟨v,Qww (by rw[<-r.len];exact hl),p⟩
  ·rw[Qq8 (Ne.symm hji)] at he ⊢;exact r.val j e he
 ·by_cases hji:j=i
  ·subst hji;have hl:j<env.length:=by
    have:=(Qq6.mp he).1
    rwa [Qw8] at this
   rw[Qww hl] at he;cases he
  ·rw[Qq8 (Ne.symm hji)] at he ⊢;exact r.own j e he
 ·have nn:∀(j:Nat) (e:D),(env.set i (some (false,d)))[j]? = some (some (true,e))->j≠i:=λj e he z=>by
   subst z;have hl:j<env.length:=by
    have:=(Qq6.mp he).1
    rwa [Qw8] at this
   rw[Qww hl] at he;cases he
  have nj:=nn j e hj;have nk:=nn k f hk;rw[Qq8 (Ne.symm nj)] at hj g1;rw[Qq8 (Ne.symm nk)] at hk g2;exact r.apart j k e f b hj hk g1 g2
 ·have hji:j≠i:=λz=>by rw[z,hfx] at hj;cases hj
  rw[Qq8 (Ne.symm hji)];exact r.fix j a hj
structure Om(K:Fg)(Pr F:Hp)(env:Env)(σ:L2.St)(H:Hp)(d:D)(a:Addr):Prop where
 own:jo K F H d a
 nF:F a=none
 nP:Pr a=none
 ap:∀(j:Nat) (e:D),env[j]? = some (some (true,e))->σ[j]? = some (some (V.ref a))->False
theorem Om.of{C:Cfg}{Pr F:Hp}{env:Env}{σ:L2.St}{H:Hp}{a:Addr}{o:HO}{d:D}(r:Rel C Pr F env σ H)(h:H a=none)(ho:jo C.K F (upd H a o) d a):Om C.K Pr F env σ (upd H a o) d a:=
 ⟨ho,r.fr.free h,r.pr.free h,λj e he hs=>by
  obtain⟨b,h1,h2,_⟩:=r.own j e he;rw[hs] at h1;cases h1;obtain⟨u,hu⟩:=h2.some;rw[h] at hu;cases hu⟩
theorem Rel.QB{C:Cfg}{Pr F:Hp}{env:Env}{σ:L2.St}{H:Hp}(r:Rel C Pr F env σ H){i:Nat}{d:D}{a:Addr}(hfx:C.fx i=none)(n:Om C.K Pr F env σ H d a):Rel C Pr F (env.set i (some (true,d))) (σ.set i (some (.ref a))) H:=by
 have same:∀(j:Nat) (x:Bool×D),(env.set i (some (true,d)))[j]? = some (some x)->j=i->x=(true,d)/\j<env.length:=λj x he z=>by
  subst z;have hl:j<env.length:=by
   have:=(Qq6.mp he).1
   rwa [Qw8] at this
  rw[Qww hl] at he;cases he;exact⟨rfl,hl⟩
 refine⟨r.pr,r.fr,by rw[Qw8,Qw8];exact r.len,λj e he=>?_,λj e he=>?_,λj k e f b hj hk g1 g2=>?_,r.dj,λj a hj=>?_⟩
 ·by_cases hji:j=i
  ·have:=(same j _ he hji).1;cases this
  ·rw[Qq8 (Ne.symm hji)] at he ⊢;exact r.val j e he
 ·by_cases hji:j=i
  ·obtain⟨z,hl⟩:=same j _ he hji;cases z;subst hji;exact⟨a,Qww (by rw[<-r.len];exact hl),n.own,n.nF,n.nP⟩
  ·rw[Qq8 (Ne.symm hji)] at he ⊢;exact r.own j e he
 ·by_cases nj:j=i
  ·by_cases nk:k=i
   ·rw[nj,nk]
   ·obtain⟨z,hl⟩:=same j _ hj nj;subst nj;rw[Qww (by rw[<-r.len];exact hl)] at g1;cases g1;rw[Qq8 (Ne.symm nk)] at hk g2;exact(n.ap k f hk g2).elim
  ·rw[Qq8 (Ne.symm nj)] at hj g1;by_cases nk:k=i
   ·obtain⟨z,hl⟩:=same k _ hk nk;subst nk;rw[Qww (by rw[<-r.len];exact hl)] at g2;cases g2;exact(n.ap j e hj g1).elim
   ·rw[Qq8 (Ne.symm nk)] at hk g2;exact r.apart j k e f b hj hk g1 g2
 ·have hji:j≠i:=λz=>by rw[z,hfx] at hj;cases hj
  rw[Qq8 (Ne.symm hji)];exact r.fix j a hj
theorem Rel.keep{C:Cfg}{Pr F:Hp}{env:Env}{σ:L2.St}{H:Hp}{d:D}{a:Addr}(r:Rel C Pr F env σ H)(n:Om C.K Pr F env σ H d a):∃F',Rel C Pr F' env σ H/\aH F F'/\Rep C.K F' d (.ref a):=by
 obtain⟨o,ho⟩:=n.own.some;have s1:aH F (upd F a o):=kY n.nF;have rep:Rep C.K (upd F a o) d (.ref a):=by
  have h2:=n.own;cases d with
  | lst xs=>obtain⟨z,vs,g1,g2⟩:=h2;rw[ho] at g1;cases g1;exact⟨z,a,vs,rfl,aX,bu.mono s1 _ _ g2⟩
  | dct kvs=>obtain⟨z,ks,g1,g2⟩:=h2;rw[ho] at g1;cases g1;exact⟨z,a,ks,rfl,.inl aX,dw.mono s1 _ _ g2⟩
  | gh kvs=>obtain⟨z,ks,g1,g2⟩:=h2;rw[ho] at g1;cases g1;exact⟨z,a,ks,rfl,.inl aX,cC.mono s1 _ _ g2⟩
  | _=>exact h2.elim
 refine⟨upd F a o,⟨r.pr,λb u e=>?_,r.len,λj e he=>?_,λj e he=>?_,r.apart,λb u e=>?_,r.fix⟩,s1,rep⟩
 ·by_cases hb:b=a
  ·subst hb;rw[aX] at e;cases e;exact ho
  ·rw[bz hb] at e;exact r.fr b u e
 ·obtain⟨v,g1,g2⟩:=r.val j e he;exact⟨v,g1,Rep.mono s1 e v g2⟩
 ·obtain⟨b,g1,g2,g3,g4⟩:=r.own j e he;have hb:b≠a:=λz=>by subst z;exact n.ap j e he g1
  exact⟨b,g1,g2.mono s1 rfl,by rw[bz hb];exact g3,g4⟩
 ·by_cases hb:b=a
  ·subst hb;exact n.nP
  ·rw[bz hb] at e;exact r.dj b u e
theorem Rel.write{C:Cfg}{Pr F:Hp}{env:Env}{σ:L2.St}{H:Hp}{i:Nat}{d d':D}{a:Addr}{u:HO}(r:Rel C Pr F env σ H)(h:env[i]? = some (some (true,d)))(hs:σ[i]? = some (some (V.ref a)))(ho:jo C.K F (upd H a u) d' a) :
  Rel C Pr F (env.set i (some (true,d'))) σ (upd H a u):=by
 obtain⟨a',h1,h2,h3,h4⟩:=r.own i d h;rw[hs] at h1;cases h1;have hi:i<env.length:=(Qq6.mp h).1;have ne:∀(j:Nat) (e:D) (b:Addr),j≠i->env[j]? = some (some (true,e))->σ[j]? = some (some (V.ref b))->b≠a:=λj e b hj he g z=>hj (r.apart j i e d a he h (by rw[<-z];exact g) hs);refine⟨λb w e=>?_,λb w e=>?_,by rw[Qw8];exact r.len,λj e he=>?_,λj e he=>?_,λj k e f b hj hk g1 g2=>?_,r.dj,r.fix⟩
 ·have hb:b≠a:=λz=>by rw[z,h4] at e;cases e
  rw[bz hb];exact r.pr b w e
 ·have hb:b≠a:=λz=>by rw[z,h3] at e;cases e
  rw[bz hb];exact r.fr b w e
 ·by_cases hj:j=i
  ·subst hj;rw[Qww hi] at he;cases he
  ·rw[Qq8 (Ne.symm hj)] at he;exact r.val j e he
 ·by_cases hj:j=i
  ·subst hj;rw[Qww hi] at he;cases he;exact⟨a,hs,ho,h3,h4⟩
  ·rw[Qq8 (Ne.symm hj)] at he;obtain⟨b,g1,g2,g3,g4⟩:=r.own j e he;exact⟨b,g1,g2.mono (aH.refl F) (bz (ne j e b hj he g1)),g3,g4⟩
 ·have un:∀(j:Nat) (e:D),(env.set i (some (true,d')))[j]? = some (some (true,e))->∃e',env[j]? = some (some (true,e')):=λj e he=>by
   by_cases hj:j=i
   ·subst hj;exact⟨d,h⟩
   ·rw[Qq8 (Ne.symm hj)] at he;exact⟨e,he⟩
  obtain⟨e',hj'⟩:=un j e hj;obtain⟨f',hk'⟩:=un k f hk;exact r.apart j k e' f' b hj' hk' g1 g2
def tN(C:Cfg)(ev:Ev):TE:=λσ H Q=>∃(Pr F:Hp) (env env':Env) (d:D),Rel C Pr F env σ H/\ev env = .ok d env'/\
 ∀a H' F',Rel C Pr F' env' σ H'->aH F F'->Om C.K Pr F' env' σ H' d a->Q (.ref a) H'
def Tj(X:Cx)(C:Cfg)(e:Expr)(ev:Ev):Prop:=PE X e (tN C ev)
section
variable{X:Cx}{C:Cfg}{pos:Pos}
theorem Tj.px{e:Expr}{ev:Ev}(h:Tj X C e ev):PX X C e ev:=PE.imp h λσ H Q hq=>by
 obtain⟨Pr,F,env,env',d,r,e,q⟩:=hq;refine⟨Pr,F,env,env',d,r,e,λa H' F' r' s' n'=>?_⟩;obtain⟨F2,r2,s2,p2⟩:=r'.keep n';exact q _ _ F2 r2 (s'.trans s2) p2
theorem Kd{es:List Expr}{r:dg}(h:Lx X C es r):Tj X C (.List es pos) (cu r):=(ZK h).imp λσ H Q hq=>by
 obtain⟨Pr,F,env,env',d,rl,e,q⟩:=hq;obtain⟨ds,aG,e1,e2⟩:=aY e;split at e2
 ·rename_i hz;cases e2;refine⟨Pr,F,env,env',ds,rl,e1,λvs H1 F1 r1 s1 p1=>⟨by rw[p1.length];exact hz,λp hp=>?_⟩⟩;exact q _ _ F1 (r1.fresh hp) s1 (Om.of r1 hp ⟨hz,vs,aX,p1⟩)
 ·cases e2
abbrev GV:=D->Env->Option Env
abbrev Tq:=List D->Env->Option Env
def tG(C:Cfg)(lo:Nat)(gv:GV):TG:=λv σ H Q=>∃(Pr F:Hp) (env env':Env) (d:D),Rel C Pr F env σ H/\Rep C.K F d v/\gv d env=some env'/\
 ∀σ' H' F',Rel C Pr F' env' σ' H'->aH F F'->σ'.take lo=σ.take lo->Q σ' H'
def tGs(C:Cfg)(lo:Nat)(gv:Tq):WN:=λvs σ H Q=>∃(Pr F:Hp) (env env':Env) (ds:List D),Rel C Pr F env σ H/\bu C.K F ds vs/\gv ds env=some env'/\
 ∀σ' H' F',Rel C Pr F' env' σ' H'->aH F F'->σ'.take lo=σ.take lo->Q σ' H'
def WW(X:Cx)(C:Cfg)(lo:Nat)(e:Expr)(gv:GV):Prop:=PG X e (tG C lo gv)
def abJ(X:Cx)(C:Cfg)(lo:Nat)(es:List Expr)(gv:Tq):Prop:=Yn X es (tGs C lo gv)
theorem _root_.L2.PG.imp{X:Cx}{e:Expr}{t t':TG}(h:PG X e t)(i:∀v σ H Q,t' v σ H Q->t v σ H Q):PG X e t':=λpins s σ H v u Q I r q=>h pins s σ H v u Q I r (i v σ H Q q)
theorem _root_.L2.Yn.imp{X:Cx}{e:List Expr}{t t':WN}(h:Yn X e t)(i:∀v σ H Q,t' v σ H Q->t v σ H Q):Yn X e t':=λpins s σ H v u Q I r q=>h pins s σ H v u Q I r (i v σ H Q q)
noncomputable def ak(i:Nat):GV:=λd env=>some (env.set i (some (false,d)))
theorem Qx{lo i:Nat}{x:Str}(hN:X.N.Nodup)(hi:X.N[i]? = some x)(hx:Loc X.env.scope x)(hlo:lo<=i)(hfx:C.fx i=none)(hf:X.fn x=true\/X.env.scope.names.lookup x=some .local:=by first|exact .inl rfl|exact .inr rfl|assumption):WW X C lo (.Name x pos) (ak i):=
 (U7 hN hi hx hf).imp λv σ H Q h=>by
  obtain⟨Pr,F,env,env',d,r,p,e,q⟩:=h;cases e;exact q _ _ F (r.put hfx p) (aH.refl F) (by rw[List.take_set_of_le hlo])
noncomputable def cQ:Tq:=λds env=>if ds.isEmpty then some env else none
noncomputable def aO(g:GV)(gs:Tq):Tq:=λds env=>match ds with
 | d::r=>(g d env).bind λe1=>gs r e1
 | []=>none
theorem Qw{lo:Nat}:abJ X C lo [] cQ:=U6.imp λv σ H Q h=>by
 obtain⟨Pr,F,env,env',ds,r,p,e,q⟩:=h;cases ds with
 | nil=>cases e;cases p;exact⟨rfl,q _ _ F r (aH.refl F) rfl⟩
 | cons d ds=>cases e
noncomputable def cP(n:Nat)(gs:Tq):GV:=λd env=>match d with
 | .tup ds=>if ds.length=n then gs ds env else none
 | _=>none
theorem Uv{lo:Nat}{es:List Expr}{k:Nat}{gs:Tq}{n:Nat}(hc:X.calm=true)(hK:X.K=C.K)(h:abJ X C lo es gs)
  (hn:(assignEach es X.env).length=n:=by rfl) (hst:(assignEach es X.env).findIdx? (·.1)=none:=by rfl):WW X C lo (.Tuple es k pos) (cP n gs):=(Zz hc h hn hst).imp λv σ H Q h=>by
 obtain⟨Pr,F,env,env',d,r,p,e,q⟩:=h;cases d with
 | tup ds=>
  obtain⟨z,a,vs,rfl,h1,h2⟩:=p;unfold cP at e;simp only at e;split at e
  ·rename_i hl;rw[hK];exact⟨a,vs,rfl,aH.tupK r.fr h1,by rw[h2.length];exact hl,Pr,F,env,env',ds,r,h2,e,q⟩
  ·cases e
 | _=>cases e
noncomputable def V2(i:Nat)(ix:Ev):GV:=λd env=>match env[i]? with
 | some (some (_,_))=>(match ix env with
  | .ok (.int k) aG=>(match aG[i]? with
   | some (some (true,.lst xs))=>(XN xs.length k).map λj=>aG.set i (some (true,.lst (xs.set j d)))
   | _=>none)
  | _=>none)
 | _=>none
theorem Y6{lo i:Nat}{x:Str}{ix:Expr}{ev:Ev}{px:Pos}(hN:X.N[i]? = some x)(hv:vZ X.env.scope x)(h:PX X C ix ev)
  (ha:∀v,assign (.Subscript (.Name x px) ix pos) X.env v=(do
   let ov <-holding [v] (eval (.Name x px) X.env)
   let iv <-holding [v,ov] (eval ix X.env)
   standAt pos
   holding [v,ov,iv] (setItem ov iv v)
   release [v,ov,iv] []):=by intro _;rfl)
  (hd:ju x:=by decide) (hcd:vG x:=by decide):WW X C lo (.Subscript (.Name x px) ix pos) (V2 i ev):=
 (ZC (iG hN hv hd hcd) h set_list ha).imp λv σ H Q hq=>by
  obtain⟨Pr,F,env,env',d,r,p,e,q⟩:=hq;unfold V2 at e;split at e
  ·rename_i o0 d0 h0;obtain⟨v0,hv0,_⟩:=r.rd h0;split at e
   ·rename_i k aG e1;split at e
    ·rename_i xs h2;obtain⟨j,hj,e3⟩:=Qw2.mp e;subst e3;refine⟨v0,hv0,Pr,F,env,aG,.int k,r,e1,λvi H1 F1 r1 s1 p1=>?_⟩;cases p1;obtain⟨a,g1,⟨z,vs,g2,g3⟩,g4,g5⟩:=r1.own i _ h2;rw[hv0] at g1;cases g1;refine⟨a,vs,k,j,rfl,rfl,g2,by rw[g3.length];exact hj,?_⟩;refine q σ _ F1 (r1.write h2 hv0 ⟨by rw[Qw8];exact z,vs.set j v,aX,bu.set (Rep.mono s1 d v p) j g3⟩) s1 rfl
    ·cases e
   ·cases e
  ·cases e
end
inductive Out where
 | nx (env:Env)
 | rt (o:Bool) (d:D) (env:Env)
 | bk (env:Env)
 | ct (env:Env)
 | stuck
abbrev bH:=Env->Out
def Fin(C:Cfg)(Pr F:Hp)(D:Ends):Out->Prop
 | .nx env'=>∀σ' H' F',Rel C Pr F' env' σ' H'->aH F F'->D.nx σ' H'
 | .rt false d env'=>∀v σ' H' F',Rel C Pr F' env' σ' H'->aH F F'->Rep C.K F' d v->D.rt v H'
 | .rt true d env'=>∀a σ' H' F',Rel C Pr F' env' σ' H'->aH F F'->Om C.K Pr F' env' σ' H' d a->D.rt (.ref a) H'
 | .bk env'=>∀σ' H' F',Rel C Pr F' env' σ' H'->aH F F'->D.bk σ' H'
 | .ct env'=>∀σ' H' F',Rel C Pr F' env' σ' H'->aH F F'->D.ct σ' H'
 | .stuck=>False
theorem Fin.mono{C:Cfg}{Pr F F1:Hp}{D:Ends}(s:aH F F1):∀{o:Out},Fin C Pr F D o->Fin C Pr F1 D o
 | .nx _,h=>λσ' H' F' r t=>h σ' H' F' r (s.trans t)
 | .rt false _ _,h=>λv σ' H' F' r t=>h v σ' H' F' r (s.trans t)
 | .rt true _ _,h=>λv σ' H' F' r t=>h v σ' H' F' r (s.trans t)
 | .bk _,h=>λσ' H' F' r t=>h σ' H' F' r (s.trans t)
 | .ct _,h=>λσ' H' F' r t=>h σ' H' F' r (s.trans t)
 | .stuck,h=>h
def tS(C:Cfg)(ev:bH):TS:=λD σ H=>∃(Pr F:Hp) (env:Env),Rel C Pr F env σ H/\Fin C Pr F D (ev env)
def S9(X:Cx)(C:Cfg)(st:Stmt)(ev:bH):Prop:=PS X st (tS C ev)
def xu(X:Cx)(C:Cfg)(st:List Stmt)(ev:bH):Prop:=BZ X st (tS C ev)
noncomputable def gB{α:Type}(x:R α)(f:α->Env->Out):Out:=match x with
 | .ok a env=>f a env
 | .stuck=>.stuck
theorem cJ{C:Cfg}{Pr F:Hp}{D:Ends}{α:Type}{x:R α}{f:α->Env->Out}(h:Fin C Pr F D (gB x f)):∃a aG,x = .ok a aG/\Fin C Pr F D (f a aG):=by
 cases x with
 | ok a aG=>exact⟨a,aG,rfl,h⟩
 | stuck=>exact h.elim
section
variable{X:Cx}{C:Cfg}{pos:Pos}
noncomputable def bU:bH:=λenv=>.nx env
noncomputable def aB(a b:bH):bH:=λenv=>match a env with
 | .nx e=>b e
 | .rt o d e=>.rt o d e
 | .bk e=>.bk e
 | .ct e=>.ct e
 | .stuck=>.stuck
theorem Qp:xu X C [] bU:=UJ.imp λD σ H h=>by
 obtain⟨Pr,F,env,r,f⟩:=h;exact f σ H F r (aH.refl F)
noncomputable def dJ(t:eO)(a b:bH):bH:=λenv=>gB (t env) λc aG=>if c=true then a aG else b aG
noncomputable def bw(a:Ev):bH:=λenv=>gB (a env) λd aG=>.rt false d aG
noncomputable def xR(a:Ev):bH:=λenv=>gB (a env) λd aG=>.rt true d aG
noncomputable def Ro(o:Option Env):Out:=match o with
 | some e=>.nx e
 | none=>.stuck
noncomputable def aN(a:Ev)(g:GV):bH:=λenv=>gB (a env) λd aG=>Ro (g d aG)
theorem abB{a:Ev}{g:GV}{D:Ends}{σ:L2.St}{H:Hp}(h:tS C (aN a g) D σ H):T3 (tE C a) (tG C 0 g) D σ H:=by
 obtain⟨Pr,F,env,r,f⟩:=h;obtain⟨d,aG,e1,f1⟩:=cJ f;refine⟨Pr,F,env,aG,d,r,e1,λv H1 F1 r1 s1 p1=>?_⟩;cases e2:g d aG with
 | none=>rw[e2] at f1;exact f1.elim
 | some fK=>rw[e2] at f1;exact⟨Pr,F1,aG,fK,d,r1,p1,e2,λσ2 H2 F2 r2 s2 _=>f1 σ2 H2 F2 r2 (s1.trans s2)⟩
theorem Um{i:Nat}{x:Str}{e:Expr}{a:Ev}{pos':Pos}(hN:X.N.Nodup)(hi:X.N[i]? = some x)(hx:Loc X.env.scope x)(hfx:C.fx i=none)(he:PX X C e a)(hs:swapsWith e (some (.Name x pos')) pos.line X.env=pure false:=by rfl)(hf:X.fn x=true\/X.env.scope.names.lookup x=some .local:=by first|exact .inl rfl|exact .inr rfl|assumption) :
  S9 X C (.Assign [.Name x pos'] e pos) (aN a (ak i)):=(Jc hN hi hx he hs hf).imp λD σ H h=>by
 obtain⟨Pr,F,env,r,f⟩:=h;obtain⟨d,aG,e1,f1⟩:=cJ f;exact⟨Pr,F,env,aG,d,r,e1,λv H1 F1 r1 s1 p1=>f1 _ H1 F1 (r1.put hfx p1) s1⟩
noncomputable def dO(i:Nat)(a:Ev):bH:=λenv=>gB (a env) λd aG=>.nx (aG.set i (some (true,d)))
theorem Uo{i:Nat}{x:Str}{e:Expr}{a:Ev}{pos':Pos}(hN:X.N.Nodup)(hi:X.N[i]? = some x)(hx:Loc X.env.scope x)(hfx:C.fx i=none)(he:Tj X C e a)(hs:swapsWith e (some (.Name x pos')) pos.line X.env=pure false:=by rfl)(hf:X.fn x=true\/X.env.scope.names.lookup x=some .local:=by first|exact .inl rfl|exact .inr rfl|assumption) :
  S9 X C (.Assign [.Name x pos'] e pos) (dO i a):=(Jc hN hi hx he hs hf).imp λD σ H h=>by
 obtain⟨Pr,F,env,r,f⟩:=h;obtain⟨d,aG,e1,f1⟩:=cJ f;exact⟨Pr,F,env,aG,d,r,e1,λv H1 F1 r1 s1 p1=>f1 _ H1 F1 (r1.QB hfx p1) s1⟩
noncomputable def fM(i:Nat)(a:Ev):bH:=λenv=>match env[i]? with
 | some (some (true,.lst _))=>gB (a env) λd aG=>(match aG[i]? with
  | some (some (true,.lst xs))=>if xs.length<sizeLine then .nx (aG.set i (some (true,.lst (xs++[d])))) else .stuck
  | _=>.stuck)
 | _=>.stuck
theorem Ur{i:Nat}{x:Str}{e:Expr}{a:Ev}{px apos cpos:Pos}(hN:X.N[i]? = some x)(hv:vZ X.env.scope x)(he:PX X C e a)(hK:X.K=C.K)
  (hs:swapsWith (.Call (.Attribute (.Name x px) "append" apos) [e] [] cpos) none pos.line X.env=pure false:=by rfl)
  (hfew:((backTo cpos (starEach [e] X.env)).all (λx=>!x.1)&&(backToKw cpos (keywordEach [] X.env)).all (λx=>x.1.isSome)
   && decide (([e]:List Expr).length+([]:List Keyword).length+(if ([]:List Keyword).isEmpty then 0 else 1)<30))=true:=by rfl)
  (hbase:attributeBase (.Name x px) "append" X.env (eval (.Name x px) X.env)=eval (.Name x px) X.env:=by rfl)
  (hline:(apos.endLine == cpos.line)=true:=by rfl) (hst:Ed e X.env:=by rfl) (hplain:(backTo cpos (starEach [] X.env)).any (·.1)=false:=by rfl)
  (hd:ju x:=by decide) (hcd:vG x:=by decide):S9 X C (.Expr (.Call (.Attribute (.Name x px) "append" apos) [e] [] cpos) pos) (fM i a):=by
 refine PS.imp (UL (Xu PySem.F.plainAttrs_list PySem.F.slot_list_append PySem.F.type_list_append Bk (iG hN hv hd hcd) (gw he nW hst) hbase hfew hline hst hplain) hs) λD σ H h=>?_;obtain⟨Pr,F,env,r,f⟩:=h;unfold fM at f;split at f
 ·rename_i xs0 h0;obtain⟨d,aG,e1,f1⟩:=cJ f;obtain⟨a0,hv0,⟨z0,vs0,g0,_⟩,_⟩:=r.own i _ h0;refine⟨_,hv0,.inl ⟨rfl,vs0,jX.of g0⟩,Pr,F,env,aG,d,r,e1,λv H1 F1 r1 s1 p1=>?_⟩;split at f1
  ·rename_i xs h1;split at f1
   ·rename_i hz;obtain⟨a,g1,⟨z,vs,g2,g3⟩,g4,g5⟩:=r1.own i _ h1;rw[hv0] at g1;cases g1;refine⟨a0,vs,v,rfl,rfl,g2,by rw[g3.length];exact hz,?_⟩;exact f1 σ _ F1 (r1.write h1 hv0 ⟨by rw[Qq1];exact hz,vs++[v],aX,g3.append (bu.one p1)⟩) s1
   ·exact f1.elim
  ·exact f1.elim
 ·exact f.elim
def qd(K:Fg)(F:Hp)(ds:List D)(J:It):Prop:=∀(i:Nat) (H:Hp),aH F H->(ds[i]? = none->i=ds.length->J.stop i H)/\∀d,ds[i]? = some d->J.go i H/\∀x H',J.yld i H x H'->
 (H'=H/\Rep K F d x)\/∃p vs es,H p=none/\H'=upd H p (.tup vs)/\x = .ref p/\d = .tup es/\es.length<=sizeLine/\bu K F es vs
def tI(C:Cfg)(ev:dg):TI:=λσ H R=>∃(Pr F:Hp) (env env':Env) (ds:List D),Rel C Pr F env σ H/\ev env = .ok ds env'/\
 ∀J H' F',Rel C Pr F' env' σ H'->aH F F'->qd C.K F' ds J->R J H'
def Yl(X:Cx)(C:Cfg)(tg iter:Expr)(ev:dg):Prop:=PI X tg iter (tI C ev)
theorem _root_.L2.PI.imp{X:Cx}{tg e:Expr}{t t':TI}(h:PI X tg e t)(i:∀σ H R,t' σ H R->t σ H R):PI X tg e t':=λpins s σ H R I q=>h pins s σ H R I (i σ H R q)
theorem qd.item{Pr F F1:Hp}{env:Env}{σ:L2.St}{H:Hp}{ds:List D}{J:It}{i:Nat}{d:D}{x:V}{H':Hp}(r:Rel C Pr F1 env σ H)(s:aH F F1)(y:qd C.K F ds J)(hd:ds[i]? = some d)(hy:J.yld i H x H') :
  ∃F2,Rel C Pr F2 env σ H'/\aH F1 F2/\Rep C.K F2 d x:=by
 rcases((y i H (s.trans r.fr)).2 d hd).2 x H' hy with ⟨rfl,p⟩|⟨p,vs,es,hp,rfl,rfl,rfl,hz,q⟩
 ·exact⟨F1,r,aH.refl F1,Rep.mono s _ _ p⟩
 ·obtain⟨r2,s2⟩:=r.new (o:=.tup vs) hp;exact⟨_,r2,s2,hz,p,vs,rfl,jZ.of aX,bu.mono (s.trans s2) _ _ q⟩
noncomputable def jh(g:GV)(b:bH):List D->bH
 | [],env=>.nx env
 | d::ds,env=>(match g d env with
  | none=>.stuck
  | some e1=>(match b e1 with
   | .nx e2=>jh g b ds e2
   | .ct e2=>jh g b ds e2
   | .bk e2=>.nx e2
   | .rt o d e2=>.rt o d e2
   | .stuck=>.stuck))
noncomputable def gq(it:dg)(g:GV)(b:bH):bH:=λenv=>gB (it env) λds aG=>jh g b ds aG
theorem Uq{tg iter:Expr}{body:List Stmt}{it:dg}{g:GV}{b:bH}(hp:PassesOwn (model X.prog X.w) X.A X.env X.xe)(hc:X.calm=true)(hi:Yl X C tg iter it)(hg:WW X C 0 tg g)(hb:xu X C body b)
  (hs:∀x,foldedSetIterable iter X.env x=pure x:=by intro _;rfl):S9 X C (.For tg iter body [] pos) (gq it g b):=(Zo hp hc hi hg hb hs).imp λD σ H h=>by
 obtain⟨Pr,F,env,r,f⟩:=h;obtain⟨ds,aG,e1,f1⟩:=cJ f;refine⟨Pr,F,env,aG,ds,r,e1,λJ H1 F1 r1 s1 y1=>?_⟩;refine⟨λi m σ' H'=>m=ds.length - i/\i<=ds.length/\∃F' env',Rel C Pr F' env' σ' H'/\aH F1 F'/\Fin C Pr F' D (jh g b (ds.drop i) env'),⟨ds.length,rfl,Qxy _,F1,aG,r1,aH.refl _,f1.mono s1⟩,?_⟩;rintro i m σ' H' ⟨rfl,hi,F',env',r',s',f'⟩;by_cases hl:i<ds.length
 ·have hd:ds[i]? = some ds[i]:=Qqy hl;have hdr:ds.drop i=ds[i]::ds.drop (i+1):=Qzz hl;have yy:=y1 i H' (s'.trans r'.fr);refine .inr ⟨(yy.2 _ hd).1,λσ2 H2=>∃F' env',Rel C Pr F' env' σ2 H2/\aH F1 F'/\Fin C Pr F' D (jh g b (ds.drop (i+1)) env'),λσ2 H2 h2=>⟨ds.length - (i+1),by omega,rfl,hl,h2⟩,λx H2 hy=>?_⟩;obtain⟨F2,r2,s2,p2⟩:=qd.item r' s' y1 hd hy;rw[hdr] at f';have f2:=f'.mono s2;unfold jh at f2;cases eg:g ds[i] env' with
  | none=>rw[eg] at f2;exact f2.elim
  | some e2=>
   rw[eg] at f2;refine⟨Pr,F2,env',e2,ds[i],r2,p2,eg,λσ3 H3 F3 r3 s3 _=>⟨Pr,F3,e2,r3,?_⟩⟩;simp only at f2;have Xj:aH F1 F3:=(s'.trans s2).trans s3;cases eb:b e2 with
   | nx e3=>rw[eb] at f2;exact λσ4 H4 F4 r4 s4=>⟨F4,e3,r4,Xj.trans s4,f2.mono (s3.trans s4)⟩
   | ct e3=>rw[eb] at f2;exact λσ4 H4 F4 r4 s4=>⟨F4,e3,r4,Xj.trans s4,f2.mono (s3.trans s4)⟩
   | bk e3=>rw[eb] at f2;exact λσ4 H4 F4 r4 s4=>f2 σ4 H4 F4 r4 (s3.trans s4)
   | rt o d e3=>rw[eb] at f2;cases o<;>exact λv σ4 H4 F4 r4 s4 p4=>f2 v σ4 H4 F4 r4 (s3.trans s4) p4
   | stuck=>rw[eb] at f2;exact f2.elim
 ·have e:i=ds.length:=by omega
  subst e;rw[List.drop_length] at f';exact .inl ⟨(y1 _ H' (s'.trans r'.fr)).1 (List.getElem?_eq_none (Qq0 _)) rfl,f' σ' H' F' r' (aH.refl F')⟩
noncomputable def cN(t:eO)(b:bH):Nat->bH
 | 0,_=>.stuck
 | n+1,env=>gB (t env) λc e1=>if c=true then (match b e1 with
   | .nx e2=>cN t b n e2
   | .ct e2=>cN t b n e2
   | .bk e2=>.nx e2
   | .rt o d e2=>.rt o d e2
   | .stuck=>.stuck) else .nx e1
theorem Mq{c:Expr}{body:List Stmt}{t:eO}{b:bH}(n:Nat)(hp:PassesOwn (model X.prog X.w) X.A X.env X.xe)(hc:PXT X C c t)(hb:xu X C body b):S9 X C (.While c body [] pos) (cN t b n):=(FJ hp hc hb).imp λD σ H h=>by
 obtain⟨Pr,F,env,r,f⟩:=h;refine⟨λm σ' H'=>∃F' env',Rel C Pr F' env' σ' H'/\aH F F'/\Fin C Pr F' D (cN t b m env'),⟨n,F,env,r,aH.refl _,f⟩,?_⟩;rintro m σ' H' ⟨F',env',r',s',f'⟩;cases m with
 | zero=>exact f'.elim
 | succ m=>
  unfold cN at f';obtain⟨k,e1,e2,f1⟩:=cJ f';refine⟨Pr,F',env',e1,k,r',e2,λH1 F1 r1 s1=>?_⟩;have f2:=f1.mono s1;show if k=true then _ else _
  split at f2
  ·rename_i hk;rw[if_pos hk];refine⟨λσ2 H2=>∃F' env',Rel C Pr F' env' σ2 H2/\aH F F'/\Fin C Pr F' D (cN t b m env'),λσ2 H2 h2=>⟨m,Nat.lt_succ_self _,h2⟩,Pr,F1,e1,r1,?_⟩;have Xj:aH F F1:=s'.trans s1;cases eb:b e1 with
   | nx e3=>rw[eb] at f2;exact λσ4 H4 F4 r4 s4=>⟨F4,e3,r4,Xj.trans s4,f2.mono s4⟩
   | ct e3=>rw[eb] at f2;exact λσ4 H4 F4 r4 s4=>⟨F4,e3,r4,Xj.trans s4,f2.mono s4⟩
   | bk e3=>rw[eb] at f2;exact λσ4 H4 F4 r4 s4=>f2 σ4 H4 F4 r4 s4
   | rt o d e3=>rw[eb] at f2;cases o<;>exact λv σ4 H4 F4 r4 s4 p4=>f2 v σ4 H4 F4 r4 s4 p4
   | stuck=>rw[eb] at f2;exact f2.elim
  ·rename_i hk;rw[if_neg hk];exact f2 σ' H1 F1 r1 (aH.refl F1)
end
end Ev
namespace L2
open PySem PySem.Spec PyProof.Rows
noncomputable def Its(z:Str):It:=⟨λi _=>i<z.cps.size,λi H x H'=>H'=H/\∃c,z.cps[i]? = some c/\x = .str ⟨#[c]⟩,λi _=>z.cps.size<=i⟩
theorem LQ{P:Program}{w:World}{K:PySem.W.Frag}{tg:Expr}(it:Addr)(z:Str)(t:Tok):Turn P w K tg (Its z) [it] it (λi h=>h.IsStrIter it "str_ascii_iterator" z t i/\i<=z.cps.size) where
 mem:=by simp
 obj:=λi h st b hb=>by
  have e:b=it:=by simpa using hb
  subst e;obtain⟨⟨o,ho,hc,hd⟩,_⟩:=st;exact⟨o,ho,λv z=>by rw[hd] at z;cases z⟩
 keep:=λi h h' st k=>let ⟨⟨o,ho,r⟩,l⟩:=st;⟨⟨o,k it (by simp) o ho,r⟩,l⟩
 item:=by intro X hP hw hK hc i pins s σ H E I hf st hg;subst hP hw hK;obtain⟨f0,f1,f2,f3,f4,f5⟩:=hf it (by simp);have hg':i<z.cps.size:=hg;refine wpAny_pyNext_ascii_item st.1 (c:=z.cps[i]) (by simp[hg']) λh' hit' hs'=>?_;have I1:Inv X pins σ H { s with heap:=h',toks:=s.toks+1 }:=I.turned (λb o hb e=>hs'.extBut b o hb e) f0 f1 f3 f4 f5;obtain⟨o,ho,hcl,hda⟩:=hit';refine⟨_,rfl,Gz (s:={ s with heap:=h',toks:=s.toks+1 }) (n:="str_ascii_iterator") ho hcl hda (by decide) ⟨.str ⟨#[z.cps[i]]⟩,H,I1,⟨_,rfl⟩,⟨rfl,_,by simp[hg'],rfl⟩,⟨⟨o,ho,hcl,hda⟩,hg'⟩,λb hb=>(hf b hb).1⟩⟩
 done:=by intro X hP hw hK hc i pins s σ H E I hf st hg;subst hP hw hK;obtain⟨f0,f1,f2,f3,f4,f5⟩:=hf it (by simp);have hg':z.cps.size<=i:=hg;exact wpAny_pyNext_ascii_end (I.ok.hd hc) st.1 (by simp;omega) λh' eb=>⟨rfl,I.turned (t':=s.toks) (λb o hb e=>eb b o hb e) f0 f1 f3 f4 f5⟩
 self:=λ_ _ _ _ _ st h=>wpAny_pyIter_striter_ascii st.1 h
theorem LK{P:Program}{w:World}{K:PySem.W.Frag}{tg:Expr}(it:Addr)(z:Str)(t:Tok):Turn P w K tg (Its z) [it] it (λi h=>h.IsStrIter it "str_iterator" z t i/\i<=z.cps.size) where
 mem:=by simp
 obj:=λi h st b hb=>by
  have e:b=it:=by simpa using hb
  subst e;obtain⟨⟨o,ho,hc,hd⟩,_⟩:=st;exact⟨o,ho,λv z=>by rw[hd] at z;cases z⟩
 keep:=λi h h' st k=>let ⟨⟨o,ho,r⟩,l⟩:=st;⟨⟨o,k it (by simp) o ho,r⟩,l⟩
 item:=by intro X hP hw hK hc i pins s σ H E I hf st hg;subst hP hw hK;obtain⟨f0,f1,f2,f3,f4,f5⟩:=hf it (by simp);have hg':i<z.cps.size:=hg;refine wpAny_pyNext_wide_item st.1 (c:=z.cps[i]) (by simp[hg']) λh' hit' hs'=>?_;have I1:Inv X pins σ H { s with heap:=h',toks:=s.toks+1 }:=I.turned (λb o hb e=>hs'.extBut b o hb e) f0 f1 f3 f4 f5;obtain⟨o,ho,hcl,hda⟩:=hit';refine⟨_,rfl,Gz (s:={ s with heap:=h',toks:=s.toks+1 }) (n:="str_iterator") ho hcl hda (by decide) ⟨.str ⟨#[z.cps[i]]⟩,H,I1,⟨_,rfl⟩,⟨rfl,_,by simp[hg'],rfl⟩,⟨⟨o,ho,hcl,hda⟩,hg'⟩,λb hb=>(hf b hb).1⟩⟩
 done:=by intro X hP hw hK hc i pins s σ H E I hf st hg;subst hP hw hK;obtain⟨f0,f1,f2,f3,f4,f5⟩:=hf it (by simp);have hg':z.cps.size<=i:=hg;exact wpAny_pyNext_wide_end (I.ok.hd hc) st.1 (by simp;omega) λh' eb=>⟨rfl,I.turned (t':=s.toks) (λb o hb e=>eb b o hb e) f0 f1 f3 f4 f5⟩
 self:=λ_ _ _ _ _ st h=>wpAny_pyIter_striter_wide st.1 h
section
variable{X:Cx}{tg:Expr}
def afU(K:PySem.W.Frag)(tl:TE):TI:=λσ H R=>tl σ H λx H1=>(∃a,x = .ref a/\(∃xs,jX K H1 a xs)/\R (Itl K a) H1)\/(∃a,x = .ref a/\(∃xs,jZ K H1 a xs)/\R (Itt K a) H1)\/∃z,x = .str z/\R (Its z) H1
theorem Zy{l:Expr}{tl:TE}(hl:PE X l tl):PI X tg l (afU X.K tl):=by
 intro pins s σ H R I h;refine fV (hl pins s σ H _ I h) λv s1 ⟨x,H1,I1,r1,q1⟩=>?_;have own:∀b ∈ [s1.heap.objs.size],rO X pins H1 b:=λb hb=>by
  have e:b=s1.heap.objs.size:=by simpa using hb
  subst e;exact I1.Wb (Qq0 _) (I1.hok.fresh (Qq0 _))
 rcases q1 with ⟨a,e,⟨xs,hq⟩,q⟩|⟨a,e,⟨xs,hq⟩,q⟩|⟨z,e,q⟩
 ·subst e;cases r1;obtain⟨its,rv,p,hz⟩:=I1.list hq;refine wpAny_pyIter_list p.isList ?_;exact⟨s1.heap.objs.size,[s1.heap.objs.size],_,_,H1,rfl,I1.kept (t':=s1.toks) λb o e=>Qqz _ e,LR a _,⟨_,Qwz _ rfl,rfl,rfl⟩,own,q⟩
 ·subst e;cases r1;obtain⟨its,rv,p,hz⟩:=I1.tuple hq;refine wpAny_pyIter_tuple (show s1.heap.IsTuple a its.toArray from p) ?_;exact⟨s1.heap.objs.size,[s1.heap.objs.size],_,_,H1,rfl,I1.kept (t':=s1.toks) λb o e=>Qqz _ e,HD a _,⟨_,Qwz _ rfl,rfl,rfl⟩,own,q⟩
 ·subst e;obtain⟨t,rfl⟩:=r1;cases ha:z.cps.all (·< 128)
  ·exact wpAny_pyIter_wide ha ⟨s1.heap.objs.size,[s1.heap.objs.size],_,_,H1,rfl,I1.kept (t':=s1.toks) λb o e=>Qqz _ e,LK _ z t,⟨⟨_,Qwz _ rfl,rfl,rfl⟩,Qxy _⟩,own,q⟩
  ·exact wpAny_pyIter_ascii ha ⟨s1.heap.objs.size,[s1.heap.objs.size],_,_,H1,rfl,I1.kept (t':=s1.toks) λb o e=>Qqz _ e,LQ _ z t,⟨⟨_,Qwz _ rfl,rfl,rfl⟩,Qxy _⟩,own,q⟩
end
end L2
namespace Ev
open PySem PySem.Spec PyProof.Rows L2
section
variable{X:Cx}{C:Cfg}{pos:Pos}{tg:Expr}
noncomputable def o9(x:List Nat):List D:=x.map λc=>.str [c]
theorem Hu{F:Hp}{a:Addr}{vs:List V}{ds:List D}(h:jZ C.K F a vs)(p:bu C.K F ds vs):qd C.K F ds (Itt C.K a):=λi H s=>by
 refine⟨λ_ e=>⟨vs,aH.tupK s h,by rw[p.length,e];exact Qq0 _⟩,λd hd=>?_⟩;obtain⟨v,h1,h2⟩:=p.get hd;refine⟨⟨vs,v,aH.tupK s h,h1⟩,λx H' hy=>.inl ⟨hy.1,?_⟩⟩;have:=hy.2 vs (aH.tupK s h);rw[h1] at this;cases this;exact h2
theorem Hv{F:Hp}{x:List Nat}:qd C.K F (o9 x) (Its (strOf x)):=λi H s=>by
 refine⟨λ_ e=>?_,λd hd=>?_⟩
 ·show x.toArray.size<=i;rw[e];simp[o9]
 ·unfold o9 at hd;rw[Qx1] at hd;obtain⟨c,hc,rfl⟩:=Qw2.mp hd;refine⟨?_,λv H' hy=>.inl ⟨hy.1,?_⟩⟩
  ·show i<x.toArray.size;have:=(Qq6.mp hc).1
   simpa using this
  ·obtain⟨c',h1,rfl⟩:=hy.2;have h2:x[i]? = some c':=by simpa[strOf] using h1
   rw[hc] at h2;cases h2;exact⟨rfl,by show 1<=sizeLine;decide⟩
noncomputable def itD:D->Option (List D)
 | .lst xs=>some xs
 | .arr xs=>some xs
 | .tup xs=>some xs
 | .str x=>some (o9 x)
 | _=>none
noncomputable def gf(a:Ev):dg:=λenv=>bindR (a env) λd aG=>je (itD d) aG
theorem Uu{l:Expr}{a:Ev}(hK:X.K=C.K)(h:PX X C l a):Yl X C tg l (gf a):=(Zy h).imp λσ H R hq=>by
 obtain⟨Pr,F,env,env',ds,r,e,q⟩:=hq;obtain⟨d,aG,e1,e2⟩:=aY e;obtain⟨e3,rfl⟩:=gb e2;refine⟨Pr,F,env,env',d,r,e1,λv H1 F1 r1 s1 p1=>?_⟩;rw[hK];cases d with
 | lst xs=>
  cases e3;obtain⟨z,a,vs,rfl,g1,g2⟩:=p1;refine .inl ⟨a,rfl,⟨vs,jX.of (r1.fr _ _ g1)⟩,q _ H1 F1 r1 s1 λi H s=>?_⟩;refine⟨λ_ e=>⟨vs,jX.of (s _ _ g1),by rw[g2.length,e];exact Qq0 _⟩,λd hd=>?_⟩;obtain⟨v,h1,h2⟩:=g2.get hd;refine⟨⟨vs,v,jX.of (s _ _ g1),h1⟩,λx H' hy=>.inl ⟨hy.1,?_⟩⟩;have:=hy.2 vs (jX.of (s _ _ g1));rw[h1] at this;cases this;exact h2
 | arr xs=>
  cases e3;obtain⟨z,a,vs,rfl,g1,g2⟩:=p1;refine .inl ⟨a,rfl,⟨vs,r1.fr.seq g1⟩,q _ H1 F1 r1 s1 λi H s=>?_⟩;refine⟨λ_ e=>⟨vs,s.seq g1,by rw[g2.length,e];exact Qq0 _⟩,λd hd=>?_⟩;obtain⟨v,h1,h2⟩:=g2.get hd;refine⟨⟨vs,v,s.seq g1,h1⟩,λx H' hy=>.inl ⟨hy.1,?_⟩⟩;have:=hy.2 vs (s.seq g1);rw[h1] at this;cases this;exact h2
 | tup xs=>
  cases e3;obtain⟨z,a,vs,rfl,g1,g2⟩:=p1;exact .inr (.inl ⟨a,rfl,⟨vs,aH.tupK r1.fr g1⟩,q _ H1 F1 r1 s1 (Hu g1 g2)⟩)
 | str x=>
  cases e3;obtain⟨rfl,z⟩:=p1;exact .inr (.inr ⟨_,rfl,q _ H1 F1 r1 s1 Hv⟩)
 | _=>cases e3
noncomputable def jy(lo c:Int)(n:Nat):List D:=(List.range n).map λ(i:Nat)=>.int (lo+i*c)
theorem qN(lo c:Int)(n:Nat):(jy lo c n).length=n:=by simp[jy]
theorem Ig{lo c:Int}{n i:Nat}{d:D}(h:(jy lo c n)[i]? = some d):i<n/\d = .int (lo+i*c):=by
 have hi:i<n:=by
  have:=(Qq6.mp h).1
  rwa [qN] at this
 refine⟨hi,?_⟩;unfold jy at h;rw[Qx1,List.getElem?_range hi] at h;cases h;rfl
theorem Hw{F:Hp}{lo:Int}{n:Nat}:qd C.K F (jy lo 1 n) (Itr lo n):=λi H s=>by
 refine⟨λ_ e=>by show n<=i;rw[e,qN];exact Qq0 _,λd hd=>?_⟩;obtain⟨hi,rfl⟩:=Ig hd;refine⟨hi,λx H' hy=>.inl ⟨hy.1,?_⟩⟩;show x = .int _;rw[Int.mul_one];exact hy.2
noncomputable def jH(j:Int):Bool:=decide (-(2^62)<=j)&&decide (j<2^62)
theorem Ir{j:Int}(h:jH j=true) : -(2^62)<=j/\j<2^62:=by unfold jH at h;rw[Qz5] at h;exact⟨Qx2 h.1,Qx2 h.2⟩
noncomputable def yd:List D->Option (List D)
 | [.int j]=>if jH j=true then some (jy 0 1 j.toNat) else none
 | [.int i,.int j]=>if jH i=true/\jH j=true then some (jy i 1 (j - i).toNat) else none
 | [.int i,.int j,.int c]=>if c≠0/\c.natAbs<1073741824/\Builtin.Range.small i j c=true then some (jy i c (Builtin.Range.rangeSize i j c).toNat) else none
 | _=>none
noncomputable def iw(a:dg):dg:=λenv=>bindR (a env) λds aG=>je (yd ds) aG
theorem bu.afS{F:Hp}{i:Int}{vs:List V}(h:bu C.K F [.int i] vs):vs=[.int i]:=by obtain⟨v,r,rfl,h1,h2⟩:=h;cases h1;cases h2;rfl
theorem IW{a:Expr}{ea:dg}{p pos:Pos}(hg:Gl X "range")(hm:X.mg "range" = none)(ha:Lx X C [a] ea)(hl:∀env ds env',ea env = .ok ds env'->ds.length=1)(hs:starEach [a] X.env=[(false,eval a X.env)]:=by rfl):Yl X C tg (.Call (.Name "range" p) [a] [] pos) (iw ea):=
 (My hg hm ha hs).imp λσ H R hq=>by
  obtain⟨Pr,F,env,env',ds,r,e,q⟩:=hq;obtain⟨as,aG,e1,e2⟩:=aY e;obtain⟨e3,rfl⟩:=gb e2;refine⟨Pr,F,env,env',as,r,e1,λvs H1 F1 r1 s1 p1=>?_⟩;have:=hl _ _ _ e1;unfold yd at e3;split at e3
  ·split at e3
   ·rename_i hf;cases e3;have hb:=Ir hf;exact⟨_,p1.afS,hb.1,hb.2,q _ H1 F1 r1 s1 Hw⟩
   ·cases e3
  ·simp at this
  ·simp at this
  ·cases e3
theorem NB(env:Env)(ds:List D)(env':Env)(h:aj env = .ok ds env'):ds.length=0:=by cases h;rfl
theorem JB{a:Ev}{r:dg}{n:Nat}(hr:∀env ds env',r env = .ok ds env'->ds.length=n)(env:Env)(ds:List D)(env':Env)(h:aa a r env = .ok ds env'):ds.length=n+1:=by obtain⟨d,aG,e1,e2⟩:=aY h;obtain⟨ds2,fK,e3,e4⟩:=aY e2;cases e4;rw[Qqw,hr _ _ _ e3]
theorem bu.wL{F:Hp}{K:Fg}{ds:List D}{vs:List V}{k:Int}{d:D}(h:bu K F ds vs)(e:L2.wL ds k=some d):∃v,L2.wL vs k=some v/\Rep K F d v:=by unfold L2.wL at e ⊢;rw[h.length];obtain⟨j,h1,h2⟩:=Qx4.mp e;obtain⟨v,h3,h4⟩:=h.get h2;exact⟨v,by rw[h1];exact h3,h4⟩
noncomputable def dF:D->D->Option D
 | .lst xs,.int k=>wL xs k
 | .arr xs,.int k=>wL xs k
 | .tup xs,.int k=>wL xs k
 | .str x,.int k=>(wL x k).map λc=>.str [c]
 | _,_=>none
theorem Xv:oU C (rIx C.K) dF:=by
 intro Pr F env σ H x y d vx vy Q r px py e q;unfold dF at e;split at e
 ·obtain⟨z,a,vs,rfl,h1,h2⟩:=px.lst r.fr;cases py.int;obtain⟨v,e1,p1⟩:=h2.wL e;exact .inl ⟨a,vs,_,v,rfl,rfl,jX.of h1,e1,q _ _ F r (aH.refl F) p1⟩
 ·obtain⟨z,a,vs,rfl,h1,h2⟩:=px.arr r.fr;cases py.int;obtain⟨v,e1,p1⟩:=h2.wL e;exact .inl ⟨a,vs,_,v,rfl,rfl,h1,e1,q _ _ F r (aH.refl F) p1⟩
 ·obtain⟨z,a,vs,rfl,h1,_,h2⟩:=px.tup r.fr;cases py.int;obtain⟨v,e1,p1⟩:=h2.wL e;exact .inr (.inl ⟨a,vs,_,v,rfl,rfl,h1,e1,q _ _ F r (aH.refl F) p1⟩)
 ·obtain⟨rfl,z⟩:=px.str;cases py.int;obtain⟨c,e1,rfl⟩:=Qw2.mp e;exact .inr (.inr ⟨_,_,c,rfl,rfl,by simpa[strOf,Str.length] using z,by simpa[strOf] using e1,q _ _ F r (aH.refl F) ⟨rfl,by show 1<=sizeLine;decide⟩⟩)
 ·cases e
theorem adb{x y:Expr}{a b:Ev}(hK:X.K=C.K)(ha:PX X C x a)(hb:Tc X C y b)(hs:qw y:=by intro _ _;rfl):PX X C (.Subscript x y pos) (aF dF a b):=by have h:=(QR (pos:=pos) RD ha hb hs);rw[hK] at h;exact h.imp (DN Xv)
theorem Zc{y:Expr}{b:Ev}{px:Pos}(i:Nat){x:Str}(hK:X.K=C.K)(hN:X.N[i]? = some x)(hv:vZ X.env.scope x)(hb:Tc X C y b)(hs:qw y:=by intro _ _;rfl)
  (hd:ju x:=by decide) (hcd:vG x:=by decide):PX X C (.Subscript (.Name x px) y pos) (az dF i b):=by
 have h:=(QR (pos:=pos) RD (iG (pos:=px) hN hv hd hcd) hb hs);rw[hK] at h;exact h.imp (qu Xv)
noncomputable def cutD{α:Type}(xs:List α)(lo hi:Option Int):List α:=(xs.drop (HT.jt xs.length 0 lo)).take (HT.jt xs.length xs.length hi - HT.jt xs.length 0 lo)
theorem uf{α:Type}(xs:List α)(lo hi:Option Int):(cutD xs lo hi).length<=xs.length:=by unfold cutD;rw[Qw3,Qxj];omega
theorem bu.cut{F:Hp}{K:Fg}{ds:List D}{vs:List V}(h:bu K F ds vs)(lo hi:Option Int):bu K F (cutD ds lo hi) (zz vs lo hi):=by unfold cutD zz;rw[h.length];exact bu.take _ (bu.drop _ h)
abbrev Yp:=Env->R (Option Int)
def tP(C:Cfg)(ev:Yp):TO:=λσ H Q=>∃(Pr F:Hp) (env env':Env) (o:Option Int),Rel C Pr F env σ H/\ev env = .ok o env'/\∀H' F',Rel C Pr F' env' σ H'->aH F F'->Q o H'
def PXP(X:Cx)(C:Cfg)(e:Option Expr)(ev:Yp):Prop:=PO X e (tP C ev)
theorem _root_.L2.PO.imp{X:Cx}{e:Option Expr}{t t':TO}(h:PO X e t)(i:∀σ H Q,t' σ H Q->t σ H Q):PO X e t':=λpins s σ H Q I q=>h pins s σ H Q I (i σ H Q q)
noncomputable def GX:Yp:=λenv=>.ok none env
noncomputable def Hr(a:Ev):Yp:=λenv=>bindR (a env) λd aG=>match d with
 | .int i=>.ok (some i) aG
 | _=>.stuck
theorem Qs:PXP X C none GX:=U0.imp λσ H Q h=>by
 obtain⟨Pr,F,env,env',d,r,e,q⟩:=h;cases e;exact q H F r (aH.refl F)
noncomputable def gSl:D->Option Int->Option Int->Option D
 | .lst xs,lo,hi=>some (.lst (cutD xs lo hi))
 | .arr xs,lo,hi=>some (.lst (cutD xs lo hi))
 | .tup xs,lo,hi=>if HT.jt xs.length 0 lo=0/\HT.jt xs.length xs.length hi=xs.length then none else some (.tup (cutD xs lo hi))
 | _,_,_=>none
noncomputable def zf(a:Ev)(lo hi:Yp):Ev:=λenv=>bindR (a env) λd aG=>bindR (lo aG) λl fK=>bindR (hi fK) λu abi=>je (gSl d l u) abi
theorem acF{Pr F:Hp}{env:Env}{σ:L2.St}{H:Hp}{x d:D}{v:V}{lo hi:Option Int}{Q:VK}(r:Rel C Pr F env σ H)(p:gC C.K F H x v)(e:gSl x lo hi=some d)(q:∀v H' F',Rel C Pr F' env σ H'->aH F F'->Rep C.K F' d v->Q v H') :
  acU C.K v lo hi H Q\/acT C.K v lo hi H Q:=by
 unfold gSl at e;split at e
 ·cases e;obtain⟨z,a,vs,rfl,h1,h2⟩:=p.lst r.fr;refine .inl ⟨a,vs,rfl,jX.of h1,λb hb=>?_⟩;obtain⟨r2,s2⟩:=r.new (o:=.lst (zz vs lo hi)) hb;exact q _ _ _ r2 s2 ⟨Qq4 (uf _ _ _) z,b,_,rfl,aX,bu.mono s2 _ _ (h2.cut lo hi)⟩
 ·cases e;obtain⟨z,a,vs,rfl,h1,h2⟩:=p.arr r.fr;refine .inl ⟨a,vs,rfl,h1,λb hb=>?_⟩;obtain⟨r2,s2⟩:=r.new (o:=.lst (zz vs lo hi)) hb;exact q _ _ _ r2 s2 ⟨Qq4 (uf _ _ _) z,b,_,rfl,aX,bu.mono s2 _ _ (h2.cut lo hi)⟩
 ·obtain⟨z,a,vs,rfl,h1,_,h2⟩:=p.tup r.fr;split at e
  ·cases e
  ·rename_i hn;cases e;refine .inr ⟨a,vs,rfl,h1,by rw[h2.length];exact hn,λb hb=>?_⟩;obtain⟨r2,s2⟩:=r.new (o:=.tup (zz vs lo hi)) hb;exact q _ _ _ r2 s2 ⟨Qq4 (uf _ _ _) z,b,_,rfl,jZ.of aX,bu.mono s2 _ _ (h2.cut lo hi)⟩
 ·cases e
theorem ac9{x:Expr}{lo hi:Option Expr}{a:Ev}{el eh:Yp}{p2:Pos}(hK:X.K=C.K)(ha:PX X C x a)(hl:PXP X C lo el)(hh:PXP X C hi eh):PX X C (.Subscript x (.Slice lo hi none p2) pos) (zf a el eh):=by have h:=QM (pos:=pos) (p2:=p2) (Yi.or T5 YQ) ha hl hh;rw[hK] at h;refine h.imp λσ H Q hq=>?_;obtain⟨Pr,F,env,env',d,r,e,q⟩:=hq;obtain⟨x,aG,e1,e2⟩:=aY e;obtain⟨l,fK,e3,e4⟩:=aY e2;obtain⟨u,abi,e5,e6⟩:=aY e4;obtain⟨e7,rfl⟩:=gb e6;refine⟨Pr,F,env,aG,x,r,e1,λv H1 F1 r1 s1 p1=>⟨Pr,F1,aG,fK,l,r1,e3,λH2 F2 r2 s2=>⟨Pr,F2,fK,env',u,r2,e5,λH3 F3 r3 s3=>?_⟩⟩⟩;exact acF r3 (.inl (Rep.mono (s2.trans s3) _ _ p1)) e7 λv H' F' r' s' p'=>q v H' F' r' (((s1.trans s2).trans s3).trans s') p'
noncomputable def oV(kvs:List (D×D))(q:Key):Option D:=match kvs with
 | []=>none
 | (k,d)::r=>if qz k=some q then some d else oV r q
noncomputable def xj(kvs:List (D×D))(q:Key)(d:D):List (D×D):=match kvs with
 | []=>[]
 | (k,e)::r=>(if qz k=some q then (k,d) else (k,e))::xj r q d
noncomputable def putD(kvs:List (D×D))(k:D)(q:Key)(d:D):List (D×D):=if (oV kvs q).isSome then xj kvs q d else kvs++[(k,d)]
theorem dw.length{K:Fg}{F:Hp}:∀{ds:List (D×D)} {vs:List (Key×V)},dw K F ds vs->vs.length=ds.length
 | [],_,h=>by cases h;rfl
 | (k,d)::ds,vs,h=>by
  obtain⟨q,v,r,rfl,_,_,h2⟩:=h;rw[Qqw,Qqw,h2.length]
theorem dw.val{K:Fg}{F:Hp}(q:Key):∀{ds:List (D×D)} {vs:List (Key×V)},dw K F ds vs->(oV ds q=none/\uK vs q=none)\/∃d v,oV ds q=some d/\uK vs q=some v/\Rep K F d v
 | [],_,h=>by cases h;exact .inl ⟨rfl,rfl⟩
 | (k,d)::ds,vs,h=>by
  obtain⟨q',v,r,rfl,hk,h1,h2⟩:=h;unfold oV;by_cases e:q'=q
  ·subst e;rw[if_pos hk];exact .inr ⟨d,v,rfl,rZ rfl,h1⟩
  ·rw[if_neg (λz=>e (Qw1 (hk.symm.trans z))),sr (p:=(q',v)) e];exact dw.val q h2
theorem dw.set{K:Fg}{F:Hp}(q:Key){d:D}{v:V}(hd:Rep K F d v):∀{ds:List (D×D)} {vs:List (Key×V)},dw K F ds vs->dw K F (xj ds q d) (vs.map λkv=>if kv.1=q then (kv.1,v) else kv)
 | [],_,h=>by cases h;exact rfl
 | (k,e)::ds,vs,h=>by
  obtain⟨q',u,r,rfl,hk,h1,h2⟩:=h;unfold xj;by_cases e':q'=q
  ·subst e';rw[if_pos hk];refine⟨q',v,_,?_,hk,hd,dw.set q' hd h2⟩;rw[Qwv,if_pos rfl]
  ·rw[if_neg (λz=>e' (Qw1 (hk.symm.trans z)))];refine⟨q',u,_,?_,hk,h1,dw.set q hd h2⟩;rw[Qwv,if_neg e']
theorem dw.append{K:Fg}{F:Hp}:∀{ds es:List (D×D)} {vs ws:List (Key×V)},dw K F ds vs->dw K F es ws->dw K F (ds++es) (vs++ws)
 | [],es,vs,ws,h,g=>by cases h;exact g
 | (k,d)::ds,es,vs,ws,h,g=>by
  obtain⟨q,v,r,rfl,h0,h1,h2⟩:=h;exact⟨q,v,r++ws,rfl,h0,h1,dw.append h2 g⟩
theorem Ex(q:Key)(d:D):∀kvs:List (D×D),(xj kvs q d).length=kvs.length
 | []=>rfl
 | (k,e)::r=>by unfold xj;rw[Qqw,Qqw,Ex q d r]
theorem Fx(kvs:List (D×D))(k:D)(q:Key)(d:D):(putD kvs k q d).length<=kvs.length+1:=by
 unfold putD;split
 ·rw[Ex];omega
 ·rw[Qq1];exact Qq0 _
theorem dw.put{K:Fg}{F:Hp}{ds:List (D×D)}{vs:List (Key×V)}{k:D}{q:Key}{d:D}{v:V}(h:dw K F ds vs)(hk:qz k=some q)(hd:Rep K F d v):dw K F (putD ds k q d) (putK vs q v):=by
 unfold putD putK;rw[xO];rcases h.val q with ⟨e1,e2⟩|⟨d',v',e1,e2,_⟩
 ·rw[e1,e2];exact h.append ⟨q,v,[],rfl,hk,hd,rfl⟩
 ·rw[e1,e2];exact dw.set q hd h
theorem Rw{K:Fg}{F:Hp}{k:D}{q:Key}{v:V}(h:qz k=some q)(p:Rep K F k v):v=kV q:=by
 cases k with
 | int i=>cases h;exact p
 | str x=>cases h;exact p.1
 | _=>cases h
theorem Rx{K:Fg}{F H:Hp}{k:D}{q:Key}{v:V}(h:qz k=some q)(p:gC K F H k v):v=kV q:=by
 cases k with
 | int i=>cases h;exact p.int
 | str x=>cases h;exact p.str.1
 | _=>cases h
theorem gC.dct{K:Fg}{F H:Hp}{kvs:List (D×D)}{v:V}(s:aH F H)(h:gC K F H (.dct kvs) v):kvs.length<=sizeLine/\∃a ks,v = .ref a/\Rd H a (.dK ks)/\dw K F kvs ks:=by
 rcases h with ⟨z,a,vs,rfl,h1,h2⟩|⟨a,rfl,z,vs,h1,h2⟩
 ·exact⟨z,a,vs,rfl,aH.rd s h1,h2⟩
 ·exact⟨z,a,vs,rfl,.inl h1,h2⟩
def Xm:R2:=λx y H Q=>∃a v,x = .ref a/\Oh H a y (some v)/\Q v H
noncomputable def jT:D->D->Option D
 | .dct kvs,k=>(qz k).bind λq=>oV kvs q
 | _,_=>none
theorem Vl:oU C Xm jT:=by
 intro Pr F env σ H x y d vx vy Q r px py e q;unfold jT at e;split at e
 ·obtain⟨z,a,ks,rfl,h1,h2⟩:=px.dct r.fr;obtain⟨k,hk,hv⟩:=Qx4.mp e;cases Rx hk py;rcases h2.val k with ⟨e1,_⟩|⟨d',v',e1,e2,p2⟩
  ·rw[e1] at hv;cases hv
  ·rw[e1] at hv;cases hv;exact⟨a,v',rfl,.inl ⟨ks,k,h1,rfl,e2.symm⟩,q _ _ F r (aH.refl F) p2⟩
 ·cases e
theorem Qy{y:Expr}{b:Ev}{px:Pos}(i:Nat){x:Str}(hu:X.A.units+1<cLine)(hN:X.N[i]? = some x)(hv:vZ X.env.scope x)(hb:Tc X C y b)(hs:Og y:=by intro _ _;rfl)
  (hd:ju x:=by decide) (hcd:vG x:=by decide):PX X C (.Subscript (.Name x px) y pos) (az jT i b):=by
 have h:PE X (.Subscript (.Name x px) y pos) (TX Xm _ _):=Va (pos:=pos) hu (iG (pos:=px) hN hv hd hcd) hb hs;exact h.imp (qu Vl)
noncomputable def zg:Ev:=λenv=>.ok (.dct []) env
theorem Qt:Tj X C (.Dict [] [] pos) zg:=QS.imp λσ H Q hq=>by
 obtain⟨Pr,F,env,env',d,r,e,q⟩:=hq;cases e;exact λp hp=>q _ _ F (r.fresh hp) (aH.refl F) (Om.of r hp ⟨Qxy _,[],aX,rfl⟩)
noncomputable def o8(i:Nat)(k a:Ev):bH:=λenv=>gB (a env) λd aG=>match aG[i]? with
 | some (some (_,_))=>gB (k aG) λkd fK=>(match fK[i]?,qz kd with
  | some (some (true,.dct kvs)),some q=>if kvs.length<sizeLine then .nx (fK.set i (some (true,.dct (putD kvs kd q d)))) else .stuck
  | _,_=>.stuck)
 | _=>.stuck
theorem Qq{i:Nat}{x:Str}{k e:Expr}{ek a:Ev}{px pos':Pos}(hu:X.A.units+1<cLine)(hN:X.N[i]? = some x)(hv:vZ X.env.scope x)(hk:PX X C k ek)(he:PX X C e a)
  (hs:swapsWith e (some (.Subscript (.Name x px) k pos')) pos.line X.env=pure false:=by rfl)
  (hd:ju x:=by decide) (hcd:vG x:=by decide):S9 X C (.Assign [.Subscript (.Name x px) k pos'] e pos) (o8 i ek a):=
 (UT hu (iG hN hv hd hcd) hk he hs).imp λD σ H h=>by
  obtain⟨Pr,F,env,r,f⟩:=h;obtain⟨d,aG,e1,f1⟩:=cJ f;refine⟨Pr,F,env,aG,d,r,e1,λv H1 F1 r1 s1 p1=>?_⟩;split at f1
  ·rename_i o0 d0 h0;obtain⟨v0,hv0,_⟩:=r1.rd h0;obtain⟨kd,fK,e2,f2⟩:=cJ f1;refine⟨v0,hv0,Pr,F1,aG,fK,kd,r1,e2,λvk H2 F2 r2 s2 p2=>?_⟩;split at f2
   ·rename_i kvs q h2 hq;split at f2
    ·rename_i hz;obtain⟨b,g1,⟨z,ks,g2,g3⟩,g4,g5⟩:=r2.own i _ h2;rw[hv0] at g1;cases g1;have hz':ks.length<sizeLine:=by rw[g3.length];exact hz
     cases Rw hq p2;refine⟨b,_,rfl,Tf.k g2 hz',?_⟩;refine f2 σ _ F2 (r2.write h2 hv0 ⟨Qq4 (Fx _ _ _ _) hz,_,aX,g3.put hq (Rep.mono s2 _ _ p1)⟩) (s1.trans s2)
    ·exact f2.elim
   ·exact f2.elim
  ·exact f1.elim
noncomputable def Nk(x:List Nat):List (List Nat)->List (List Nat)
 | []=>[x]
 | y::r=>if y<x then y::Nk x r else x::y::r
noncomputable def il:List (List Nat)->List (List Nat)
 | []=>[]
 | x::r=>Nk x (il r)
theorem vO(x:List Nat):∀l,(Nk x l).Perm (x::l)
 | []=>.refl _
 | y::r=>by
  unfold Nk;split
  ·exact((vO x r).cons y).trans (.swap x y r)
  ·exact .refl _
theorem gG:∀l,(il l).Perm l
 | []=>.refl _
 | x::r=>(vO x (il r)).trans ((gG r).cons x)
theorem wF(x:List Nat):∀l,l.Pairwise (λa b=>a<=b)->(Nk x l).Pairwise (λa b=>a<=b)
 | [],_=>List.pairwise_singleton _ _
 | y::r,h=>by
  unfold Nk;have h1:=Qz3.mp h;split
  ·rename_i hyx;refine Qz3.mpr ⟨λz hz=>?_,wF x r h1.2⟩;rcases Qq7.mp ((vO x r).mem_iff.mp hz) with rfl|hz
   ·exact List.le_of_lt hyx
   ·exact h1.1 z hz
  ·rename_i hyx;have hxy:x<=y:=List.not_lt.mp hyx;refine Qz3.mpr ⟨λz hz=>?_,h⟩;rcases Qq7.mp hz with rfl|hz
   ·exact hxy
   ·exact List.le_trans hxy (h1.1 z hz)
theorem sU:∀l,(il l).Pairwise (λa b=>a<=b)
 | []=>.nil
 | x::r=>wF x _ (sU r)
theorem Bb:∀(p:Str) (l:List Str),risingS p l=true->(p::l).Pairwise (λa b=>a.cps.toList<=b.cps.toList)
 | p,[],_=>List.pairwise_singleton _ _
 | p,x::r,h=>by
  have h':(!Spec.ltCps x.cps.toList p.cps.toList&&risingS x r)=true:=h;rw[Qz5,PyProof.Rows.ltCps_eq] at h';have hxp:¬x.cps.toList<p.cps.toList:=by
   have:=h'.1
   simpa using this
  have ih:=Bb x r h'.2;refine Qz3.mpr ⟨λz hz=>?_,ih⟩;have hpx:p.cps.toList<=x.cps.toList:=List.not_lt.mp hxp;rcases Qq7.mp hz with rfl|hz
  ·exact hpx
  ·exact List.le_trans hpx ((Qz3.mp ih).1 z hz)
theorem Mi:∀(l:List Str),sortedS l=true->l.Pairwise (λa b=>a.cps.toList<=b.cps.toList)
 | [],_=>.nil
 | x::r,h=>Bb x r h
theorem uR(s:Str):strOf s.cps.toList=s:=by obtain⟨c⟩:=s;simp[strOf]
theorem Cu{xs:List (List Nat)}{ss ss':List Str}(e:ss=xs.map strOf)(hp:ss'.Perm ss)(hs:sortedS ss'=true):ss'=(il xs).map strOf:=by
 subst e;have h1:(ss'.map λs=>s.cps.toList).Perm xs:=by
  have:=hp.map (λs:Str=>s.cps.toList);rw[Qj2] at this;have e2:xs.map ((λs:Str=>s.cps.toList) ∘ strOf)=xs:=by rw[Qj5 (g:=id) (λx _=>by simp[strOf])];simp
  rwa [e2] at this
 have h2:(ss'.map λs=>s.cps.toList)=il xs:=by refine List.Perm.eq_of_pairwise (le:=λa b=>a<=b) (λa b _ _=>List.le_antisymm) ?_ (sU xs) (h1.trans (gG xs).symm);exact List.pairwise_map.mpr (Mi ss' hs)
 rw[<-h2,Qj2];have e3:∀l:List Str,l.map (strOf ∘ λs=>s.cps.toList)=l:=λl=>by
  induction l with
  | nil=>rfl
  | cons a r ih=>rw[Qwv,ih];show strOf a.cps.toList::r=a::r;rw[uR]
 exact(e3 ss').symm
theorem rY:∀{us:List Value} {ss:List Str},StrsAre us ss->Vals (ss.map V.str) us
 | _,_,.nil=>.nil
 | _,_,.cons y t h=>.cons ⟨t,rfl⟩ (rY h)
theorem sZ{K:Fg}{F:Hp}:∀(xs:List (List Nat)),(∀x∈xs,x.length<=sizeLine)->bu K F (xs.map D.str) (xs.map λz=>V.str (strOf z))
 | [],_=>rfl
 | x::xs,h=>⟨_,_,rfl,⟨rfl,h x (Qqj ..)⟩,sZ xs λy hy=>h y (Qqk _ hy)⟩
def CT(K:Fg):List V->Hp->VK->Prop:=λxs H Q=>∃p zs,xs=[.ref p]/\(jX K H p (zs.map λz=>V.str (strOf z))\/∃ks,Rd H p (.dK ks)/\ks.map (·.1)=zs.map λz=>Sum.inr (strOf z))/\zs.length<64/\∀l,H l=none->Q (.ref l) (upd H l (.lst ((il zs).map λz=>V.str (strOf z))))
theorem Ew{pins:List (Addr×Obj)}{s:Shared}{σ:L2.St}{H:Hp}{Q:VK}{zs:List (List Nat)}{out:Array Value}{ss':List Str}{a:Addr}{e:Nat}{h':Heap}{tk:Nat}(I:Inv X pins σ H s)(hz:zs.length<64)(q:∀l,H l=none->Q (.ref l) (upd H l (.lst ((il zs).map λz=>V.str (strOf z)))))
  (a1:StrsAre out.toList ss') (a2:ss'.Perm (zs.map strOf)) (a3:sortedS ss'=true) (hk:∀b o,s.heap.get? b=some o->h'.get? b=some o) (ha:s.heap.objs.size<=a) (ho:h'.get? a=some (seqObj "list" out e)):EP X pins σ Q (.ref a) { s with heap:=h',toks:=tk }:=by
 have e1:=Cu rfl a2 a3;subst e1;have rv:=rY a1;rw[Qj2] at rv;have hl:((il zs).map λz=>V.str (strOf z)).length<=sizeLine:=by rw[Qqv,(gG zs).length_eq];exact Qq4 (Qxv hz) (by decide)
 exact⟨.ref a,_,I.laid (t':=tk) hk ha (show fj X.prog X.w _ h' a (.lst ((il zs).map λz=>V.str (strOf z))) from⟨hl,out.toList,e,rv,by simpa[seqObj] using ho⟩),rfl,q a (I.hok.fresh ha)⟩
theorem Hc(hc:X.calm=true):gP X (.builtin "sorted") (CT X.K):=by
 intro pins s σ H xs us Q I r h;obtain⟨p,zs,rfl,hq,hz,q⟩:=h;obtain⟨u,rfl,rx⟩:=vals1 r;cases rx;rcases hq with hq|⟨ks,hq,hks⟩
 ·obtain⟨its,r',pl,hzz⟩:=I.list hq;have hS:StrsAre its (zs.map strOf):=uI r';refine sorted_strs pl.isList hS (by rw[<-r'.length,Qqv];exact hz) λout ss' a1 a2 a3=>?_;obtain⟨e,he⟩:=sortedAll_at s.heap its out;exact Ew (tk:=s.toks) I hz q a1 a2 a3 (λb o e=>sortedAll_old e) (Nat.le_succ _) he
 ·obtain⟨hz2,hsys,vs,rkv,hD⟩:=Bv I.hok hq;obtain⟨ep,hat⟩:=hD.dictAt;have hlen:vs.length=zs.length:=by
   have e1:=rkv.length;have e2:=Qxz List.length hks;rw[Qqv,Qqv] at e2;omega
  refine Calls.call_function_entry kind_sorted plain_sorted entry_sorted (args_sorted1 _) ?_;unfold Builtin.«sorted»;refine Qqq (m:=checkCount "sorted" 1 1 _) (Qq2 ?_);refine Qqq (PySem.W.kdu_collect (A:=X.A.in1) (PySem.W.kdl_dict (knd:=dM X.prog X.w) (kvs:=vs) (ep:=ep) hsys) (I.ok.hd hc) hat (by rw[hlen];exact Qq4 (Qxv hz) (by decide)) λh' tk acc hk hacc=>?_);have hl:acc.toList.length=vs.length:=by rw[Qqx];exact hacc.1
  have hS:StrsAre acc.toList (zs.map strOf):=by
   have keys:∀j:Nat,j<vs.length->∃v t,acc.toList[j]? = some v/\v=Value.str (strOf (zs.getD j [])) t:=λj hj=>by
    have hja:j<acc.size:=by rw[hacc.1];exact hj
    have e1:acc[j]? = some acc[j]:=by simp[hja]
    obtain⟨k,x,hx,hkx⟩:=hacc.2 j _ e1;have e2:(vs.map (·.1))[j]? = some k:=by rw[Qx1,hx];rfl
    rw[<-rkv.keys,hks,Qx1] at e2;obtain⟨z,hzj,rfl⟩:=Qw2.mp e2;rcases d9 (k:=Sum.inr (strOf z)) (v:=acc[j]) hkx with ⟨i,t,z1,_⟩|⟨y,t,z1,z2⟩
    ·cases z1
    ·cases z1;exact⟨_,t,by rw[Qzw];exact e1,by rw[z2,Qwk,hzj];rfl⟩
   have build:∀(us:List Value) (ys:List (List Nat)),us.length=ys.length->(∀j:Nat,j<us.length->∃v t,us[j]? = some v/\v=Value.str (strOf (ys.getD j [])) t)->StrsAre us (ys.map strOf):=λus=>by
    induction us with
    | nil=>intro ys hl _;cases ys with
     | nil=>exact .nil
     | cons _ _=>cases hl
    | cons u us ih=>intro ys hl hk;cases ys with
     | nil=>cases hl
     | cons y ys=>
      obtain⟨v,t,e1,e2⟩:=hk 0 (Nat.succ_pos _);cases e1;rw[e2];exact .cons _ t (ih ys (by simpa using hl) λj hj=>by
       obtain⟨v,t,e1,e2⟩:=hk (j+1) (by simpa using hj);exact⟨v,t,by simpa using e1,by simpa using e2⟩)
   exact build _ _ (by rw[hl,hlen]) λj hj=>keys j (by rw[<-hl];exact hj)
  refine Qqq (wpAny_newList ?_ (by rw[hl,hlen];exact Qq4 (Qxv hz) (by decide)));have hoL:(h'.push (seqObj "list" acc.toList.toArray 0)).get? h'.objs.size=some (seqObj "list" acc.toList.toArray 0):=Qwz _ rfl;show wpAny _ _ _ _ _ { s with heap:=h'.push (seqObj "list" acc.toList.toArray 0),toks:=tk };refine Qqq (Qzy (Qzx slot_list_sort ⟨_,hoL,rfl⟩ entry_list_sort (list_sort_treeK strKind_oneLt hoL hS.keysOf (λv₁ v₂ rest e=>keyKind_strs (by rw[<-e];exact hS)) (by rw[hl,hlen];exact hz) λst' b1 b2=>⟨_,rfl,?_⟩) (args_list_sort _)));obtain⟨ss',a1,a2,a3⟩:=sorted_out_str hS b1 b2;obtain⟨e,he⟩:=sortedHeap_at (out:=(arrOf st').map (·.2)) hoL;refine Qq2 ⟨_,rfl,?_⟩;have I1:L2.Inv X pins σ H { s with heap:=h',toks:=tk }:=I.kept hk;refine Ew (s:={ s with heap:=h',toks:=tk }) (tk:=tk) I1 hz q a1 a2 a3 (λb o e=>?_) (Qq0 _) he;have lt':=Qq9 e;rw[sortedHeap_old (Qw6 lt') (by rw[size_push'];exact Qk1 lt')];exact Qqz _ e
noncomputable def gA:List D->Option D
 | [.lst ds]=>(iQ ds).bind λzs=>if zs.length<64/\(∀z∈zs,z.length<=sizeLine) then some (.lst ((il zs).map .str)) else none
 | [.dct kvs]=>(iQ (kvs.map (·.1))).bind λzs=>if zs.length<64/\(∀z∈zs,z.length<=sizeLine) then some (.lst ((il zs).map .str)) else none
 | _=>none
theorem dw.keys{K:Fg}{F:Hp}:∀{kvs:List (D×D)} {ks:List (Key×V)} {zs:List (List Nat)},dw K F kvs ks->iQ (kvs.map (·.1))=some zs->ks.map (·.1)=zs.map λz=>Sum.inr (strOf z)
 | [],ks,zs,h,e=>by cases h;simp[iQ] at e;subst e;rfl
 | (k,d)::kvs,ks,zs,h,e=>by
  obtain⟨q,v,r,rfl,h0,h1,h2⟩:=h;cases k with
  | str x=>
   cases h0;have e':(iQ (kvs.map (·.1))).map (x :: ·)=some zs:=by simpa[iQ] using e
   obtain⟨zs',e1,rfl⟩:=Qw2.mp e';rw[Qwv,Qwv,dw.keys h2 e1]
  | _=>simp[iQ] at e
theorem Ih{Pr F:Hp}{env:Env}{σ:L2.St}{H:Hp}{l:Addr}{zs:List (List Nat)}(r:Rel C Pr F env σ H)(hl:H l=none)(hz:zs.length<64/\∀z∈zs,z.length<=sizeLine) :
  jo C.K F (upd H l (.lst ((il zs).map λz=>V.str (strOf z)))) (.lst ((il zs).map .str)) l:=by
 refine⟨by rw[Qqv,(gG zs).length_eq];exact Qq4 (Qxv hz.1) (by decide),_,aX,sZ _ λz h=>hz.2 z ((gG zs).mem_iff.mp h)⟩
theorem NZ:CallD C (CT C.K) gA:=by
 intro Pr F env σ H ds d vs Q r p e q;have fin:∀(zs:List (List Nat)) (l:Addr),(zs.length<64/\∀z∈zs,z.length<=sizeLine)->d = .lst ((il zs).map .str)->H l=none->Q (.ref l) (upd H l (.lst ((il zs).map λz=>V.str (strOf z)))):=λzs l hz hd hl=>by
  subst hd;obtain⟨F2,r2,s2,p2⟩:=(r.fresh (o:=.lst ((il zs).map λz=>V.str (strOf z))) hl).keep (Om.of r hl (Ih r hl hz));exact q _ _ F2 r2 s2 p2
 unfold gA at e;split at e
 ·obtain⟨v,w,rfl,p1,p2⟩:=p;cases p2;obtain⟨zs,e1,e2⟩:=Qx4.mp e;split at e2
  ·rename_i hz;cases e2;obtain⟨z,a,ws,rfl,h1,h2⟩:=p1.lst r.fr;have e6:=vf e1 h2;subst e6;exact⟨a,zs,rfl,.inl (jX.of h1),hz.1,λl hl=>fin zs l hz rfl hl⟩
  ·cases e2
 ·obtain⟨v,w,rfl,p1,p2⟩:=p;cases p2;obtain⟨zs,e1,e2⟩:=Qx4.mp e;split at e2
  ·rename_i hz;cases e2;obtain⟨z,a,ks,rfl,h1,h2⟩:=p1.dct r.fr;exact⟨a,zs,rfl,.inr ⟨ks,h1,h2.keys e1⟩,hz.1,λl hl=>fin zs l hz rfl hl⟩
  ·cases e2
 ·cases e
theorem Mu{p:Pos}{e:Expr}{a:dg}(hK:X.K=C.K)(hc:X.calm=true)(hg:Gl X "sorted")(hm:X.mg "sorted" = none)(ha:WX X C [e] a)(he:Ed e X.env:=by rfl)(hpl:(backTo pos (starEach [] X.env)).any (·.1)=false:=by rfl) :
  PX X C (.Call (.Name "sorted" p) [e] [] pos) (ao gA a):=
 lg (X:=X) (r:=CT C.K) (by rw[<-hK];exact Hc hc) NZ hg hm PyProof.Rows.boot_sorted ha (by decide) (by decide) he hpl
end
theorem Rel.pad{C:Cfg}{Pr F:Hp}{env:Env}{σ:L2.St}{H:Hp}(m:Nat)(r:Rel C Pr F env σ H):Rel C Pr F (env++List.replicate m none) (tL m σ) H:=by
 have un:∀(j:Nat) (x:Bool×D),(env++List.replicate m none)[j]? = some (some x)->env[j]? = some (some x):=λj x he=>by
  by_cases hj:j<env.length
  ·rwa [Qxw hj] at he
  ·rw[Qz2 (by omega),Qjq] at he;split at he<;>cases he
 have up:∀(j:Nat) (v:V),σ[j]? = some (some v)->(tL m σ)[j]? = some (some v):=λj v h=>by
  unfold tL;rw[Qxw (Qq6.mp h).1];exact h
 have dn:∀(j:Nat) (v:V),(tL m σ)[j]? = some (some v)->σ[j]? = some (some v):=λj v he=>by
  unfold tL at he;by_cases hj:j<σ.length
  ·rwa [Qxw hj] at he
  ·rw[Qz2 (by omega),Qjq] at he;split at he<;>cases he
 refine⟨r.pr,r.fr,by unfold tL;rw[Qq1,Qq1,Qzk,Qzk,r.len],λj e he=>?_,λj e he=>?_,λj k e f b hj hk g1 g2=>r.apart j k e f b (un _ _ hj) (un _ _ hk) (dn _ _ g1) (dn _ _ g2),r.dj,λj a h=>up _ _ (r.fix j a h)⟩
 ·obtain⟨v,h1,h2⟩:=r.val j e (un _ _ he);exact⟨v,up _ _ h1,h2⟩
 ·obtain⟨a,h1,h2⟩:=r.own j e (un _ _ he);exact⟨a,up _ _ h1,h2⟩
theorem Rel.cut{C:Cfg}{Pr F:Hp}{env:Env}{σ σ0:L2.St}{H:Hp}(r:Rel C Pr F env σ H)(h:σ.take σ0.length=σ0)(fix:∀i a,C.fx i=some a->σ0[i]? = some (some (V.ref a))):Rel C Pr F (env.take σ0.length) σ0 H:=by
 have hl:σ0.length<=σ.length:=by have:=Qxz List.length h;rw[Qw3] at this;omega
 have un:∀(j:Nat) (x:Bool×D),(env.take σ0.length)[j]? = some (some x)->env[j]? = some (some x)/\j<σ0.length:=λj x he=>by
  have hj:j<σ0.length:=by have:=(Qq6.mp he).1;rw[Qw3] at this;omega
  rw[Qjv hj] at he;exact⟨he,hj⟩
 have dn:∀(j:Nat),j<σ0.length->σ[j]? = σ0[j]?:=λj hj=>by
  have:=Qjv (l:=σ) hj;rw[h] at this;exact this.symm
 refine⟨r.pr,r.fr,by rw[Qw3,r.len];omega,λj e he=>?_,λj e he=>?_,λj k e f b hj hk g1 g2=>r.apart j k e f b (un _ _ hj).1 (un _ _ hk).1 (by rw[dn _ (un _ _ hj).2];exact g1) (by rw[dn _ (un _ _ hk).2];exact g2),r.dj,fix⟩
 ·obtain⟨e1,e2⟩:=un _ _ he;rw[<-dn j e2];exact r.val j e e1
 ·obtain⟨e1,e2⟩:=un _ _ he;rw[<-dn j e2];exact r.own j e e1
noncomputable def Ef(g:GV)(c:eO)(e:Ev):List D->Env->R (List D)
 | [],env=>.ok [] env
 | d::ds,env=>(match g d env with
  | none=>.stuck
  | some e1=>bindR (c e1) λb e2=>if b=true then bindR (e e2) λy e3=>bindR (Ef g c e ds e3) λys e4=>.ok (y::ys) e4 else Ef g c e ds e2)
noncomputable def fC(lo n:Nat)(it:dg)(g:GV)(c:eO)(e:Ev):Ev:=λenv=>bindR (it env) λds aG=>if aG.length=lo then bindR (Ef g c e ds (aG++List.replicate (n - lo) none)) λys fK=>(if ys.length<=sizeLine then .ok (.lst ys) (fK.take lo) else .stuck) else .stuck
def Od(X:Cx)(C:Cfg)(ifs:List Expr)(ev:eO):Prop:=PIf X ifs (tT C ev)
noncomputable def dh:eO:=λenv=>.ok true env
theorem Qv{X:Cx}{C:Cfg}:Od X C [] dh:=λpins s σ H Q I h=>by
 obtain⟨Pr,F,env,env',b,r,e,q⟩:=h;cases e;exact U4 pins s σ H Q I (q H F r (aH.refl F))
theorem XJ{C:Cfg}{lo n:Nat}{it:dg}{g:GV}{c:eO}{e:Ev}{σ:L2.St}{H:Hp}{Q:VK}(h:tN C (fC lo n it g c e) σ H Q):tLC n (tI C it) (tG C lo g) (tT C c) (tE C e) σ H Q:=by
 obtain⟨Pr,F,env,env',d,r,ev,q⟩:=h;obtain⟨ds,aG,e1,e2⟩:=aY ev;split at e2
 ·rename_i hlo;obtain⟨ys,fK,e3,e4⟩:=aY e2;split at e4
  ·rename_i hz;cases e4;refine⟨Pr,F,env,aG,ds,r,e1,λJ H1 F1 r1 s1 y1 a ha=>?_⟩;have hσ:σ.length=lo:=r1.len.symm.trans hlo;have hPa:Pr a=none:=r1.pr.free ha;refine⟨λi m σ' H'=>m=ds.length - i/\i<=ds.length/\∃F' G4 acc ws rest,Rel C (upd Pr a (.lst ws)) F' G4 σ' H'/\aH F1 F'/\bu C.K F' acc ws/\σ'.take lo=σ/\Ef g c e (ds.drop i) G4 = .ok rest fK/\acc++rest=ys,
    ⟨ds.length,rfl,Qxy _,F1,aG++List.replicate (n - lo) none,[],[],ys,?_,aH.refl _,rfl,?_,e3,rfl⟩,?_⟩
   ·rw[hσ];exact(r1.aside (o:=.lst []) ha).pad _
   ·unfold tL;rw[<-hσ,List.take_left]
   rintro i m σ' H' ⟨rfl,hi,F',G4,acc,ws,rest,r',s',p',t',l',hacc⟩;have hFa:F' a=none:=by
    cases ez:F' a with
    | none=>rfl
    | some w=>have:=r'.dj a w ez;rw[aX] at this;cases this
   by_cases hl:i<ds.length
   ·have hd:ds[i]? = some ds[i]:=Qqy hl;have hdr:ds.drop i=ds[i]::ds.drop (i+1):=Qzz hl;have yy:=y1 i H' (s'.trans r'.fr);refine .inr ⟨(yy.2 _ hd).1,λσ2 H2=>∃F' G4 acc ws rest,Rel C (upd Pr a (.lst ws)) F' G4 σ2 H2/\aH F1 F'/\bu C.K F' acc ws/\σ2.take lo=σ/\Ef g c e (ds.drop (i+1)) G4 = .ok rest fK/\acc++rest=ys,
     λσ2 H2 h2=>⟨ds.length - (i+1),by omega,rfl,hl,h2⟩,λx H2 hy=>?_⟩
    obtain⟨F2,r2,s2,p2⟩:=qd.item r' s' y1 hd hy;rw[hdr] at l';unfold Ef at l';cases eg:g ds[i] G4 with
    | none=>rw[eg] at l';cases l'
    | some e5=>
     rw[eg] at l';obtain⟨b,e6,c1,l2⟩:=aY l';refine⟨_,F2,G4,e5,ds[i],r2,p2,eg,λσ3 H3 F3 r3 s3 t3=>⟨_,F3,e5,e6,b,r3,c1,λH4 F4 r4 s4=>?_⟩⟩;have t3':σ3.take lo=σ:=t3.trans t';have s24:aH F' F4:=(s2.trans s3).trans s4;cases b with
     | false=>
      show if false=true then _ else _
      rw[if_neg Qxk];rw[if_neg Qxk] at l2;exact⟨F4,e6,acc,ws,rest,r4,s'.trans s24,bu.mono s24 _ _ p',t3',l2,hacc⟩
     | true=>
      show if true=true then _ else _
      rw[if_pos rfl];rw[if_pos rfl] at l2;obtain⟨y,e7,c2,l3⟩:=aY l2;obtain⟨ys2,e8,c3,l4⟩:=aY l3;cases l4;refine⟨_,F4,e6,e7,y,r4,c2,λv H5 F5 r5 s5 p5=>?_⟩;have hlen:acc.length+(ys2.length+1)=ys.length:=by rw[<-hacc,Qq1,Qqw]
      refine⟨ws,r5.pr _ _ aX,by rw[p'.length];omega,F5,e7,acc++[y],ws++[v],ys2,?_,s'.trans (s24.trans s5),(bu.mono (s24.trans s5) _ _ p').append (bu.one p5),t3',c3,by rw[Qwj];exact hacc⟩;have r6:=r5.turn (u:=.lst (ws++[v])) aX
      rwa [TJ] at r6
   ·have ei:i=ds.length:=by omega
    subst ei;rw[List.drop_length] at l';cases l';rw[Qw0] at hacc;subst hacc;refine .inl ⟨(y1 _ H' (s'.trans r'.fr)).1 (List.getElem?_eq_none (Qq0 _)) rfl,?_⟩;have sP:aH Pr (upd Pr a (.lst ws)):=kY hPa;have r7:Rel C Pr F' (fK.take lo) σ H':=by
     have:=(r'.less sP).cut (σ0:=σ) (by rw[hσ];exact t') r1.fix
     rwa [hσ] at this
    refine q a H' F' r7 (s1.trans s') ⟨⟨hz,ws,r'.pr _ _ aX,p'⟩,hFa,hPa,λj e he hs=>?_⟩;have hj:j<σ.length:=(Qq6.mp hs).1;have he':fK[j]? = some (some (true,e)):=by rw[Qjv (by rw[<-hσ];exact hj)] at he;exact he
    obtain⟨b,g1,_,_,g4⟩:=r'.own j e he';have:σ'[j]? = some (some (V.ref a)):=by rw[<-t',Qjv (by rw[<-hσ];exact hj)] at hs;exact hs
    rw[this] at g1;cases g1;rw[aX] at g4;cases g4
  ·cases e4
 ·cases e2
section
variable{X:Cx}{C:Cfg}{pos:Pos}
theorem Y5{elt tg iter:Expr}{ifs:List Expr}{scope:Scope}(N':List Str){it:dg}{g:GV}{c:eO}{e:Ev}(lo:Nat)(ok:lJ X scope N')(hc:X.calm=true)(hi:Yl X C tg iter it)
  (bg:∀X',jq X scope N' X'->WW X' C lo tg g) (bc:∀X',jq X scope N' X'->Od X' C ifs c) (be:∀X',jq X scope N' X'->PX X' C elt e)
  (hs:∀x,foldedSetIterable iter X.env x=pure x:=by intro _;rfl):Tj X C (.ListComp elt [⟨tg,iter,ifs,0⟩] scope pos) (fC lo N'.length it g c e):=
 (adi ok hc hi bg bc be hs).imp λσ H Q h=>XJ h
theorem Mr{elt tg iter:Expr}{ifs:List Expr}{scope:Scope}(N':List Str){spos py:Pos}{it:dg}{g:GV}{c:eO}{e:Ev}(lo:Nat){i:Nat}{y:Str}(ok:lJ X scope N')(hc:X.calm=true)(hi:Yl X C tg iter it)
  (bg:∀X',jq X scope N' X'->WW X' C lo tg g) (bc:∀X',jq X scope N' X'->Od X' C ifs c) (be:∀X',jq X scope N' X'->PX X' C elt e)
  (hN:X.N.Nodup) (hy:X.N[i]? = some y) (hx:Loc X.env.scope y) (hfx:C.fx i=none)
  (hsw:swapsWith (.ListComp elt [⟨tg,iter,ifs,0⟩] scope pos) (some (.Name y py)) spos.line X.env=pure true)
  (hf:X.fn y=true\/X.env.scope.names.lookup y=some .local:=by first|exact .inl rfl|exact .inr rfl|assumption)
  (hs:∀x,foldedSetIterable iter X.env x=pure x:=by intro _;rfl):S9 X C (.Assign [.Name y py] (.ListComp elt [⟨tg,iter,ifs,0⟩] scope pos) spos) (dO i (fC lo N'.length it g c e)):=
 (QF ok hc hi bg bc be hN hy hx hsw hf hs).imp λD σ H h=>by
  obtain⟨Pr,F,env,r,f⟩:=h;obtain⟨d,aG,e1,f1⟩:=cJ f;have:tN C (fC lo N'.length it g c e) σ H λv H1=>GJ i v σ H1 D.nx:=⟨Pr,F,env,aG,d,r,e1,λv H1 F1 r1 s1 p1=>f1 _ H1 F1 (r1.QB hfx p1) s1⟩;exact XJ this
end
def qj(K:Fg)(n:Nat)(f:List D->Option D):Sp:=λvs H Q _=>∃(F:Hp) (ds:List D) (d:D),ds.length=n/\aH F H/\bu K F ds vs/\f ds=some d/\
 ∀v H' F',aH H H'->aH F' H'->aH F F'->(∀b o,F' b=some o->F b=some o\/H b=none)->Rep K F' d v->Q v H'
def YM(K:Fg)(n:Nat)(f:List D->Option D):Sp:=λvs H Q _=>∃(F:Hp) (ds:List D) (d:D),ds.length=n/\aH F H/\bu K F ds vs/\f ds=some d/\
 ∀a H' F',aH H H'->aH F' H'->aH F F'->(∀b o,F' b=some o->F b=some o\/H b=none)->jo K F' H' d a->F' a=none->H a=none->Q (.ref a) H'
def xg(K:Fg)(n:Nat)(f:List D->Option (D×D)):Sp:=λvs H Q _=>∃(F:Hp) (a:Addr) (r:List V) (x:D) (ds:List D) (d x':D),vs = .ref a::r/\ds.length+1=n/\aH F H/\F a=none/\jo K F H x a/\bu K F ds r/\f (x::ds)=some (d,x')/\
 ∀v H' F',(∀b o,b≠a->H b=some o->H' b=some o)->aH F' H'->aH F F'->(∀b o,F' b=some o->F b=some o\/H b=none)->jo K F' H' x' a->Rep K F' d v->Q v H'
theorem Rel.after{C:Cfg}{Pr F F':Hp}{env:Env}{σ:L2.St}{H H':Hp}(r:Rel C Pr F env σ H)(s:aH H H')(sF:aH F' H')(sF':aH F F')(nw:∀b o,F' b=some o->F b=some o\/H b=none):Rel C Pr F' env σ H':=by
 refine⟨r.pr.trans s,sF,r.len,λj e he=>?_,λj e he=>?_,r.apart,λb o e=>?_,r.fix⟩
 ·obtain⟨v,h1,h2⟩:=r.val j e he;exact⟨v,h1,Rep.mono sF' _ _ h2⟩
 ·obtain⟨a,h1,h2,h3,h4⟩:=r.own j e he;obtain⟨o,ho⟩:=h2.some;refine⟨a,h1,h2.mono sF' (by rw[ho,s _ _ ho]),?_,h4⟩;cases e:F' a with
  | none=>rfl
  | some u=>
   rcases nw a u e with z|z
   ·rw[h3] at z;cases z
   ·rw[ho] at z;cases z
 ·rcases nw b o e with z|z
  ·exact r.dj b o z
  ·exact r.pr.free z
theorem Rel.WD{C:Cfg}{Pr F F':Hp}{env:Env}{σ:L2.St}{H H':Hp}{i:Nat}{a:Addr}{d d':D}(r:Rel C Pr F env σ H)(h:env[i]? = some (some (true,d)))(hs:σ[i]? = some (some (V.ref a)))(s:∀b o,b≠a->H b=some o->H' b=some o)(sF:aH F' H')(sF':aH F F')(nw:∀b o,F' b=some o->F b=some o\/H b=none)(ho:jo C.K F' H' d' a):Rel C Pr F' (env.set i (some (true,d'))) σ H':=by
 obtain⟨a',h1,h2,h3,h4⟩:=r.own i d h;rw[hs] at h1;cases h1;have hi:i<env.length:=(Qq6.mp h).1;obtain⟨oa,hoa⟩:=h2.some;have ne:∀(j:Nat) (e:D) (b:Addr),j≠i->env[j]? = some (some (true,e))->σ[j]? = some (some (V.ref b))->b≠a:=λj e b hj he g z=>hj (r.apart j i e d a he h (by rw[<-z];exact g) hs);have nF:∀b u,F b=none->H b=some u->F' b=none:=λb u e1 e2=>by
  cases e:F' b with
  | none=>rfl
  | some w=>
   rcases nw b w e with z|z
   ·rw[e1] at z;cases z
   ·rw[e2] at z;cases z
 refine⟨λb w e=>?_,sF,by rw[Qw8];exact r.len,λj e he=>?_,λj e he=>?_,λj k e f b hj hk g1 g2=>?_,λb o e=>?_,r.fix⟩
 ·have hb:b≠a:=λz=>by rw[z,h4] at e;cases e
  exact s b w hb (r.pr b w e)
 ·by_cases hj:j=i
  ·subst hj;rw[Qww hi] at he;cases he
  ·rw[Qq8 (Ne.symm hj)] at he;obtain⟨v,g1,g2⟩:=r.val j e he;exact⟨v,g1,Rep.mono sF' _ _ g2⟩
 ·by_cases hj:j=i
  ·subst hj;rw[Qww hi] at he;cases he;exact⟨a,hs,ho,nF a oa h3 hoa,h4⟩
  ·rw[Qq8 (Ne.symm hj)] at he;obtain⟨b,g1,g2,g3,g4⟩:=r.own j e he;obtain⟨ob,hob⟩:=g2.some;exact⟨b,g1,g2.mono sF' (by rw[hob,s b ob (ne j e b hj he g1) hob]),nF b ob g3 hob,g4⟩
 ·have un:∀(j:Nat) (e:D),(env.set i (some (true,d')))[j]? = some (some (true,e))->∃e',env[j]? = some (some (true,e')):=λj e he=>by
   by_cases hj:j=i
   ·subst hj;exact⟨d,h⟩
   ·rw[Qq8 (Ne.symm hj)] at he;exact⟨e,he⟩
  obtain⟨e',hj'⟩:=un j e hj;obtain⟨f',hk'⟩:=un k f hk;exact r.apart j k e' f' b hj' hk' g1 g2
 ·rcases nw b o e with z|z
  ·exact r.dj b o z
  ·exact r.pr.free z
section
variable{X:Cx}{C:Cfg}{pos p:Pos}{k n:Nat}{f:Addr}{fd:FuncData}{ps:List Str}{x:Str}{e:Expr}{es:List Expr}
theorem zj{g:List D->Option D}{a:dg}{env env':Env}{d:D}(h:ao g a env = .ok d env'):∃ds,a env = .ok ds env'/\g ds=some d:=by obtain⟨ds,aG,e1,e2⟩:=aY h;obtain⟨e3,rfl⟩:=gb e2;exact⟨ds,e1,e3⟩
theorem Y8{g:List D->Option D}{a:dg}(G:mR X.prog X.w X.K X.mg X.base Ec k f fd ps (qj C.K n g))(hr:gY k X.A)(hg:Gl X x)(hm:X.mg x=some (.ref f))(hk:PySem.W.keepIn X.K (.ref f)=true)(hb:Binds X.K fd ps [])
  (ha:Lx X C (e::es) a) (hn:∀env ds env',a env = .ok ds env'->ds.length=n) (hdb:ju x:=by decide) (he:starEach (e::es) X.env=(false,eval e X.env)::starEach es X.env:=by rfl) (hpl:(backTo pos (starEach es X.env)).any (·.1)=false:=by rfl) :
  PX X C (.Call (.Name x p) (e::es) [] pos) (ao g a):=(Dd G hr hg hm hk hb .nil QW ha hdb he hpl).imp λσ H Q hq=>by
 obtain⟨Pr,F,env,env',d,r,e,q⟩:=hq;obtain⟨ds,e1,e2⟩:=zj e;refine⟨Pr,F,env,env',ds,r,e1,λvs H1 F1 r1 s1 p1=>?_⟩;show qj C.K n g (vs++[]) H1 Q E0;rw[Qw0];exact⟨F1,ds,d,hn _ _ _ e1,r1.fr,p1,e2,λv H2 F2 t1 t2 t3 t4 p2=>q v H2 F2 (r1.after t1 t2 t3 t4) (s1.trans t3) p2⟩
theorem Us{g:List D->Option D}{a:dg}(G:mR X.prog X.w X.K X.mg X.base Ec k f fd ps (YM C.K n g))(hr:gY k X.A)(hg:Gl X x)(hm:X.mg x=some (.ref f))(hk:PySem.W.keepIn X.K (.ref f)=true)(hb:Binds X.K fd ps [])
  (ha:Lx X C (e::es) a) (hn:∀env ds env',a env = .ok ds env'->ds.length=n) (hdb:ju x:=by decide) (he:starEach (e::es) X.env=(false,eval e X.env)::starEach es X.env:=by rfl) (hpl:(backTo pos (starEach es X.env)).any (·.1)=false:=by rfl) :
  Tj X C (.Call (.Name x p) (e::es) [] pos) (ao g a):=(Dd G hr hg hm hk hb .nil QW ha hdb he hpl).imp λσ H Q hq=>by
 obtain⟨Pr,F,env,env',d,r,e,q⟩:=hq;obtain⟨ds,e1,e2⟩:=zj e;refine⟨Pr,F,env,env',ds,r,e1,λvs H1 F1 r1 s1 p1=>?_⟩;show YM C.K n g (vs++[]) H1 Q E0;rw[Qw0];refine⟨F1,ds,d,hn _ _ _ e1,r1.fr,p1,e2,λb H2 F2 t1 t2 t3 t4 ho hF hH=>q b H2 F2 (r1.after t1 t2 t3 t4) (s1.trans t3) ⟨ho,hF,r1.pr.free hH,λj e he hs=>?_⟩⟩;obtain⟨c,h1,h2,_⟩:=r1.own j e he;rw[hs] at h1;cases h1;obtain⟨u,hu⟩:=h2.some;rw[hH] at hu;cases hu
noncomputable def cX(f:List D->Option (D×D))(i:Nat)(a:dg):Ev:=λenv=>match env[i]? with
 | some (some (true,_))=>bindR (a env) λds aG=>(match aG[i]? with
  | some (some (true,x))=>(match f (x::ds) with
   | some (d,x')=>.ok d (aG.set i (some (true,x')))
   | none=>.stuck)
  | _=>.stuck)
 | _=>.stuck
theorem ade{g:List D->Option (D×D)}{a:dg}{i:Nat}{y:Str}{py:Pos}(hN:X.N[i]? = some y)(hv:vZ X.env.scope y)(G:mR X.prog X.w X.K X.mg X.base Ec k f fd ps (xg C.K n g))(hr:gY k X.A)(hg:Gl X x)(hm:X.mg x=some (.ref f))(hk:PySem.W.keepIn X.K (.ref f)=true)(hb:Binds X.K fd ps [])
  (ha:Lx X C es a) (hn:∀env ds env',a env = .ok ds env'->ds.length+1=n) (hdb:ju x:=by decide) (he:starEach (.Name y py::es) X.env=(false,eval (.Name y py) X.env)::starEach es X.env:=by rfl) (hpl:(backTo pos (starEach es X.env)).any (·.1)=false:=by rfl)
  (hd:ju y:=by decide) (hcd:vG y:=by decide) :
  PX X C (.Call (.Name x p) (.Name y py::es) [] pos) (cX g i a):=(Dd G hr hg hm hk hb .nil QW (gw (iG hN hv hd hcd) ha he) hdb he hpl).imp λσ H Q hq=>by
 obtain⟨Pr,F,env,env',d,r,e,q⟩:=hq;unfold cX at e;split at e
 ·rename_i d0 h0;obtain⟨ds,aG,e1,e2⟩:=aY e;split at e2
  ·rename_i z hz;split at e2
   ·rename_i d1 z' hg;cases e2;obtain⟨a0,hs0,_⟩:=r.own i _ h0;refine⟨_,hs0,Pr,F,env,aG,ds,r,e1,λvs H1 F1 r1 s1 p1=>?_⟩;obtain⟨a1,hs1,ho1,hF1,hP1⟩:=r1.own i _ hz;rw[hs0] at hs1;cases hs1;show xg C.K n g (_::vs++[]) H1 Q E0;rw[Qw0];exact⟨F1,a0,vs,z,ds,d,z',rfl,hn _ _ _ e1,r1.fr,hF1,ho1,p1,hg,λv H2 F2 t1 t2 t3 t4 t5 p2=>q v H2 F2 (r1.WD hz hs0 t1 t2 t3 t4 t5) (s1.trans t3) p2⟩
   ·cases e2
  ·cases e2
 ·cases e
end
noncomputable def envOf(n:Nat)(ds:List D):Env:=ds.map (λd=>some (false,d))++List.replicate (n - ds.length) none
noncomputable def zr(n:Nat)(x:D)(ds:List D):Env:=some (true,x)::(ds.map (λd=>some (false,d))++List.replicate (n - (ds.length+1)) none)
noncomputable def cO(n:Nat)(ev:bH)(ds:List D):Option D:=match ev (envOf n ds) with
 | .rt false d _=>some d
 | .nx _=>some .non
 | _=>none
noncomputable def runN(n:Nat)(ev:bH)(ds:List D):Option D:=match ev (envOf n ds) with
 | .rt true d _=>some d
 | _=>none
noncomputable def gr(n:Nat)(ev:bH)(ds:List D):Option (D×D):=match ds with
 | []=>none
 | x::r=>(match ev (zr n x r) with
  | .rt false d env=>(match env[0]? with
   | some (some (true,x'))=>some (d,x')
   | _=>none)
  | .nx env=>(match env[0]? with
   | some (some (true,x'))=>some (.non,x')
   | _=>none)
  | _=>none)
noncomputable def C0(K:Fg):Cfg:=⟨K,λ_=>none⟩
noncomputable def C1(K:Fg)(a:Addr):Cfg:=⟨K,λi=>if i=0 then some a else none⟩
noncomputable def Bl(H F:Hp):Hp:=λb=>if (F b).isSome then none else H b
theorem Gj{H F:Hp}{b:Addr}{o:HO}(h:Bl H F b=some o):H b=some o/\F b=none:=by
 unfold Bl at h;split at h
 ·cases h
 ·rename_i z;exact⟨h,by cases e:F b with|none=>rfl|some w=>rw[e] at z;exact absurd rfl z⟩
theorem yE{H F:Hp}{b:Addr}(h:Bl H F b=none):H b=none\/∃o,F b=some o:=by
 unfold Bl at h;split at h
 ·rename_i z;exact .inr (Qz7.mp z)
 ·exact .inl h
theorem vh{K:Fg}{F H:Hp}{ds:List D}{vs:List V}{N:List Str}(s:aH F H)(p:bu K F ds vs):Rel (C0 K) (Bl H F) F (envOf N.length ds) (start N vs) H:=by
 have un:∀(j:Nat) (x:Bool×D),(envOf N.length ds)[j]? = some (some x)->∃d,x=(false,d)/\ds[j]? = some d:=λj x he=>by
  unfold envOf at he;by_cases hj:j<(ds.map λd=>some (false,d)).length
  ·rw[Qxw hj,Qx1] at he;obtain⟨d,h1,h2⟩:=Qw2.mp he;cases h2;exact⟨d,rfl,h1⟩
  ·rw[Qz2 (by omega),Qjq] at he;split at he<;>cases he
 refine⟨λb o e=>(Gj e).1,s,?_,λj d he=>?_,λj d he=>?_,λj k d e a hj hk=>?_,λb o e=>?_,λi a h=>by cases h⟩
 ·unfold envOf L2.start;rw[Qq1,Qq1,Qqv,Qqv,Qzk,Qzk,p.length]
 ·obtain⟨d',z,hd⟩:=un j _ he;cases z;obtain⟨v,h1,h2⟩:=p.get hd;refine⟨v,?_,h2⟩;unfold L2.start;rw[Qxw (by rw[Qqv];exact(Qq6.mp h1).1),Qx1,h1]
  rfl
 ·obtain⟨d',z,_⟩:=un j _ he;cases z
 ·obtain⟨d',z,_⟩:=un j _ hj;cases z
 ·unfold Bl;rw[e];rfl
theorem aH.Df{H F F' H':Hp}(s1:aH (Bl H F) H')(s2:aH F F')(s3:aH F' H')(sF:aH F H):aH H H':=λb o e=>by
 cases z:F b with
 | none=>exact s1 b o (by unfold Bl;rw[z];exact e)
 | some w=>
  have:=sF b w z;rw[e] at this;cases this;exact s3 b o (s2 b o z)
theorem Jm{H F F':Hp}(s2:aH F F')(dj:∀b o,F' b=some o->Bl H F b=none)(b:Addr)(o:HO)(h:F' b=some o):F b=some o\/H b=none:=by
 rcases yE (dj b o h) with z|⟨w,z⟩
 ·exact .inr z
 ·have:=s2 b w z;rw[h] at this;cases this;exact .inl z
section
variable{P:Program}{w:World}{K:Fg}{mg:Str->Option Value}{base:Heap}{x qual:Str}{st:Stmt}{f:Addr}{fd:FuncData}{N ps:List Str}{k:Nat}{ev:bH}
noncomputable abbrev bx(P:Program)(w:World)(K:Fg)(mg:Str->Option Value)(base:Heap)(N:List Str)(qual:Str)(st:Stmt)(f:Addr)(cdv:Value)(A:Around)(outer:List PySem.Env)(s:Shared)(H:Hp)(E:XK):Cx:=(G8 Ec P w K mg base N qual (aM st) f cdv A outer s H E).vC
theorem G7(F:Te K x qual st f fd)(S:bA N ps (aM st))
  (hb:∀(cdv:Value) (A:Around) (outer:List PySem.Env) (s:Shared) (H:Hp) (E:XK),gY k (A.deeper (envOfC qual (aM st) s.heap.objs.size f cdv))->xu (bx P w K mg base N qual st f cdv A outer s H E) (C0 K) (d8 st) ev) :
  mR P w K mg base Ec (k+1) f fd ps (qj K ps.length (cO N.length ev)):=by
 refine F.ok S (λvs H Q E h=>?_) (λcdv A outer s H vs Q E hr h=>?_)
 ·obtain⟨F0,ds,d,hl,_,p,_⟩:=h;rw[p.length,hl]
 ·obtain⟨F0,ds,d,hl,sF,p,e,q⟩:=h;refine⟨_,hb cdv A outer s H E hr,Bl H F0,F0,envOf N.length ds,vh sF p,?_⟩;unfold cO at e;split at e
  ·rename_i d' env' h1;cases e;rw[h1];exact λv σ' H' F' r' s' p'=>q v H' F' (aH.Df r'.pr s' r'.fr sF) r'.fr s' (Jm s' r'.dj) p'
  ·rename_i env' h1;cases e;rw[h1];exact λσ' H' F' r' s'=>q .non H' F' (aH.Df r'.pr s' r'.fr sF) r'.fr s' (Jm s' r'.dj) rfl
  ·cases e
theorem Wh(F:Te K x qual st f fd)(S:bA N ps (aM st))
  (hb:∀(cdv:Value) (A:Around) (outer:List PySem.Env) (s:Shared) (H:Hp) (E:XK),gY k (A.deeper (envOfC qual (aM st) s.heap.objs.size f cdv))->xu (bx P w K mg base N qual st f cdv A outer s H E) (C0 K) (d8 st) ev) :
  mR P w K mg base Ec (k+1) f fd ps (YM K ps.length (runN N.length ev)):=by
 refine F.ok S (λvs H Q E h=>?_) (λcdv A outer s H vs Q E hr h=>?_)
 ·obtain⟨F0,ds,d,hl,_,p,_⟩:=h;rw[p.length,hl]
 ·obtain⟨F0,ds,d,hl,sF,p,e,q⟩:=h;refine⟨_,hb cdv A outer s H E hr,Bl H F0,F0,envOf N.length ds,vh sF p,?_⟩;unfold runN at e;split at e
  ·rename_i d' env' h1;cases e;rw[h1];refine λa σ' H' F' r' s' n'=>q a H' F' (aH.Df r'.pr s' r'.fr sF) r'.fr s' (Jm s' r'.dj) n'.own n'.nF ?_;rcases yE n'.nP with z|⟨u,z⟩
   ·exact z
   ·have:=s' a u z;rw[n'.nF] at this;cases this
  ·cases e
theorem Fl{K:Fg}{F H:Hp}{y:D}{a:Addr}{ds:List D}{vs:List V}{N:List Str}(s:aH F H)(hF:F a=none)(ho:jo K F H y a)(p:bu K F ds vs):Rel (C1 K a) (λb=>if b=a then none else Bl H F b) F (zr N.length y ds) (start N (.ref a::vs)) H:=by
 have un:∀(j:Nat) (x:Bool×D),(zr N.length y ds)[j]? = some (some x)->(j=0/\x=(true,y))\/∃i d,j=i+1/\x=(false,d)/\ds[i]? = some d:=λj x he=>by
  unfold zr at he;cases j with
  | zero=>cases he;exact .inl ⟨rfl,rfl⟩
  | succ i=>
   rw[List.getElem?_cons_succ] at he;by_cases hj:i<(ds.map λd=>some (false,d)).length
   ·rw[Qxw hj,Qx1] at he;obtain⟨d,h1,h2⟩:=Qw2.mp he;cases h2;exact .inr ⟨i,d,rfl,rfl,h1⟩
   ·rw[Qz2 (by omega),Qjq] at he;split at he<;>cases he
 have z0:(start N (.ref a::vs))[0]? = some (some (V.ref a)):=rfl;refine⟨λb o e=>?_,s,?_,λj d he=>?_,λj d he=>?_,λj k d e b hj hk _ _=>?_,λb o e=>?_,λi b h=>?_⟩
 ·have e':(if b=a then none else Bl H F b)=some o:=e;split at e'
  ·cases e'
  ·exact(Gj e').1
 ·unfold zr L2.start;simp only[Qqw,Qq1,Qqv,Qzk,p.length,Qwv];omega
 ·rcases un j _ he with ⟨_,z⟩|⟨i,d',rfl,z,hd⟩
  ·cases z
  ·cases z;obtain⟨v,h1,h2⟩:=p.get hd;refine⟨v,?_,h2⟩;unfold L2.start;rw[Qwv,List.cons_append,List.getElem?_cons_succ,Qxw (by rw[Qqv];exact(Qq6.mp h1).1),Qx1,h1]
   rfl
 ·rcases un j _ he with ⟨rfl,z⟩|⟨i,d',rfl,z,hd⟩
  ·cases z;exact⟨a,z0,ho,hF,if_pos rfl⟩
  ·cases z
 ·rcases un j _ hj with ⟨rfl,_⟩|⟨i,d',rfl,z,_⟩
  ·rcases un k _ hk with ⟨rfl,_⟩|⟨i,d',rfl,z,_⟩
   ·rfl
   ·cases z
  ·cases z
 ·show(if b=a then none else Bl H F b)=none;split
  ·rfl
  ·unfold Bl;rw[e];rfl
 ·have h':(if i=0 then some a else none)=some b:=h;split at h'
  ·rename_i hi;cases h';rw[hi];exact z0
  ·cases h'
theorem abm{y:Str}{qs:List Str}(F:Te K x qual st f fd)(S:bA N (y::qs) (aM st))
  (hb:∀(cdv:Value) (A:Around) (outer:List PySem.Env) (s:Shared) (H:Hp) (E:XK) (a:Addr),gY k (A.deeper (envOfC qual (aM st) s.heap.objs.size f cdv))->xu (bx P w K mg base N qual st f cdv A outer s H E) (C1 K a) (d8 st) ev) :
  mR P w K mg base Ec (k+1) f fd (y::qs) (xg K (qs.length+1) (gr N.length ev)):=by
 refine F.ok S (λvs H Q E h=>?_) (λcdv A outer s H vs Q E hr h=>?_)
 ·obtain⟨F0,a,r,z,ds,d,z',rfl,hl,_,_,_,p,_⟩:=h;rw[Qqw,Qqw,p.length];exact hl
 ·obtain⟨F0,a,r,z,ds,d,z',rfl,hl,sF,hFa,ho,p,e,q⟩:=h;refine⟨_,hb cdv A outer s H E a hr,_,F0,zr N.length z ds,Fl sF hFa ho p,?_⟩;have fin:∀(env':Env) (σ':L2.St) (H' F':Hp) (v:V) (d:D) (z':D),env'[0]? = some (some (true,z'))->Rel (C1 K a) (λb=>if b=a then none else Bl H F0 b) F' env' σ' H'->aH F0 F'->Rep K F' d v->(∀v H' F',(∀b o,b≠a->H b=some o->H' b=some o)->aH F' H'->aH F0 F'->(∀b o,F' b=some o->F0 b=some o\/H b=none)->jo K F' H' z' a->Rep K F' d v->Q v H')->Q v H':=λenv' σ' H' F' v d z' h0 r' s' p' q=>by
   obtain⟨b,g1,g2,g3,g4⟩:=r'.own 0 z' h0;have g5:=r'.fix 0 a rfl;rw[g1] at g5;cases g5;refine q v H' F' (λc o hc e=>?_) r'.fr s' (λc o e=>?_) g2 p'
   ·cases u:F0 c with
    | none=>exact r'.pr c o (by show(if c=a then none else Bl H F0 c)=some o;rw[if_neg hc];unfold Bl;rw[u];exact e)
    | some w=>
     have:=sF c w u;rw[e] at this;cases this;exact r'.fr c o (s' c o u)
   ·by_cases hc:c=a
    ·subst hc;rw[g3] at e;cases e
    ·have h1:=r'.dj c o e;have h1':(if c=a then none else Bl H F0 c)=none:=h1;rw[if_neg hc] at h1';rcases yE h1' with u|⟨w,u⟩
     ·exact .inr u
     ·have:=s' c w u;rw[e] at this;cases this;exact .inl u
  unfold gr at e;simp only at e;split at e
  ·rename_i d' env' h1;split at e
   ·rename_i z1 h0;cases e;rw[h1];exact λv σ' H' F' r' s' p'=>fin env' σ' H' F' v _ _ h0 r' s' p' q
   ·cases e
  ·rename_i env' h1;split at e
   ·rename_i z1 h0;cases e;rw[h1];exact λσ' H' F' r' s'=>fin env' σ' H' F' .non .non _ h0 r' s' rfl q
   ·cases e
  ·cases e
end
structure Good(X:Cx)(C:Cfg):Prop where
 K:X.K=C.K
 calm:X.calm=true
 un:X.A.units+64<cLine
theorem Good.u1{X:Cx}{C:Cfg}(G:Good X C):X.A.units+1<cLine:=Qxq (Nat.add_le_add_left (by decide:1<=64) _) G.un
theorem Good.u60{X:Cx}{C:Cfg}(G:Good X C):X.A.units+60<cLine:=Qxq (Nat.add_le_add_left (by decide:60<=64) _) G.un
theorem Good.u61{X:Cx}{C:Cfg}(G:Good X C):X.A.units+61<cLine:=Qxq (Nat.add_le_add_left (by decide:61<=64) _) G.un
theorem Good.at{X X':Cx}{C:Cfg}{scope:Scope}{N':List Str}(G:Good X C)(h:jq X scope N' X'):Good X' C:=by obtain⟨_,_,_,_,_,rfl⟩:=h;exact⟨G.K,G.calm,G.un⟩
def Own(P:Program)(w:World)(K:Fg)(mg:Str->Option Value)(base:Heap)(x:Str)(k:Nat)(ps:List Str)(sp:Sp):Prop:=
 ∃f fd,mR P w K mg base Ec k f fd ps sp/\mg x=some (.ref f)/\PySem.W.keepIn K (.ref f)=true/\Binds K fd ps []
def Glb(K:Fg)(mg:Str->Option Value)(x:Str)(d:D):Prop:=∃v u,mg x=some u/\RelV v u/\∀F,Rep K F d v
def dG(K:Fg)(mg:Str->Option Value)(x:Str)(st:Stmt)(ps:List Str):Prop:=∃f fd,Te K x x st f fd/\mg x=some (.ref f)/\Binds K fd ps []
noncomputable def lA:List Str->Bool
 | []=>true
 | x::r=>!(r.contains x)&&lA r
theorem iR:∀{l:List Str},lA l=true->l.Nodup
 | [],_=>.nil
 | x::r,h=>by
  have h':(!(r.contains x)&&lA r)=true:=h;rw[Qz5] at h';refine Qx9.mpr ⟨λhm=>?_,iR h'.2⟩;have:r.contains x=true:=List.contains_iff_mem.mpr hm;rw[this] at h';exact absurd h'.1 (by decide)
noncomputable def K4(outer:List (Str×NameKind)):List (Str×NameKind)->Bool
 | []=>true
 | (n,k)::r=>(!decide (k = .free)||decide (outer.lookup n=some .cell)||decide (outer.lookup n=some .free))&&K4 outer r
theorem GP{outer:List (Str×NameKind)}:∀{l:List (Str×NameKind)},K4 outer l=true->∀x∈l,x.2 = .free->outer.lookup x.1=some .cell\/outer.lookup x.1=some .free
 | [],_,x,hx,_=>by simp at hx
 | (n,k)::r,h,x,hx,hf=>by
  have h':((!decide (k = .free)||decide (outer.lookup n=some .cell)||decide (outer.lookup n=some .free))&&K4 outer r)=true:=h;rw[Qz5,Bool.or_eq_true,Bool.or_eq_true] at h';rcases Qq7.mp hx with rfl|hx
  ·rcases h'.1 with (z|z)|z
   ·have hf':k = .free:=hf;rw[Qwy hf'] at z;exact absurd z (by decide)
   ·exact .inl (Qx2 z)
   ·exact .inr (Qx2 z)
  ·exact GP h'.2 x hx hf
theorem jE{X:Cx}{scope:Scope}{N':List Str}(h1:scope.kind = .function:=by rfl)(h2:lA (scope.names.map (·.1))=true:=by rfl)(h3:K4 X.env.scope.names scope.names=true:=by rfl)(h4:R9 scope.names N' X.N=true:=by rfl)(h5:Nat.ble X.N.length N'.length=true:=by rfl):lJ X scope N':=
 ⟨h1,iR h2,GP h3,h4,Qj9 h5⟩
section
variable{X:Cx}{C:Cfg}{pos p px:Pos}{x y z:Expr}{a b c:Ev}{t u:eO}{i:Nat}{n:Str}
structure Bi(X:Cx)(C:Cfg)(op:Operator)(g:D->D->Option D):Prop where
 ex:∃r,mD X (binaryOp op) r/\oU C r g
structure Cm(X:Cx)(C:Cfg)(op:CmpOp)(g:D->D->Option D):Prop where
 ex:∃r,mD X (compareOp op) r/\oU C r g
theorem lD(G:Good X C):Bi X C .Add du:=⟨_,Vh,by rw[G.K];exact aao⟩
theorem aek:Bi X C .Sub GC:=⟨_,ZQ,aad⟩
theorem Sw:Bi X C .Mult rD:=⟨_,Vf,aah⟩
theorem aem:Bi X C .Mod aa7:=⟨_,ZX,aai⟩
theorem Yd:Bi X C .Pow Jx:=⟨_,ZV,aag⟩
theorem ael:Bi X C .LShift Jw:=⟨_,ZS,aaf⟩
theorem Yc:Bi X C .RShift yV:=⟨_,ZR,aae⟩
theorem Ye:Bi X C .BitAnd Al:=⟨_,Z6,aan⟩
theorem um(G:Good X C):Cm X C .Eq oW:=⟨_,Z4 G.u60,by rw[G.K];exact adw⟩
theorem Ob(G:Good X C):Cm X C .NotEq zY:=⟨_,ZW G.u60,by rw[G.K];exact adp⟩
theorem aei(G:Good X C):Cm X C .In gIn:=⟨_,Z3 G.u61,by rw[G.K];exact adu⟩
theorem aeh:Cm X C .Is gIs:=⟨_,Z1,adt⟩
theorem Wv:Cm X C .IsNot yW:=⟨_,MK,Q6⟩
theorem abw:Cm X C .Lt Ol:=⟨_,ZZ,adq⟩
theorem abx:Cm X C .Gt V9:=⟨_,adm,adv⟩
variable{e:Expr}{es:List Expr}{ea:dg}
theorem len0:∀(env:Env) (ds:List D) (env':Env),aj env = .ok ds env'->ds.length=0:=NB
theorem bG{a:Ev}{r:dg}{m:Nat}(hr:∀env ds env',r env = .ok ds env'->ds.length=m):∀(env:Env) (ds:List D) (env':Env),aa a r env = .ok ds env'->ds.length=m+1:=JB hr
theorem jw{r:dg}{m:Nat}(hr:∀env ds env',r env = .ok ds env'->ds.length=m):∀(env:Env) (ds:List D) (env':Env),r env = .ok ds env'->ds.length+1=m+1:=λenv ds env' h=>by rw[hr env ds env' h]
theorem afK{elt tg iter:Expr}{ifs:List Expr}{scope:Scope}(N':List Str){it:dg}{g:GV}{cc:eO}{ee:Ev}(lo:Nat)(ok:lJ X scope N')(G:Good X C)(hi:Yl X C tg iter it)
  (bg:∀X',jq X scope N' X'->WW X' C lo tg g) (bc:∀X',jq X scope N' X'->Od X' C ifs cc) (be:∀X',jq X scope N' X'->PX X' C elt ee)
  (hs:∀x,foldedSetIterable iter X.env x=pure x:=by intro _;rfl):Tj X C (.ListComp elt [⟨tg,iter,ifs,0⟩] scope pos) (fC lo N'.length it g cc ee):=Y5 N' lo ok G.calm hi bg bc be hs
theorem afz{elt tg iter:Expr}{ifs:List Expr}{scope:Scope}(N':List Str){spos py:Pos}{it:dg}{g:GV}{cc:eO}{ee:Ev}(lo:Nat)(i:Nat)(ok:lJ X scope N')(G:Good X C)(hi:Yl X C tg iter it)
  (bg:∀X',jq X scope N' X'->WW X' C lo tg g) (bc:∀X',jq X scope N' X'->Od X' C ifs cc) (be:∀X',jq X scope N' X'->PX X' C elt ee)
  (hnd:lA X.N=true:=by rfl) (hfx:C.fx i=none:=by rfl) (hy:X.N[i]? = some n:=by rfl) (hx:Loc X.env.scope n:=by first|exact Or.inl rfl|exact Or.inr rfl)
  (hsw:swapsWith (.ListComp elt [⟨tg,iter,ifs,0⟩] scope pos) (some (.Name n py)) spos.line X.env=pure true:=by rfl)
  (hf:X.fn n=true\/X.env.scope.names.lookup n=some .local:=by first|exact .inl rfl|exact .inr rfl)
  (hs:∀x,foldedSetIterable iter X.env x=pure x:=by intro _;rfl):S9 X C (.Assign [.Name n py] (.ListComp elt [⟨tg,iter,ifs,0⟩] scope pos) spos) (dO i (fC lo N'.length it g cc ee)):=Mr N' lo ok G.calm hi bg bc be (iR hnd) hy hx hfx hsw hf hs
end
section
variable{P:Program}{w:World}{K:Fg}{mg:Str->Option Value}{base:Heap}{x:Str}{st:Stmt}{N ps:List Str}{k:Nat}{ev:bH}
theorem tW{x:Str}{f:Addr}{cdv:Value}{A:Around}{outer:List PySem.Env}{s:Shared}{H:Hp}{E:XK}{C:Cfg}(hC:C.K=K)(hr:gY k (A.deeper (envOfC x (aM st) s.heap.objs.size f cdv))):Good (bx P w K mg base N x st f cdv A outer s H E) C:=⟨hC.symm,rfl,hr.units⟩
theorem cF(F:dG K mg x st ps)(S:bA N ps (aM st))
  (hb:∀(f:Addr) (cdv:Value) (A:Around) (outer:List PySem.Env) (s:Shared) (H:Hp) (E:XK),gY k (A.deeper (envOfC x (aM st) s.heap.objs.size f cdv))->Good (bx P w K mg base N x st f cdv A outer s H E) (C0 K)->xu (bx P w K mg base N x st f cdv A outer s H E) (C0 K) (d8 st) ev) :
  Own P w K mg base x (k+1) ps (qj K ps.length (cO N.length ev)):=by
 obtain⟨f,fd,h1,h2,h3⟩:=F;exact⟨f,fd,G7 h1 S λcdv A outer s H E hr=>hb f cdv A outer s H E hr (tW rfl hr),h2,h1.kp,h3⟩
theorem Vc(F:dG K mg x st ps)(S:bA N ps (aM st))
  (hb:∀(f:Addr) (cdv:Value) (A:Around) (outer:List PySem.Env) (s:Shared) (H:Hp) (E:XK),gY k (A.deeper (envOfC x (aM st) s.heap.objs.size f cdv))->Good (bx P w K mg base N x st f cdv A outer s H E) (C0 K)->xu (bx P w K mg base N x st f cdv A outer s H E) (C0 K) (d8 st) ev) :
  Own P w K mg base x (k+1) ps (YM K ps.length (runN N.length ev)):=by
 obtain⟨f,fd,h1,h2,h3⟩:=F;exact⟨f,fd,Wh h1 S λcdv A outer s H E hr=>hb f cdv A outer s H E hr (tW rfl hr),h2,h1.kp,h3⟩
theorem vz{y:Str}{qs:List Str}(F:dG K mg x st (y::qs))(S:bA N (y::qs) (aM st))
  (hb:∀(f:Addr) (cdv:Value) (A:Around) (outer:List PySem.Env) (s:Shared) (H:Hp) (E:XK) (a:Addr),gY k (A.deeper (envOfC x (aM st) s.heap.objs.size f cdv))->Good (bx P w K mg base N x st f cdv A outer s H E) (C1 K a)->xu (bx P w K mg base N x st f cdv A outer s H E) (C1 K a) (d8 st) ev) :
  Own P w K mg base x (k+1) (y::qs) (xg K (qs.length+1) (gr N.length ev)):=by
 obtain⟨f,fd,h1,h2,h3⟩:=F;exact⟨f,fd,abm h1 S λcdv A outer s H E a hr=>hb f cdv A outer s H E a hr (tW rfl hr),h2,h1.kp,h3⟩
theorem iD{sc:Scope}(h1:sc.kind = .function:=by rfl)(h2:sc.isCoroutine=false:=by rfl)(h3:sc.isGenerator=false:=by rfl)(h4:lA N=true:=by rfl)(h5:N.take ps.length=ps:=by rfl)
  (h6:(ps.all λx=>decide (sc.names.lookup x=some .local)||decide (sc.names.lookup x=some .cell))=true:=by rfl) (h7:(sc.names.all λy=>!decide (y.2 = .free))=true:=by rfl):bA N ps sc:=by
 refine⟨h1,h2,h3,iR h4,h5,λx hx=>?_,λy hy z=>?_⟩
 ·have:=Qx6.mp h6 x hx;rw[Bool.or_eq_true] at this;rcases this with z|z
  ·exact .inl (Qx2 z)
  ·exact .inr (Qx2 z)
 ·have:=Qx6.mp h7 y hy;rw[Qwy z] at this;exact absurd this (by decide)
end
open PySem PySem.Spec PySem.W PySem.Calls PyProof.Rows L2
theorem wg:∀(ns:List Int) (i:Int),i∈ns->Builtin.Int.intBits i<=WData.weightAll (ns.map WData.int)
 | [],_,h=>by simp at h
 | n::ns,i,h=>by
  rw[Qwv,WData.weightAll];rcases Qq7.mp h with rfl|h
  ·have e:WData.weight (.int i)=Builtin.Int.intBits i:=by rw[WData.weight];rfl
   rw[e];omega
  ·have:=wg ns i h;omega
def Oi(ns:List Int):Prop:=∀i∈ns,Builtin.Int.intBits i<=2^20
theorem DP{l:OpenLaw}{n:Nat}{q:Program}{loose:List Str}{XP:(Str->Option Value)->Heap->Prop}{YP:World->Heap->Prop}{d:DefRec}
  (hn:l.most=some n) (hdf:d.params.defaults=[])
  (call:∀(w:World) (s₀ s₁:Shared) (mg mb:Str->Option Value) (fa:Addr) (o:Obj) (pm cd doc:Value) (a:Addr) (vs:List Value) (ns:List Int),
   Ground q loose [] XP w s₀ mg mb s₁.heap->YP w s₁.heap->
   s₁.heap.get? fa=some o->o.data = .func (docDef d.name d.params d.body d.scope pm cd doc)->s₁.heap.CodeRec cd d.name->mg d.name=some (.ref fa)->
   s₁.heap.get? a=some { cls:=.type "list",data:=.seq vs.toArray }->IntsAre vs ns->ns.length<=n->Oi ns->s₁.gens = #[]->
   codeAny (model l.prog w) callerA (.call (.ref fa) ⟨[.ref a],[]⟩) (λr s'=>r = .ok (.ret (.bool true))/\OldK s₁.heap s'.heap/\s'.os=s₁.os/\AllBare s'.gens) s₁) :
  WalkO q loose XP YP l.row.toRowW d [] (λf vs=>PySem.call f vs):=by
 intro w s₀ s₁ mg mb G Y fa o pm cd doc dV kV ho hd hcd hD hmg hg args vals as hpre hlay hrd hwl hlo;obtain rfl:dV = .none:=Dflts.none hD hdf;obtain rfl:kV = .none:=Dflts.noKw hD;obtain⟨a,vs,ns,rfl,rfl,hobj,hints,hlen⟩:=Att.Ml hn hpre hwl;have KR:Oi ns:=λi hi=>by
  have h1:=(layableW_iff.mp (layableW_arg hlay _ (Qq5.mpr rfl))).2.2;rw[WData.weight] at h1;exact Qq4 (wg ns i hi) h1
 refine enter_call (codeAny_mono (call w s₀ s₁ mg mb fa o pm cd doc a vs ns G Y ho (fd_plain hd) hcd hmg hobj hints hlen KR hg) λr s' hq=>?_);obtain⟨rfl,h2,h3,h4⟩:=hq;exact⟨.inl ⟨.bool true,.bool true,[],rfl,λ_=>rfl,.bool true,Att.Mx l _,λ_=>⟨List.Pairwise.nil,λ_ hm=>(nomatch hm)⟩⟩,h2,h3,h4⟩
theorem acd{l:PySem.W.OpenLaw}{n k:Nat}{q:Program}{loose:List Str}{XP:(Str->Option Value)->Heap->Prop}{YP:World->Heap->Prop}{d:DefRec}{K:Params->PySem.W.Frag}{x:Str}{f:List D->Option D}
  (hn:l.most=some n) (hn2:n<=sizeLine) (hdf:d.params.defaults=[]) (hr:gY k callerA)
  (hY:∀(w:World) (h:Heap),YP w h->(K w.params).In h)
  (hf:∀ns:List Int,ns.length<=n->Oi ns->f [.arr (ns.map .int)]=some (.bl true))
  (F:∀(w:World) (mg:Str->Option Value) (fa:Addr) (h:Heap),(K w.params).In h->h.Ns mainGlobals mg->mg d.name=some (.ref fa)->
   ∃fd:FuncData,(∀(s:Shared) (u:Value),BindsTo s fd ⟨[u],[]⟩ [(x,u)])/\
    ∀base:Heap,(K w.params).In base->base.Ns mainGlobals mg->mR l.prog w (K w.params) mg base Ec k fa fd [x] (qj (K w.params) 1 f)) :
  PySem.W.WalkO q loose XP YP l.row.toRowW d [] (λf vs=>PySem.call f vs):=by
 refine DP hn hdf λw s₀ s₁ mg mb fa o pm cd doc a vs ns G Y ho hd hcd hmg hobj hints hlen KR hg=>?_;have KX:=hY w _ Y;obtain⟨fd,hb,hF⟩:=F w mg fa _ KX G.T.g hmg;refine Ru KX G.T.g G.T.b G.T.builtins G.T.nolimit hg hobj hints (Qq4 hlen hn2) hr hF hb (λH hO hS=>?_) λH e s' z=>z;refine⟨H,[.arr (ns.map .int)],.bl true,rfl,aH.refl H,⟨_,_,rfl,⟨by rw[Qqv];exact Qq4 hlen hn2,a,_,rfl,hS,?_⟩,rfl⟩,hf ns hlen KR,λv H' F' _ _ _ _ p=>p⟩;clear hints hlen KR hS
 induction ns with
 | nil=>exact rfl
 | cons m ns ih=>exact⟨_,_,rfl,rfl,ih⟩
section
variable{K:Fg}{h:Heap}{mg:Str->Option Value}
theorem funAt{x:Str}{st:Stmt}{ps:List Str}{f:Addr}{oc:Value}{od an:Option Addr}{osl:Array (Option Value)}{kV doc pm cdv ct:Value}(X:K.In h)(G:h.Ns mainGlobals mg)
  (a:PySem.W.nsIn K mainGlobals x=some (some (.ref f))) (l:K.lookup f=some ⟨oc,od,.func (PySem.W.fnOf x x (jj st) (d8 st) (aM st) .none kV doc pm an cdv ct),osl⟩)
  (c:PySem.W.codeIn K cdv x=true) (k:PySem.W.keepIn K (.ref f)=true)
  (b:∀(kV doc pm:Value) (an:Option Addr) (cdv ct:Value) (us:List Value),us.length=ps.length->bindArgs (PySem.W.fnOf x x (jj st) (d8 st) (aM st) .none kV doc pm an cdv ct) ⟨us,[]⟩=pure (ps.zip us)):dG K mg x st ps:=
 ⟨f,_,Jz l c k,Qk3 X G a,(Jz (st:=st) l c k).binds b⟩
theorem V4{x s:Str}{z:List Nat}{t:Tok}(X:K.In h)(G:h.Ns mainGlobals mg)(a:PySem.W.nsIn K mainGlobals x=some (some (.str s t)))(hs:s=strOf z)(hz:z.length<=sizeLine):Glb K mg x (.str z):=
 ⟨.str s,_,Qk3 X G a,⟨t,rfl⟩,λF=>⟨by rw[hs],hz⟩⟩
theorem vD{x:Str}(X:K.In h)(G:h.Ns mainGlobals mg)(e:PySem.W.nsIn K mainGlobals x=some none):mg x=none:=PySem.W.mg_none_of X G e
end
open PySem L2
theorem GQ{g:GV}{b:bH}(P:Env->Prop):∀(ds:List D),(∀d∈ds,∀env,P env->∃e1 e2,g d env=some e1/\b e1 = .nx e2/\P e2)->∀env,P env->∃e',jh g b ds env = .nx e'/\P e'
 | [],_,env,hp=>⟨env,rfl,hp⟩
 | d::ds,h,env,hp=>by
  obtain⟨e1,e2,h1,h2,h3⟩:=h d (Qqj ..) env hp;obtain⟨e',h4,h5⟩:=GQ P ds (λd' hd=>h d' (Qqk _ hd)) e2 h3;refine⟨e',?_,h5⟩;unfold jh;rw[h1];simp only;rw[h2];exact h4
theorem K6{g:GV}{b:bH}{all:List D}(P:List D->Env->Prop)(h:∀done d rest,all=done++d::rest->∀env,P done env->∃e1 e2,g d env=some e1/\b e1 = .nx e2/\P (done++[d]) e2):∀(ds done:List D),all=done++ds->∀env,P done env->∃e',jh g b ds env = .nx e'/\P all e'
 | [],done,ha,env,hp=>⟨env,rfl,by rw[ha,Qw0];exact hp⟩
 | d::ds,done,ha,env,hp=>by
  obtain⟨e1,e2,h1,h2,h3⟩:=h done d ds ha env hp;obtain⟨e',h4,h5⟩:=K6 P h ds (done++[d]) (by rw[Qwj];exact ha) e2 h3;refine⟨e',?_,h5⟩;unfold jh;rw[h1];simp only;rw[h2];exact h4
theorem qp{g:GV}{b:bH}(all:List D)(P:List D->Env->Prop)(h:∀done d rest,all=done++d::rest->∀env,P done env->∃e1 e2,g d env=some e1/\b e1 = .nx e2/\P (done++[d]) e2)(env:Env)(h0:P [] env):∃e',jh g b all env = .nx e'/\P all e':=K6 P h all [] rfl env h0
theorem aC{a b:bH}{env e:Env}(h:a env = .nx e):aB a b env=b e:=by unfold aB;rw[h]
theorem sO{a b:bH}{env e:Env}{o:Bool}{d:D}(h:a env = .rt o d e):aB a b env = .rt o d e:=by unfold aB;rw[h]
theorem gF{it:dg}{g:GV}{b:bH}{env e:Env}{ds:List D}(h:it env = .ok ds e):gq it g b env=jh g b ds e:=by unfold gq;rw[h];rfl
theorem bF{a:Ev}{g:GV}{env e e':Env}{d:D}(h:a env = .ok d e)(h':g d e=some e'):aN a g env = .nx e':=by unfold aN;rw[h];show Ro (g d e)=_;rw[h'];rfl
theorem ie{t:eO}{a b:bH}{env e:Env}(h:t env = .ok true e):dJ t a b env=a e:=by unfold dJ;rw[h];rfl
theorem fP{t:eO}{a b:bH}{env e:Env}(h:t env = .ok false e):dJ t a b env=b e:=by unfold dJ;rw[h];rfl
theorem bT{a:Ev}{env e:Env}{d:D}(h:a env = .ok d e):bw a env = .rt false d e:=by unfold bw;rw[h];rfl
theorem aL{g:List D->Option D}{a:dg}{env e:Env}{ds:List D}{d:D}(h:a env = .ok ds e)(h':g ds=some d):ao g a env = .ok d e:=by unfold ao;rw[h];show je (g ds) e=_;rw[h'];rfl
theorem bO{g:D->D->Option D}{a b:Ev}{env e1 e2:Env}{x y d:D}(h1:a env = .ok x e1)(h2:b e1 = .ok y e2)(h3:g x y=some d):aF g a b env = .ok d e2:=by
 unfold aF;rw[h1];show bindR (b e1) _=_;rw[h2];show je (g x y) e2=_;rw[h3]
 rfl
theorem bZ{g:D->D->Option D}{i:Nat}{b:Ev}{env e2:Env}{x y d:D}{o o':Bool}{x0:D}(h1:env[i]? = some (some (o',x0)))(h2:b env = .ok y e2)(h4:e2[i]? = some (some (o,x)))(h3:g x y=some d):az g i b env = .ok d e2:=by
 unfold az;rw[h1];show bindR (b env) _=_;rw[h2];show(match e2[i]? with|some (some (_,x))=>je (g x y) e2|_=>.stuck)=_;rw[h4];show je (g x y) e2=_;rw[h3]
 rfl
theorem aP{a:Ev}{r:dg}{env e1 e2:Env}{d:D}{ds:List D}(h1:a env = .ok d e1)(h2:r e1 = .ok ds e2):aa a r env = .ok (d::ds) e2:=by
 unfold aa;rw[h1];show bindR (r e1) _=_;rw[h2]
 rfl
theorem bI{env:Env}:aj env = .ok [] env:=rfl
theorem GZ{r:dg}{env e:Env}{ds:List D}(h:r env = .ok ds e)(hz:ds.length<=sizeLine):cu r env = .ok (.lst ds) e:=by unfold cu;rw[h];show(if ds.length<=sizeLine then _ else _)=_;rw[if_pos hz]
theorem cW{r:dg}{env e:Env}{ds:List D}(h:r env = .ok ds e)(hz:ds.length<=sizeLine):bN r env = .ok (.tup ds) e:=by unfold bN;rw[h];show(if ds.length<=sizeLine then _ else _)=_;rw[if_pos hz]
theorem iC{f:List D->Option (D×D)}{i:Nat}{a:dg}{env e1:Env}{ds:List D}{x0 x d x':D}(h0:env[i]? = some (some (true,x0)))(h1:a env = .ok ds e1)(h2:e1[i]? = some (some (true,x)))(h3:f (x::ds)=some (d,x')):cX f i a env = .ok d (e1.set i (some (true,x'))):=by unfold cX;rw[h0];show bindR (a env) _=_;rw[h1];show(match e1[i]? with|some (some (true,x))=>(match f (x::ds) with|some (d,x')=>R.ok d (e1.set i (some (true,x')))|none=>R.stuck)|_=>R.stuck)=_;rw[h2];show(match f (x::ds) with|some (d,x')=>R.ok d (e1.set i (some (true,x')))|none=>.stuck)=_;rw[h3]
theorem K1{i j:Int}(h:jK i j=true):rD (.int i) (.int j)=some (.int (i*j)):=by show gI jK (λi j=>D.int (i*j)) (.int i) (.int j)=_;unfold gI;simp only;rw[if_pos h]
theorem GK{a b:List D}(h:a.length+b.length<=sizeLine):du (.lst a) (.lst b)=some (.lst (a++b)):=by show(if a.length+b.length<=sizeLine then _ else _)=_;rw[if_pos h]
theorem ig{a:Ev}{env e:Env}{b:Bool}(h:a env = .ok (.bl b) e):eY a env = .ok b e:=by unfold eY;rw[h];rfl
theorem o7{i:Nat}{a:Ev}{env e:Env}{d:D}(h:a env = .ok d e):dO i a env = .nx (e.set i (some (true,d))):=by unfold dO;rw[h];rfl
theorem lX{a:Ev}{env e:Env}{d:D}{ds:List D}(h:a env = .ok d e)(h':itD d=some ds):gf a env = .ok ds e:=by unfold gf;rw[h];show je (itD d) e=_;rw[h'];rfl
theorem jP{n:Nat}{ev:bH}{x d x':D}{r:List D}{env:Env}(h:ev (zr n x r) = .rt false d env)(h0:env[0]? = some (some (true,x'))):gr n ev (x::r)=some (d,x'):=by unfold gr;simp only;rw[h];simp only;rw[h0]
theorem dW{n:Nat}{ev:bH}{d:D}{ds:List D}{env:Env}(h:ev (envOf n ds) = .rt false d env):cO n ev ds=some d:=by unfold cO;rw[h]
theorem We{a b:Ev}{env e:Env}(h:a env = .ok (.bl true) e):qJ a b env=b e:=by unfold qJ;rw[h];rfl
theorem Wf{a b:Ev}{env e:Env}(h:a env = .ok (.bl false) e):qJ a b env = .ok (.bl false) e:=by unfold qJ;rw[h];rfl
theorem abg{a b:Ev}{env e:Env}(h:a env = .ok (.bl true) e):Dw a b env = .ok (.bl true) e:=by unfold Dw;rw[h];rfl
theorem R1{a b:Ev}{env e:Env}(h:a env = .ok (.bl false) e):Dw a b env=b e:=by unfold Dw;rw[h];rfl
theorem Lb{a b:eO}{env e:Env}(h:a env = .ok false e):wI a b env=b e:=by unfold wI;rw[h];rfl
theorem Nz{a:eO}{env e:Env}{b:Bool}(h:a env = .ok b e):pU a env = .ok (!b) e:=by unfold pU;rw[h];rfl
theorem n6{g:GV}{e:Ev}(P:Env->Prop)(f:D->D):∀(ds:List D) (env:Env),P env->(∀d∈ds,∀env,P env->∃e1 e2,g d env=some e1/\e e1 = .ok (f d) e2/\P e2)->∃env',Ef g dh e ds env = .ok (ds.map f) env'/\P env'
 | [],env,hp,_=>⟨env,rfl,hp⟩
 | d::ds,env,hp,h=>by
  obtain⟨e1,e2,h1,h2,h3⟩:=h d (Qqj ..) env hp;obtain⟨e3,h4,h5⟩:=n6 P f ds e2 h3 λd' hd=>h d' (Qqk _ hd);refine⟨e3,?_,h5⟩;unfold Ef;rw[h1];show bindR (e e1) _=_;rw[h2];show bindR (Ef g dh e ds e2) _=_;rw[h4]
  rfl
theorem kE{lo n:Nat}{it:dg}{g:GV}{c:eO}{e:Ev}{env aG fK:Env}{ds ys:List D}(h1:it env = .ok ds aG)(hl:aG.length=lo)(h2:Ef g c e ds (aG++List.replicate (n - lo) none) = .ok ys fK)(hz:ys.length<=sizeLine):fC lo n it g c e env = .ok (.lst ys) (fK.take lo):=by unfold fC;rw[h1];show(if aG.length=lo then _ else _)=_;rw[if_pos hl,h2];show(if ys.length<=sizeLine then _ else _)=_;rw[if_pos hz]
theorem dig(n:Int)(m:Nat)(hm:0<m):∃d:Nat,d<m/\n % (m:Int)=(d:Int):=by have h1:0<=n % (m:Int):=Int.emod_nonneg n (by omega);have h2:n % (m:Int)<m:=Int.emod_lt_of_pos n (by omega);exact⟨(n % (m:Int)).toNat,by omega,by omega⟩
theorem JM{α:Type}{xs:List α}{d:Nat}(h:d<xs.length):wL xs (d:Int)=some xs[d]:=uq (Qqy h)
noncomputable def okN:Nat->D->Bool
 | 0,_=>false
 | n+1,.tup xs=>xs.all (okN n)
 | n+1,.lst xs=>xs.all (okN n)
 | _+1,.dct _=>false
 | _+1,.gh _=>false
 | _+1,.clo _ _=>false
 | _+1,.arr _=>false
 | _+1,_=>true
theorem zq{f:D->D->Option Bool}:∀(xs:List D),(∀x∈xs,f x x=some true)->uC f xs xs=some true
 | [],_=>rfl
 | x::r,h=>by
  unfold uC;rw[h x (Qqj ..),zq r λy hy=>h y (Qqk _ hy)]
  rfl
theorem zm:∀(n:Nat) (d:D),okN n d=true->aZ n d d=some true
 | 0,_,h=>by cases h
 | n+1,d,h=>by
  cases d with
  | tup xs=>exact zq xs λx hx=>zm n x (Qx6.mp h x hx)
  | lst xs=>exact zq xs λx hx=>zm n x (Qx6.mp h x hx)
  | dct _=>cases h
  | gh _=>cases h
  | clo _ _=>cases h
  | arr _=>cases h
  | non=>rfl
  | bl b=>show some (b == b)=_;simp
  | int i=>show some (i == i)=_;simp
  | str x=>show some (x == x)=_;simp
end Ev
namespace L2
open PySem PySem.Spec PyProof.Rows
section
variable{X:Cx}{pins:List (Addr×Obj)}{σ:St}{H:Hp}{s:Shared}{h':Heap}
theorem Inv.drawn{t':Nat}{ch:List Addr}{T:Addr}{o:HO}(I:Inv X pins σ H s)(hch:∀b∈ch,rO X pins H b)(k:∀b u,b ∉ ch->s.heap.get? b=some u->h'.get? b=some u)(hT:s.heap.objs.size<=T)
  (new:fj X.prog X.w (upd H T o) h' T o):Inv X pins σ (upd H T o) { s with heap:=h',toks:=t' }:=by
 have nT:H T=none:=I.hok.fresh hT;have Xy:∀b u,H b=some u->b ∉ ch:=λb u e z=>by rw[(hch b z).1] at e;cases e
 have up:∀b u,H b=some u->upd H T o b=some u:=λb u e=>by rw[bz (dD e nT)];exact e
 refine I.step (g':=s.gens) (d':=s.drawn) (ch:=ch) (λb hb=>?_) (λb u _ _ hc e _=>k b u hc e) (λb u _ _ hc e _=>⟨u.slots,k b u hc e⟩) (λb u hc e n=>?_)
  (λb u hc e=>⟨u,k b u hc e⟩) (λb xs e=>up b _ e) (λb u v e=>up b _ e) (λb ps e=>⟨#[],by rw[up b _ e];simp⟩) (λm hm=>?_) (λb u e=>?_) I.bare (λb qs e=>up b _ e)
 ·obtain⟨h0,h1,h2,h3,h4,h5⟩:=hch b hb;exact⟨h3,h1,h4,h5⟩
 ·have hb:b≠T:=λz=>by
   subst z;exact absurd (Qq9 e) (Nat.not_lt.mpr hT)
  rw[bz hb];exact n
 ·obtain⟨u,es,ep,ho,r⟩:=hm;have hL:X.env.locals ∉ ch:=λz=>(hch _ z).2.1 rfl;exact⟨u,es,ep,k _ u hL ho,r⟩
 ·by_cases hb:b=T
  ·subst hb;rw[aX] at e;cases e;exact new
  ·rw[bz hb] at e;refine(I.hok b u e).stay (λc v hc q=>k c v ?_ q) (λc q=>up _ _ q) (λc xs q=>up _ _ q) λc _ _ _ _ q=>up _ _ q;rcases hc with z|z
   ·rw[z];exact Xy b u e
   ·exact Xy c _ z
theorem Inv.J5{t':Nat}{ch:List Addr}(I:Inv X pins σ H s)(hch:∀b∈ch,rO X pins H b)(k:∀b u,b ∉ ch->s.heap.get? b=some u->h'.get? b=some u):Inv X pins σ H { s with heap:=h',toks:=t' }:=by
 have Xy:∀b u,H b=some u->b ∉ ch:=λb u e z=>by rw[(hch b z).1] at e;cases e
 refine I.step (g':=s.gens) (d':=s.drawn) (ch:=ch) (λb hb=>?_) (λb u _ _ hc e _=>k b u hc e) (λb u _ _ hc e _=>⟨u.slots,k b u hc e⟩) (λb u hc e n=>n)
  (λb u hc e=>⟨u,k b u hc e⟩) (λb xs e=>e) (λb u v e=>e) (λb ps e=>⟨#[],by rw[e];simp⟩) (λm hm=>?_) (λb u e=>?_) I.bare
 ·obtain⟨h0,h1,h2,h3,h4,h5⟩:=hch b hb;exact⟨h3,h1,h4,h5⟩
 ·obtain⟨u,es,ep,ho,r⟩:=hm;have hL:X.env.locals ∉ ch:=λz=>(hch _ z).2.1 rfl;exact⟨u,es,ep,k _ u hL ho,r⟩
 ·refine(I.hok b u e).stay (λc v hc q=>k c v ?_ q) (λ_ q=>q) λ_ _ q=>q;rcases hc with z|z
  ·rw[z];exact Xy b u e
  ·exact Xy c _ z
end
open PySem PySem.Spec PyProof.Rows PySem.Builtin PySem.Builtin.Str
section
variable{X:Cx}{pins:List (Addr×Obj)}{σ:St}{H:Hp}{s:Shared}{a:Addr}{xs:List V}
theorem Inv.Yz(I:Inv X pins σ H s)(h:jZ X.K H a xs):∃its:List Value,Vals xs its/\Aq s.heap a its.toArray:=by
 rcases h with h|⟨o,its,n,hk,hc,hdn,hs,hz,r⟩
 ·obtain⟨z,its,r,p⟩:=h.ok I.hok;exact⟨its,r,p⟩
 ·exact⟨its.toList,r,⟨o,I.KD a o hk,hc,⟨n,by simpa using hs⟩,hdn⟩⟩
end
end L2
namespace Ev
open PySem PySem.Spec PyProof.Rows L2 PySem.Builtin
theorem Nb{prog:Program}{w:World}{A:Around}{E:Value->Shared->Prop}{s:Shared}{a:Addr}{o:Obj}{xs:Array Value}{k:Nat}{Q:Option Value->Shared->Prop}
  (hx:s.heap.get? a=some o) (hc:o.cls = .type "tuple") (hdat:o.data = .seq xs k) (hd:o.dict=none) (hA:A.handled=none)
  (h:∀h' tk,(∀b u,s.heap.get? b=some u->h'.get? b=some u)->Q none { s with heap:=h',toks:=tk }):wpAny (model prog w) A (getAttr? (.ref a) "keys") Q E s:=by
 obtain⟨hp,g,d,tk,os⟩:=s;obtain⟨oc,od,dt,sl⟩:=o;cases hc;cases hdat;cases hd;have hT:∀tk',(⟨hp,g,d,tk',os⟩:Shared).TypeIs (.ref a) "tuple":=λ_=>⟨_,hx,rfl⟩;have f1:=sub_AttributeError;have f3:=F.slot_tuple_getattribute.lookup;have f4:=F.slot_tuple_getattribute.bind (.ref a);have f5:=am_tuple_getattr_none;have hmiss:typeLookup (.type "tuple") "keys" = pure none:=by rw[typeLookup_type,builtinLookup_eq_fast];kernel_rfl
 unfold getAttr? getAttrBy? getAttrBy
 repeat (any_goals (first|assumption|exact hT _|((with_reducible show wpAny _ _ (call (Value.builtin "tuple.__getattribute__") _ _) _ _ _);refine call_meets F.slot_tuple_getattribute (hT _) am_entry_tuple_getattribute (F.args_tuple_getattribute_2 _ _) (meets_getattribute_miss_tuple a xs k sl "keys" _ hmiss (by decide +kernel) (by decide +kernel)) ⟨hx,hA,λh' tk' e hx'=>?_⟩)|wp_step))
 obtain⟨t',u',he⟩:=hx'.there;show wpAny _ _ (getattributeRaised _ _ _ _ _ _ _) _ _ _;unfold getattributeRaised
 repeat (any_goals (first|assumption|wp_step))
 exact h _ _ hx'.keeps
structure Pr where
 p:Addr
 k:Key
 kv:Value
 v:Value
def S8(h:Heap)(r:Pr):Prop:=h.IsTuple r.p #[r.kv,r.v]/\yO r.k r.kv=true
theorem S8.keep{h h':Heap}{r:Pr}{c d:Addr}(x:S8 h r)(n1:r.p≠c)(n2:r.p≠d)(k:∀b o,b≠c->b≠d->h.get? b=some o->h'.get? b=some o):S8 h' r:=
 let ⟨⟨o,ho,q⟩,y⟩:=x;⟨⟨o,k _ o n1 n2 ho,q⟩,y⟩
noncomputable def putAll(kvs:List (Key×Value))(rs:List Pr):List (Key×Value):=rs.foldl (λacc r=>stored acc r.k r.v) kvs
theorem jd:plainId "dict.update.loop" = true:=by decide +kernel
theorem pZ:entryFor table "dict.update.loop" = some Builtin.«dict.update.loop»:=entryFor_of_tree (by kernel_rfl)
theorem Ek{prog:Program}{w:World}{d it a:Addr}{its:List Value}(hdi:d≠it)(hda:d≠a)(hia:it≠a):∀(rs:List Pr) (i:Nat) (kvs:List (Key×Value)) (A:Around) (R:Result->Shared->Prop) (s:Shared),
  A.handled=none->its.drop i=rs.map (λr=>Value.ref r.p)->s.heap.IsTuple a its.toArray->s.heap.IsTupleIter it a i->s.heap.DictOf (dM prog w) d kvs->(∀r∈rs,S8 s.heap r/\r.p≠d/\r.p≠it)->kvs.length+rs.length<=sizeLine->
  (∀h' tk,h'.DictOf (dM prog w) d (putAll kvs rs)->(∀b o,b≠d->b≠it->s.heap.get? b=some o->h'.get? b=some o)->R (.ok (.ret .none)) { s with heap:=h',toks:=tk })->
  wpAny (model prog w) A.in1 (Builtin.«dict.update.loop» ⟨[.ref d,.ref it,rawInt i,.none],[]⟩) (λfin s'=>match fin with|.done f=>R (.ok f) s'|.again c'=>c'.quiet=true/\codeAny (model prog w) A c' R s') (λe s'=>R (.error e) s') s
 | [],i,kvs,A,R,s,hh,hdr,ht,hit,hD,_,_,h=>by
  unfold Builtin.«dict.update.loop»;have hx:its.toArray[i]? = none:=by
   have:its.length<=i:=by have:=Qxz List.length hdr;rw[Qxj] at this;simp at this;omega
   simp;omega
  refine Qqq (wpAny_pyNext_tuple_end hh hit ht hx λh' hex=>?_);show wpAny _ _ (Builtin.Dict.addKeywords d [] >>= _) _ _ _;refine Qqq (Qq2 (Qq2 ?_));exact h h' s.toks (hD.extBut hex hdi) λb o _ h2 e=>hex b o h2 e
 | r::rs,i,kvs,A,R,s,hh,hdr,ht,hit,hD,hrs,hz,h=>by
  unfold Builtin.«dict.update.loop»;obtain⟨⟨hpt,hkey⟩,n1,n2⟩:=hrs r (Qqj ..);have hlt:i<its.length:=by have:=Qxz List.length hdr;rw[Qxj,Qwv,Qqw] at this;omega
  have hx0:its[i]? = some (.ref r.p):=by
   have:=Qxz (λl=>l[0]?) hdr
   simpa using this
  have hx:its.toArray[i]? = some (.ref r.p):=by simpa using hx0
  have af0:its.drop (i+1)=rs.map (λr=>Value.ref r.p):=by
   have:=Qxz List.tail hdr;rw[List.tail_drop] at this
   simpa using this
  refine Qqq (wpAny_pyNext_tuple_item hit ht hx λh' hit' hs'=>?_);have k1:∀b o,b≠it->s.heap.get? b=some o->h'.get? b=some o:=λb o hb e=>(hs'.2 b hb).trans e;obtain⟨op,hop,hcp,np,hdp⟩:=hpt;have hop':h'.get? r.p=some op:=k1 _ _ n2 hop;dsimp only;refine Qqq (Qzy (Qqq (wpAny_tryCatch ?_)));unfold Builtin.Dict.pairItems;refine Qqq (wpAny_typeOf (T:="tuple") ⟨op,hop',hcp⟩ ?_);rw[if_pos (by decide)];unfold seqItems?;refine Qqq (Qqq (wpAny_load hop' ?_));rw[hdp];refine Qq2 (Qq2 ?_);show wpAny _ _ (holding [r.kv,r.v] (dictSet d r.kv r.v)) _ _ _;have hzk:kvs.length<=sizeLine:=by rw[Qqw] at hz;omega
  refine Qzy (wpAny_dictSet_pairs (knd:=dM prog w) (kvs:=kvs) (k:=r.k) (hsz:=hzk) hkey (hD.sameBut hs' hdi) λh'' af2 hs''=>?_);have k2:∀b o,b≠d->b≠it->s.heap.get? b=some o->h''.get? b=some o:=λb o hb1 hb2 e=>(hs''.2 b hb1).trans (k1 b o hb2 e);have hc:((i:Int)+1)=((i+1:Nat):Int):=by push_cast;rfl
  rw[hc];refine Qq2 ⟨plainId_quiet jd _,codeAny_builtin pZ ?_⟩;rw[Around.under_plainId jd _];have hln:(stored kvs r.k r.v).length<=kvs.length+1:=by have:=stored_length_le kvs r.k r.v;exact this
  refine Ek hdi hda hia rs (i+1) (stored kvs r.k r.v) A R _ hh af0 ?_ ?_ af2 (λq hq=>?_) (by rw[Qqw] at hz;omega) λh3 tk hD3 k3=>?_
  ·obtain⟨o,ho,q⟩:=ht;exact⟨o,k2 a o hda.symm hia.symm ho,q⟩
  ·obtain⟨o,ho,q⟩:=hit';exact⟨o,(hs''.2 it hdi.symm).trans ho,q⟩
  ·obtain⟨p1,p2,p3⟩:=hrs q (Qqk _ hq);exact⟨p1.keep p2 p3 k2,p2,p3⟩
  ·exact h h3 tk hD3 λb o hb1 hb2 e=>k3 b o hb1 hb2 (k2 b o hb1 hb2 e)
section
variable{X:Cx}{C:Cfg}{pos:Pos}
abbrev Pv:=Addr×Key×V
noncomputable def lO(kvs:List (Key×V))(rs:List Pv):List (Key×V):=rs.foldl (λacc r=>putK acc r.2.1 r.2.2) kvs
def Qk(K:Fg):List V->Hp->VK->Prop:=λxs H Q=>∃(a:Addr) (rs:List Pv),xs=[.ref a]/\jZ K H a (rs.map λr=>V.ref r.1)/\(∀r∈rs,jZ K H r.1 [kV r.2.1,r.2.2])/\rs.length<=sizeLine/\∀l,H l=none->Q (.ref l) (upd H l (.dK (lO [] rs)))
theorem FP{pins:List (Addr×Obj)}{σ:L2.St}{H:Hp}{s:Shared}(I:L2.Inv X pins σ H s):∀(rs:List Pv) (us:List Value),Vals (rs.map λr=>V.ref r.1) us->(∀r∈rs,jZ X.K H r.1 [kV r.2.1,r.2.2])->∃ps:List Pr,us=ps.map (λr=>Value.ref r.p)/\(∀r∈ps,S8 s.heap r)/\Paired (λ(r:Pv) (q:Pr)=>r.2.1=q.k/\RelV r.2.2 q.v) rs ps
 | [],us,h,_=>by cases h;exact⟨[],rfl,λr hr=>by simp at hr,.nil⟩
 | r::rs,us,h,hp=>by
  cases h with
  | cons h1 h2=>
   cases h1;obtain⟨ps,rfl,q1,q2⟩:=FP I rs _ h2 λr' hr=>hp r' (Qqk _ hr);obtain⟨its,rv,ht,_⟩:=I.tuple (hp r (Qqj ..));obtain⟨u1,u2,rfl,r1,r2⟩:=rv.two;refine⟨⟨r.1,r.2.1,u1,u2⟩::ps,rfl,λq hq=>?_,.cons ⟨rfl,r2⟩ q2⟩;rcases Qq7.mp hq with rfl|hq
   ·exact⟨ht,Gu (P:=X.prog) (w:=X.w) r1⟩
   ·exact q1 q hq
theorem Bc:∀{rs:List Pv} {ps:List Pr} {kvs:List (Key×V)} {vs:List (Key×Value)},Paired (λ(r:Pv) (q:Pr)=>r.2.1=q.k/\RelV r.2.2 q.v) rs ps->KV kvs vs->KV (lO kvs rs) (putAll vs ps)
 | _,_,_,_,.nil,h=>h
 | _,_,kvs,vs,.cons (a:=r) (b:=q) ⟨h1,h2⟩ hr,h=>by
  show KV (lO (putK kvs r.2.1 r.2.2) _) (putAll (stored vs q.k q.v) _);refine Bc hr ?_;rw[h1];exact h.put q.k h2
theorem wu:∀(rs:List Pv) (kvs:List (Key×V)),(lO kvs rs).length<=kvs.length+rs.length
 | [],kvs=>Qq0 _
 | r::rs,kvs=>by
  have h1:=wu rs (putK kvs r.2.1 r.2.2);have h2:=pN kvs r.2.1 r.2.2;show(lO (putK kvs r.2.1 r.2.2) rs).length<=_;rw[Qqw];omega
theorem N8(hc:X.calm=true):gP X (.type "dict") (Qk X.K):=by
 intro pins s σ H xs us Q I r h;obtain⟨a,rs,rfl,hq,hp,hz,q⟩:=h;obtain⟨u,rfl,rx⟩:=vals1 r;cases rx;obtain⟨its,rv,ob,h1,h2,⟨n,h3⟩,h4⟩:=I.Yz hq;obtain⟨ps,rfl,hps,hpr⟩:=FP I rs its rv hp;have hA:=I.ok.hd hc;have hlt:a<s.heap.objs.size:=Qq9 h1;refine callType_codes (Q₁:=λobj s₁=>obj = .ref s.heap.objs.size/\s₁ = { s with heap:=s.heap.push { cls:=.type "dict",data:=.dict #[] } }) F.kt_called_dict (F.kt_typeCall_dict_1 _) F.entry_dict_init (kt_code_dict_new _ ⟨rfl,rfl⟩) ?_;rintro obj s₁ ⟨rfl,rfl⟩;have hnew:(s.heap.push { cls:=.type "dict",data:=.dict #[] }).DictOf (dM X.prog X.w) s.heap.objs.size []:=Heap.DictOf.new s.heap;have k0:∀b o,s.heap.get? b=some o->(s.heap.push { cls:=.type "dict",data:=.dict #[] }).get? b=some o:=λb o e=>Qqz _ e;refine⟨hnew.typeIs,F.args_dict_init_2 _ _,?_⟩;unfold Builtin.«dict.__init__»;refine Qqq ?_;unfold Builtin.Dict.selfAndRest;refine Qqq (wpAny_notOrdered_dict hnew.typeIs ?_);show wpAny _ _ (pure (s.heap.objs.size,[Value.ref a])) _ _ _;refine Qq2 ?_;show wpAny _ _ (Builtin.Dict.updateFrom "dict.__init__" s.heap.objs.size (.ref a) [] .none) _ _ _;unfold Builtin.Dict.updateFrom;refine Qqq (wpAny_typeOf (T:="tuple") ⟨ob,k0 _ _ h1,h2⟩ ?_);rw[if_pos (by decide)];refine Qqq (Nb (k0 _ _ h1) h2 h3 h4 hA λh' tk hk=>?_);simp only[Option.isNone_none,if_true];refine Qqq (Qkk (Qqq ?_));have hT:h'.IsTuple a (ps.map λr=>Value.ref r.p).toArray:=⟨ob,hk _ _ (k0 _ _ h1),h2,n,h3⟩;refine wpAny_pyIter_tuple hT ?_;refine Qq2 ⟨plainId_quiet jd _,codeAny_builtin pZ ?_⟩;rw[Around.under_plainId jd _];have hD0:h'.DictOf (dM X.prog X.w) s.heap.objs.size []:=hnew.keep hk;have aa1:s.heap.objs.size<h'.objs.size:=by obtain⟨o,_,_,ho,_⟩:=hD0;exact Qq9 ho
 have halt:a<h'.objs.size:=Qq9 (hk _ _ (k0 _ _ h1));have hda:s.heap.objs.size≠a:=Qkz hlt;refine Ek (Qw6 aa1) hda (Qkz halt) ps 0 [] X.A.in1 _ _ hA rfl ?_ ⟨_,Qwz _ rfl,rfl,rfl⟩ (hD0.push _) (λq hq=>?_) ?_ λh3 tk' hD3 k3=>?_
 ·obtain⟨o,ho,r⟩:=hT;exact⟨o,Qqz _ ho,r⟩
 ·obtain⟨⟨o,ho,r⟩,y⟩:=hps q hq;have adY:q.p<s.heap.objs.size:=Qq9 ho;refine⟨⟨⟨o,Qqz _ (hk _ _ (k0 _ _ ho)),r⟩,y⟩,Qw6 adY,Qw6 (Nat.lt_trans adY aa1)⟩
 ·rw[<-Paired.length hpr]
  simpa using hz
 ·refine⟨rfl,?_⟩;have kk:∀b u,s.heap.get? b=some u->h3.get? b=some u:=λb u e=>by
   have hb:b<s.heap.objs.size:=Qq9 e;exact k3 b u (Qw6 hb) (Qw6 (Nat.lt_trans hb aa1)) (Qqz _ (hk _ _ (k0 _ _ e)))
  have hsys:(s.heap.objs.size == sysModules)=false:=by rw[Qz6];exact Qkz I.big
  refine⟨.ref s.heap.objs.size,upd H s.heap.objs.size (.dK (lO [] rs)),I.laid (t':=tk') kk (Qq0 _) ⟨?_,hsys,_,Bc hpr .nil,hD3⟩,rfl,q _ (I.hok.fresh (Qq0 _))⟩;have:=wu rs [];exact Qq4 this (by simpa using hz)
noncomputable def KC:D->Option (D×D)
 | .tup [k,v]=>(qz k).map λ_=>(k,v)
 | _=>none
noncomputable def nU:List D->Option (List (D×D))
 | []=>some []
 | d::ds=>match KC d,nU ds with
  | some p,some r=>some (p::r)
  | _,_=>none
noncomputable def jJ(kvs : List (D × D)) : List (D × D) → List (D × D)
  | [] => kvs
  | (k, v) :: r => (match qz k with
    | some q => jJ (putD kvs k q v) r
    | none => jJ kvs r)
noncomputable def qH:List D->Option D
 | [.tup ds]=>(nU ds).map λps=>.dct (jJ [] ps)
 | _=>none
theorem pH:∀(ps:List (D×D)) (kvs:List (D×D)),(jJ kvs ps).length<=kvs.length+ps.length
 | [],kvs=>Qq0 _
 | (k,v)::r,kvs=>by
  unfold jJ;split
  ·rename_i q hq;have h1:=pH r (putD kvs k q v);have h2:=Fx kvs k q v;rw[Qqw];omega
  ·have h1:=pH r kvs;rw[Qqw];omega
theorem yo:∀{ds:List D} {ps:List (D×D)},nU ds=some ps->ps.length=ds.length
 | [],ps,h=>by cases h;rfl
 | d::ds,ps,h=>by
  unfold nU at h;split at h
  ·rename_i p r h1 h2;cases h;rw[Qqw,Qqw,yo h2]
  ·cases h
theorem Be{K:Fg}{F:Hp}:∀{ds:List D} {ps:List (D×D)} {vs:List V} {kvs:List (D×D)} {ks:List (Key×V)},nU ds=some ps->bu K F ds vs->dw K F kvs ks->
  ∃rs:List Pv,vs=rs.map (λr=>V.ref r.1)/\(∀r∈rs,jZ K F r.1 [kV r.2.1,r.2.2])/\dw K F (jJ kvs ps) (lO ks rs)
 | [],ps,vs,kvs,ks,h,hr,hk=>by cases h;cases hr;exact⟨[],rfl,λr hr=>by simp at hr,hk⟩
 | d::ds,ps,vs,kvs,ks,h,hr,hk=>by
  unfold nU at h;split at h
  ·rename_i p r h1 h2;cases h;obtain⟨v,w,rfl,p1,p2⟩:=hr;unfold KC at h1;split at h1
   ·rename_i k x;obtain⟨q,hq,rfl⟩:=Qw2.mp h1;obtain⟨_,a,us,rfl,h3,h4⟩:=p1;obtain⟨u1,w1,rfl,q1,u2,w2,rfl,q2,q3⟩:=h4;cases q3;cases Rw hq q1;obtain⟨rs,rfl,g1,g2⟩:=Be (kvs:=putD kvs k q x) (ks:=putK ks q u2) h2 p2 (hk.put hq q2);refine⟨(a,q,u2)::rs,rfl,λr hr=>?_,?_⟩
    ·rcases Qq7.mp hr with rfl|hr
     ·exact h3
     ·exact g1 r hr
    ·unfold jJ;rw[hq];exact g2
   ·cases h1
  ·cases h
theorem Wq:CallD C (Qk C.K) qH:=by
 intro Pr F env σ H ds d vs Q r p e q;unfold qH at e;split at e
 ·rename_i ds;obtain⟨v,w,rfl,p1,p2⟩:=p;cases p2;obtain⟨ps,e1,rfl⟩:=Qw2.mp e;obtain⟨z,a,us,rfl,h1,h1F,h2⟩:=p1.tup r.fr;obtain⟨rs,rfl,g1,g2⟩:=Be (kvs:=[]) (ks:=[]) e1 h2 rfl;have hl:rs.length=ds.length:=by
   have:=h2.length
   rwa [Qqv] at this
  refine⟨a,rs,rfl,h1,λr' hr=>aH.tupK r.fr (g1 r' hr),by rw[hl];exact z,λl hlf=>?_⟩;obtain⟨F2,r2,s2,p2⟩:=(r.fresh (o:=.dK (lO [] rs)) hlf).keep (Om.of (d:=.dct (jJ [] ps)) r hlf ⟨by
   have h5:=pH ps [];rw[yo e1] at h5;exact Qq4 h5 (by simpa using z),_,aX,g2⟩)
  exact q _ _ F2 r2 s2 p2
 ·cases e
end
open PySem PySem.Spec PyProof.Rows L2
section
variable{X:Cx}{C:Cfg}{pos apos:Pos}{x y z:Expr}{a b c:Ev}
noncomputable def RT:D->D->D->Option D
 | .dct kvs,k,t=>(qz k).map λq=>(oV kvs q).getD t
 | _,_,_=>none
noncomputable def rG(a b c:Ev):Ev:=λenv=>bindR (a env) λd e1=>bindR (b e1) λk e2=>bindR (c e2) λt e3=>match d with
 | .dct kvs=>je (RT (.dct kvs) k t) e3
 | _=>.stuck
end
end Ev
namespace ZT
open PySem PySem.Spec PyProof.Rows L2 PySem.Builtin
section
variable{prog:Program}{w:World}{A:Around}{E:Value->Shared->Prop}{s:Shared}
theorem Q9{j t:Addr}{n:Nat}{its:Array Value}{x:Value}{Q:Value->Shared->Prop}(hj:s.heap.IsTupleIter j t n)(ht:s.heap.IsTuple t its)(hx:its[n]? = some x)
  (q:∀g,g.IsTupleIter j t (n+1)->Heap.SameBut j s.heap g->Q x { s with heap:=g }):wpAny (model prog w) A (Builtin.SmallTypes.nextOf (.ref j)) Q E s:=by
 obtain⟨u,hu,uc,ud⟩:=id hj;obtain⟨ut,hut,_,m,mt⟩:=ht;unfold Builtin.SmallTypes.nextOf;refine Qqq (Qz0 (name:=Str.ofString "__next__") hj.typeIs F.slot_tuple_iterator_next (Qzx F.slot_tuple_iterator_next hj.typeIs F.entry_tuple_iterator_next ?_ (F.args_tuple_iterator_next_1 _)));show wpAny _ _ (field (.ref j) 0 >>= _) _ _ s;refine Qqq (Qz9 hu ud (x:=.ref t) rfl ?_);show wpAny _ _ (if (Value.ref t == Value.none)=true then _ else _) _ _ s;rw[if_neg (show ¬((Value.ref t == Value.none)=true) from Qxk)];show wpAny _ _ (field (.ref j) 1 >>= _) _ _ s;refine Qqq (Qz9 hu ud (x:=.int n 0) rfl ?_);show wpAny _ _ (seqItems? (.ref t) >>= _) _ _ s;refine Qqq (Qj3 hut mt ?_);simp only[Qjx,hx];refine Qqq (wpAny_setField hu ud (by simp) (Qq2 ⟨x,rfl,Qq2 (q _ ?_ (Heap.SameBut.update ..))⟩));exact⟨_,Heap.get?_update_self _ hu (Obj.isFreed_of_fields (Obj.data_mapFields ud _)),(Obj.cls_mapFields ..).trans uc,by rw[Obj.data_mapFields ud];simp[rawInt]⟩
theorem Dk{j t:Addr}{n:Nat}{its:Array Value}{Q:Value->Shared->Prop}(hh:A.handled=none)(hj:s.heap.IsTupleIter j t n)(ht:s.heap.IsTuple t its)(hx:its[n]? = none)
  (q:∀g e,Heap.ExtBut j s.heap g->(∃o,g.get? e=some o/\o.cls = .type "StopIteration")->E (.ref e) { s with heap:=g }):wpAny (model prog w) A (Builtin.SmallTypes.nextOf (.ref j)) Q E s:=by
 obtain⟨u,hu,uc,ud⟩:=id hj;obtain⟨ut,hut,_,m,mt⟩:=ht;unfold Builtin.SmallTypes.nextOf;refine Qqq (Qz0 (name:=Str.ofString "__next__") hj.typeIs F.slot_tuple_iterator_next (Qzx F.slot_tuple_iterator_next hj.typeIs F.entry_tuple_iterator_next ?_ (F.args_tuple_iterator_next_1 _)));show wpAny _ _ (field (.ref j) 0 >>= _) _ _ s;refine Qqq (Qz9 hu ud (x:=.ref t) rfl ?_);show wpAny _ _ (if (Value.ref t == Value.none)=true then _ else _) _ _ s;rw[if_neg (show ¬((Value.ref t == Value.none)=true) from Qxk)];show wpAny _ _ (field (.ref j) 1 >>= _) _ _ s;refine Qqq (Qz9 hu ud (x:=.int n 0) rfl ?_);show wpAny _ _ (seqItems? (.ref t) >>= _) _ _ s;refine Qqq (Qj3 hut mt ?_);simp only[Qjx,hx];refine Qqq (Qkk (Qqq (wpAny_setField hu ud (by simp) ?_)));show wpAny _ _ (newExc (.type "StopIteration") [] >>= _) _ _ _;refine Qqq ?_;simp only[newExc,newTuple];refine Qqq (Qz1 ?_ (by size_fits));refine Qqq (m:=firstArgMember _ _) (wpAny_of_eq (a:=Value.none) (by first|rfl|(simp only[firstArgMember];rfl)) ?_);refine Qz1 ?_ (by size_fits);simp only[raiseNew];refine Qqq (wpAny_handled ?_)
 first|rw[show A.in1.handled=none from hh]|rw[hh]
 refine Qqq (Qq2 (wpAny_throw ?_));exact q _ _ (((Heap.SameBut.update ..).extBut.push _).push _) ⟨_,Qwz _ rfl,rfl⟩
end
theorem kO{prog:Program}{w:World}{A:Around}(hh:A.handled=none)(j t:Addr)(hne:t≠j)(its:Array Value) :
  Draws prog w A j [j,t] its.size (λi v=>its[i]? = some v) (λi h=>h.IsTupleIter j t i/\h.IsTuple t its) where
 live:=λ_ _ st=>let ⟨o,ho,_⟩:=st.1;⟨o,ho⟩
 frame:=λ_ _ _ st hk=>by
  obtain⟨⟨o,ho,r⟩,o2,ho2,r2⟩:=st;exact⟨⟨o,hk j (by simp) o ho,r⟩,o2,hk t (by simp) o2 ho2,r2⟩
 item:=λi s Q E hi st hQ=>by
  refine Q9 st.1 st.2 (x:=its[i]) (by simp[hi]) λh' hit' hs'=>?_;exact hQ _ h' s.toks (by simp[hi]) ⟨hit',st.2.extBut hs'.extBut hne⟩ hs'
 done:=λs Q E st hE=>Dk hh st.1 st.2 (by simp) hE
structure Ap(z TI TO j1 j2:Addr)(f1 f2:List Addr):Prop where
 a1:TI≠z
 a2:TO≠z
 a3:TI≠TO
 a4:j1≠j2
 b1:j1∈f1
 b2:j2∈f2
 c1:z ∉ f1
 c2:z ∉ f2
 c3:TO ∉ f1
 c4:TO ∉ f2
 c5:TI ∉ f1
 c6:TI ∉ f2
 c7:j2 ∉ f1
 c8:j1 ∉ f2
section
variable{prog:Program}{w:World}{A:Around}{E:Value->Shared->Prop}{s:Shared}{z TI TO j1 j2:Addr}{f1 f2:List Addr}{n1 n2 k:Nat}{P1 P2:Nat->Value->Prop}{S1 S2:Nat->Heap->Prop}{a b:Value}
theorem fB{c d:Addr}{f:List Addr}(h:c∈f)(h':d ∉ f):c≠d:=λe=>h' (e ▸ h)
theorem Oo{Q:Value->Shared->Prop}(D:Ap z TI TO j1 j2 f1 f2)(D1:Draws prog w A j1 f1 n1 P1 S1)(D2:Draws prog w A j2 f2 n2 P2 S2)(k1:k<n1)(k2:k<n2)
  (hz:IsZip s.heap z TI TO .none) (hTI:IsPair s.heap TI (.ref j1) (.ref j2)) (hTO:IsPair s.heap TO a b) (s1:S1 k s.heap) (s2:S2 k s.heap)
  (q:∀x y g tk,P1 k x->P2 k y->IsZip g z TI TO (rawInt s.heap.objs.size)->IsPair g TO x y->S1 (k+1) g->S2 (k+1) g->IsPair g s.heap.objs.size x y->g.objs.size=s.heap.objs.size+1->
   (∀c o,c≠z->c≠TO->c≠j1->c≠j2->s.heap.get? c=some o->g.get? c=some o)->Q (.ref s.heap.objs.size) { s with heap:=g,toks:=tk }) :
  wpAny (model prog w) A (Builtin.«zip.__next__» ⟨[.ref z],[]⟩) (λfin s'=>∃v,fin = .done (.ret v)/\Q v s') E s:=by
 have Wg:j1≠z:=fB D.b1 D.c1;have abk:j2≠z:=fB D.b2 D.c2;have abl:j1≠TO:=fB D.b1 D.c3;have aeg:j2≠TO:=fB D.b2 D.c4;show wpAny _ _ (field (.ref z) 2 >>= _) _ _ _;refine Qqq (Qz9 hz rfl (x:=.bool false) rfl ?_);show wpAny _ _ (field (.ref z) 3 >>= _) _ _ _;refine Qqq (Qz9 hz rfl (x:=.ref TI) rfl ?_);refine Qqq (Qj3 hTI rfl ?_);show wpAny _ _ (Builtin.SmallTypes.ownedTupleIsFree (.ref z) >>= _) _ _ _;refine Qqq ?_;unfold Builtin.SmallTypes.ownedTupleIsFree;refine Qqq (Qz9 hz rfl (x:=.none) rfl (Qq2 ?_));simp only[if_true];refine Qqq (Qkk ?_);refine Qqq (Qz9 hz rfl (x:=.ref TO) rfl ?_);refine Qqq (Qj8 hz (by simp) λg1 hz1 e1=>?_)
 replace hz1:IsZip g1 z TI TO .ellipsis:=hz1
 refine Qqq ?_;simp only[List.zipIdx_cons,List.zipIdx_nil,Qkw,Qkq];refine Qqq (Qqq (wpAny_onRaise ?_));show wpAny _ _ (Builtin.SmallTypes.nextOf (.ref j1) >>= _) _ _ _;have YW:S1 k g1:=D1.frame k _ _ s1 λc hc o e=>e1.extBut _ _ (fB hc D.c1) e;refine Qqq (D1.item k { s with heap:=g1 } _ _ k1 YW λx g2 tk2 px sx e2=>Qq2 ?_);have t2:IsPair g2 TO a b:=e2.extBut _ _ abl.symm (e1.extBut _ _ D.a2 hTO);refine Qqq (Qj3 t2 rfl ?_);refine Qqq (wpAny_updateSeq_pair t2 λg3 t3 e3=>?_)
 replace t3:IsPair g3 TO x b:=t3
 refine Qqq (wpAny_letGo (Qq2 ?_));refine Qqq (Qqq (wpAny_onRaise ?_));show wpAny _ _ (Builtin.SmallTypes.nextOf (.ref j2) >>= _) _ _ _;have s2':S2 k g3:=D2.frame k _ _ s2 λc hc o e=>e3.extBut _ _ (fB hc D.c4) (e2.extBut _ _ (fB hc D.c8) (e1.extBut _ _ (fB hc D.c2) e));refine Qqq (D2.item k { s with heap:=g3,toks:=tk2 } _ _ k2 s2' λy g4 tk4 py sy e4=>Qq2 ?_);have t4:IsPair g4 TO x b:=e4.extBut _ _ aeg.symm t3;refine Qqq (Qj3 t4 rfl ?_);refine Qqq (wpAny_updateSeq_pair t4 λg5 t5 e5=>?_)
 replace t5:IsPair g5 TO x y:=t5
 refine Qqq (wpAny_letGo (Qq2 (Qq2 ?_)));refine Qqq (Qj3 t5 rfl ?_);refine Qqq (wpAny_newTuple ?_);have hsz:g5.objs.size=s.heap.objs.size:=by rw[e5.1,e4.1,e3.1,e2.1,e1.1]
 have hz5:IsZip g5 z TI TO .ellipsis:=e5.extBut _ _ D.a2.symm (e4.extBut _ _ abk.symm (e3.extBut _ _ D.a2.symm (e2.extBut _ _ Wg.symm hz1)));have adP:∀c o,c≠z->c≠TO->c≠j1->c≠j2->s.heap.get? c=some o->g5.get? c=some o:=λc o c1 c2 c3 c4 e=>
  e5.extBut _ _ c2 (e4.extBut _ _ c4 (e3.extBut _ _ c2 (e2.extBut _ _ c3 (e1.extBut _ _ c1 e))))
 have s15:S1 (k+1) g5:=D1.frame _ _ _ sx λc hc o e=>e5.extBut _ _ (fB hc D.c3) (e4.extBut _ _ (fB hc D.c7) (e3.extBut _ _ (fB hc D.c3) e));have s25:S2 (k+1) g5:=D2.frame _ _ _ sy λc hc o e=>e5.extBut _ _ (fB hc D.c4) e;have zlt:z<g5.objs.size:=Qq9 hz5;show wpAny _ _ (Builtin.SmallTypes.ownedTupleHandOut (.ref z) (.ref g5.objs.size) >>= _) _ _ _;refine Qqq ?_;unfold Builtin.SmallTypes.ownedTupleHandOut;have hz6:IsZip (g5.push { cls:=.type "tuple",data:=.seq #[x,y] }) z TI TO .ellipsis:=Qqz _ hz5;refine Qqq (Qj8 hz6 (by simp) λg7 hz7 e7=>?_)
 replace hz7:IsZip g7 z TI TO (rawInt g5.objs.size):=hz7
 refine Qj8 hz7 (by simp) λg8 hz8 e8=>?_
 replace hz8:IsZip g8 z TI TO (rawInt g5.objs.size):=hz8
 have up:∀c o,c≠z->g5.get? c=some o->g8.get? c=some o:=λc o c1 e=>e8.extBut _ _ c1 (e7.extBut _ _ c1 (Qqz _ e));have t8:IsPair g8 g5.objs.size x y:=e8.extBut _ _ (Qkz zlt) (e7.extBut _ _ (Qkz zlt) (Qwz _ rfl));have l8:g8.objs.size=g5.objs.size+1:=by rw[e8.1,e7.1,Qx5]
 rw[hsz] at hz8 t8 l8;refine Qq2 ⟨_,rfl,?_⟩;show Q (.ref g5.objs.size) _;rw[hsz];exact q x y g8 _ px py hz8 (up _ _ D.a2 t5) (D1.frame _ _ _ s15 λc hc o e=>up c o (fB hc D.c1) e) (D2.frame _ _ _ s25 λc hc o e=>up c o (fB hc D.c2) e) t8 l8 λc o c1 c2 c3 c4 e=>up c o c1 (adP c o c1 c2 c3 c4 e)
theorem Tt{Q:Fin->Shared->Prop}(D:Ap z TI TO j1 j2 f1 f2)(D1:Draws prog w A j1 f1 n1 P1 S1)(D2:Draws prog w A j2 f2 n2 P2 S2)(hk:k=n1\/(k<n1/\k=n2))
  (hz:IsZip s.heap z TI TO .none) (hTI:IsPair s.heap TI (.ref j1) (.ref j2)) (hTO:IsPair s.heap TO a b) (s1:S1 k s.heap) (s2:S2 k s.heap)
  (q:∀g e tk,(∀c o,c≠z->c≠TO->c≠j1->c≠j2->s.heap.get? c=some o->g.get? c=some o)->(∃o,g.get? e=some o/\o.cls = .type "StopIteration")->E (.ref e) { s with heap:=g,toks:=tk }) :
  wpAny (model prog w) A (Builtin.«zip.__next__» ⟨[.ref z],[]⟩) Q E s:=by
 have Wg:j1≠z:=fB D.b1 D.c1;have abk:j2≠z:=fB D.b2 D.c2;have abl:j1≠TO:=fB D.b1 D.c3;have aeg:j2≠TO:=fB D.b2 D.c4;show wpAny _ _ (field (.ref z) 2 >>= _) _ _ _;refine Qqq (Qz9 hz rfl (x:=.bool false) rfl ?_);show wpAny _ _ (field (.ref z) 3 >>= _) _ _ _;refine Qqq (Qz9 hz rfl (x:=.ref TI) rfl ?_);refine Qqq (Qj3 hTI rfl ?_);show wpAny _ _ (Builtin.SmallTypes.ownedTupleIsFree (.ref z) >>= _) _ _ _;refine Qqq ?_;unfold Builtin.SmallTypes.ownedTupleIsFree;refine Qqq (Qz9 hz rfl (x:=.none) rfl (Qq2 ?_));simp only[if_true];refine Qqq (Qkk ?_);refine Qqq (Qz9 hz rfl (x:=.ref TO) rfl ?_);refine Qqq (Qj8 hz (by simp) λg1 hz1 e1=>?_)
 replace hz1:IsZip g1 z TI TO .ellipsis:=hz1
 refine Qqq ?_;simp only[List.zipIdx_cons,List.zipIdx_nil,Qkw,Qkq];refine Qqq (Qqq (wpAny_onRaise ?_));show wpAny _ _ (Builtin.SmallTypes.nextOf (.ref j1) >>= _) _ _ _;have YW:S1 k g1:=D1.frame k _ _ s1 λc hc o e=>e1.extBut _ _ (fB hc D.c1) e;rcases hk with rfl|⟨k1,rfl⟩
 ·refine Qqq (D1.done { s with heap:=g1 } _ _ YW λg2 e x2 he=>?_);obtain⟨oe,hoe,hce⟩:=he;have hz2:IsZip g2 z TI TO .ellipsis:=x2 _ _ Wg.symm hz1;have hez:e≠z:=λx=>by subst x;rw[hz2] at hoe;cases hoe;simp at hce
  exact Qj8 hz2 (by simp) λg3 _ e3=>q g3 e s.toks (λc o c1 _ c3 _ x=>e3.extBut _ _ c1 (x2 _ _ c3 (e1.extBut _ _ c1 x))) ⟨oe,e3.extBut _ _ hez hoe,hce⟩
 ·refine Qqq (D1.item k { s with heap:=g1 } _ _ k1 YW λx g2 tk2 px sx e2=>Qq2 ?_);have t2:IsPair g2 TO a b:=e2.extBut _ _ abl.symm (e1.extBut _ _ D.a2 hTO);refine Qqq (Qj3 t2 rfl ?_);refine Qqq (wpAny_updateSeq_pair t2 λg3 t3 e3=>?_);refine Qqq (wpAny_letGo (Qq2 ?_));refine Qqq (Qqq (wpAny_onRaise ?_));show wpAny _ _ (Builtin.SmallTypes.nextOf (.ref j2) >>= _) _ _ _;have s2':S2 k g3:=D2.frame k _ _ s2 λc hc o e=>e3.extBut _ _ (fB hc D.c4) (e2.extBut _ _ (fB hc D.c8) (e1.extBut _ _ (fB hc D.c2) e));refine Qqq (D2.done { s with heap:=g3,toks:=tk2 } _ _ s2' λg4 e x4 he=>?_);obtain⟨oe,hoe,hce⟩:=he;have hz4:IsZip g4 z TI TO .ellipsis:=x4 _ _ abk.symm (e3.extBut _ _ D.a2.symm (e2.extBut _ _ Wg.symm hz1));have hez:e≠z:=λx=>by subst x;rw[hz4] at hoe;cases hoe;simp at hce
  exact Qj8 hz4 (by simp) λg5 _ e5=>q g5 e tk2 (λc o c1 c2 c3 c4 x=>e5.extBut _ _ c1 (x4 _ _ c4 (e3.extBut _ _ c2 (e2.extBut _ _ c3 (e1.extBut _ _ c1 x))))) ⟨oe,e5.extBut _ _ hez hoe,hce⟩
theorem oJ{Q:Option Value->Shared->Prop}(D:Ap z TI TO j1 j2 f1 f2)(D1:Draws prog w A.in1 j1 f1 n1 P1 S1)(D2:Draws prog w A.in1 j2 f2 n2 P2 S2)(k1:k<n1)(k2:k<n2)
  (hz:IsZip s.heap z TI TO .none) (hTI:IsPair s.heap TI (.ref j1) (.ref j2)) (hTO:IsPair s.heap TO a b) (s1:S1 k s.heap) (s2:S2 k s.heap)
  (q:∀x y g tk,P1 k x->P2 k y->IsZip g z TI TO (rawInt s.heap.objs.size)->IsPair g TO x y->S1 (k+1) g->S2 (k+1) g->IsPair g s.heap.objs.size x y->g.objs.size=s.heap.objs.size+1->
   (∀c o,c≠z->c≠TO->c≠j1->c≠j2->s.heap.get? c=some o->g.get? c=some o)->Q (some (.ref s.heap.objs.size)) { s with heap:=g,toks:=tk }) :
  wpAny (model prog w) A (pyNext (.ref z)) Q E s:=by
 have hT:s.TypeIs (.ref z) "zip":=⟨_,hz,rfl⟩;unfold pyNext;exact Qqq (wpAny_attempt (Qz0 (name:=Str.ofString "__next__") hT F.slot_zip_next (Qzx F.slot_zip_next hT F.entry_zip_next
  (Oo D D1 D2 k1 k2 hz hTI hTO s1 s2 λx y g tk u1 u2 u3 u4 u5 u6 u7 u8 u9=>Qq2 (q x y g tk u1 u2 u3 u4 u5 u6 u7 u8 u9)) (F.args_zip_next_1 _))))
theorem pG{Q:Option Value->Shared->Prop}(D:Ap z TI TO j1 j2 f1 f2)(D1:Draws prog w A.in1 j1 f1 n1 P1 S1)(D2:Draws prog w A.in1 j2 f2 n2 P2 S2)(hk:k=n1\/(k<n1/\k=n2))
  (hz:IsZip s.heap z TI TO .none) (hTI:IsPair s.heap TI (.ref j1) (.ref j2)) (hTO:IsPair s.heap TO a b) (s1:S1 k s.heap) (s2:S2 k s.heap)
  (q:∀g tk,(∀c o,c≠z->c≠TO->c≠j1->c≠j2->s.heap.get? c=some o->g.get? c=some o)->Q none { s with heap:=g,toks:=tk }):wpAny (model prog w) A (pyNext (.ref z)) Q E s:=by
 have hT:s.TypeIs (.ref z) "zip":=⟨_,hz,rfl⟩;unfold pyNext;refine Qqq (wpAny_attempt (Qz0 (name:=Str.ofString "__next__") hT F.slot_zip_next (Qzx F.slot_zip_next hT F.entry_zip_next
  (Tt D D1 D2 hk hz hTI hTO s1 s2 λg e tk hkp he=>?_) (F.args_zip_next_1 _))))
 obtain⟨o,ho,hc⟩:=he;refine Qqq (wpAny_isInstance (T:="StopIteration") (b:=true) ⟨o,ho,hc⟩ isSubtype_stop ?_);exact Qq2 (q _ _ hkp)
end
end ZT
namespace L2
open PySem PySem.Spec PyProof.Rows PySem.Builtin ZT
noncomputable def Itz(K:PySem.W.Frag)(a1 a2:Addr):It:=
 ⟨λi H=>∃xs ys x y,jZ K H a1 xs/\jZ K H a2 ys/\xs[i]? = some x/\ys[i]? = some y,
 λi H v H'=>∃p x y,(∀xs,jZ K H a1 xs->xs[i]? = some x)/\(∀ys,jZ K H a2 ys->ys[i]? = some y)/\H p=none/\H'=upd H p (.tup [x,y])/\v = .ref p,
 λi H=>∃xs ys,jZ K H a1 xs/\jZ K H a2 ys/\(i=xs.length\/(i<xs.length/\i=ys.length))⟩
structure Apz(z TI TO j1 j2 a1 a2:Addr):Prop where
 t1:TI≠z
 t2:TO≠z
 t3:TI≠TO
 t4:j1≠j2
 b1:z ∉ [j1,a1]
 b2:z ∉ [j2,a2]
 b3:TO ∉ [j1,a1]
 b4:TO ∉ [j2,a2]
 b5:TI ∉ [j1,a1]
 b6:TI ∉ [j2,a2]
 b7:j2 ∉ [j1,a1]
 b8:j1 ∉ [j2,a2]
 c1:a1≠j1
 c2:a2≠j2
theorem Apz.ap{z TI TO j1 j2 a1 a2:Addr}(D:Apz z TI TO j1 j2 a1 a2):Ap z TI TO j1 j2 [j1,a1] [j2,a2]:=⟨D.t1,D.t2,D.t3,D.t4,by simp,by simp,D.b1,D.b2,D.b3,D.b4,D.b5,D.b6,D.b7,D.b8⟩
theorem O5{P:Program}{w:World}{K:PySem.W.Frag}{elts:List Expr}{kk:Nat}{pos:Pos}(z TI TO j1 j2 a1 a2:Addr)(D:Apz z TI TO j1 j2 a1 a2) :
  Turn P w K (.Tuple elts kk pos) (Itz K a1 a2) [z,TI,TO,j1,j2] z (λi h=>IsZip h z TI TO .none/\IsPair h TI (.ref j1) (.ref j2)/\(∃a b,IsPair h TO a b)/\h.IsTupleIter j1 a1 i/\h.IsTupleIter j2 a2 i) where
 mem:=by simp
 obj:=λi h st b hb=>by
  obtain⟨hz,hTI,⟨a,c,hTO⟩,⟨o1,e1,_,d1⟩,o2,e2,_,d2⟩:=st;simp only[Qq7,Qw5,Qjk] at hb;rcases hb with rfl|rfl|rfl|rfl|rfl
  ·exact⟨_,hz,λv q=>by cases q⟩
  ·exact⟨_,hTI,λv q=>by cases q⟩
  ·exact⟨_,hTO,λv q=>by cases q⟩
  ·exact⟨o1,e1,λv q=>by rw[d1] at q;cases q⟩
  ·exact⟨o2,e2,λv q=>by rw[d2] at q;cases q⟩
 keep:=λi h h' st k=>by
  obtain⟨hz,hTI,⟨a,c,hTO⟩,⟨o1,e1,r1⟩,o2,e2,r2⟩:=st;exact⟨k z (by simp) _ hz,k TI (by simp) _ hTI,⟨a,c,k TO (by simp) _ hTO⟩,⟨o1,k j1 (by simp) _ e1,r1⟩,o2,k j2 (by simp) _ e2,r2⟩
 item:=by
  intro X hP hw hK hc i pins s σ H E I hf st hg;subst hP hw hK;obtain⟨hz,hTI,⟨a,b,hTO⟩,i1,i2⟩:=st;obtain⟨xs,ys,x,y,hx,hy,gx,gy⟩:=hg;obtain⟨us,ru,pu,zu⟩:=I.tuple hx;obtain⟨vs,rv,pv,zv⟩:=I.tuple hy;obtain⟨u,hu,rxu⟩:=ru.get gx;obtain⟨v,hv,ryv⟩:=rv.get gy;have lu:i<us.toArray.size:=by rw[Qq3];exact(Qq6.mp hu).1
  have lv:i<vs.toArray.size:=by rw[Qq3];exact(Qq6.mp hv).1
  have D1:Draws X.prog X.w X.A.in1 j1 [j1,a1] _ _ _:=kO (A:=X.A.in1) (show X.A.in1.handled=none from I.ok.hd hc) j1 a1 D.c1 us.toArray;have D2:Draws X.prog X.w X.A.in1 j2 [j2,a2] _ _ _:=kO (A:=X.A.in1) (show X.A.in1.handled=none from I.ok.hd hc) j2 a2 D.c2 vs.toArray;refine oJ (A:=X.A) D.ap D1 D2 lu lv hz hTI hTO ⟨i1,pu⟩ ⟨i2,pv⟩ λx' y' g tk px py hz' aa3 s1 s2 hT hsz hk=>?_;have ex:x'=u:=by have:us.toArray[i]? = some x':=px;rw[Qj7,hu] at this;exact(Qw1 this).symm
  have ey:y'=v:=by have:vs.toArray[i]? = some y':=py;rw[Qj7,hv] at this;exact(Qw1 this).symm
  subst ex ey;refine⟨_,rfl,?_⟩;refine wpAny_letOwnedTupleGo_zip (s:={ s with heap:=g,toks:=tk }) hz' λg' hz'' e'=>?_;have m7:∀b o,b≠z->g.get? b=some o->g'.get? b=some o:=λb o hb q=>(e'.2 b hb).trans q;have lts:∀b ∈ [z,TI,TO,j1,j2],b<s.heap.objs.size:=λb hb=>by
   simp only[Qq7,Qw5,Qjk] at hb;rcases hb with rfl|rfl|rfl|rfl|rfl
   ·exact Qq9 hz
   ·exact Qq9 hTI
   ·exact Qq9 hTO
   ·obtain⟨_,q,_⟩:=i1;exact Qq9 q
   ·obtain⟨_,q,_⟩:=i2;exact Qq9 q
  have nT:H s.heap.objs.size=none:=I.hok.fresh (Qq0 _);refine⟨.ref s.heap.objs.size,upd H s.heap.objs.size (.tup [x,y]),I.drawn (t':=tk) (ch:=[z,TI,TO,j1,j2]) hf (λb o hb q=>?_) (Qq0 _) ?_,rfl,⟨_,x,y,λzs hq=>by rw[I.qg hq hx];exact gx,λzs hq=>by rw[I.qg hq hy];exact gy,nT,rfl,rfl⟩,⟨hz'',?_,⟨_,_,m7 TO _ D.t2 aa3⟩,?_,?_⟩,λb hb=>?_⟩
  ·have n1:b≠z:=λq=>hb (by simp[q]);exact m7 b o n1 (hk b o n1 (λq=>hb (by simp[q])) (λq=>hb (by simp[q])) (λq=>hb (by simp[q])) q)
  ·exact⟨by show 2<=sizeLine;decide,[x',y'],.cons rxu (.cons ryv .nil),_,m7 _ _ (Qkz (lts z (by simp))) hT,rfl,⟨_,rfl⟩,rfl⟩
  ·exact m7 TI _ D.t1 (hk TI _ D.t1 D.t3 (λq=>D.b5 (by simp[q])) (λq=>D.b6 (by simp[q])) hTI)
  ·obtain⟨o,q,r⟩:=s1.1;exact⟨o,m7 j1 o (λq=>D.b1 (by simp[q])) q,r⟩
  ·obtain⟨o,q,r⟩:=s2.1;exact⟨o,m7 j2 o (λq=>D.b2 (by simp[q])) q,r⟩
  ·rw[bz (Qw6 (lts b hb))];exact(hf b hb).1
 done:=by intro X hP hw hK hc i pins s σ H E I hf st hg;subst hP hw hK;obtain⟨hz,hTI,⟨a,b,hTO⟩,i1,i2⟩:=st;obtain⟨xs,ys,hx,hy,hi⟩:=hg;obtain⟨us,ru,pu,zu⟩:=I.tuple hx;obtain⟨vs,rv,pv,zv⟩:=I.tuple hy;have l1:=ru.length;have l2:=rv.length;have D1:Draws X.prog X.w X.A.in1 j1 [j1,a1] _ _ _:=kO (A:=X.A.in1) (show X.A.in1.handled=none from I.ok.hd hc) j1 a1 D.c1 us.toArray;have D2:Draws X.prog X.w X.A.in1 j2 [j2,a2] _ _ _:=kO (A:=X.A.in1) (show X.A.in1.handled=none from I.ok.hd hc) j2 a2 D.c2 vs.toArray;refine pG (A:=X.A) (k:=i) D.ap D1 D2 (by rw[Qq3,Qq3];omega) hz hTI hTO ⟨i1,pu⟩ ⟨i2,pv⟩ λg tk hk=>⟨rfl,I.J5 (t':=tk) (ch:=[z,TI,TO,j1,j2]) hf λb o hb e=>?_⟩;exact hk b o (λq=>hb (by simp[q])) (λq=>hb (by simp[q])) (λq=>hb (by simp[q])) (λq=>hb (by simp[q])) e
 self:=λA i s Q E st h=>wpAny_pyIter_zip st.1 h
end L2
namespace ZT
open PySem PySem.Spec PyProof.Rows L2 PySem.Builtin
noncomputable abbrev h1T(h:Heap)(l1:Addr):Heap:=h.push { cls:=.type "tuple_iterator",data:=.fields #[.ref l1,.int 0 0] }
noncomputable abbrev h2T(h:Heap)(l1 l2:Addr):Heap:=(h1T h l1).push { cls:=.type "tuple_iterator",data:=.fields #[.ref l2,.int 0 0] }
noncomputable abbrev h3T(h:Heap)(l1 l2:Addr):Heap:=(h2T h l1 l2).push { cls:=.type "tuple",data:=.seq #[.ref h.objs.size,.ref (h1T h l1).objs.size] }
noncomputable abbrev h4T(h:Heap)(l1 l2:Addr):Heap:=(h3T h l1 l2).push { cls:=.type "tuple",data:=.seq #[.none,.none] }
noncomputable abbrev h5T(h:Heap)(l1 l2:Addr):Heap:=(h4T h l1 l2).push { cls:=.type "zip",data:=.fields #[.none,.bool false,.bool false,.ref (h2T h l1 l2).objs.size,.ref (h3T h l1 l2).objs.size] }
theorem aar(l1 l2:Addr)(xs ys:Array Value):Meets (Builtin.«zip.__new__» ⟨[.type "zip",.ref l1,.ref l2],[]⟩) (λ_ R s=>s.heap.IsTuple l1 xs/\s.heap.IsTuple l2 ys/\
   R (.ok (.ret (.ref (h4T s.heap l1 l2).objs.size))) { s with heap:=h5T s.heap l1 l2 }):=
 .of_wp λprog w A R s h=>by
  obtain⟨hp,g,d,tk,os⟩:=s;obtain⟨hl1,hl2,h⟩:=h;have hsub:=sub_zip;have hL1:Heap.IsTuple (Shared.heap ⟨hp,g,d,tk,os⟩) l1 xs:=hl1;have hL2:Heap.IsTuple (Shared.heap ⟨hp.push { cls:=.type "tuple_iterator",data:=.fields #[.ref l1,.int 0 0] },g,d,tk,os⟩) l2 ys:=Heap.IsTuple.push hl2 _
  wp_walk using wpAny_pyIter_tuple hL1,wpAny_pyIter_tuple hL2
  exact⟨_,rfl,h⟩
section
variable{prog:Program}{w:World}{A:Around}{E:Value->Shared->Prop}{s:Shared}
theorem Ws{l1 l2:Addr}{xs ys:Array Value}{Q:Value->Shared->Prop}(hl1:s.heap.IsTuple l1 xs)(hl2:s.heap.IsTuple l2 ys)
  (h:∀g,IsZip g (s.heap.objs.size+4) (s.heap.objs.size+2) (s.heap.objs.size+3) .none->IsPair g (s.heap.objs.size+2) (.ref s.heap.objs.size) (.ref (s.heap.objs.size+1))->
   IsPair g (s.heap.objs.size+3) .none .none->g.IsTupleIter s.heap.objs.size l1 0->g.IsTupleIter (s.heap.objs.size+1) l2 0->g.objs.size=s.heap.objs.size+5->
   (∀c o,s.heap.get? c=some o->g.get? c=some o)->Q (.ref (s.heap.objs.size+4)) { s with heap:=g }) :
  wpAny (model prog w) A (call (.type "zip") [.ref l1,.ref l2]) Q E s:=by
 refine callType_new F.called_zip (by decide) (F.typeCall_zip_2 _ _) (F.newCall_zip_2 _ _) (λobj=>F.args_object_init_3 obj _ _) F.entry_zip_new (aar l1 l2 xs ys) ⟨hl1,hl2,?_⟩;have z1:(h1T s.heap l1).objs.size=s.heap.objs.size+1:=Qx5 ..;have z2:(h2T s.heap l1 l2).objs.size=s.heap.objs.size+2:=by rw[Qx5,z1]
 have z3:(h3T s.heap l1 l2).objs.size=s.heap.objs.size+3:=by rw[Qx5,z2]
 have z4:(h4T s.heap l1 l2).objs.size=s.heap.objs.size+4:=by rw[Qx5,z3]
 have z5:(h5T s.heap l1 l2).objs.size=s.heap.objs.size+5:=by rw[Qx5,z4]
 have g5:(h5T s.heap l1 l2).get? (h4T s.heap l1 l2).objs.size=some _:=Qwz _ rfl;have g4:(h5T s.heap l1 l2).get? (h3T s.heap l1 l2).objs.size=some _:=Qqz _ (Qwz _ rfl);have g3:(h5T s.heap l1 l2).get? (h2T s.heap l1 l2).objs.size=some _:=Qqz _ (Qqz _ (Qwz _ rfl));have g2:(h5T s.heap l1 l2).get? (h1T s.heap l1).objs.size=some _:=Qqz _ (Qqz _ (Qqz _ (Qwz _ rfl)));have g1:(h5T s.heap l1 l2).get? s.heap.objs.size=some _:=Qqz _ (Qqz _ (Qqz _ (Qqz _ (Qwz _ rfl))));show _/\_;rw[z2,z3,z4] at g5;rw[z1,z2] at g3;rw[z3] at g4;rw[z1] at g2;rw[z4];exact⟨⟨_,g5,rfl⟩,h _ g5 g3 g4 ⟨_,g1,rfl,rfl⟩ ⟨_,g2,rfl,rfl⟩ z5 λc o x=>Qqz _ (Qqz _ (Qqz _ (Qqz _ (Qqz _ x))))⟩
end
end ZT
namespace L2
open PySem PySem.Spec PyProof.Rows PySem.Builtin ZT
section
variable{X:Cx}
def afT(K:PySem.W.Frag)(ta:TA):TI:=λσ H R=>ta σ H λvs H1=>∃a1 a2,vs=[.ref a1,.ref a2]/\(∃xs,jZ K H1 a1 xs)/\(∃ys,jZ K H1 a2 ys)/\R (Itz K a1 a2) H1
theorem Zx{elts:List Expr}{k:Nat}{tp:Pos}{a b:Expr}{ta:TA}{p pos:Pos}(hg:Gl X "zip")(hm:X.mg "zip" = none)(ha:PA X [a,b] ta)(hs:starEach [a,b] X.env=(false,eval a X.env)::starEach [b] X.env:=by rfl)(hs2:starEach [b] X.env=[(false,eval b X.env)]:=by rfl):PI X (.Tuple elts k tp) (.Call (.Name "zip" p) [a,b] [] pos) (afT X.K ta):=by
 intro pins s σ H R I h;refine Call_ (vJ I hg hm PyProof.Rows.boot_zip (Qj4 (fV (ha pos pins s σ H _ I h) λus s1 ⟨vs,H1,I1,r1,q1⟩=>?_) hs (by rw[hs2];rfl)));obtain⟨a1,a2,e,⟨xs,hx⟩,⟨ys,hy⟩,q⟩:=q1;subst e;cases r1 with
 | cons r rr=>
  cases rr with
  | cons r' rr'=>
   cases rr';cases r;cases r';obtain⟨u1,ru1,p1,z1⟩:=I1.tuple hx;obtain⟨u2,ru2,p2,z2⟩:=I1.tuple hy;have Rj:a1<s1.heap.objs.size:=by obtain⟨_,e,_⟩:=p1;exact Qq9 e
   have vH:a2<s1.heap.objs.size:=by obtain⟨_,e,_⟩:=p2;exact Qq9 e
   refine Ws p1 p2 λg hz hTI hTO i1 i2 hsz hk=>?_;refine wpAny_pyIter_zip hz ?_;have I2:Inv X pins σ H1 { s1 with heap:=g }:=I1.kept (t':=s1.toks) hk;have own:∀b,s1.heap.objs.size<=b->rO X pins H1 b:=λb hb=>I1.Wb hb (I1.hok.fresh hb);generalize hn:s1.heap.objs.size=n at *;have ne:∀{c d:Nat},c<d->(c:Addr)≠d:=λh e=>Qzj _ (by subst e;exact h);have ne':∀{c d:Nat},d<c->(c:Addr)≠d:=λh e=>Qzj _ (by subst e;exact h);have D:Apz (n+4) (n+2) (n+3) n (n+1) a1 a2:={
    t1:=ne (by omega),t2:=ne (by omega),t3:=ne (by omega),t4:=ne (by omega)
    b1:=by simp only[Qq7,Qw5,Qjk,not_or];exact⟨ne' (by omega),ne' (Qwq Rj (by omega))⟩
    b2:=by simp only[Qq7,Qw5,Qjk,not_or];exact⟨ne' (by omega),ne' (Qwq vH (by omega))⟩
    b3:=by simp only[Qq7,Qw5,Qjk,not_or];exact⟨ne' (by omega),ne' (Qwq Rj (by omega))⟩
    b4:=by simp only[Qq7,Qw5,Qjk,not_or];exact⟨ne' (by omega),ne' (Qwq vH (by omega))⟩
    b5:=by simp only[Qq7,Qw5,Qjk,not_or];exact⟨ne' (by omega),ne' (Qwq Rj (by omega))⟩
    b6:=by simp only[Qq7,Qw5,Qjk,not_or];exact⟨ne' (by omega),ne' (Qwq vH (by omega))⟩
    b7:=by simp only[Qq7,Qw5,Qjk,not_or];exact⟨ne' (by omega),ne' (Qwq Rj (by omega))⟩
    b8:=by simp only[Qq7,Qw5,Qjk,not_or];exact⟨ne (by omega),ne' vH⟩
    c1:=ne Rj,c2:=ne (Qwq vH (by omega)) }
   refine⟨n+4,[n+4,n+2,n+3,n,n+1],_,_,H1,rfl,I2,O5 _ _ _ _ _ a1 a2 D,⟨hz,hTI,⟨_,_,hTO⟩,i1,i2⟩,λb hb=>own b ?_,q⟩;simp only[Qq7,Qw5,Qjk] at hb;rcases hb with rfl|rfl|rfl|rfl|rfl
   ·exact Qjw _ _
   ·exact Qjw _ _
   ·exact Qjw _ _
   ·exact Qq0 _
   ·exact Qjw _ _
end
end L2
namespace Ev
open PySem PySem.Spec PyProof.Rows L2 PySem.Builtin
section
variable{X:Cx}{C:Cfg}{pos:Pos}{e e2:Expr}
noncomputable def rR(x y:List D):List D:=(x.zip y).map λp=>.tup [p.1,p.2]
noncomputable def GR(a:dg):dg:=λenv=>bindR (a env) λds aG=>match ds with
 | [.tup x,.tup y]=>.ok (rR x y) aG
 | _=>.stuck
theorem tu{K:Fg}{F:Hp}:∀{ds:List D} {vs:List V},bu K F ds vs->∀{i:Nat} {d:D},ds[i]? = some d->∃v,vs[i]? = some v/\Rep K F d v
 | [],vs,_,i,d,h=>by simp at h
 | x::ds,vs,r,i,d,h=>by
  obtain⟨v,w,rfl,p,q⟩:=r;cases i with
  | zero=>simp at h;subst h;exact⟨v,rfl,p⟩
  | succ i=>obtain⟨u,h1,h2⟩:=tu q (i:=i) (by simpa using h);exact⟨u,by simpa using h1,h2⟩
end
end Ev
namespace L2
open PySem PySem.Spec PyProof.Rows PySem.Builtin ZT
noncomputable def aev(K:PySem.W.Frag)(a1 a2:Addr):It:=
 ⟨λi H=>∃xs ys x y,jX K H a1 xs/\jZ K H a2 ys/\xs[i]? = some x/\ys[i]? = some y,
 λi H v H'=>∃p x y,(∀xs,jX K H a1 xs->xs[i]? = some x)/\(∀ys,jZ K H a2 ys->ys[i]? = some y)/\H p=none/\H'=upd H p (.tup [x,y])/\v = .ref p,
 λi H=>∃xs ys,jX K H a1 xs/\jZ K H a2 ys/\(i=xs.length\/(i<xs.length/\i=ys.length))⟩
theorem LC{P:Program}{w:World}{K:PySem.W.Frag}{elts:List Expr}{kk:Nat}{pos:Pos}(z TI TO j1 j2 a1 a2:Addr)(D:Apz z TI TO j1 j2 a1 a2) :
  Turn P w K (.Tuple elts kk pos) (aev K a1 a2) [z,TI,TO,j1,j2] z (λi h=>IsZip h z TI TO .none/\IsPair h TI (.ref j1) (.ref j2)/\(∃a b,IsPair h TO a b)/\h.IsListIter j1 a1 i/\h.IsTupleIter j2 a2 i) where
 mem:=by simp
 obj:=λi h st b hb=>by
  obtain⟨hz,hTI,⟨a,c,hTO⟩,⟨o1,e1,_,d1⟩,o2,e2,_,d2⟩:=st;simp only[Qq7,Qw5,Qjk] at hb;rcases hb with rfl|rfl|rfl|rfl|rfl
  ·exact⟨_,hz,λv q=>by cases q⟩
  ·exact⟨_,hTI,λv q=>by cases q⟩
  ·exact⟨_,hTO,λv q=>by cases q⟩
  ·exact⟨o1,e1,λv q=>by rw[d1] at q;cases q⟩
  ·exact⟨o2,e2,λv q=>by rw[d2] at q;cases q⟩
 keep:=λi h h' st k=>by
  obtain⟨hz,hTI,⟨a,c,hTO⟩,⟨o1,e1,r1⟩,o2,e2,r2⟩:=st;exact⟨k z (by simp) _ hz,k TI (by simp) _ hTI,⟨a,c,k TO (by simp) _ hTO⟩,⟨o1,k j1 (by simp) _ e1,r1⟩,o2,k j2 (by simp) _ e2,r2⟩
 item:=by
  intro X hP hw hK hc i pins s σ H E I hf st hg;subst hP hw hK;obtain⟨hz,hTI,⟨a,b,hTO⟩,i1,i2⟩:=st;obtain⟨xs,ys,x,y,hx,hy,gx,gy⟩:=hg;obtain⟨us,ru,pu,zu⟩:=I.list hx;obtain⟨vs,rv,pv,zv⟩:=I.tuple hy;obtain⟨u,hu,rxu⟩:=ru.get gx;obtain⟨v,hv,ryv⟩:=rv.get gy;have lu:i<us.toArray.size:=by rw[Qq3];exact(Qq6.mp hu).1
  have lv:i<vs.toArray.size:=by rw[Qq3];exact(Qq6.mp hv).1
  have D1:Draws X.prog X.w X.A.in1 j1 [j1,a1] _ _ _:=Draws.list (A:=X.A.in1) (show X.A.in1.handled=none from I.ok.hd hc) j1 a1 D.c1 us.toArray;have D2:Draws X.prog X.w X.A.in1 j2 [j2,a2] _ _ _:=kO (A:=X.A.in1) (show X.A.in1.handled=none from I.ok.hd hc) j2 a2 D.c2 vs.toArray;refine oJ (A:=X.A) D.ap D1 D2 lu lv hz hTI hTO ⟨i1,pu.isList⟩ ⟨i2,pv⟩ λx' y' g tk px py hz' aa3 s1 s2 hT hsz hk=>?_;have ex:x'=u:=by have:us.toArray[i]? = some x':=px;rw[Qj7,hu] at this;exact(Qw1 this).symm
  have ey:y'=v:=by have:vs.toArray[i]? = some y':=py;rw[Qj7,hv] at this;exact(Qw1 this).symm
  subst ex ey;refine⟨_,rfl,?_⟩;refine wpAny_letOwnedTupleGo_zip (s:={ s with heap:=g,toks:=tk }) hz' λg' hz'' e'=>?_;have m7:∀b o,b≠z->g.get? b=some o->g'.get? b=some o:=λb o hb q=>(e'.2 b hb).trans q;have lts:∀b ∈ [z,TI,TO,j1,j2],b<s.heap.objs.size:=λb hb=>by
   simp only[Qq7,Qw5,Qjk] at hb;rcases hb with rfl|rfl|rfl|rfl|rfl
   ·exact Qq9 hz
   ·exact Qq9 hTI
   ·exact Qq9 hTO
   ·obtain⟨_,q,_⟩:=i1;exact Qq9 q
   ·obtain⟨_,q,_⟩:=i2;exact Qq9 q
  have nT:H s.heap.objs.size=none:=I.hok.fresh (Qq0 _);refine⟨.ref s.heap.objs.size,upd H s.heap.objs.size (.tup [x,y]),I.drawn (t':=tk) (ch:=[z,TI,TO,j1,j2]) hf (λb o hb q=>?_) (Qq0 _) ?_,rfl,⟨_,x,y,λzs hq=>by rw[I.Gq hq hx];exact gx,λzs hq=>by rw[I.qg hq hy];exact gy,nT,rfl,rfl⟩,⟨hz'',?_,⟨_,_,m7 TO _ D.t2 aa3⟩,?_,?_⟩,λb hb=>?_⟩
  ·have n1:b≠z:=λq=>hb (by simp[q]);exact m7 b o n1 (hk b o n1 (λq=>hb (by simp[q])) (λq=>hb (by simp[q])) (λq=>hb (by simp[q])) q)
  ·exact⟨by show 2<=sizeLine;decide,[x',y'],.cons rxu (.cons ryv .nil),_,m7 _ _ (Qkz (lts z (by simp))) hT,rfl,⟨_,rfl⟩,rfl⟩
  ·exact m7 TI _ D.t1 (hk TI _ D.t1 D.t3 (λq=>D.b5 (by simp[q])) (λq=>D.b6 (by simp[q])) hTI)
  ·obtain⟨o,q,r⟩:=s1.1;exact⟨o,m7 j1 o (λq=>D.b1 (by simp[q])) q,r⟩
  ·obtain⟨o,q,r⟩:=s2.1;exact⟨o,m7 j2 o (λq=>D.b2 (by simp[q])) q,r⟩
  ·rw[bz (Qw6 (lts b hb))];exact(hf b hb).1
 done:=by intro X hP hw hK hc i pins s σ H E I hf st hg;subst hP hw hK;obtain⟨hz,hTI,⟨a,b,hTO⟩,i1,i2⟩:=st;obtain⟨xs,ys,hx,hy,hi⟩:=hg;obtain⟨us,ru,pu,zu⟩:=I.list hx;obtain⟨vs,rv,pv,zv⟩:=I.tuple hy;have l1:=ru.length;have l2:=rv.length;have D1:Draws X.prog X.w X.A.in1 j1 [j1,a1] _ _ _:=Draws.list (A:=X.A.in1) (show X.A.in1.handled=none from I.ok.hd hc) j1 a1 D.c1 us.toArray;have D2:Draws X.prog X.w X.A.in1 j2 [j2,a2] _ _ _:=kO (A:=X.A.in1) (show X.A.in1.handled=none from I.ok.hd hc) j2 a2 D.c2 vs.toArray;refine pG (A:=X.A) (k:=i) D.ap D1 D2 (by rw[Qq3,Qq3];omega) hz hTI hTO ⟨i1,pu.isList⟩ ⟨i2,pv⟩ λg tk hk=>⟨rfl,I.J5 (t':=tk) (ch:=[z,TI,TO,j1,j2]) hf λb o hb e=>?_⟩;exact hk b o (λq=>hb (by simp[q])) (λq=>hb (by simp[q])) (λq=>hb (by simp[q])) (λq=>hb (by simp[q])) e
 self:=λA i s Q E st h=>wpAny_pyIter_zip st.1 h
end L2
namespace ZT
open PySem PySem.Spec PyProof.Rows L2 PySem.Builtin
noncomputable abbrev h1L(h:Heap)(l1:Addr):Heap:=h.push { cls:=.type "list_iterator",data:=.fields #[.ref l1,.int 0 0] }
noncomputable abbrev h2L(h:Heap)(l1 l2:Addr):Heap:=(h1L h l1).push { cls:=.type "tuple_iterator",data:=.fields #[.ref l2,.int 0 0] }
noncomputable abbrev h3L(h:Heap)(l1 l2:Addr):Heap:=(h2L h l1 l2).push { cls:=.type "tuple",data:=.seq #[.ref h.objs.size,.ref (h1L h l1).objs.size] }
noncomputable abbrev h4L(h:Heap)(l1 l2:Addr):Heap:=(h3L h l1 l2).push { cls:=.type "tuple",data:=.seq #[.none,.none] }
noncomputable abbrev h5L(h:Heap)(l1 l2:Addr):Heap:=(h4L h l1 l2).push { cls:=.type "zip",data:=.fields #[.none,.bool false,.bool false,.ref (h2L h l1 l2).objs.size,.ref (h3L h l1 l2).objs.size] }
theorem aas(l1 l2:Addr)(xs ys:Array Value):Meets (Builtin.«zip.__new__» ⟨[.type "zip",.ref l1,.ref l2],[]⟩) (λ_ R s=>s.heap.IsList l1 xs/\s.heap.IsTuple l2 ys/\
   R (.ok (.ret (.ref (h4L s.heap l1 l2).objs.size))) { s with heap:=h5L s.heap l1 l2 }):=
 .of_wp λprog w A R s h=>by
  obtain⟨hp,g,d,tk,os⟩:=s;obtain⟨hl1,hl2,h⟩:=h;have hsub:=sub_zip;have hL1:Heap.IsList (Shared.heap ⟨hp,g,d,tk,os⟩) l1 xs:=hl1;have hL2:Heap.IsTuple (Shared.heap ⟨hp.push { cls:=.type "list_iterator",data:=.fields #[.ref l1,.int 0 0] },g,d,tk,os⟩) l2 ys:=Heap.IsTuple.push hl2 _
  wp_walk using wpAny_pyIter_list hL1,wpAny_pyIter_tuple hL2
  exact⟨_,rfl,h⟩
section
variable{prog:Program}{w:World}{A:Around}{E:Value->Shared->Prop}{s:Shared}
theorem Wt{l1 l2:Addr}{xs ys:Array Value}{Q:Value->Shared->Prop}(hl1:s.heap.IsList l1 xs)(hl2:s.heap.IsTuple l2 ys)
  (h:∀g,IsZip g (s.heap.objs.size+4) (s.heap.objs.size+2) (s.heap.objs.size+3) .none->IsPair g (s.heap.objs.size+2) (.ref s.heap.objs.size) (.ref (s.heap.objs.size+1))->
   IsPair g (s.heap.objs.size+3) .none .none->g.IsListIter s.heap.objs.size l1 0->g.IsTupleIter (s.heap.objs.size+1) l2 0->g.objs.size=s.heap.objs.size+5->
   (∀c o,s.heap.get? c=some o->g.get? c=some o)->Q (.ref (s.heap.objs.size+4)) { s with heap:=g }) :
  wpAny (model prog w) A (call (.type "zip") [.ref l1,.ref l2]) Q E s:=by
 refine callType_new F.called_zip (by decide) (F.typeCall_zip_2 _ _) (F.newCall_zip_2 _ _) (λobj=>F.args_object_init_3 obj _ _) F.entry_zip_new (aas l1 l2 xs ys) ⟨hl1,hl2,?_⟩;have z1:(h1L s.heap l1).objs.size=s.heap.objs.size+1:=Qx5 ..;have z2:(h2L s.heap l1 l2).objs.size=s.heap.objs.size+2:=by rw[Qx5,z1]
 have z3:(h3L s.heap l1 l2).objs.size=s.heap.objs.size+3:=by rw[Qx5,z2]
 have z4:(h4L s.heap l1 l2).objs.size=s.heap.objs.size+4:=by rw[Qx5,z3]
 have z5:(h5L s.heap l1 l2).objs.size=s.heap.objs.size+5:=by rw[Qx5,z4]
 have g5:(h5L s.heap l1 l2).get? (h4L s.heap l1 l2).objs.size=some _:=Qwz _ rfl;have g4:(h5L s.heap l1 l2).get? (h3L s.heap l1 l2).objs.size=some _:=Qqz _ (Qwz _ rfl);have g3:(h5L s.heap l1 l2).get? (h2L s.heap l1 l2).objs.size=some _:=Qqz _ (Qqz _ (Qwz _ rfl));have g2:(h5L s.heap l1 l2).get? (h1L s.heap l1).objs.size=some _:=Qqz _ (Qqz _ (Qqz _ (Qwz _ rfl)));have g1:(h5L s.heap l1 l2).get? s.heap.objs.size=some _:=Qqz _ (Qqz _ (Qqz _ (Qqz _ (Qwz _ rfl))));show _/\_;rw[z2,z3,z4] at g5;rw[z1,z2] at g3;rw[z3] at g4;rw[z1] at g2;rw[z4];exact⟨⟨_,g5,rfl⟩,h _ g5 g3 g4 ⟨_,g1,rfl,rfl⟩ ⟨_,g2,rfl,rfl⟩ z5 λc o x=>Qqz _ (Qqz _ (Qqz _ (Qqz _ (Qqz _ x))))⟩
end
end ZT
namespace L2
open PySem PySem.Spec PyProof.Rows PySem.Builtin ZT
section
variable{X:Cx}
def adU(K:PySem.W.Frag)(ta:TA):TI:=λσ H R=>ta σ H λvs H1=>∃a1 a2,vs=[.ref a1,.ref a2]/\(∃xs,jX K H1 a1 xs)/\(∃ys,jZ K H1 a2 ys)/\R (aev K a1 a2) H1
theorem U5{elts:List Expr}{k:Nat}{tp:Pos}{a b:Expr}{ta:TA}{p pos:Pos}(hg:Gl X "zip")(hm:X.mg "zip" = none)(ha:PA X [a,b] ta)(hs:starEach [a,b] X.env=(false,eval a X.env)::starEach [b] X.env:=by rfl)(hs2:starEach [b] X.env=[(false,eval b X.env)]:=by rfl):PI X (.Tuple elts k tp) (.Call (.Name "zip" p) [a,b] [] pos) (adU X.K ta):=by
 intro pins s σ H R I h;refine Call_ (vJ I hg hm PyProof.Rows.boot_zip (Qj4 (fV (ha pos pins s σ H _ I h) λus s1 ⟨vs,H1,I1,r1,q1⟩=>?_) hs (by rw[hs2];rfl)));obtain⟨a1,a2,e,⟨xs,hx⟩,⟨ys,hy⟩,q⟩:=q1;subst e;cases r1 with
 | cons r rr=>
  cases rr with
  | cons r' rr'=>
   cases rr';cases r;cases r';obtain⟨u1,ru1,p1,z1⟩:=I1.list hx;obtain⟨u2,ru2,p2,z2⟩:=I1.tuple hy;have Rj:a1<s1.heap.objs.size:=by obtain⟨_,e,_⟩:=p1.isList;exact Qq9 e
   have vH:a2<s1.heap.objs.size:=by obtain⟨_,e,_⟩:=p2;exact Qq9 e
   refine Wt p1.isList p2 λg hz hTI hTO i1 i2 hsz hk=>?_;refine wpAny_pyIter_zip hz ?_;have I2:Inv X pins σ H1 { s1 with heap:=g }:=I1.kept (t':=s1.toks) hk;have own:∀b,s1.heap.objs.size<=b->rO X pins H1 b:=λb hb=>I1.Wb hb (I1.hok.fresh hb);generalize hn:s1.heap.objs.size=n at *;have ne:∀{c d:Nat},c<d->(c:Addr)≠d:=λh e=>Qzj _ (by subst e;exact h);have ne':∀{c d:Nat},d<c->(c:Addr)≠d:=λh e=>Qzj _ (by subst e;exact h);have D:Apz (n+4) (n+2) (n+3) n (n+1) a1 a2:={
    t1:=ne (by omega),t2:=ne (by omega),t3:=ne (by omega),t4:=ne (by omega)
    b1:=by simp only[Qq7,Qw5,Qjk,not_or];exact⟨ne' (by omega),ne' (Qwq Rj (by omega))⟩
    b2:=by simp only[Qq7,Qw5,Qjk,not_or];exact⟨ne' (by omega),ne' (Qwq vH (by omega))⟩
    b3:=by simp only[Qq7,Qw5,Qjk,not_or];exact⟨ne' (by omega),ne' (Qwq Rj (by omega))⟩
    b4:=by simp only[Qq7,Qw5,Qjk,not_or];exact⟨ne' (by omega),ne' (Qwq vH (by omega))⟩
    b5:=by simp only[Qq7,Qw5,Qjk,not_or];exact⟨ne' (by omega),ne' (Qwq Rj (by omega))⟩
    b6:=by simp only[Qq7,Qw5,Qjk,not_or];exact⟨ne' (by omega),ne' (Qwq vH (by omega))⟩
    b7:=by simp only[Qq7,Qw5,Qjk,not_or];exact⟨ne' (by omega),ne' (Qwq Rj (by omega))⟩
    b8:=by simp only[Qq7,Qw5,Qjk,not_or];exact⟨ne (by omega),ne' vH⟩
    c1:=ne Rj,c2:=ne (Qwq vH (by omega)) }
   refine⟨n+4,[n+4,n+2,n+3,n,n+1],_,_,H1,rfl,I2,LC _ _ _ _ _ a1 a2 D,⟨hz,hTI,⟨_,_,hTO⟩,i1,i2⟩,λb hb=>own b ?_,q⟩;simp only[Qq7,Qw5,Qjk] at hb;rcases hb with rfl|rfl|rfl|rfl|rfl
   ·exact Qjw _ _
   ·exact Qjw _ _
   ·exact Qjw _ _
   ·exact Qq0 _
   ·exact Qjw _ _
end
end L2
namespace Ev
open PySem PySem.Spec PyProof.Rows L2 PySem.Builtin
section
variable{X:Cx}{C:Cfg}{pos:Pos}{e e2:Expr}
noncomputable def zc(a:dg):dg:=λenv=>bindR (a env) λds aG=>match ds with
 | [.lst x,.tup y]=>.ok (rR x y) aG
 | _=>.stuck
end
end Ev
namespace L2
open PySem PySem.Spec PyProof.Rows PySem.Builtin
section
variable{X:Cx}
def Qi:List V->Hp->VK->Prop:=λxs H Q=>∃b:Bool,xs=[.bl b]/\Q (.int (if b then 1 else 0)) H
theorem N7:gP X (.type "int") Qi:=by
 intro pins s σ H vs us Q I r h;obtain⟨b,rfl,q⟩:=h;cases r with
 | cons r rr=>
  cases rr;cases r;exact call_int_bool ⟨.int (if b then 1 else 0),H,I.tok _,⟨_,rfl⟩,q⟩
end
end L2
namespace Ev
open PySem PySem.Spec PyProof.Rows L2 PySem.Builtin
section
variable{X:Cx}{C:Cfg}{pos p:Pos}{e:Expr}{ea:dg}
noncomputable def Bq:List D->Option D
 | [.bl b]=>some (.int (if b then 1 else 0))
 | _=>none
theorem Wo:CallD C Qi Bq:=by
 intro Pr F env σ H ds d vs Q r hs h q;unfold Bq at h;split at h
 ·rename_i b;cases h;obtain⟨v,rfl,hv⟩:=jl hs;exact⟨b,by rw[hv.bl],q _ H F r (aH.refl F) rfl⟩
 ·cases h
end
end Ev
namespace L2
open PySem PySem.Spec PyProof.Rows PySem.Builtin
section
variable{X:Cx}
def Qe:R2:=λx y H Q=>∃(z:Str) (b:Bool),x = .str z/\y = .int (if b then 1 else 0)/\z.length<=sizeLine/\Q (.str (if b then z else ⟨#[]⟩)) H
theorem Q3:mD X (binaryOp .Mult) Qe:=by
 intro pins s σ H x y v u Q I rx ry h;obtain⟨z,b,rfl,rfl,hz,q⟩:=h;obtain⟨t,rfl⟩:=rx;obtain⟨t',rfl⟩:=ry;have hn:=vI;cases b with
 | false=>
  refine PySem.P.mul_str (by decide) (λh _=>absurd (by decide) h) (λh _=>absurd (by decide) h) ?_;exact⟨by show 0<=sizeLine;decide,⟨.str ⟨#[]⟩,H,I.tok _,⟨_,rfl⟩,q⟩⟩
 | true=>
  refine PySem.P.mul_str (by decide) (λ_ h=>absurd h (by simp)) (λ_ h=>absurd h (by simp)) ?_;exact⟨.str z,H,I,⟨_,rfl⟩,q⟩
end
end L2
namespace Ev
open PySem PySem.Spec PyProof.Rows L2 PySem.Builtin
section
variable{X:Cx}{C:Cfg}
noncomputable def vQ:D->D->Option D
 | .str z,.int i=>if i=0 then some (.str []) else if i=1 then some (.str z) else none
 | _,_=>none
theorem Q5:oU C Qe vQ:=by
 intro Pr F env σ H x y d vx vy Q r px py e q;unfold vQ at e;split at e
 ·rename_i z i;obtain⟨rfl,hz⟩:=px.str;cases py.int;split at e
  ·rename_i h0;cases e;subst h0;exact⟨strOf z,false,rfl,rfl,by rw[dI];exact hz,q _ H F r (aH.refl F) ⟨rfl,Qxy _⟩⟩
  ·split at e
   ·rename_i h1;cases e;subst h1;exact⟨strOf z,true,rfl,rfl,by rw[dI];exact hz,q _ H F r (aH.refl F) ⟨rfl,hz⟩⟩
   ·cases e
 ·cases e
theorem Wy:Bi X C .Mult vQ:=⟨_,Q3,Q5⟩
end
open PySem PySem.Spec PyProof.Rows L2
section
variable{X:Cx}{C:Cfg}{pos:Pos}
theorem V5{K:Fg}{h:Heap}{mg:Str->Option Value}{x:Str}{i:Int}{t:Tok}(X:K.In h)(G:h.Ns mainGlobals mg)(a:PySem.W.nsIn K mainGlobals x=some (some (.int i t))):Glb K mg x (.int i):=
 ⟨.int i,_,Qk3 X G a,⟨t,rfl⟩,λF=>rfl⟩
end
end Ev
namespace SX
open PySem PySem.Spec PyProof.Rows L2 PySem.Builtin
noncomputable def led(w:World):Bool:=!(w.params.followText "set-order")
structure TOk(P:Program)(w:World)(es:Array (Int×Value))(t:SetTable)(ys:List Str):Prop where
 el:ElemsOf (strKind P w) es.toList
 tx:∃ss:List Str,StrsAre (es.toList.map (·.2)) ss/\ss.Perm ys
 fit:t.fits es.size=true
 ld:t.led=led w
 pl:es.size≠0->t.plain=false
def JQ(P:Program)(w:World)(h:Heap)(a:Addr)(ys:List Str):Prop:=
 ∃o es ep t,h.get? a=some o/\o.ExactSet/\o.data = .set es ep t/\TOk P w es t ys
open PySem PySem.Spec PyProof.Rows L2 PySem.Builtin Ev
noncomputable def aep(P:Program)(w:World)(a:Addr)(ys:List Str):HO:=.ext λh=>JQ P w h a ys
theorem mW{x y:List Nat}(h:Ev.strOf x=Ev.strOf y):x=y:=by
 have:=Qxz (λs:Str=>s.cps.toList) h
 simpa[Ev.strOf] using this
end SX
namespace Ev
open PySem PySem.Spec PyProof.Rows L2 PySem.Builtin
section
variable{X:Cx}{C:Cfg}{pos:Pos}
structure PXL(X:Cx)(C:Cfg)(es:List Expr)(ev:dg):Prop where
 go:Lx X C es ev
theorem Ut:PXL X C [] aj:=⟨Ke⟩
end
open PySem L2
theorem nr{α:Type}{a b:α}(h:a=b):a=b:=h
theorem bR{α β:Type}(a:α)(e:Env)(f:α->Env->R β):bindR (.ok a e) f=f a e:=nr rfl
noncomputable def ik{α:Type}(_:Env):R α:=.stuck
theorem YJ(n:Nat):jy 0 1 n=(List.range n).map λ(i:Nat)=>D.int (i:Int):=by
 unfold jy;apply Qj5;intro i _
 congr 1
 omega
theorem YZ{n:Nat}(h:n<2^62):yd [.int (n:Int)]=some ((List.range n).map λ(i:Nat)=>D.int (i:Int)):=by
 have hf:jH (n:Int)=true:=by unfold jH;simp only[Qz5,decide_eq_true_eq];omega
 show(if jH (n:Int)=true then some (jy 0 1 (n:Int).toNat) else none)=_;rw[if_pos hf,Qjx,YJ]
theorem XM{α:Type}{g:GV}{c:eO}{e:Ev}(enc:α->D)(ext:α->Env)(p:α->Bool)(out:α->D)(env:Env)(k:Nat):∀(l:List α) (vs:Env),vs.length=k->
  (∀a∈l,(ext a).length=k/\(∀vs:Env,vs.length=k->g (enc a) (env++vs)=some (env++ext a))/\c (env++ext a) = .ok (p a) (env++ext a)/\(p a=true->e (env++ext a) = .ok (out a) (env++ext a)))->
  ∃vs',vs'.length=k/\Ef g c e (l.map enc) (env++vs) = .ok ((l.filter p).map out) (env++vs')
 | [],vs,hv,_=>⟨vs,hv,rfl⟩
 | a::l,vs,hv,h=>by
  obtain⟨h1,h2,h3,h4⟩:=h a Qqj;obtain⟨vs',h5,h6⟩:=XM enc ext p out env k l (ext a) h1 λb hb=>h b (Qqk _ hb);refine⟨vs',h5,?_⟩;rw[Qwv];unfold Ef;rw[h2 vs hv];show bindR (c (env++ext a)) _=_;rw[h3,bR];cases hp:p a with
  | true=>rw[if_pos rfl,h4 hp,bR,h6,bR,List.filter_cons_of_pos hp,Qwv]
  | false=>rw[if_neg Qxk,h6,List.filter_cons_of_neg (by rw[hp];exact Qxk)]
theorem abh{α:Type}{lo n:Nat}{it:dg}{g:GV}{c:eO}{e:Ev}{env aG:Env}(l:List α)(enc:α->D)(ext:α->Env)(p:α->Bool)(out:α->D)(hit:it env = .ok (l.map enc) aG)(hlo:aG.length=lo)
  (h:∀a∈l,(ext a).length=n - lo/\(∀vs:Env,vs.length=n - lo->g (enc a) (aG++vs)=some (aG++ext a))/\c (aG++ext a) = .ok (p a) (aG++ext a)/\(p a=true->e (aG++ext a) = .ok (out a) (aG++ext a)))
  (hz:l.length<=sizeLine):fC lo n it g c e env = .ok (.lst ((l.filter p).map out)) aG:=by
 obtain⟨vs',h5,h6⟩:=XM enc ext p out aG (n - lo) l (List.replicate (n - lo) none) Qzk h;have:=kE hit hlo h6 (Qq4 (by rw[Qqv];exact List.length_filter_le _ _) hz);rw[this,<-hlo,List.take_left]
theorem Ld{α:Type}{lo n:Nat}{it:dg}{c:eO}{e:Ev}{env aG:Env}(l:List α)(enc:α->D)(p:α->Bool)(out:α->D)(hit:it env = .ok (l.map enc) aG)(hlo:aG.length=lo)(hn:n=lo+1)
  (hc:∀a∈l,c (aG++[some (false,enc a)]) = .ok (p a) (aG++[some (false,enc a)]))
  (h:∀a∈l,p a=true->e (aG++[some (false,enc a)]) = .ok (out a) (aG++[some (false,enc a)])) (hz:l.length<=sizeLine):fC lo n it (ak lo) c e env = .ok (.lst ((l.filter p).map out)) aG:=by
 subst hn hlo;refine abh (lo:=aG.length) (n:=aG.length+1) l enc (λa=>[some (false,enc a)]) p out hit rfl (λa ha=>⟨by simp,λvs hv=>?_,hc a ha,λhp=>h a ha hp⟩) hz;have hv:vs.length=1:=by omega
 obtain⟨v,rfl⟩:=List.length_eq_one_iff.mp hv;unfold ak;rw[List.set_append_right _ _ (Qq0 _),Nat.sub_self]
 rfl
structure SX(X:Cx)(C:Cfg)(e:Expr)(ev:Ev):Prop where
 u:Ev.PX X C e ev
structure Lw(X:Cx)(C:Cfg)(e:Expr)(ev:Ev):Prop where
 u:Ev.Tc X C e ev
structure WQ(X:Cx)(C:Cfg)(e:Expr)(ev:Ev):Prop where
 u:Ev.Tj X C e ev
structure JR(X:Cx)(C:Cfg)(e:Expr)(ev:eO):Prop where
 u:Ev.PXT X C e ev
structure SXW(X:Cx)(C:Cfg)(e:Expr)(ev:eO):Prop where
 u:Ev.PXW X C e ev
structure Hs(X:Cx)(C:Cfg)(e:List Expr)(ev:dg):Prop where
 u:Ev.Lx X C e ev
structure uy(X:Cx)(C:Cfg)(e:List Expr)(ev:dg):Prop where
 u:Ev.WX X C e ev
structure SXL(X:Cx)(C:Cfg)(e:List Expr)(ev:dg):Prop where
 u:Ev.PXL X C e ev
structure zV(X:Cx)(C:Cfg)(e:Stmt)(ev:bH):Prop where
 u:Ev.S9 X C e ev
structure fU(X:Cx)(C:Cfg)(e:List Stmt)(ev:bH):Prop where
 u:Ev.xu X C e ev
structure WR(X:Cx)(C:Cfg)(e:List Expr)(ev:eO):Prop where
 u:Ev.Od X C e ev
structure SXP(X:Cx)(C:Cfg)(e:Option Expr)(ev:Yp):Prop where
 u:Ev.PXP X C e ev
structure SXI(X:Cx)(C:Cfg)(tg e:Expr)(ev:dg):Prop where
 u:Ev.Yl X C tg e ev
structure Yj(X:Cx)(C:Cfg)(lo:Nat)(e:Expr)(ev:GV):Prop where
 u:Ev.WW X C lo e ev
structure WT(X:Cx)(C:Cfg)(lo:Nat)(e:List Expr)(ev:Tq):Prop where
 u:Ev.abJ X C lo e ev
section
variable{X:Cx}{C:Cfg}{pos p px:Pos}{x y z:Expr}{a b c:Ev}{t u:eO}{i:Nat}{n:Str}{e:Expr}{es:List Expr}{ea:dg}{apos:Pos}{e2:Expr}
theorem aA{e:Expr}{es:List Expr}{a:Ev}{r:dg}(ha:SX X C e a)(hr:Hs X C es r)(hs:starEach (e::es) X.env=(false,eval e X.env)::starEach es X.env:=by rfl):Hs X C (e::es) (aa a r):=⟨Ev.Fw ha.u hr.u hs⟩
theorem bj(i:Nat)(hN:X.N[i]? = some n:=by rfl)(hv:vZ X.env.scope n:=by first|exact Or.inl rfl|exact Or.inr (Or.inl rfl)|exact Or.inr (Or.inr rfl))(hd:ju n:=by decide)(hcd:vG n:=by decide):SX X C (.Name n pos) (aK i):=⟨Y7 i hN hv hd hcd⟩
theorem dR{X:Cx}{C:Cfg}{n:Str}{pos:Pos}{es:List Expr}{r:dg}(i:Nat)(hr:Hs X C es r)(hN:X.N[i]? = some n:=by rfl)(hv:vZ X.env.scope n:=by first|exact Or.inl rfl|exact Or.inr (Or.inl rfl)|exact Or.inr (Or.inr rfl))(hd:ju n:=by decide)(hcd:vG n:=by decide)(hs:starEach (.Name n pos::es) X.env=(false,eval (.Name n pos) X.env)::starEach es X.env:=by rfl):Hs X C (.Name n pos::es) (aa (aK i) r):=aA (bj i hN hv hd hcd) hr hs
theorem au  : Hs X C [] aj:=⟨Ev.Ke ⟩
theorem aW{e:Expr}{ev:Ev}(h:SX X C e ev):Lw X C e ev:=⟨Ev.PX.b h.u⟩
theorem aQ{i:Int}{j:Nat}:SX X C (.Constant (.int i) j pos) (rQ (.int i)):=⟨Ev.Ze ⟩
theorem aq{st:Stmt}{rest:List Stmt}{a b:bH}(h1:zV X C st a)(h2:fU X C rest b):fU X C (st::rest) (aB a b):=⟨(Fz h1.u h2.u).imp λD σ H h=>by
 obtain⟨Pr,F,env,r,f⟩:=h;refine⟨Pr,F,env,r,?_⟩;unfold aB at f;cases e:a env with
 | nx e1=>rw[e] at f;exact λσ' H' F' r' s'=>⟨Pr,F',e1,r',f.mono s'⟩
 | rt o d e1=>rw[e] at f;cases o<;>exact f
 | bk e1=>rw[e] at f;exact f
 | ct e1=>rw[e] at f;exact f
 | stuck=>rw[e] at f;exact f⟩
theorem aD{st:Stmt}{a:bH}(h1:zV X C st a):fU X C [st] a:=⟨CZ h1.u⟩
theorem aU{lo:Nat}(i:Nat)(hnd:lA X.N=true:=by rfl)(hlo:Nat.ble lo i=true:=by rfl)(hfx:C.fx i=none:=by rfl)(hi:X.N[i]? = some n:=by rfl)(hx:Loc X.env.scope n:=by first|exact Or.inl rfl|exact Or.inr rfl)(hf:X.fn n=true\/X.env.scope.names.lookup n=some .local:=by first|exact .inl rfl|exact .inr rfl):Yj X C lo (.Name n pos) (ak i):=⟨Qx (iR hnd) hi hx (Qj9 hlo) hfx hf⟩
theorem bK(z:List Nat){x:Str}{j:Nat}(hz:x=strOf z:=by decide +kernel)(hl:z.length<=sizeLine:=by decide):SX X C (.Constant (.str x) j pos) (rQ (.str z)):=⟨by
 subst hz;refine ZF.imp λσ H Q h=>?_;obtain⟨Pr,F,env,env',d,r,e,q⟩:=h;cases e;exact q _ _ F r (aH.refl F) ⟨rfl,hl⟩⟩
theorem cj(i:Nat)(hN:X.N[i]? = some n:=by rfl)(hv:vZ X.env.scope n:=by first|exact Or.inl rfl|exact Or.inr (Or.inl rfl)|exact Or.inr (Or.inr rfl))(hd:ju n:=by decide)(hcd:vG n:=by decide):Lw X C (.Name n pos) (bf i):=⟨Uw i hN hv hd hcd⟩
theorem bM{pos':Pos}(i:Nat)(he:SX X C e a)(hnd:lA X.N=true:=by rfl)(hfx:C.fx i=none:=by rfl)(hi:X.N[i]? = some n:=by rfl)(hx:Loc X.env.scope n:=by first|exact Or.inl rfl|exact Or.inr rfl)(hs:swapsWith e (some (.Name n pos')) pos.line X.env=pure false:=by rfl)(hf:X.fn n=true\/X.env.scope.names.lookup n=some .local:=by first|exact .inl rfl|exact .inr rfl):zV X C (.Assign [.Name n pos'] e pos) (aN a (ak i)):=⟨Um (iR hnd) hi hx hfx he.u hs hf⟩
theorem bh{e:Expr}{a:Ev}(h:SX X C e a):zV X C (.Return (some e) pos) (bw a):=⟨(Jd h.u).imp λD σ H hq=>by
 obtain⟨Pr,F,env,r,f⟩:=hq;obtain⟨d,aG,e1,f1⟩:=cJ f;exact⟨Pr,F,env,aG,d,r,e1,λv H1 F1 r1 s1 p1=>f1 v σ H1 F1 r1 s1 p1⟩⟩
theorem aV{e:Expr}{a:Ev}(h:Lw X C e a)(hs:Ed e X.env:=by rfl):uy X C [e] (aa a aj):=⟨(gw h.u nW hs).imp λσ H Q hq=>by
 obtain⟨Pr,F,env,env',ds,rl,e,q⟩:=hq;obtain⟨d1,aG,e1,e2⟩:=aY e;cases e2;exact⟨Pr,F,env,env',d1,rl,e1,λv H1 F1 r1 s1 p1=>q _ H1 F1 r1 s1 ⟨v,[],rfl,p1,rfl⟩⟩⟩
theorem cz{k k':Nat}{m:Nat}{ps:List Str}{g:List D->Option D}(O:Own X.prog X.w X.K X.mg X.base n k ps (qj X.K m g))(G:Good X C)(hr:gY k' X.A)(ha:Hs X C (e::es) ea)(hn:∀env ds env',ea env = .ok ds env'->ds.length=m)(hk:Nat.ble k k'=true:=by rfl)(hg:Gl X n:=by rfl)(hdb:ju n:=by decide)(he:starEach (e::es) X.env=(false,eval e X.env)::starEach es X.env:=by rfl)(hpl:(backTo pos (starEach es X.env)).any (·.1)=false:=by rfl):SX X C (.Call (.Name n p) (e::es) [] pos) (ao g ea):=⟨by
 obtain⟨f,fd,h1,h2,h3,h4⟩:=O;rw[G.K] at h1;have h1':mR X.prog X.w X.K X.mg X.base Ec k f fd ps (qj C.K m g):=by rw[G.K];exact h1
 exact Y8 h1' (hr.mono (Qj9 hk)) hg h2 h3 h4 ha.u hn hdb he hpl⟩
theorem bV{es:List Expr}{r:dg}{k:Nat}(h:Hs X C es r):SX X C (.Tuple es k pos) (bN r):=⟨(ZD h.u).imp λσ H Q hq=>by
 obtain⟨Pr,F,env,env',d,rl,e,q⟩:=hq;obtain⟨ds,aG,e1,e2⟩:=aY e;split at e2
 ·rename_i hz;cases e2;refine⟨Pr,F,env,env',ds,rl,e1,λvs H1 F1 r1 s1 p1=>⟨by rw[p1.length];exact hz,λp hp=>?_⟩⟩;obtain⟨r2,s2⟩:=r1.new (o:=.tup vs) hp;exact q _ _ _ r2 (s1.trans s2) ⟨hz,p,vs,rfl,jZ.of aX,bu.mono s2 _ _ p1⟩
 ·cases e2⟩
theorem aJ{lo:Nat}{e:Expr}{es:List Expr}{g:GV}{gs:Tq}(h1:Yj X C lo e g)(h2:WT X C lo es gs)(hs:(assignEach (e::es) X.env).map (·.2)=assign e X.env::(assignEach es X.env).map (·.2):=by rfl):WT X C lo (e::es) (aO g gs):=⟨(QL h1.u h2.u hs).imp λv σ H Q h=>by
 obtain⟨Pr,F,env,env',ds,r,p,e,q⟩:=h;cases ds with
 | nil=>cases e
 | cons d ds=>
  obtain⟨u,w,rfl,p1,p2⟩:=p;obtain⟨aG,e1,e2⟩:=Qx4.mp e;refine⟨u,w,rfl,Pr,F,env,aG,d,r,p1,e1,λσ1 H1 F1 r1 s1 t1=>?_⟩;exact⟨Pr,F1,aG,env',ds,r1,bu.mono s1 _ _ p2,e2,λσ2 H2 F2 r2 s2 t2=>q σ2 H2 F2 r2 (s1.trans s2) (t2.trans t1)⟩⟩
theorem di{e:Expr}{ev:Ev}(h:WQ X C e ev):SX X C e ev:=⟨Ev.Tj.px h.u⟩
theorem cT(i:Nat)(G:Good X C)(hb:Lw X C y b)(hN:X.N[i]? = some n:=by rfl)(hv:vZ X.env.scope n:=by first|exact Or.inl rfl|exact Or.inr (Or.inl rfl)|exact Or.inr (Or.inr rfl))(hs:qw y:=by intro _ _;rfl)(hd:ju n:=by decide)(hcd:vG n:=by decide):SX X C (.Subscript (.Name n px) y pos) (az dF i b):=⟨Zc i G.K hN hv hb.u hs hd hcd⟩
theorem jr{k k':Nat}{m:Nat}{ps:List Str}{g:List D->Option (D×D)}{v:Str}{pv:Pos}(i:Nat)(O:Own X.prog X.w X.K X.mg X.base n k ps (xg X.K m g))(G:Good X C)(hr:gY k' X.A)(ha:Hs X C es ea)(hn:∀env ds env',ea env = .ok ds env'->ds.length+1=m)(hk:Nat.ble k k'=true:=by rfl)(hN:X.N[i]? = some v:=by rfl)(hv:vZ X.env.scope v:=by first|exact Or.inl rfl|exact Or.inr (Or.inl rfl)|exact Or.inr (Or.inr rfl))(hg:Gl X n:=by rfl)(hdb:ju n:=by decide)(he:starEach (.Name v pv::es) X.env=(false,eval (.Name v pv) X.env)::starEach es X.env:=by rfl)(hpl:(backTo pos (starEach es X.env)).any (·.1)=false:=by rfl)(hd:ju v:=by decide)(hcd:vG v:=by decide):SX X C (.Call (.Name n p) (.Name v pv::es) [] pos) (cX g i ea):=⟨by
 obtain⟨f,fd,h1,h2,h3,h4⟩:=O;rw[G.K] at h1;have h1':mR X.prog X.w X.K X.mg X.base Ec k f fd ps (xg C.K m g):=by rw[G.K];exact h1
 exact ade hN hv h1' (hr.mono (Qj9 hk)) hg h2 h3 h4 ha.u hn hdb he hpl hd hcd⟩
theorem gD{op:Operator}{g:D->D->Option D}(o:Bi X C op g)(ha:SX X C x a)(hb:Lw X C y b):SX X C (.BinOp x op y pos) (aF g a b):=⟨let ⟨_,h1,h2⟩:=o.ex;ada h1 h2 ha.u hb.u⟩
theorem kJ{e:Expr}{es:List Expr}{a:Ev}{r:dg}(ha:SX X C e a)(hr:SXL X C es r)(hs:starEach (e::es) X.env=(false,eval e X.env)::starEach es X.env:=by rfl):SXL X C (e::es) (aa a r):=⟨⟨Ev.Fw ha.u hr.u.go hs⟩⟩
theorem iZ{op:Operator}{g:D->D->Option D}(i:Nat)(o:Bi X C op g)(hb:Lw X C y b)(hN:X.N[i]? = some n:=by rfl)(hv:vZ X.env.scope n:=by first|exact Or.inl rfl|exact Or.inr (Or.inl rfl)|exact Or.inr (Or.inr rfl))(hd:ju n:=by decide)(hcd:vG n:=by decide):SX X C (.BinOp (.Name n px) op y pos) (az g i b):=⟨let ⟨_,h1,h2⟩:=o.ex;Y9 i hN hv h1 h2 hb.u hd hcd⟩
theorem cU{c:Expr}{a b:List Stmt}{t:eO}{ea eb:bH}(hc:JR X C c t)(ha:fU X C a ea)(hb:fU X C b eb):zV X C (.If c a b pos) (dJ t ea eb):=⟨(Xp hc.u ha.u hb.u).imp λD σ H h=>by
 obtain⟨Pr,F,env,r,f⟩:=h;obtain⟨k,aG,e1,f1⟩:=cJ f;refine⟨Pr,F,env,aG,k,r,e1,λH1 F1 r1 s1=>?_⟩;split at f1
 ·rename_i hk;rw[if_pos hk];exact⟨Pr,F1,aG,r1,f1.mono s1⟩
 ·rename_i hk;rw[if_neg hk];exact⟨Pr,F1,aG,r1,f1.mono s1⟩⟩
theorem cH{es:List Expr}{r:dg}(h:Hs X C es r):WQ X C (.List es pos) (cu r):=⟨Ev.Kd h.u⟩
theorem bW  : fU X C [] bU:=⟨Ev.Qp ⟩
theorem gK{tg:Expr}(G:Good X C)(h:SX X C x a):SXI X C tg x (gf a):=⟨Uu G.K h.u⟩
theorem qZ{b:Bool}{j:Nat}:SX X C (.Constant (.bool b) j pos) (rQ (.bl b)):=⟨Ev.adf ⟩
theorem oM{elt tg iter:Expr}{ifs:List Expr}{scope:Scope}(N':List Str){it:dg}{g:GV}{cc:eO}{ee:Ev}(lo:Nat)(ok:lJ X scope N')(G:Good X C)(hi:SXI X C tg iter it)(bg:∀X',jq X scope N' X'->Yj X' C lo tg g)(bc:∀X',jq X scope N' X'->WR X' C ifs cc)(be:∀X',jq X scope N' X'->SX X' C elt ee)(hs:∀x,foldedSetIterable iter X.env x=pure x:=by intro _;rfl):WQ X C (.ListComp elt [⟨tg,iter,ifs,0⟩] scope pos) (fC lo N'.length it g cc ee):=⟨Ev.afK N' lo ok G hi.u (λX1 h1=>(bg X1 h1).u) (λX1 h1=>(bc X1 h1).u) (λX1 h1=>(be X1 h1).u) hs⟩
theorem gZ(G:Good X C)(hm:X.mg "len" = none)(ha:uy X C [e] ea)(hg:Gl X "len":=by rfl)(he:Ed e X.env:=by rfl):SX X C (.Call (.Name "len" p) [e] [] pos) (ao d7 ea):=⟨lg (by rw[<-G.K];exact Su) abu hg hm PySem.boot_len ha.u (by decide) (by decide) he rfl⟩
theorem ir{e:Expr}{a:Ev}(h:SX X C e a)(he:∀whole,isTrue e X.env whole=(do let v <-whole;standAt e.pos;holding [v] (truthy v)):=by intro _;rfl):JR X C e (eY a):=⟨(Zh h.u he).imp λσ H Q hq=>Pa hq⟩
theorem bY{lo:Nat}:WT X C lo [] cQ:=⟨Ev.Qw ⟩
theorem fJ{lo:Nat}{k:Nat}{gs:Tq}{m:Nat}(G:Good X C)(h:WT X C lo es gs)(hn:(assignEach es X.env).length=m:=by rfl)(hst:(assignEach es X.env).findIdx? (·.1)=none:=by rfl):Yj X C lo (.Tuple es k pos) (cP m gs):=⟨Uv G.calm G.K h.u hn hst⟩
theorem gk{X:Cx}{C:Cfg}:WR X C [] dh:=⟨Ev.Qv ⟩
theorem kZ{tg iter:Expr}{body:List Stmt}{it:dg}{g:GV}{bs:bH}(G:Good X C)(hi:SXI X C tg iter it)(hg:Yj X C 0 tg g)(hb:fU X C body bs)(hp:PassesOwn (model X.prog X.w) X.A X.env X.xe:=by exact PassesOwn.never)(hs:∀x,foldedSetIterable iter X.env x=pure x:=by intro _;rfl):zV X C (.For tg iter body [] pos) (gq it g bs):=⟨Uq hp G.calm hi.u hg.u hb.u hs⟩
theorem jx{op:CmpOp}{g:D->D->Option D}(o:Cm X C op g)(ha:SX X C x a)(hb:Lw X C y b)(hm:behindInMarks op y=false:=by rfl):JR X C (.Compare x [op] [y] pos) (eY (aF g a b)):=⟨let ⟨_,h1,h2⟩:=o.ex;Ul h1 h2 ha.u hb.u hm⟩
theorem gH{pos':Pos}(i:Nat)(he:WQ X C e a)(hnd:lA X.N=true:=by rfl)(hfx:C.fx i=none:=by rfl)(hi:X.N[i]? = some n:=by rfl)(hx:Loc X.env.scope n:=by first|exact Or.inl rfl|exact Or.inr rfl)(hs:swapsWith e (some (.Name n pos')) pos.line X.env=pure false:=by rfl)(hf:X.fn n=true\/X.env.scope.names.lookup n=some .local:=by first|exact .inl rfl|exact .inr rfl):zV X C (.Assign [.Name n pos'] e pos) (dO i a):=⟨Uo (iR hnd) hi hx hfx he.u hs hf⟩
theorem dZ(G:Good X C)(hm:X.mg "tuple" = none)(ha:uy X C [e] ea)(hg:Gl X "tuple":=by rfl)(he:Ed e X.env:=by rfl):SX X C (.Call (.Name "tuple" p) [e] [] pos) (ao cA ea):=⟨qm (T:="tuple") (r:=Qd C.K) (by rw[<-G.K];exact Am) Sd hg hm (by decide +kernel) ha.u (by decide) (by decide) he rfl⟩
theorem mU(G:Good X C)(ha:SX X C x a)(hb:Lw X C y b)(hs:qw y:=by intro _ _;rfl):SX X C (.Subscript x y pos) (aF dF a b):=⟨adb G.K ha.u hb.u hs⟩
theorem gQ{op:CmpOp}{g:D->D->Option D}(i:Nat)(o:Cm X C op g)(hb:Lw X C y b)(hN:X.N[i]? = some n:=by rfl)(hv:vZ X.env.scope n:=by first|exact Or.inl rfl|exact Or.inr (Or.inl rfl)|exact Or.inr (Or.inr rfl))(hm:behindInMarks op y=false:=by rfl)(hd:ju n:=by decide)(hcd:vG n:=by decide):JR X C (.Compare (.Name n px) [op] [y] pos) (eY (az g i b)):=⟨by
 obtain⟨r,h1,h2⟩:=o.ex;exact(Kl h1 (iG hN hv hd hcd) hb.u hm).imp λσ H Q h=>qu h2 σ H _ (Pa h)⟩
theorem eV{tg e:Expr}{a:Ev}{g:GV}(he:SX X C e a)(hg:Yj X C 0 tg g)(hs:swapsWithSole [tg] e pos.line X.env=pure false:=by rfl)(hw:swappedStores [tg] e X.env=pure none:=by rfl)(h1:(assignEach [tg] X.env).map (·.2)=[assign tg X.env]:=by rfl):zV X C (.Assign [tg] e pos) (aN a g):=⟨(Zq he.u hg.u hs hw h1).imp λD σ H h=>abB h⟩
theorem vo{e:Expr}{a:Ev}(h:SX X C e a):SXP X C (some e) (Hr a):=⟨(UW h.u).imp λσ H Q hq=>by
 obtain⟨Pr,F,env,env',o,r,e,q⟩:=hq;obtain⟨d,aG,e1,e2⟩:=aY e;refine⟨Pr,F,env,aG,d,r,e1,λv H1 F1 r1 s1 p1=>?_⟩;cases d with
 | int i=>cases e2;exact⟨i,p1,q H1 F1 r1 s1⟩
 | _=>cases e2⟩
theorem tD{x:Expr}{a:eO}(h:JR X C x a):JR X C (.UnaryOp .Not x pos) (pU a):=⟨(Zj h.u).imp λσ H Q hq=>by
 obtain⟨Pr,F,env,env',b,rl,e,q⟩:=hq;obtain⟨c,aG,e1,e2⟩:=aY e;cases e2;exact⟨Pr,F,env,env',c,rl,e1,λH1 F1 r1 s1=>q H1 F1 r1 s1⟩⟩
theorem uA{e:Expr}{a:eO}(h:SXW X C e a):JR X C e a:=⟨Ev.PXW.pt h.u⟩
theorem tV{tg:Expr}(hm:X.mg "range" = none)(ha:Hs X C [e] ea)(hl:∀env ds env',ea env = .ok ds env'->ds.length=1)(hg:Gl X "range":=by rfl)(hs:starEach [e] X.env=[(false,eval e X.env)]:=by rfl):SXI X C tg (.Call (.Name "range" p) [e] [] pos) (iw ea):=⟨IW hg hm ha.u hl hs⟩
theorem nH{op:CmpOp}{g:D->D->Option D}(i:Nat)(o:Cm X C op g)(hb:Lw X C y b)(hN:X.N[i]? = some n:=by rfl)(hv:vZ X.env.scope n:=by first|exact Or.inl rfl|exact Or.inr (Or.inl rfl)|exact Or.inr (Or.inr rfl))(hm:behindInMarks op y=false:=by rfl)(hd:ju n:=by decide)(hcd:vG n:=by decide):SX X C (.Compare (.Name n px) [op] [y] pos) (az g i b):=⟨by
 obtain⟨r,h1,h2⟩:=o.ex;exact(Kp h1 (iG hN hv hd hcd) hb.u hm).imp (qu h2)⟩
theorem ql{j:Nat}:SX X C (.Constant .none j pos) (rQ .non):=⟨Ev.Za ⟩
theorem Ja{e:Expr}{es:List Expr}{a:Ev}{r:dg}(ha:SX X C e a)(hr:uy X C es r)(hs:starEach (e::es) X.env=(false,eval e X.env)::starEach es X.env:=by rfl):uy X C (e::es) (aa a r):=⟨(gw ha.u hr.u hs).imp λσ H Q h=>by
  obtain⟨Pr,F,env,env',ds,rl,e,q⟩:=h;obtain⟨d1,aG,e1,e2⟩:=aY e;obtain⟨ds2,fK,e3,e4⟩:=aY e2;cases e4;refine⟨Pr,F,env,aG,d1,rl,e1,λv H1 F1 r1 s1 p1=>?_⟩;refine⟨Pr,F1,aG,env',ds2,r1,e3,λvs H2 F2 r2 s2 p2=>?_⟩;exact q _ H2 F2 r2 (s1.trans s2) ⟨v,vs,rfl,.inl (Rep.mono s2 d1 v p1),p2⟩⟩
theorem xF{op:BoolOp}{x:Expr}{a:Ev}(h:SX X C x a):SX X C (.BoolOp op [x] pos) a:=⟨ZG h.u⟩
theorem j7{apos cpos:Pos}(i:Nat)(G:Good X C)(he:SX X C e a)(hN:X.N[i]? = some n:=by rfl)(hv:vZ X.env.scope n:=by first|exact Or.inl rfl|exact Or.inr (Or.inl rfl)|exact Or.inr (Or.inr rfl))(hs:swapsWith (.Call (.Attribute (.Name n px) "append" apos) [e] [] cpos) none pos.line X.env=pure false:=by rfl) (hfew:((backTo cpos (starEach [e] X.env)).all (λx=>!x.1)&&(backToKw cpos (keywordEach [] X.env)).all (λx=>x.1.isSome)
   && decide (([e]:List Expr).length+([]:List Keyword).length+(if ([]:List Keyword).isEmpty then 0 else 1)<30))=true:=by rfl) (hbase:attributeBase (.Name n px) "append" X.env (eval (.Name n px) X.env)=eval (.Name n px) X.env:=by rfl) (hline:(apos.endLine == cpos.line)=true:=by rfl) (hst:Ed e X.env:=by rfl) (hplain:(backTo cpos (starEach [] X.env)).any (·.1)=false:=by rfl) (hd:ju n:=by decide) (hcd:vG n:=by decide):zV X C (.Expr (.Call (.Attribute (.Name n px) "append" apos) [e] [] cpos) pos) (fM i a):=⟨Ur hN hv he.u G.K hs hfew hbase hline hst hplain hd hcd⟩
theorem Ms  : SXP X C none GX:=⟨Ev.Qs ⟩
theorem Uz{x y:Expr}{rest:List Expr}{a b:Ev}(ha:SX X C x a)(hb:SX X C (.BoolOp .And (y::rest) pos) b):SX X C (.BoolOp .And (x::y::rest) pos) (qJ a b):=⟨(ZP ha.u hb.u).imp λσ H Q hq=>by
  obtain⟨Pr,F,env,env',k,rl,e,q⟩:=hq;obtain⟨c,aG,e1,e2⟩:=aY e;refine⟨Pr,F,env,aG,c,rl,e1,λv H1 F1 r1 s1 p1=>?_⟩;cases c with
  | bl z=>
   refine⟨z,p1,?_⟩;cases z with
   | true=>exact adR ⟨Pr,F1,aG,env',k,r1,e2,λv2 H2 F2 r2 s2 p2=>q v2 H2 F2 r2 (s1.trans s2) p2⟩
   | false=>cases e2;exact adS (q _ H1 F1 r1 s1 rfl)
  | _=>cases e2⟩
theorem CV{x y:Expr}{rest:List Expr}{a b:eO}(ha:JR X C x a)(hb:SXW X C (.BoolOp .Or (y::rest) pos) b):SXW X C (.BoolOp .Or (x::y::rest) pos) (wI a b):=⟨(pw_or ha.u hb.u).imp λσ H Q hq=>by
  obtain⟨Pr,F,env,env',k,rl,e,q⟩:=hq;obtain⟨c,aG,e1,e2⟩:=aY e;refine⟨Pr,F,env,aG,c,rl,e1,λH1 F1 r1 s1=>?_⟩;split at e2
  ·rename_i hc;rw[if_pos hc];cases e2;exact q H1 F1 r1 s1
  ·rename_i hc;rw[if_neg hc];exact⟨Pr,F1,aG,env',k,r1,e2,λH2 F2 r2 s2=>q H2 F2 r2 (s1.trans s2)⟩⟩
theorem Yt(G:Good X C)(hm:X.mg "all" = none)(ha:uy X C [e] ea)(hg:Gl X "all":=by rfl)(he:Ed e X.env:=by rfl):SX X C (.Call (.Name "all" p) [e] [] pos) (ao Wa ea):=⟨lg (by rw[<-G.K];exact Oa G.calm) abv hg hm (by decide +kernel) ha.u (by decide) (by decide) he rfl⟩
theorem Ft{x:Expr}{a:eO}(h:JR X C x a):SXW X C (.BoolOp .Or [x] pos) a:=⟨pw_or1 h.u⟩
theorem Kf{T:String}{xT:Str}{e:Expr}{a:Ev}{p q pos:Pos}(hg:Gl X "isinstance")(hm:X.mg "isinstance" = none)(V1:Gl X xT)(hmT:X.mg xT=none)(hvT:bootBuiltins xT=some (.type T))(hk:∀d:D,PySem.W.kitOne X.K (.type (TV d)) (.type T)=some (tU d T))(hK:X.K=C.K)(ha:SX X C e a)(hn:xT ≠ "__name__":=by decide)(hd:ju xT:=by decide)(he:starEach [e,.Name xT q] X.env=(false,eval e X.env)::starEach [.Name xT q] X.env:=by rfl):SX X C (.Call (.Name "isinstance" p) [e,.Name xT q] [] pos) (oX (Jy T) a):=⟨by
 refine(pI (Sv hk) hg hm boot_isinstance (gw ha.u (gw (Kq (v:=.ty T) V1 hmT hvT rfl hn hd) nW) he) (by decide) (by decide) he rfl).imp λσ H Q h=>?_;obtain⟨Pr,F,env,env',d,rl,e1,qq⟩:=h;obtain⟨d0,aG,e2,e3⟩:=aY e1;obtain⟨e4,rfl⟩:=gb e3;obtain⟨nc,rfl⟩:=V8 e4;refine⟨Pr,F,env,env',d0,rl,e2,λv H1 F1 r1 s1 p1=>⟨d0,v,rfl,nc,?_,qq _ H1 F1 r1 s1 rfl⟩⟩;rw[hK];exact Rep.mono r1.fr d0 v p1⟩
theorem vq{X:Cx}{C:Cfg}{c:Expr}{t:eO}(h:JR X C c t):WR X C [c] t:=⟨U3 h.u⟩
theorem aav{k k':Nat}{m:Nat}{ps:List Str}{g:List D->Option D}(O:Own X.prog X.w X.K X.mg X.base n k ps (YM X.K m g))(G:Good X C)(hr:gY k' X.A)(ha:Hs X C (e::es) ea)(hn:∀env ds env',ea env = .ok ds env'->ds.length=m)(hk:Nat.ble k k'=true:=by rfl)(hg:Gl X n:=by rfl)(hdb:ju n:=by decide)(he:starEach (e::es) X.env=(false,eval e X.env)::starEach es X.env:=by rfl)(hpl:(backTo pos (starEach es X.env)).any (·.1)=false:=by rfl):WQ X C (.Call (.Name n p) (e::es) [] pos) (ao g ea):=⟨by
 obtain⟨f,fd,h1,h2,h3,h4⟩:=O;rw[G.K] at h1;have h1':mR X.prog X.w X.K X.mg X.base Ec k f fd ps (YM C.K m g):=by rw[G.K];exact h1
 exact Us h1' (hr.mono (Qj9 hk)) hg h2 h3 h4 ha.u hn hdb he hpl⟩
theorem yh{x y:Expr}{rest:List Expr}{a b:eO}(ha:JR X C x a)(hb:SXW X C (.BoolOp .And (y::rest) pos) b):SXW X C (.BoolOp .And (x::y::rest) pos) (lC a b):=⟨(pw_and ha.u hb.u).imp λσ H Q hq=>by
  obtain⟨Pr,F,env,env',k,rl,e,q⟩:=hq;obtain⟨c,aG,e1,e2⟩:=aY e;refine⟨Pr,F,env,aG,c,rl,e1,λH1 F1 r1 s1=>?_⟩;split at e2
  ·rename_i hc;rw[if_pos hc];exact⟨Pr,F1,aG,env',k,r1,e2,λH2 F2 r2 s2=>q H2 F2 r2 (s1.trans s2)⟩
  ·rename_i hc;rw[if_neg hc];cases e2;exact q H1 F1 r1 s1⟩
theorem tH{x:Str}{v:V}{u:Value}(d:D)(hg:Gl X x)(hm:X.mg x=some u)(rv:RelV v u)(hr:∀F,Rep C.K F d v)(hd:ju x:=by decide):SX X C (.Name x pos) (rQ d):=⟨(Ko hg hm rv hd).imp λσ H Q h=>by
  obtain⟨Pr,F,env,env',d,r,e,q⟩:=h;cases e;exact q _ _ F r (aH.refl F) (hr F)⟩
theorem JZ{o:Expr}{apos cpos:Pos}(G:Good X C)(ho:SX X C o a)(he:Lw X C e b)(hbase:attributeBase o "join" X.env (eval o X.env)=eval o X.env:=by rfl)(hs:Ed e X.env:=by rfl) (hfew:((backTo cpos (starEach [e] X.env)).all (λx=>!x.1)&&(backToKw cpos (keywordEach [] X.env)).all (λx=>x.1.isSome)
   && decide ([e].length+([]:List Keyword).length+(if ([]:List Keyword).isEmpty then 0 else 1)<30))=true:=by rfl) (hline:(apos.endLine == cpos.line)=true:=by rfl) (hplain:(backTo cpos (starEach [] X.env)).any (·.1)=false:=by rfl):SX X C (.Call (.Attribute o "join" apos) [e] [] cpos) (aF qG a b):=⟨Ux G.K ho.u he.u hbase hs hfew hline hplain⟩
theorem W8{lo hi:Option Expr}{el eh:Yp}{p2:Pos}(G:Good X C)(ha:SX X C x a)(hl:SXP X C lo el)(hh:SXP X C hi eh):SX X C (.Subscript x (.Slice lo hi none p2) pos) (zf a el eh):=⟨ac9 G.K ha.u hl.u hh.u⟩
theorem vm{x:Expr}{a:eO}(h:JR X C x a):SXW X C (.BoolOp .And [x] pos) a:=⟨pw_and1 h.u⟩
theorem Ys{op:CmpOp}{g:D->D->Option D}(o:Cm X C op g)(ha:SX X C x a)(hb:Lw X C y b)(hm:behindInMarks op y=false:=by rfl):SX X C (.Compare x [op] [y] pos) (aF g a b):=⟨let ⟨_,h1,h2⟩:=o.ex;Zg h1 h2 ha.u hb.u hm⟩
theorem Qu  : SXL X C [] aj:=⟨Ev.Ut ⟩
theorem Vp{es:List Expr}{a:dg}(h:SXL X C es a):WQ X C (.List es pos) (cu a):=⟨Ev.Kd h.u.go⟩
theorem Ox(i:Nat)(G:Good X C)(hb:Lw X C y b)(hN:X.N[i]? = some n:=by rfl)(hv:vZ X.env.scope n:=by first|exact Or.inl rfl|exact Or.inr (Or.inl rfl)|exact Or.inr (Or.inr rfl))(hs:Og y:=by intro _ _;rfl)(hd:ju n:=by decide)(hcd:vG n:=by decide):SX X C (.Subscript (.Name n px) y pos) (az jT i b):=⟨Qy i G.u1 hN hv hb.u hs hd hcd⟩
theorem Mt  : WQ X C (.Dict [] [] pos) zg:=⟨Ev.Qt ⟩
theorem Av(G:Good X C)(hm:X.mg "sorted" = none)(ha:uy X C [e] ea)(hg:Gl X "sorted":=by rfl)(he:Ed e X.env:=by rfl):SX X C (.Call (.Name "sorted" p) [e] [] pos) (ao gA ea):=⟨Mu G.K G.calm hg hm ha.u he rfl⟩
theorem Jb{x y:Expr}{rest:List Expr}{a b:Ev}(ha:SX X C x a)(hb:SX X C (.BoolOp .Or (y::rest) pos) b):SX X C (.BoolOp .Or (x::y::rest) pos) (Dw a b):=⟨(adh ha.u hb.u).imp λσ H Q hq=>by
  obtain⟨Pr,F,env,env',k,rl,e,q⟩:=hq;obtain⟨c,aG,e1,e2⟩:=aY e;refine⟨Pr,F,env,aG,c,rl,e1,λv H1 F1 r1 s1 p1=>?_⟩;cases c with
  | bl z=>
   refine⟨z,p1,?_⟩;cases z with
   | true=>cases e2;exact adR (q _ H1 F1 r1 s1 rfl)
   | false=>exact adS ⟨Pr,F1,aG,env',k,r1,e2,λv2 H2 F2 r2 s2 p2=>q v2 H2 F2 r2 (s1.trans s2) p2⟩
  | _=>cases e2⟩
theorem JX(G:Good X C)(hm:X.mg "list" = none)(ha:uy X C [e] ea)(hg:Gl X "list":=by rfl)(he:Ed e X.env:=by rfl):SX X C (.Call (.Name "list" p) [e] [] pos) (ao t7 ea):=⟨qm (T:="list") (r:=Qg C.K) (by rw[<-G.K];exact JK G.calm) Wm hg hm (by decide +kernel) ha.u (by decide) (by decide) he rfl⟩
theorem acI{elt tg iter:Expr}{ifs:List Expr}{scope:Scope}(N':List Str){spos py:Pos}{it:dg}{g:GV}{cc:eO}{ee:Ev}(lo:Nat)(i:Nat)(ok:lJ X scope N')(G:Good X C)(hi:SXI X C tg iter it)(bg:∀X',jq X scope N' X'->Yj X' C lo tg g)(bc:∀X',jq X scope N' X'->WR X' C ifs cc)(be:∀X',jq X scope N' X'->SX X' C elt ee)(hnd:lA X.N=true:=by rfl)(hfx:C.fx i=none:=by rfl)(hy:X.N[i]? = some n:=by rfl)(hx:Loc X.env.scope n:=by first|exact Or.inl rfl|exact Or.inr rfl)(hsw:swapsWith (.ListComp elt [⟨tg,iter,ifs,0⟩] scope pos) (some (.Name n py)) spos.line X.env=pure true:=by rfl)(hf:X.fn n=true\/X.env.scope.names.lookup n=some .local:=by first|exact .inl rfl|exact .inr rfl)(hs:∀x,foldedSetIterable iter X.env x=pure x:=by intro _;rfl):zV X C (.Assign [.Name n py] (.ListComp elt [⟨tg,iter,ifs,0⟩] scope pos) spos) (dO i (fC lo N'.length it g cc ee)):=⟨Ev.afz N' lo i ok G hi.u (λX1 h1=>(bg X1 h1).u) (λX1 h1=>(bc X1 h1).u) (λX1 h1=>(be X1 h1).u) hnd hfx hy hx hsw hf hs⟩
theorem Lz{e2:Expr}(G:Good X C)(hm:X.mg "divmod" = none)(ha:uy X C [e,e2] ea)(hg:Gl X "divmod":=by rfl)(he:starEach [e,e2] X.env=(false,eval e X.env)::starEach [e2] X.env:=by rfl)(hpl:(backTo pos (starEach [e2] X.env)).any (·.1)=false:=by rfl):SX X C (.Call (.Name "divmod" p) [e,e2] [] pos) (ao ue ea):=⟨lg Hf N5 hg hm (by decide +kernel) ha.u (by decide) (by decide) he hpl⟩
theorem Fv{e:Expr}{a:Ev}(h:WQ X C e a):zV X C (.Return (some e) pos) (xR a):=⟨(Jd h.u).imp λD σ H hq=>by
 obtain⟨Pr,F,env,r,f⟩:=hq;obtain⟨d,aG,e1,f1⟩:=cJ f;exact⟨Pr,F,env,aG,d,r,e1,λv H1 F1 r1 s1 p1=>f1 v σ H1 F1 r1 s1 p1⟩⟩
theorem ad8{lo:Nat}{ix:Expr}{ev:Ev}(i:Nat)(h:SX X C ix ev)(hN:X.N[i]? = some n:=by rfl)(hv:vZ X.env.scope n:=by first|exact Or.inl rfl|exact Or.inr (Or.inl rfl)|exact Or.inr (Or.inr rfl)) (ha:∀v,assign (.Subscript (.Name n px) ix pos) X.env v=(do
   let ov <-holding [v] (eval (.Name n px) X.env)
   let iv <-holding [v,ov] (eval ix X.env)
   standAt pos
   holding [v,ov,iv] (setItem ov iv v)
   release [v,ov,iv] []):=by intro _;rfl) (hd:ju n:=by decide) (hcd:vG n:=by decide):Yj X C lo (.Subscript (.Name n px) ix pos) (V2 i ev):=⟨Y6 hN hv h.u ha hd hcd⟩
theorem J3{p:Pos}{e:Expr}{ea:dg}(G:Good X C)(hm:X.mg "dict" = none)(ha:uy X C [e] ea)(hg:Gl X "dict":=by rfl)(he:Ed e X.env:=by rfl):SX X C (.Call (.Name "dict" p) [e] [] pos) (ao qH ea):=⟨qm (T:="dict") (r:=Qk C.K) (by rw[<-G.K];exact N8 G.calm) Wq hg hm (by decide +kernel) ha.u (by decide) (by decide) he rfl⟩
theorem Ub{k:Expr}{ek:Ev}{pos':Pos}(i:Nat)(G:Good X C)(hk:SX X C k ek)(he:SX X C e a)(hN:X.N[i]? = some n:=by rfl)(hv:vZ X.env.scope n:=by first|exact Or.inl rfl|exact Or.inr (Or.inl rfl)|exact Or.inr (Or.inr rfl))(hs:swapsWith e (some (.Subscript (.Name n px) k pos')) pos.line X.env=pure false:=by rfl)(hd:ju n:=by decide)(hcd:vG n:=by decide):zV X C (.Assign [.Subscript (.Name n px) k pos'] e pos) (o8 i ek a):=⟨Qq G.u1 hN hv hk.u he.u hs hd hcd⟩
theorem J0(G:Good X C)(ha:SX X C x a)(hb:SX X C y b)(hc:SX X C z c)(m:M2 X x "get" apos y z pos:=by exact⟨by rfl,by rfl,by rfl,by rfl⟩):SX X C (.Call (.Attribute x "get" apos) [y,z] [] pos) (rG a b c):=⟨by
 refine(QV G.u1 ha.u hb.u hc.u m).imp λσ H Q hq=>?_;obtain⟨Pr,F,env,env',d,rl,e,q⟩:=hq;obtain⟨u,aG,e1,e2⟩:=aY e;obtain⟨k,fK,e3,e4⟩:=aY e2;obtain⟨t,abi,e5,e6⟩:=aY e4;split at e6
 ·rename_i kvs;obtain⟨e7,rfl⟩:=gb e6;obtain⟨kk,hk,rfl⟩:=Qw2.mp (show(qz k).map (λq=>(oV kvs q).getD t)=some d from e7);refine⟨Pr,F,env,aG,.dct kvs,rl,e1,λvu H1 F1 r1 s1 p1=>?_⟩;obtain⟨z1,a1,ks,rfl,h1,h2⟩:=gC.dct r1.fr (.inl p1);refine⟨a1,rfl,.inl ⟨ks,h1⟩,Pr,F1,aG,fK,k,r1,e3,λvk H2 F2 r2 s2 p2=>⟨Pr,F2,fK,env',t,r2,e5,λvt H3 F3 r3 s3 p3=>?_⟩⟩;obtain⟨z2,a2,ks2,ea,h3,h4⟩:=gC.dct r3.fr (.inl (Rep.mono (s2.trans s3) _ _ p1));cases ea;cases Rx hk (.inl (Rep.mono s3 _ _ p2):gC C.K F3 H3 k vk);refine⟨uK ks2 kk,.inl ⟨ks2,kk,h3,rfl,rfl⟩,?_⟩;rcases h4.val kk with ⟨g1,g2⟩|⟨d',v',g1,g2,g3⟩
  ·rw[g2];rw[g1] at q;exact q _ H3 F3 r3 ((s1.trans s2).trans s3) p3
  ·rw[g2];rw[g1] at q;exact q _ H3 F3 r3 ((s1.trans s2).trans s3) g3
 ·cases e6⟩
theorem aaW{elts:List Expr}{k:Nat}{tp p:Pos}{ea:dg}(G:Good X C)(hm:X.mg "zip" = none)(ha:Hs X C [e,e2] ea)(hg:Gl X "zip":=by rfl)(hs:starEach [e,e2] X.env=(false,eval e X.env)::starEach [e2] X.env:=by rfl)(hs2:starEach [e2] X.env=[(false,eval e2 X.env)]:=by rfl):SXI X C (.Tuple elts k tp) (.Call (.Name "zip" p) [e,e2] [] pos) (GR ea):=⟨by
 have h:=Zx (elts:=elts) (k:=k) (tp:=tp) (p:=p) (pos:=pos) hg hm ha.u hs hs2;rw[G.K] at h;refine h.imp λσ H R hq=>?_;obtain⟨Pr,F,env,env',ds,r,e,q⟩:=hq;obtain⟨as,aG,e1,e2⟩:=aY e;refine⟨Pr,F,env,aG,as,r,e1,λvs H1 F1 r1 s1 p1=>?_⟩;split at e2
 ·rename_i xs ys;cases e2;obtain⟨v,w,rfl,p2,v2,w2,rfl,p3,p4⟩:=p1;cases p4;obtain⟨z1,a1,us,rfl,h1,h2⟩:=p2;obtain⟨z2,a2,ws,rfl,h3,h4⟩:=p3;have l1:=h2.length;have l2:=h4.length;refine⟨a1,a2,rfl,⟨us,aH.tupK r1.fr h1⟩,⟨ws,aH.tupK r1.fr h3⟩,q _ H1 F1 r1 s1 λi H2 s2=>⟨λ_ ei=>⟨us,ws,aH.tupK s2 h1,aH.tupK s2 h3,?_⟩,λd hd=>?_⟩⟩
  ·have:(rR xs ys).length=min xs.length ys.length:=by unfold rR;rw[Qqv,List.length_zip]
   omega
  ·unfold rR at hd;rw[Qx1] at hd;obtain⟨⟨c,j⟩,hc,rfl⟩:=Qw2.mp hd;obtain⟨g1,g2⟩:=List.getElem?_zip_eq_some.mp hc;obtain⟨v1,k1,k2⟩:=tu h2 g1;obtain⟨v2,k3,k4⟩:=tu h4 g2;refine⟨⟨us,ws,v1,v2,aH.tupK s2 h1,aH.tupK s2 h3,k1,k3⟩,λy H3 hy=>.inr ?_⟩;obtain⟨p,x',y',m1,m2,m3,rfl,rfl⟩:=hy;have n1:=m1 us (aH.tupK s2 h1);have n2:=m2 ws (aH.tupK s2 h3);rw[k1] at n1;rw[k3] at n2;cases n1;cases n2;exact⟨p,_,_,m3,rfl,rfl,rfl,by show 2<=sizeLine;decide,_,_,rfl,k2,_,_,rfl,k4,rfl⟩
 ·cases e2⟩
theorem VP{elts:List Expr}{k:Nat}{tp p:Pos}{ea:dg}(G:Good X C)(hm:X.mg "zip" = none)(ha:Hs X C [e,e2] ea)(hg:Gl X "zip":=by rfl)(hs:starEach [e,e2] X.env=(false,eval e X.env)::starEach [e2] X.env:=by rfl)(hs2:starEach [e2] X.env=[(false,eval e2 X.env)]:=by rfl):SXI X C (.Tuple elts k tp) (.Call (.Name "zip" p) [e,e2] [] pos) (zc ea):=⟨by
 have h:=U5 (elts:=elts) (k:=k) (tp:=tp) (p:=p) (pos:=pos) hg hm ha.u hs hs2;rw[G.K] at h;refine h.imp λσ H R hq=>?_;obtain⟨Pr,F,env,env',ds,r,e,q⟩:=hq;obtain⟨as,aG,e1,e2⟩:=aY e;refine⟨Pr,F,env,aG,as,r,e1,λvs H1 F1 r1 s1 p1=>?_⟩;split at e2
 ·rename_i xs ys;cases e2;obtain⟨v,w,rfl,p2,v2,w2,rfl,p3,p4⟩:=p1;cases p4;obtain⟨z1,a1,us,rfl,h1,h2⟩:=p2;obtain⟨z2,a2,ws,rfl,h3,h4⟩:=p3;have l1:=h2.length;have l2:=h4.length;refine⟨a1,a2,rfl,⟨us,jX.of (r1.fr _ _ h1)⟩,⟨ws,aH.tupK r1.fr h3⟩,q _ H1 F1 r1 s1 λi H2 s2=>⟨λ_ ei=>⟨us,ws,jX.of (s2 _ _ h1),aH.tupK s2 h3,?_⟩,λd hd=>?_⟩⟩
  ·have:(rR xs ys).length=min xs.length ys.length:=by unfold rR;rw[Qqv,List.length_zip]
   omega
  ·unfold rR at hd;rw[Qx1] at hd;obtain⟨⟨c,j⟩,hc,rfl⟩:=Qw2.mp hd;obtain⟨g1,g2⟩:=List.getElem?_zip_eq_some.mp hc;obtain⟨v1,k1,k2⟩:=tu h2 g1;obtain⟨v2,k3,k4⟩:=tu h4 g2;refine⟨⟨us,ws,v1,v2,jX.of (s2 _ _ h1),aH.tupK s2 h3,k1,k3⟩,λy H3 hy=>.inr ?_⟩;obtain⟨p,x',y',m1,m2,m3,rfl,rfl⟩:=hy;have n1:=m1 us (jX.of (s2 _ _ h1));have n2:=m2 ws (aH.tupK s2 h3);rw[k1] at n1;rw[k3] at n2;cases n1;cases n2;exact⟨p,_,_,m3,rfl,rfl,rfl,by show 2<=sizeLine;decide,_,_,rfl,k2,_,_,rfl,k4,rfl⟩
 ·cases e2⟩
theorem Tz(G:Good X C)(hm:X.mg "int" = none)(ha:uy X C [e] ea)(hg:Gl X "int":=by rfl)(he:Ed e X.env:=by rfl):SX X C (.Call (.Name "int" p) [e] [] pos) (ao Bq ea):=⟨qm (T:="int") (r:=Qi) N7 Wo hg hm (by decide +kernel) ha.u (by decide) (by decide) he rfl⟩
theorem Fi{cd:Expr}{body:List Stmt}{bs:bH}(m:Nat)(G:Good X C)(hc:JR X C cd t)(hb:fU X C body bs)(hp:PassesOwn (model X.prog X.w) X.A X.env X.xe:=by exact PassesOwn.never):zV X C (.While cd body [] pos) (cN t bs m):=⟨Mq m hp hc.u hb.u⟩
end
open PySem PySem.W PySem.Calls PyProof.Rows
section
variable{N:Nat}{r:Nat->Nat}
noncomputable abbrev kK(r:Nat->Nat)(p:Array Nat)(i:Nat):Nat:=r (p.getD i 0)
def kUp(r:Nat->Nat)(p:Array Nat)(k:Nat):Prop:=∀i j,i<=j->j<k->kK r p i<=kK r p j
structure KB(N:Nat)(p:Array Nat):Prop where
 pos:1<=N
 perm:p.Perm (List.range N).toArray
theorem KB.size{p:Array Nat}(h:KB N p):p.size=N:=by have:=h.perm.size_eq;simpa using this
theorem KB.lt{p:Array Nat}(h:KB N p)(k:Nat):p.getD k 0<N:=by
 by_cases hk:k<p.size
 ·have e:p.getD k 0=p[k]:=by simp[Array.getD,hk]
  rw[e];have hm:p[k]∈p.toList:=by simp
  have:=(Array.perm_iff_toList_perm.mp h.perm).mem_iff.mp hm
  simpa using this
 ·have e:p.getD k 0=0:=by simp[Array.getD,hk]
  rw[e];exact h.pos
end
open PySem PySem.Spec PyProof.Rows PySem.Calls PySem.W L2
noncomputable def ltB:D->D->Option Bool
 | .bl a,.bl b=>some (decide (b2i a<b2i b))
 | .int a,.int b=>some (decide (a<b))
 | .str a,.str b=>some (decide (a<b))
 | _,_=>none
noncomputable def Vt:List D->List D->Option Bool
 | [],[]=>some false
 | [],_::_=>some true
 | _::_,[]=>some false
 | x::xs,y::ys=>match aZ 40 x y with
  | some true=>Vt xs ys
  | some false=>ltB x y
  | none=>none
noncomputable def XH(t:Bool):D->D->Option Bool
 | .int a,.int b=>some (decide (a<b))
 | .str a,.str b=>some (decide (a<b))
 | .tup xs,.tup ys=>if t=true then Vt xs ys else none
 | _,_=>none
noncomputable def XD(t:Bool):List D->List D->Option Bool
 | [],[]=>some false
 | [],_::_=>some true
 | _::_,[]=>some false
 | x::xs,y::ys=>match aZ 57 x y with
  | some true=>XD t xs ys
  | some false=>XH t x y
  | none=>none
noncomputable def Th(t:Bool):D->D->Option Bool
 | .tup xs,.tup ys=>XD t xs ys
 | _,_=>none
noncomputable abbrev nG:D->D->Option Bool:=Th true
theorem aaD:∀{x y:D} {b:Bool},XH false x y=some b->XH true x y=some b:=by intro x y b h;cases x<;>cases y<;>simp only[XH,reduceCtorEq] at h ⊢<;>first|exact h|(simp at h)
theorem Ri:∀{xs ys:List D} {b:Bool},XD false xs ys=some b->XD true xs ys=some b
 | [],[],_,h=>h
 | [],_::_,_,h=>h
 | _::_,[],_,h=>h
 | x::xs,y::ys,b,h=>by
  unfold XD at h ⊢;split at h
  ·exact Ri h
  ·exact aaD h
  ·cases h
theorem aaB{x y:D}{b:Bool}(h:Th false x y=some b):nG x y=some b:=by cases x<;>cases y<;>simp only[Th,reduceCtorEq] at h;exact Ri h
noncomputable def aaQ:D->Bool
 | .tup (.tup _::_)=>true
 | _=>false
noncomputable def aaS:D->Bool
 | .tup (.int _::_)=>true
 | _=>false
noncomputable def aaR:D->Bool
 | .tup (.str _::_)=>true
 | _=>false
noncomputable def Nm(x:D):List D->List D
 | []=>[x]
 | y::r=>if nG y x=some true then y::Nm x r else x::y::r
noncomputable def bL:List D->List D
 | []=>[]
 | x::r=>Nm x (bL r)
noncomputable def okP:Nat->D->Bool
 | n+1,.tup xs=>xs.all (okP n)
 | _+1,.str _=>true
 | _+1,.int _=>true
 | _+1,.bl _=>true
 | _+1,.non=>true
 | _,_=>false
def lF(ds:List D):Prop:=ds.length<2\/((ds.length<=1000/\∀d∈ds,okP 60 d=true)/\((((∀d∈ds,aaS d=true)\/∀d∈ds,aaR d=true)/\∀x∈ds,∀y∈ds,Th false x y≠none)\/(∀d∈ds,aaQ d=true)/\∀x∈ds,∀y∈ds,nG x y≠none)/\(∀x∈ds,nG x x=some false)/\
 (∀x∈ds,∀y∈ds,∀z∈ds,nG x y=some true->nG y z=some true->nG x z=some true)/\ds.Pairwise λx y=>nG x y=some true\/nG y x=some true)
instance (ds:List D):Decidable (lF ds):=by unfold lF;exact inferInstance
theorem vP(x:D):∀l,(Nm x l).Perm (x::l)
 | []=>.refl _
 | y::r=>by
  unfold Nm;split
  ·exact((vP x r).cons y).trans (.swap x y r)
  ·exact .refl _
theorem fH:∀l,(bL l).Perm l
 | []=>.refl _
 | x::r=>(vP x (bL r)).trans ((fH r).cons x)
structure jY(S:D->Prop):Prop where
 irr:∀x,S x->nG x x=some false
 tr:∀x y z,S x->S y->S z->nG x y=some true->nG y z=some true->nG x z=some true
 tot:∀x y,S x->S y->x=y\/nG x y=some true\/nG y x=some true
theorem jY.agc{S:D->Prop}(o:jY S){x y:D}(hx:S x)(hy:S y)(h:nG x y=some true):nG y x≠some true:=λh'=>by
 have:=o.tr x y x hx hy hx h h';rw[o.irr x hx] at this;cases this
theorem jY.agd{S:D->Prop}(o:jY S){x y:D}(hx:S x)(hy:S y)(h:nG y x≠some true)(h':nG x y≠some true):x=y:=by
 rcases o.tot x y hx hy with e|e|e
 ·exact e
 ·exact absurd e h'
 ·exact absurd e h
theorem jY.afL{S:D->Prop}(o:jY S){x y z:D}(hx:S x)(hy:S y)(hz:S z)(h:nG y x≠some true)(h':nG z y≠some true):nG z x≠some true:=λc=>by
 rcases o.tot x y hx hy with e|e|e
 ·subst e;exact h' c
 ·exact h' (o.tr z x y hz hx hy c e)
 ·exact h e
theorem wG{S:D->Prop}(o:jY S){x:D}(hx:S x):∀l,(∀y∈l,S y)->l.Pairwise (λa b=>nG b a≠some true)->(Nm x l).Pairwise (λa b=>nG b a≠some true)
 | [],_,_=>List.pairwise_singleton _ _
 | y::r,hl,h=>by
  unfold Nm;have h1:=Qz3.mp h;have hy:=hl y (Qqj ..);have hr:∀z∈r,S z:=λz hz=>hl z (Qqk _ hz);split
  ·rename_i c;refine Qz3.mpr ⟨λz hz=>?_,wG o hx r hr h1.2⟩;rcases Qq7.mp ((vP x r).mem_iff.mp hz) with rfl|hz
   ·exact o.agc hy hx c
   ·exact h1.1 z hz
  ·rename_i c;refine Qz3.mpr ⟨λz hz=>?_,h⟩;rcases Qq7.mp hz with rfl|hz
   ·exact c
   ·exact o.afL hx hy (hr z hz) c (h1.1 z hz)
theorem nM{S:D->Prop}(o:jY S):∀l,(∀y∈l,S y)->(bL l).Pairwise (λa b=>nG b a≠some true)
 | [],_=>.nil
 | x::r,h=>wG o (h x (Qqj ..)) _ (λy hy=>h y (Qqk _ ((fH r).mem_iff.mp hy))) (nM o r λy hy=>h y (Qqk _ hy))
theorem sV{S:D->Prop}(o:jY S){l l':List D}(h:∀y∈l,S y)(p:l'.Perm l)(s:l'.Pairwise (λa b=>nG b a≠some true)):l'=bL l:=by refine List.Perm.eq_of_pairwise (le:=λa b=>nG b a≠some true) (λa b ha hb x y=>o.agd (h a (p.mem_iff.mp ha)) (h b ((fH l).mem_iff.mp hb)) x y) s (nM o l h) (p.trans (fH l).symm)
theorem jY.of{ds:List D}(h1:∀x∈ds,nG x x=some false)(h2:∀x∈ds,∀y∈ds,∀z∈ds,nG x y=some true->nG y z=some true->nG x z=some true)
  (h3:ds.Pairwise λx y=>nG x y=some true\/nG y x=some true):jY (·∈ ds):=by
 refine⟨h1,λx y z a b c=>h2 x a y b z c,λx y hx hy=>?_⟩;obtain⟨i,hi,rfl⟩:=List.mem_iff_getElem.mp hx;obtain⟨j,hj,rfl⟩:=List.mem_iff_getElem.mp hy;have hp:=List.pairwise_iff_getElem.mp h3;rcases Nat.lt_trichotomy i j with c|c|c
 ·exact .inr (hp i j hi hj c)
 ·subst c;exact .inl rfl
 ·exact .inr ((hp j i hj hi c).symm)
theorem vX{α:Type}{p q:α->Bool}:∀(l:List α),(∀x∈l,p x=true->q x=true)->(∃x∈l,q x=true/\p x=false)->l.countP p<l.countP q
 | [],_,h=>by obtain⟨x,hx,_⟩:=h;cases hx
 | a::l,h,e=>by
  have ha:=h a (Qqj ..);have hl:∀x∈l,p x=true->q x=true:=λx hx=>h x (Qqk _ hx);obtain⟨x,hx,e1,e2⟩:=e;rw[List.countP_cons,List.countP_cons];rcases Qq7.mp hx with rfl|hx
  ·have:=List.countP_mono_left hl;rw[e1,e2];simp;omega
  ·have:=vX l hl ⟨x,hx,e1,e2⟩;cases c:p a with
   | true=>rw[ha c];simp;omega
   | false=>simp;omega
noncomputable def Pz(ds:List D)(i:Nat):Nat:=ds.countP λy=>nG y (ds.getD i .non) == some true
theorem Py{ds:List D}(o:jY (·∈ ds)){i j:Nat}(hi:i<ds.length)(hj:j<ds.length):(nG (ds.getD i .non) (ds.getD j .non)=some true)↔Pz ds i<Pz ds j:=by
 have mi:ds.getD i .non∈ds:=by rw[Qwk,Qqy hi];exact Qx7 ..
 have mj:ds.getD j .non∈ds:=by rw[Qwk,Qqy hj];exact Qx7 ..
 constructor
 ·intro h;refine vX ds (λx hx e=>?_) ⟨_,mi,?_,?_⟩
  ·simp only[beq_iff_eq] at e ⊢;exact o.tr _ _ _ hx mi mj e h
  ·simpa using h
  ·rw[o.irr _ mi];rfl
 ·intro h;rcases o.tot _ _ mi mj with e|e|e
  ·unfold Pz at h;rw[e] at h;exact absurd h (Qzj _)
  ·exact e
  ·have:=vX (p:=λy=>nG y (ds.getD j .non) == some true) (q:=λy=>nG y (ds.getD i .non) == some true) ds (λx hx c=>by simp only[beq_iff_eq] at c ⊢;exact o.tr _ _ _ hx mj mi c e) ⟨_,mj,by simpa using e,by rw[o.irr _ mj];rfl⟩;unfold Pz at h;omega
end Ev
namespace ST
open PySem PyProof.Rows
noncomputable def gR:Bool->Keyed->Array Keyed->Nat->Nat->Nat->StateT SortSt Sem (Option Nat):=sortPriv% PySem.Builtin.gallop
noncomputable def byd(left:Bool)(key:Keyed)(arr:Array Keyed)(base i:Nat):StateT SortSt Sem (Option Bool):=do
 let x <-elem' arr (base+i)
 if left then lt' x key else return (<-lt' key x).map (!·)
noncomputable def KY(left:Bool)(key:Keyed)(arr:Array Keyed)(base n lo hi:Nat):StateT SortSt Sem (Option Nat):=do
 let mut lo:=lo
 let mut hi:=hi
 for _ in [0:n] do
  if lo ≥ hi then break
  let m:=lo+(hi - lo) / 2
  let some more <-byd left key arr base m|return none
  if more then lo:=m+1 else hi:=m
 return some hi
theorem aa6(left:Bool)(key:Keyed)(arr:Array Keyed)(base n hint:Nat):gR left key arr base n hint=(do
 let some right <-byd left key arr base hint|return none
 let mut lastofs:=0
 let mut ofs:=1
 if right then
  for _ in [0:n] do
   if ofs ≥ n - hint then break
   let some more <-byd left key arr base (hint+ofs)|return none
   if !more then break
   lastofs:=ofs
   ofs:=2*ofs+1
  KY left key arr base n (hint+lastofs+1) (hint+min ofs (n - hint))
 else
  for _ in [0:n] do
   if ofs ≥ hint+1 then break
   let some found <-byd left key arr base (hint - ofs)|return none
   if found then break
   lastofs:=ofs
   ofs:=2*ofs+1
  KY left key arr base n (hint+1 - min ofs (hint+1)) (hint - lastofs)):=rfl
section
variable{prog:Program}{w:World}{A:Around}{E:Value->Shared->Prop}{s:Shared}{kd:SortKind}{r:Keyed->Nat}{a₀:Array Keyed}
def Ly(prog:Program)(w:World)(A:Around)(E:Value->Shared->Prop)(s:Shared)(kd:SortKind)(r:Keyed->Nat)(a₀:Array Keyed):Prop:=
 ∀x y,x∈a₀->y∈a₀->∀(st:SortSt) (Q:Option Bool->SortSt->Prop),kindOf st=kd->Q (some (decide (r x<r y))) st->wpS (model prog w) A E s (lt' x y) Q st
theorem eU{arr:Array Keyed}{i:Nat}{st:SortSt}{Q:Keyed->SortSt->Prop}(hi:i<arr.size)(h:Q arr[i] st):wpS (model prog w) A E s (elem' arr i) Q st:=by rw[elem'_eq,Array.getElem?_eq_getElem hi];exact wpS_pure h
noncomputable def bB(left:Bool)(r:Keyed->Nat)(key x:Keyed):Bool:=if left then decide (r x<r key) else !decide (r key<r x)
theorem J4(C:Ly prog w A E s kd r a₀){left:Bool}{key:Keyed}{arr:Array Keyed}{base i:Nat}{st:SortSt}{Q:Option Bool->SortSt->Prop}(hk:kindOf st=kd)(hkey:key∈a₀)(rC:∀x∈arr,x∈a₀)(hi:base+i<arr.size)
  (h:Q (some (bB left r key arr[base+i])) st):wpS (model prog w) A E s (byd left key arr base i) Q st:=by
 unfold byd;refine wpS_bind (eU hi ?_);have hx:=rC _ (Array.getElem_mem hi);cases left with
 | true=>exact C _ _ hx hkey st _ hk h
 | false=>exact wpS_bind (C _ _ hkey hx st _ hk (wpS_pure h))
section
variable{left:Bool}{key:Keyed}{arr:Array Keyed}{base n:Nat}{st:SortSt}(C:Ly prog w A E s kd r a₀)(hk:kindOf st=kd)(hkey:key∈a₀)(rC:∀x∈arr,x∈a₀)(hb:base+n<=arr.size)
 (B:Nat->Bool) (hB:∀i (h:base+i<arr.size),i<n->bB left r key arr[base+i]=B i) (hm:∀i j,i<=j->j<n->B j=true->B i=true)
include C hk hkey rC hb hB hm
theorem qe{lo hi:Nat}{Q:Option Nat->SortSt->Prop}(h1:lo<=hi)(h2:hi<=n)(t:∀i,i<lo->B i=true)(f:∀i,hi<=i->i<n->B i=false)
  (h:∀m,m<=n->(∀i,i<m->B i=true)->(∀i,m<=i->i<n->B i=false)->Q (some m) st):wpS (model prog w) A E s (KY left key arr base n lo hi) Q st:=by
 unfold KY;refine wpS_bind (wpS_forRange (I:=λx (c:Option (Option Nat)×Nat×Nat) st'=>st'=st/\c.1=none/\c.2.1<=c.2.2/\c.2.2<=n/\c.2.2 - c.2.1+x<=n/\(∀i,i<c.2.1->B i=true)/\∀i,c.2.2<=i->i<n->B i=false)
  (Q:=λc st'=>wpS (model prog w) A E s _ Q st') ?_ ?_ ⟨rfl,rfl,h1,h2,by(try dsimp only at *);omega,t,f⟩)
 ·rintro x ⟨c,lo,hi⟩ st' _ hx ⟨rfl,e,q1,q2,q3,q4,q5⟩;cases e;dsimp only at q1 q2 q3 q4 q5 ⊢;by_cases hl:lo ≥ hi
  ·rw[if_pos hl];have e:lo=hi:=Nat.le_antisymm q1 hl;subst e;exact wpS_pure (wpS_pure (h lo q2 q4 q5))
  ·rw[if_neg hl];have hmid:lo+(hi - lo) / 2<n:=by omega
   refine wpS_bind (J4 C hk hkey rC (by(try dsimp only at *);omega) ?_);rw[hB _ (by(try dsimp only at *);omega) hmid];cases e:B (lo+(hi - lo) / 2) with
   | true=>exact wpS_pure ⟨rfl,rfl,by(try dsimp only at *);omega,q2,by(try dsimp only at *);omega,λi hi=>hm i _ (by(try dsimp only at *);omega) hmid e,q5⟩
   | false=>
    refine wpS_pure ⟨rfl,rfl,by(try dsimp only at *);omega,by(try dsimp only at *);omega,by(try dsimp only at *);omega,q4,λi hi hn=>?_⟩;cases e':B i with
    | false=>rfl
    | true=>rw[hm _ i hi hn e'] at e;cases e
 ·rintro⟨c,lo,hi⟩ st' ⟨rfl,e,q1,q2,q3,q4,q5⟩;cases e;dsimp only at q1 q2 q3 q4 q5 ⊢;have e:lo=hi:=by omega
  subst e;exact wpS_pure (h lo q2 q4 q5)
theorem o6{hint:Nat}{Q:Option Nat->SortSt->Prop}(hh:hint<n)
  (h:∀m,m<=n->(∀i,i<m->B i=true)->(∀i,m<=i->i<n->B i=false)->Q (some m) st):wpS (model prog w) A E s (gR left key arr base n hint) Q st:=by
 rw[aa6];refine wpS_bind (J4 C hk hkey rC (by(try dsimp only at *);omega) ?_);rw[hB _ (by(try dsimp only at *);omega) hh];have fl:∀i j,i<=j->j<n->B i=false->B j=false:=λi j q1 q2 q3=>by
  cases e:B j with
  | false=>rfl
  | true=>rw[hm i j q1 q2 e] at q3;cases q3
 cases e:B hint with
 | true=>
  dsimp only;rw[if_pos rfl];refine wpS_bind (wpS_forRange (I:=λx (c:Option (Option Nat)×Nat×Nat) st'=>st'=st/\c.1=none/\c.2.1<c.2.2/\x+1<=c.2.2/\hint+c.2.1<n/\B (hint+c.2.1)=true)
   (Q:=λc st'=>wpS (model prog w) A E s _ Q st') ?_ ?_ ⟨rfl,rfl,by decide,by decide,hh,e⟩)
  ·rintro x ⟨c,la,of⟩ st' _ hx ⟨rfl,e,q1,q2,q3,q4⟩;cases e;dsimp only at q1 q2 q3 q4 ⊢;by_cases hl:of ≥ n - hint
   ·rw[if_pos hl];exact wpS_pure (qe C hk hkey rC hb B hB hm (by(try dsimp only at *);omega) (by(try dsimp only at *);omega) (λi hi=>hm i _ (by(try dsimp only at *);omega) q3 q4) (λi hi hn=>by(try dsimp only at *);omega) h)
   ·rw[if_neg hl];refine wpS_bind (J4 C hk hkey rC (by(try dsimp only at *);omega) ?_);rw[hB _ (by(try dsimp only at *);omega) (by(try dsimp only at *);omega)];cases e:B (hint+of) with
    | true=>exact wpS_pure ⟨rfl,rfl,by(try dsimp only at *);omega,by(try dsimp only at *);omega,by(try dsimp only at *);omega,e⟩
    | false=>exact wpS_pure (qe C hk hkey rC hb B hB hm (by(try dsimp only at *);omega) (by(try dsimp only at *);omega) (λi hi=>hm i _ (by(try dsimp only at *);omega) q3 q4) (λi hi hn=>fl _ _ (by(try dsimp only at *);omega) hn e) h)
  ·rintro⟨c,la,of⟩ st' ⟨rfl,e,q1,q2,q3,q4⟩;cases e;dsimp only at q1 q2 q3 q4 ⊢;exact qe C hk hkey rC hb B hB hm (by(try dsimp only at *);omega) (by(try dsimp only at *);omega) (λi hi=>hm i _ (by(try dsimp only at *);omega) q3 q4) (λi hi hn=>by(try dsimp only at *);omega) h
 | false=>
  dsimp only;rw[if_neg (by decide)];refine wpS_bind (wpS_forRange (I:=λx (c:Option (Option Nat)×Nat×Nat) st'=>st'=st/\c.1=none/\c.2.1<c.2.2/\x+1<=c.2.2/\c.2.1<=hint/\B (hint - c.2.1)=false)
   (Q:=λc st'=>wpS (model prog w) A E s _ Q st') ?_ ?_ ⟨rfl,rfl,by decide,by decide,Qxy _,e⟩)
  ·rintro x ⟨c,la,of⟩ st' _ hx ⟨rfl,e,q1,q2,q3,q4⟩;cases e;dsimp only at q1 q2 q3 q4 ⊢;by_cases hl:of ≥ hint+1
   ·rw[if_pos hl];exact wpS_pure (qe C hk hkey rC hb B hB hm (by(try dsimp only at *);omega) (by(try dsimp only at *);omega) (λi hi=>by(try dsimp only at *);omega) (λi hi hn=>fl _ _ hi hn q4) h)
   ·rw[if_neg hl];refine wpS_bind (J4 C hk hkey rC (by(try dsimp only at *);omega) ?_);rw[hB _ (by(try dsimp only at *);omega) (by(try dsimp only at *);omega)];cases e:B (hint - of) with
    | true=>exact wpS_pure (qe C hk hkey rC hb B hB hm (by(try dsimp only at *);omega) (by(try dsimp only at *);omega) (λi hi=>hm i _ (by(try dsimp only at *);omega) (by(try dsimp only at *);omega) e) (λi hi hn=>fl _ _ hi hn q4) h)
    | false=>exact wpS_pure ⟨rfl,rfl,by(try dsimp only at *);omega,by(try dsimp only at *);omega,by(try dsimp only at *);omega,e⟩
  ·rintro⟨c,la,of⟩ st' ⟨rfl,e,q1,q2,q3,q4⟩;cases e;dsimp only at q1 q2 q3 q4 ⊢;exact qe C hk hkey rC hb B hB hm (by(try dsimp only at *);omega) (by(try dsimp only at *);omega) (λi hi=>by(try dsimp only at *);omega) (λi hi hn=>fl _ _ hi hn q4) h
end
end
section
variable{le:Keyed->Keyed->Prop}
structure J(le:Keyed->Keyed->Prop)(X Y out:List Keyed)(i j:Nat):Prop where
 hi:i<=X.length
 hj:j<=Y.length
 perm:out.Perm (X.take i++Y.take j)
 srt:out.Pairwise le
 low:∀x∈out,∀y∈X.drop i++Y.drop j,le x y
theorem J.swap{X Y out:List Keyed}{i j:Nat}(h:J le X Y out i j):J le Y X out j i:=
 ⟨h.hj,h.hi,h.perm.trans List.perm_append_comm,h.srt,λx hx y hy=>h.low x hx y (List.perm_append_comm.mem_iff.mp hy)⟩
theorem J.push{X Y out:List Keyed}{i j:Nat}(h:J le X Y out i j)(hX:X.Pairwise le)(hi:i<X.length)(hY:∀y∈Y.drop j,le X[i] y):J le X Y (out++[X[i]]) (i+1) j:=by
 have e:X.drop i=X[i]::X.drop (i+1):=Qzz hi;have hXd:(X.drop i).Pairwise le:=hX.sublist (List.drop_sublist i X);rw[e,Qz3] at hXd;refine⟨hi,h.hj,?_,?_,λx hx y hy=>?_⟩
 ·rw[List.take_succ_eq_append_getElem hi,Qwj];refine(h.perm.append_right _).trans ?_;rw[Qwj];exact List.perm_append_comm.append_left _
 ·rw[List.pairwise_append];exact⟨h.srt,List.pairwise_singleton _ _,λx hx y hy=>by rw[Qq5.mp hy];exact h.low x hx _ (Qx3 _ (by rw[e];exact Qqj ..))⟩
 ·rcases Qw4.mp hx with hx|hx
  ·refine h.low x hx y ?_;rw[e];rcases Qw4.mp hy with hy|hy
   ·exact Qx3 _ (Qqk _ hy)
   ·exact Qxx _ hy
  ·rw[Qq5.mp hx];rcases Qw4.mp hy with hy|hy
   ·exact hXd.1 y hy
   ·exact hY y hy
theorem J.CW{X Y:List Keyed}{j:Nat}(hX:X.Pairwise le):∀(k i:Nat) (out:List Keyed),J le X Y out i j->i+k<=X.length->(∀m (h:m<X.length),i<=m->m<i+k->∀y∈Y.drop j,le X[m] y)->J le X Y (out++(X.drop i).take k) (i+k) j
 | 0,i,out,h,_,_=>by rw[List.take_zero,Qw0];exact h
 | k+1,i,out,h,hl,hm=>by
  have hi:i<X.length:=by omega
  have:=J.CW hX k (i+1) _ (h.push hX hi (hm i hi (Qq0 _) (by omega))) (by omega) λm q1 q2 q3=>hm m q1 (by omega) (by omega);rw[Qzz hi,List.take_succ_cons];rw[Qwj] at this;have e:i+1+k=i+(k+1):=by omega
  rw[e] at this;exact this
def Good(le:Keyed->Keyed->Prop)(X Y R:List Keyed):Prop:=R.Perm (X++Y)/\R.Pairwise le
theorem Good.swap{X Y R:List Keyed}(h:Good le X Y R):Good le Y X R:=⟨h.1.trans List.perm_append_comm,h.2⟩
theorem J.fin{X Y out L:List Keyed}{i j:Nat}(h:J le X Y out i j)(hp:L.Perm (X.drop i++Y.drop j))(hL:L.Pairwise le):Good le X Y (out++L):=by
 refine⟨?_,?_⟩
 ·refine((h.perm.append_right _).trans (hp.append_left _)).trans ?_;have e1:=List.take_append_drop i X;have e2:=List.take_append_drop j Y;have:(X.take i++Y.take j++(X.drop i++Y.drop j)).Perm ((X.take i++X.drop i)++(Y.take j++Y.drop j)):=by
   rw[Qwj,Qwj];refine List.Perm.append_left _ ?_;rw[<-Qwj,<-Qwj];exact List.perm_append_comm.append_right _
  rw[e1,e2] at this;exact this
 ·rw[List.pairwise_append];exact⟨h.srt,hL,λx hx y hy=>h.low x hx y (hp.mem_iff.mp hy)⟩
theorem p6{X:List Keyed}{i:Nat}(h:X.length<=i):X.drop i=[]:=List.drop_of_length_le h
theorem J.af8{X Y out:List Keyed}{i j:Nat}(h:J le X Y out i j)(hX:X.Pairwise le)(hj:j=Y.length):Good le X Y (out++X.drop i++Y.drop j):=by rw[Qwj];refine h.fin (List.Perm.refl _) ?_;rw[p6 (Nat.le_of_eq hj.symm),Qw0];exact hX.sublist (List.drop_sublist i X)
theorem J.fin2{X Y out:List Keyed}{i j:Nat}(h:J le X Y out i j)(hY:Y.Pairwise le)(hi:i+1=X.length)(hl:∀y∈Y,le y (X[i]'(by omega))):Good le X Y (out++Y.drop j++X.drop i):=by
 rw[Qwj];refine h.fin List.perm_append_comm ?_;have hi':i<X.length:=by omega
 rw[Qzz hi',p6 (X:=X) (i:=i+1) (by omega),List.pairwise_append];exact⟨hY.sublist (List.drop_sublist j Y),List.pairwise_singleton _ _,λx hx y hy=>by rw[Qq5.mp hy];exact hl x (List.mem_of_mem_drop hx)⟩
theorem pw_le{X:List Keyed}(rf:∀x,le x x)(hX:X.Pairwise le){i j:Nat}(hij:i<=j)(hj:j<X.length):le (X[i]'(by omega)) X[j]:=by
 by_cases e:i=j
 ·subst e;exact rf _
 ·exact List.pairwise_iff_getElem.mp hX i j (by omega) hj (by omega)
theorem Lg{X:List Keyed}(rf:∀x,le x x)(hX:X.Pairwise le){i:Nat}(hi:i<X.length){y:Keyed}(hy:y∈X.drop i):le X[i] y:=by obtain⟨m,hm,rfl⟩:=List.mem_iff_getElem.mp hy;rw[List.getElem_drop];rw[Qxj] at hm;exact pw_le rf hX (by omega) (by omega)
end
abbrev SM:=StateT SortSt Sem
noncomputable abbrev setG(st:SortSt)(g:Nat):SortSt:=SortSt.mk' (kindOf st) (arrOf st) (pendingOf st) g (failedOf st)
noncomputable def Mw:Nat->SM Unit:=sortPriv% PySem.Builtin.setMinGallop
theorem UG(g:Nat):Mw g=modify λst=>setG st g:=rfl
noncomputable def mLo:Array Keyed->Array Keyed->SM (Array Keyed):=sortPriv% PySem.Builtin.mergeLo
noncomputable def cat(a b o:Array Keyed)(i j:Nat):Array Keyed:=o++a.extract i a.size++b.extract j b.size
noncomputable abbrev C1:=Option (Array Keyed)×Array Keyed×Nat×Nat×Nat×Nat
abbrev C2:=Option (Array Keyed)×Array Keyed×Nat×Nat×Nat×Nat×Nat
noncomputable abbrev C0:=Option (Array Keyed)×Array Keyed×Nat×Nat×Nat
noncomputable def lo1(a b:Array Keyed)(g:Nat)(o:Array Keyed)(i j p q:Nat):SM (ForInStep C1):=do
 let y <-elem' b j
 let x <-elem' a i
 match <-lt' y x with
 | some v=>
  if v=true then do
   let z <-elem' b j
   if (j+1 == b.size)=true then pure (.done (some (cat a b (o.push z) i (j+1)),o.push z,i,j+1,0,q+1))
   else if q+1 ≥ g then pure (.done (none,o.push z,i,j+1,0,q+1))
   else pure (.yield (none,o.push z,i,j+1,0,q+1))
  else do
   let z <-elem' a i
   if (i+1+1 == a.size)=true then pure (.done (some (cat b a (o.push z) j (i+1)),o.push z,i+1,j,p+1,0))
   else if p+1 ≥ g then pure (.done (none,o.push z,i+1,j,p+1,0))
   else pure (.yield (none,o.push z,i+1,j,p+1,0))
 | _=>pure (.done (some (cat a b o i j),o,i,j,p,q))
noncomputable def Vz(a b o:Array Keyed)(i j g k m:Nat):SM (ForInStep C2):=do
 let z <-elem' a i
 if (i+1+1 == a.size)=true then pure (.done (some (cat b a (o.push z) j (i+1)),o.push z,i+1,j,g,k,m))
 else if (decide (k<7)&&decide (m<7))=true then pure (.done (none,o.push z,i+1,j,g,k,m))
 else pure (.yield (none,o.push z,i+1,j,g,k,m))
noncomputable def VB(a b o:Array Keyed)(i j g k q:Nat):SM (ForInStep C2):=do
 let z <-elem' b j
 if (j+1 == b.size)=true then pure (.done (some (cat a b (o.push z) i (j+1)),o.push z,i,j+1,g,k,q))
 else do
  let x <-elem' a i
  match <-gR true x b (j+1) (b.size - (j+1)) 0 with
  | some m=>
   if m > 0 then
    if (j+1+m == b.size)=true then pure (.done (some (cat a b (o.push z++b.extract (j+1) (j+1+m)) i (j+1+m)),o.push z++b.extract (j+1) (j+1+m),i,j+1+m,g,k,m))
    else Vz a b (o.push z++b.extract (j+1) (j+1+m)) i (j+1+m) g k m
   else Vz a b (o.push z) i (j+1) g k m
  | _=>pure (.done (some (cat a b (o.push z) i (j+1)),o.push z,i,j+1,g,k,q))
noncomputable def Rm(a b o:Array Keyed)(i j p q g:Nat):SM (ForInStep C2):=do
 Mw g
 let y <-elem' b j
 match <-gR false y a i (a.size - i) 0 with
 | some k=>
  if k > 0 then
   if (i+k+1 == a.size)=true then pure (.done (some (cat b a (o++a.extract i (i+k)) j (i+k)),o++a.extract i (i+k),i+k,j,g,k,q))
   else if (i+k == a.size)=true then pure (.done (some (cat a b (o++a.extract i (i+k)) (i+k) j),o++a.extract i (i+k),i+k,j,g,k,q))
   else VB a b (o++a.extract i (i+k)) (i+k) j g k q
  else VB a b o i j g k q
 | _=>pure (.done (some (cat a b o i j),o,i,j,g,p,q))
noncomputable def loS(a b:Array Keyed)(t:Nat)(o:Array Keyed)(i j g:Nat):SM (ForInStep C0):=do
 let c <-forIn [0:t] ((none,o,i,j,0,0):C1) λ_ c=>lo1 a b g c.2.1 c.2.2.1 c.2.2.2.1 c.2.2.2.2.1 c.2.2.2.2.2
 match c.1 with
 | some r=>pure (.done (some r,c.2.1,c.2.2.1,c.2.2.2.1,g))
 | none=>do
  rule "list.sort.gallop"
  let d <-forIn [0:t] ((none,c.2.1,c.2.2.1,c.2.2.2.1,g+1,c.2.2.2.2.1,c.2.2.2.2.2):C2) λ_ d=>
   if d.2.2.2.2.1 > 1 then Rm a b d.2.1 d.2.2.1 d.2.2.2.1 d.2.2.2.2.2.1 d.2.2.2.2.2.2 (d.2.2.2.2.1 - 1) else Rm a b d.2.1 d.2.2.1 d.2.2.2.1 d.2.2.2.2.2.1 d.2.2.2.2.2.2 d.2.2.2.2.1
  match d.1 with
  | some r=>pure (.done (some r,d.2.1,d.2.2.1,d.2.2.2.1,d.2.2.2.2.1))
  | none=>do
   Mw (d.2.2.2.2.1+1)
   pure (.yield (none,d.2.1,d.2.2.1,d.2.2.2.1,d.2.2.2.2.1+1))
theorem adK(a b:Array Keyed):mLo a b=(do
 rule "list.sort.merge-lo"
 let z <-elem' b 0
 if (1 == b.size)=true then pure (cat a b #[z] 0 1)
 else if (0+1 == a.size)=true then pure (cat b a #[z] 1 0)
 else do
  let st <-get
  let c <-forIn [0:a.size+b.size] ((none, #[z],0,1,gallopOf st):C0) λ_ c=>loS a b (a.size+b.size) c.2.1 c.2.2.1 c.2.2.2.1 c.2.2.2.2
  match c.1 with
  | some r=>pure r
  | none=>unsupported "internal:list.sort.merge-bound"):=by
 refine(show mLo a b=bind _ _ from rfl).trans ?_;refine Qxz (bind _) (funext λ_=>?_);refine Qxz (bind _) (funext λz=>?_);dsimp only
 congr 1
 congr 1
 refine Qxz (bind _) (funext λst=>?_);refine congr (Qxz bind ?_) (funext λc=>?_)
 ·congr 1
  funext u c
  unfold loS;refine congr (Qxz bind ?_) (funext λd=>?_)
  ·congr 1
  ·rcases d with ⟨_|r,d⟩
   ·refine Qxz (bind _) (funext λ_=>?_);refine congr (Qxz bind ?_) (funext λf=>?_)
    ·congr 1
    ·rcases f with ⟨_|r,f⟩<;>rfl
   ·rfl
 ·rcases c with ⟨_|r,c⟩<;>rfl
theorem Ss(a b o:Array Keyed)(i j:Nat):(cat a b o i j).toList=o.toList++a.toList.drop i++b.toList.drop j:=by unfold cat;rw[Array.toList_append,Array.toList_append,Array.toList_extract,Array.toList_extract];unfold List.extract;rw[List.take_of_length_le (by rw[Qxj,Qqx];exact Qq0 _),List.take_of_length_le (by rw[Qxj,Qqx];exact Qq0 _)]
theorem X5(a o:Array Keyed)(i k:Nat):(o++a.extract i (i+k)).toList=o.toList++(a.toList.drop i).take k:=by rw[Array.toList_append,Array.toList_extract];unfold List.extract;rw[Nat.add_sub_cancel_left]
section
variable{prog:Program}{w:World}{A:Around}{E:Value->Shared->Prop}{s:Shared}{kd:SortKind}{r:Keyed->Nat}{a₀:Array Keyed}
abbrev jf(r:Keyed->Nat):Keyed->Keyed->Prop:=λx y=>r x<=r y
theorem rW{st:SortSt}{g:Nat}{Q:Unit->SortSt->Prop}(h:Q () (setG st g)):wpS (model prog w) A E s (Mw g) Q st:=by rw[UG];exact wpS_modify h
def Sm(st st':SortSt):Prop:=∃g,st'=setG st g
theorem Sm.Ad(st:SortSt):Sm st st:=⟨gallopOf st,rfl⟩
theorem Sm.put{st st':SortSt}(h:Sm st st')(g:Nat):Sm st (setG st' g):=by obtain⟨_,rfl⟩:=h;exact⟨g,rfl⟩
theorem Sm.kind{st st':SortSt}(h:Sm st st')(hk:kindOf st=kd):kindOf st'=kd:=by obtain⟨_,rfl⟩:=h;exact hk
section
variable{a b:Array Keyed}{st:SortSt}(C:Ly prog w A E s kd r a₀)(hk:kindOf st=kd)(ma:∀x∈a,x∈a₀)(mb:∀x∈b,x∈a₀)(hX:a.toList.Pairwise (jf r))(hY:b.toList.Pairwise (jf r))
 (hl:∀y∈b.toList,∀h:a.size - 1<a.toList.length,jf r y a.toList[a.size - 1])
structure JS(r:Keyed->Nat)(a b o:Array Keyed)(i j:Nat):Prop where
 on:J (jf r) a.toList b.toList o.toList i j
 hi:i+1<a.size
 hj:j<b.size
abbrev GD(r:Keyed->Nat)(a b R:Array Keyed):Prop:=Good (jf r) a.toList b.toList R.toList
theorem rf(x:Keyed):jf r x x:=Qq0 _
include hX in
theorem Gn{i:Nat}(hi:i<a.size){x:Nat}(h:x<=r a[i]):∀y∈a.toList.drop i,x<=r y:=λy hy=>Qq4 h (Lg (le:=jf r) rf hX (i:=i) (by rw[Qqx];exact hi) hy)
theorem Qz{o:Array Keyed}{i j:Nat}(h:J (jf r) a.toList b.toList o.toList i j)(hY:b.toList.Pairwise (jf r))(hj:j<b.size)(hle:∀y∈a.toList.drop i,r b[j]<=r y):J (jf r) a.toList b.toList (o.push b[j]).toList i (j+1):=by rw[Array.toList_push];exact(h.swap.push hY (by rw[Qqx];exact hj) hle).swap
theorem Xo{o:Array Keyed}{i j:Nat}(h:J (jf r) a.toList b.toList o.toList i j)(hX:a.toList.Pairwise (jf r))(hi:i<a.size)(hle:∀y∈b.toList.drop j,r a[i]<=r y):J (jf r) a.toList b.toList (o.push a[i]).toList (i+1) j:=by rw[Array.toList_push];exact h.push hX (by rw[Qqx];exact hi) hle
include hX in
theorem Lf{o:Array Keyed}{i j:Nat}(h:J (jf r) a.toList b.toList o.toList i j)(hj:j=b.size):GD r a b (cat a b o i j):=by unfold GD;rw[Ss];exact h.af8 hX (by rw[Qqx];exact hj)
include hY hl in
theorem Dq{o:Array Keyed}{i j:Nat}(h:J (jf r) a.toList b.toList o.toList i j)(hi:i+1=a.size):GD r a b (cat b a o j i):=by
 unfold GD;rw[Ss];refine h.fin2 hY (by rw[Qqx];exact hi) λy hy=>?_;have:a.size - 1=i:=by omega
 have q:=hl y hy (by rw[Qqx];omega);simp only[this] at q;exact q
include hY in
theorem aed{o:Array Keyed}{i j:Nat}(h:J (jf r) a.toList b.toList o.toList i j)(hi:i=a.size):GD r a b (cat a b o i j):=by unfold GD;rw[Ss,Qwj];refine h.fin (List.Perm.refl _) ?_;rw[p6 (X:=a.toList) (by rw[Qqx];omega),Qk0];exact hY.sublist (List.drop_sublist j _)
def P1(r:Keyed->Nat)(a b:Array Keyed)(n:Nat)(c:Option (Array Keyed))(o:Array Keyed)(i j:Nat):Prop:=match c with
 | some R=>GD r a b R
 | none=>JS r a b o i j/\n<=i+j
include C hk ma mb hX hY hl
theorem acn{g p q i j:Nat}{o:Array Keyed}(h:JS r a b o i j):wpS (model prog w) A E s (lo1 a b g o i j p q) (λt st'=>st'=st/\match t with
  | .done c=>P1 r a b (i+j+1) c.1 c.2.1 c.2.2.1 c.2.2.2.1
  | .yield c=>c.1=none/\P1 r a b (i+j+1) none c.2.1 c.2.2.1 c.2.2.2.1) st:=by
 have hi:=h.hi;have hj:=h.hj;have hi':i<a.size:=by omega
 unfold lo1;refine wpS_bind (eU hj (wpS_bind (eU hi' (wpS_bind (C _ _ (mb _ (Array.getElem_mem hj)) (ma _ (Array.getElem_mem hi')) st _ hk ?_)))));by_cases e:r b[j]<r a[i]
 ·rw[Qwy e];dsimp only;rw[if_pos rfl];have h':=Qz h.on hY hj (Gn hX hi' (Qxv e));refine wpS_bind (eU hj ?_);by_cases q1:j+1=b.size
  ·rw[if_pos (beq_iff_eq.mpr q1)];exact wpS_pure ⟨rfl,Lf hX h' q1⟩
  ·rw[if_neg (λz=>q1 (beq_iff_eq.mp z))];split
   ·exact wpS_pure ⟨rfl,⟨h',hi,by dsimp only;omega⟩,by dsimp only;omega⟩
   ·exact wpS_pure ⟨rfl,rfl,⟨h',hi,by dsimp only;omega⟩,by dsimp only;omega⟩
 ·rw[Qwx e];dsimp only;rw[if_neg (by decide)];have h':=Xo h.on hX hi' (Gn (a:=b) hY hj (Nat.le_of_not_lt e));refine wpS_bind (eU hi' ?_);by_cases q1:i+1+1=a.size
  ·rw[if_pos (beq_iff_eq.mpr q1)];exact wpS_pure ⟨rfl,Dq hY hl h' q1⟩
  ·rw[if_neg (λz=>q1 (beq_iff_eq.mp z))];split
   ·exact wpS_pure ⟨rfl,⟨h',by dsimp only;omega,hj⟩,by dsimp only;omega⟩
   ·exact wpS_pure ⟨rfl,rfl,⟨h',by dsimp only;omega,hj⟩,by dsimp only;omega⟩
theorem Oz{g k m i j n:Nat}{o:Array Keyed}(h:JS r a b o i j)(hle:∀y∈b.toList.drop j,r (a[i]'(by have:=h.hi;omega))<=r y)(hn:n<=i+j+1):wpS (model prog w) A E s (Vz a b o i j g k m) (λt st'=>st'=st/\match t with
  | .done c=>P1 r a b n c.1 c.2.1 c.2.2.1 c.2.2.2.1
  | .yield c=>c.1=none/\P1 r a b n none c.2.1 c.2.2.1 c.2.2.2.1) st:=by
 have hi:=h.hi;have hi':i<a.size:=by omega
 have h':=Xo h.on hX hi' hle;unfold Vz;refine wpS_bind (eU hi' ?_);by_cases q1:i+1+1=a.size
 ·rw[if_pos (beq_iff_eq.mpr q1)];exact wpS_pure ⟨rfl,Dq hY hl h' q1⟩
 ·rw[if_neg (λz=>q1 (beq_iff_eq.mp z))];split
  ·exact wpS_pure ⟨rfl,⟨h',by dsimp only;omega,h.hj⟩,by dsimp only;omega⟩
  ·exact wpS_pure ⟨rfl,rfl,⟨h',by dsimp only;omega,h.hj⟩,by dsimp only;omega⟩
theorem ad7{i j:Nat}(hi:i<a.size)(hj:j<b.size){Q:Option Nat->SortSt->Prop}(h:∀k,i+k<=a.size->(∀m (hm:m<a.toList.length),i<=m->m<i+k->r a.toList[m]<=r b[j])->(∀y∈a.toList.drop (i+k),r b[j]<=r y)->Q (some k) st) :
  wpS (model prog w) A E s (gR false b[j] a i (a.size - i) 0) Q st:=by
 refine o6 C hk (mb _ (Array.getElem_mem hj)) ma (by omega) (λm=>match a.toList[i+m]? with|some x=>!decide (r b[j]<r x)|none=>false) (λm hm hm'=>?_) (λm m' h1 h2 h3=>?_) (by omega) λk h1 h2 h3=>?_
 ·rw[Qqy (by rw[Qqx];omega)]
  rfl
 ·rw[Qqy (by rw[Qqx];omega)] at h3 ⊢;simp only[Bool.not_eq_true',decide_eq_false_iff_not,Nat.not_lt] at h3 ⊢;exact Qq4 (pw_le (le:=jf r) rf hX (i:=i+m) (j:=i+m') (by omega) (by rw[Qqx];omega)) h3
 ·refine h k (by omega) (λm hm q1 q2=>?_) (λy hy=>?_)
  ·have:=h2 (m - i) (by omega);rw[Qqy (by omega)] at this;simp only[Bool.not_eq_true',decide_eq_false_iff_not,Nat.not_lt] at this;have e:i+(m - i)=m:=by omega
   simp only[e] at this;exact this
  ·obtain⟨m,hm,rfl⟩:=List.mem_iff_getElem.mp hy;rw[Qxj,Qqx] at hm;rw[List.getElem_drop];have:=h3 (k+m) (by omega) (by omega);rw[Qqy (by rw[Qqx];omega)] at this;simp only[Bool.not_eq_false',decide_eq_true_eq] at this;have e:i+(k+m)=i+k+m:=by omega
   simp only[e] at this;exact Qxv this
theorem ad6{i j:Nat}(hi:i<a.size)(hj:j<b.size){Q:Option Nat->SortSt->Prop}(h:∀k,j+k<=b.size->(∀m (hm:m<b.toList.length),j<=m->m<j+k->r b.toList[m]<=r a[i])->(∀y∈b.toList.drop (j+k),r a[i]<=r y)->Q (some k) st) :
  wpS (model prog w) A E s (gR true a[i] b j (b.size - j) 0) Q st:=by
 refine o6 C hk (ma _ (Array.getElem_mem hi)) mb (by omega) (λm=>match b.toList[j+m]? with|some x=>decide (r x<r a[i])|none=>false) (λm hm hm'=>?_) (λm m' h1 h2 h3=>?_) (by omega) λk h1 h2 h3=>?_
 ·rw[Qqy (by rw[Qqx];omega)]
  rfl
 ·rw[Qqy (by rw[Qqx];omega)] at h3 ⊢;simp only[decide_eq_true_eq] at h3 ⊢;exact Qxq (pw_le (le:=jf r) rf hY (i:=j+m) (j:=j+m') (by omega) (by rw[Qqx];omega)) h3
 ·refine h k (by omega) (λm hm q1 q2=>?_) (λy hy=>?_)
  ·have:=h2 (m - j) (by omega);rw[Qqy (by omega)] at this;simp only[decide_eq_true_eq] at this;have e:j+(m - j)=m:=by omega
   simp only[e] at this;exact Qxv this
  ·obtain⟨m,hm,rfl⟩:=List.mem_iff_getElem.mp hy;rw[Qxj,Qqx] at hm;rw[List.getElem_drop];have:=h3 (k+m) (by omega) (by omega);rw[Qqy (by rw[Qqx];omega)] at this;simp only[decide_eq_false_iff_not,Nat.not_lt] at this;have e:j+(k+m)=j+k+m:=by omega
   simp only[e] at this;exact this
end
end
section
variable{prog:Program}{w:World}{A:Around}{E:Value->Shared->Prop}{s:Shared}{kd:SortKind}{r:Keyed->Nat}{a₀:Array Keyed}
variable{a b:Array Keyed}{st:SortSt}(C:Ly prog w A E s kd r a₀)(hk:kindOf st=kd)(ma:∀x∈a,x∈a₀)(mb:∀x∈b,x∈a₀)(hX:a.toList.Pairwise (jf r))(hY:b.toList.Pairwise (jf r))
 (hl:∀y∈b.toList,∀h:a.size - 1<a.toList.length,jf r y a.toList[a.size - 1])
theorem P1.mono{n m:Nat}{c:Option (Array Keyed)}{o:Array Keyed}{i j:Nat}(h:P1 r a b n c o i j)(hm:m<=n):P1 r a b m c o i j:=by
 cases c with
 | some R=>exact h
 | none=>exact⟨h.1,Qq4 hm h.2⟩
include C hk ma mb hX hY hl
theorem OJ{g k q i j n:Nat}{o:Array Keyed}(h:JS r a b o i j)(hle:∀y∈a.toList.drop i,r (b[j]'h.hj)<=r y)(hn:n<=i+j+1):wpS (model prog w) A E s (VB a b o i j g k q) (λt st'=>st'=st/\match t with
  | .done c=>P1 r a b n c.1 c.2.1 c.2.2.1 c.2.2.2.1
  | .yield c=>c.1=none/\P1 r a b n none c.2.1 c.2.2.1 c.2.2.2.1) st:=by
 have hi:=h.hi;have hj:=h.hj;have hi':i<a.size:=by omega
 have h':=Qz h.on hY hj hle;unfold VB;refine wpS_bind (eU hj ?_);by_cases q1:j+1=b.size
 ·rw[if_pos (beq_iff_eq.mpr q1)];exact wpS_pure ⟨rfl,Lf hX h' q1⟩
 ·rw[if_neg (λz=>q1 (beq_iff_eq.mp z))];refine wpS_bind (eU hi' (wpS_bind (ad6 C hk ma mb hX hY hl hi' (by omega) λm m1 m2 m3=>?_)));dsimp only;by_cases m0:m > 0
  ·rw[if_pos m0];have h2:J (jf r) a.toList b.toList (o.push b[j]++b.extract (j+1) (j+1+m)).toList i (j+1+m):=by
    rw[X5];exact(J.CW hY m (j+1) _ h'.swap (by rw[Qqx];exact m1) λu hu u1 u2=>Gn hX hi' (m2 u hu u1 u2)).swap
   by_cases q2:j+1+m=b.size
   ·rw[if_pos (beq_iff_eq.mpr q2)];exact wpS_pure ⟨rfl,Lf hX h2 q2⟩
   ·rw[if_neg (λz=>q2 (beq_iff_eq.mp z))];exact Oz C hk ma mb hX hY hl ⟨h2,hi,by omega⟩ m3 (by omega)
  ·rw[if_neg m0];have:m=0:=by omega
   subst this;exact Oz C hk ma mb hX hY hl ⟨h',hi,by omega⟩ m3 (by omega)
theorem Yw{g p q i j n:Nat}{o:Array Keyed}(h:JS r a b o i j)(hn:n<=i+j+1):wpS (model prog w) A E s (Rm a b o i j p q g) (λt st'=>Sm st st'/\match t with
  | .done c=>P1 r a b n c.1 c.2.1 c.2.2.1 c.2.2.2.1
  | .yield c=>c.1=none/\P1 r a b n none c.2.1 c.2.2.1 c.2.2.2.1) st:=by
 have hi:=h.hi;have hj:=h.hj;have hi':i<a.size:=by omega
 have hk2:kindOf (setG st g)=kd:=hk;have sm:Sm st (setG st g):=⟨g,rfl⟩;unfold Rm;refine wpS_bind (rW (wpS_bind (eU hj (wpS_bind (ad7 C hk2 ma mb hX hY hl hi' hj λk k1 k2 k3=>?_)))));dsimp only;by_cases k0:k > 0
 ·rw[if_pos k0];have h2:J (jf r) a.toList b.toList (o++a.extract i (i+k)).toList (i+k) j:=by
   rw[X5];exact J.CW hX k i _ h.on (by rw[Qqx];exact k1) λu hu u1 u2=>Gn (a:=b) hY hj (k2 u hu u1 u2)
  by_cases q1:i+k+1=a.size
  ·rw[if_pos (beq_iff_eq.mpr q1)];exact wpS_pure ⟨sm,Dq hY hl h2 q1⟩
  ·rw[if_neg (λz=>q1 (beq_iff_eq.mp z))];by_cases q2:i+k=a.size
   ·rw[if_pos (beq_iff_eq.mpr q2)];exact wpS_pure ⟨sm,aed hY h2 q2⟩
   ·rw[if_neg (λz=>q2 (beq_iff_eq.mp z))];exact wpS_mono (OJ C hk2 ma mb hX hY hl (n:=n) ⟨h2,by omega,hj⟩ k3 (by omega)) λt st' ⟨e,z⟩=>⟨by rw[e];exact sm,z⟩
 ·rw[if_neg k0];have:k=0:=by omega
  subst this;exact wpS_mono (OJ C hk2 ma mb hX hY hl (n:=n) h k3 (by omega)) λt st' ⟨e,z⟩=>⟨by rw[e];exact sm,z⟩
theorem ack{t g i j:Nat}{o:Array Keyed}(ht:0<t)(h:JS r a b o i j):wpS (model prog w) A E s (loS a b t o i j g) (λt st'=>Sm st st'/\match t with
  | .done c=>∃R,c.1=some R/\GD r a b R
  | .yield c=>c.1=none/\P1 r a b (i+j+1) none c.2.1 c.2.2.1 c.2.2.2.1) st:=by
 unfold loS;refine wpS_bind (wpS_mono (wpS_forRange (I:=λx (c:C1) st'=>st'=st/\c.1=none/\JS r a b c.2.1 c.2.2.1 c.2.2.2.1/\i+j+x<=c.2.2.1+c.2.2.2.1) (Q:=λc st'=>st'=st/\P1 r a b (i+j+1) c.1 c.2.1 c.2.2.1 c.2.2.2.1) ?_ ?_ ⟨rfl,rfl,h,Qq0 _⟩) ?_)
 ·rintro x ⟨c,o',i',j',p,q⟩ st' _ hx ⟨rfl,e,h',hp⟩;cases e;dsimp only at h' hp ⊢;refine wpS_mono (acn C hk ma mb hX hY hl h') λu st2 ⟨e,z⟩=>?_;cases u with
  | done c=>exact⟨e,z.mono (by omega)⟩
  | yield c=>exact⟨e,z.1,z.2.1,by have:=z.2.2;omega⟩
 ·rintro⟨c,o',i',j',p,q⟩ st' ⟨rfl,e,h',hp⟩;cases e;exact⟨rfl,h',by dsimp only at hp ⊢;omega⟩
 ·rintro⟨c,o',i',j',p,q⟩ st' ⟨rfl,hp⟩;dsimp only at hp ⊢;cases c with
  | some R=>exact wpS_pure ⟨Sm.Ad _,R,rfl,hp⟩
  | none=>
   dsimp only;refine wpS_bind (wpS_lift (Qkk ⟨rfl,?_⟩));refine wpS_bind (wpS_mono (wpS_forRange (I:=λx (c:C2) st2=>Sm st' st2/\c.1=none/\JS r a b c.2.1 c.2.2.1 c.2.2.2.1/\i+j+1<=c.2.2.1+c.2.2.2.1) (Q:=λc st2=>Sm st' st2/\P1 r a b (i+j+1) c.1 c.2.1 c.2.2.1 c.2.2.2.1) ?_ ?_ ⟨Sm.Ad _,rfl,hp.1,hp.2⟩) ?_)
   ·rintro x ⟨c,o2,i2,j2,g2,p2,q2⟩ st2 _ hx ⟨sm,e,h',hp⟩;cases e;dsimp only at h' hp ⊢;have go:∀g3,wpS (model prog w) A E s (Rm a b o2 i2 j2 p2 q2 g3) (λu st3=>match u with
      | .done c=>Sm st' st3/\P1 r a b (i+j+1) c.1 c.2.1 c.2.2.1 c.2.2.2.1
      | .yield c=>Sm st' st3/\c.1=none/\JS r a b c.2.1 c.2.2.1 c.2.2.2.1/\i+j+1<=c.2.2.1+c.2.2.2.1) st2:=λg3=>by
     refine wpS_mono (Yw C (sm.kind hk) ma mb hX hY hl (n:=i+j+1) h' (by omega)) λu st3 ⟨e,z⟩=>?_;have sm3:Sm st' st3:=by obtain⟨g4,rfl⟩:=sm;obtain⟨g5,rfl⟩:=e;exact⟨g5,rfl⟩
     cases u with
     | done c=>exact⟨sm3,z⟩
     | yield c=>exact⟨sm3,z.1,z.2.1,z.2.2⟩
    split
    ·exact wpS_mono (go _) λu st3 z=>by cases u<;>exact z
    ·exact wpS_mono (go _) λu st3 z=>by cases u<;>exact z
   ·rintro⟨c,o2,i2,j2,g2,p2,q2⟩ st2 ⟨sm,e,h',hp⟩;cases e;exact⟨sm,h',hp⟩
   ·rintro⟨c,o2,i2,j2,g2,p2,q2⟩ st2 ⟨sm,hp⟩;dsimp only at hp ⊢;cases c with
    | some R=>exact wpS_pure ⟨sm,R,rfl,hp⟩
    | none=>exact wpS_bind (rW (wpS_pure ⟨sm.put _,rfl,hp⟩))
theorem acg{Q:Array Keyed->SortSt->Prop}(ha:0<a.size)(hb:0<b.size)(h0:r b[0]<=r a[0])(h:∀R st',Sm st st'->GD r a b R->Q R st'):wpS (model prog w) A E s (mLo a b) Q st:=by
 rw[adK];refine wpS_bind (wpS_lift (Qkk ⟨rfl,wpS_bind (eU hb ?_)⟩));have j0:J (jf r) a.toList b.toList (#[]:Array Keyed).toList 0 0:=⟨Qxy _,Qxy _,List.Perm.refl _,List.Pairwise.nil,λx hx=>absurd hx (by simp)⟩;have j1:J (jf r) a.toList b.toList (#[b[0]]:Array Keyed).toList 0 1:=Qz j0 hY hb (Gn hX ha h0);by_cases q1:1=b.size
 ·rw[if_pos (beq_iff_eq.mpr q1)];exact wpS_pure (h _ st (Sm.Ad _) (Lf hX j1 q1))
 ·rw[if_neg (λz=>q1 (beq_iff_eq.mp z))];by_cases q2:0+1=a.size
  ·rw[if_pos (beq_iff_eq.mpr q2)];exact wpS_pure (h _ st (Sm.Ad _) (Dq hY hl j1 q2))
  ·rw[if_neg (λz=>q2 (beq_iff_eq.mp z))];refine wpS_bind (wpS_get (wpS_bind (wpS_mono (wpS_forRange (I:=λx (c:C0) st'=>Sm st st'/\c.1=none/\JS r a b c.2.1 c.2.2.1 c.2.2.2.1/\x+1<=c.2.2.1+c.2.2.2.1) (Q:=λc st'=>Sm st st'/\∃R,c.1=some R/\GD r a b R) ?_ ?_ ⟨Sm.Ad _,rfl,⟨j1,by dsimp only;omega,by dsimp only;omega⟩,Qq0 1⟩) ?_)))
   ·rintro x ⟨c,o,i,j,g⟩ st' _ hx ⟨sm,e,h',hp⟩;cases e;dsimp only at h' hp ⊢;refine wpS_mono (ack C (sm.kind hk) ma mb hX hY hl (by omega) h') λu st2 ⟨e,z⟩=>?_;have sm3:Sm st st2:=by
     obtain⟨g4,rfl⟩:=sm;obtain⟨g5,rfl⟩:=e;exact⟨g5,rfl⟩
    cases u with
    | done c=>
     exact⟨sm3,z⟩
    | yield c=>exact⟨sm3,z.1,z.2.1,by have:=z.2.2;omega⟩
   ·rintro⟨c,o,i,j,g⟩ st' ⟨sm,e,h',hp⟩;dsimp only at h' hp ⊢;have:=h'.hi;have:=h'.hj;omega
   ·rintro⟨c,d⟩ st' ⟨sm,R,e,z⟩;cases e;exact wpS_pure (h R st' sm z)
end
noncomputable def mHi:Array Keyed->Array Keyed->SM (Array Keyed):=sortPriv% PySem.Builtin.mergeHi
noncomputable def Ho(a b o:Array Keyed)(m n:Nat):Array Keyed:=a.extract 0 m++b.extract 0 n++o.reverse
abbrev H1:=Option (Array Keyed)×Nat×Nat×Array Keyed×Nat×Nat
abbrev H2:=Option (Array Keyed)×Nat×Nat×Array Keyed×Nat×Nat×Nat
abbrev H0:=Option (Array Keyed)×Nat×Nat×Array Keyed×Nat
noncomputable def hi1(a b:Array Keyed)(g m n:Nat)(o:Array Keyed)(p q:Nat):SM (ForInStep H1):=do
 let y <-elem' b (n - 1)
 let x <-elem' a (m - 1)
 match <-lt' y x with
 | some v=>
  if v=true then do
   let z <-elem' a (m - 1)
   if (m - 1 == 0)=true then pure (.done (some (Ho a b (o.push z) (m - 1) n),m - 1,n,o.push z,p+1,0))
   else if p+1 ≥ g then pure (.done (none,m - 1,n,o.push z,p+1,0))
   else pure (.yield (none,m - 1,n,o.push z,p+1,0))
  else do
   let z <-elem' b (n - 1)
   if (n - 1 == 1)=true then pure (.done (some (Ho b a (o.push z) (n - 1) m),m,n - 1,o.push z,0,q+1))
   else if q+1 ≥ g then pure (.done (none,m,n - 1,o.push z,0,q+1))
   else pure (.yield (none,m,n - 1,o.push z,0,q+1))
 | _=>pure (.done (some (Ho a b o m n),m,n,o,p,q))
noncomputable def VV(a b:Array Keyed)(m n:Nat)(o:Array Keyed)(g k l:Nat):SM (ForInStep H2):=do
 let z <-elem' a (m - 1)
 if (m - 1 == 0)=true then pure (.done (some (Ho a b (o.push z) (m - 1) n),m - 1,n,o.push z,g,k,l))
 else if (decide (k<7)&&decide (l<7))=true then pure (.done (none,m - 1,n,o.push z,g,k,l))
 else pure (.yield (none,m - 1,n,o.push z,g,k,l))
noncomputable def V0(a b:Array Keyed)(m n:Nat)(o:Array Keyed)(g k q:Nat):SM (ForInStep H2):=do
 let z <-elem' b (n - 1)
 if (n - 1 == 1)=true then pure (.done (some (Ho b a (o.push z) (n - 1) m),m,n - 1,o.push z,g,k,q))
 else do
  let x <-elem' a (m - 1)
  match <-gR true x b 0 (n - 1) (n - 1 - 1) with
  | some t=>
   if n - 1 - t > 0 then
    if (t == 1)=true then pure (.done (some (Ho b a (o.push z++(b.extract t (n - 1)).reverse) t m),m,t,o.push z++(b.extract t (n - 1)).reverse,g,k,n - 1 - t))
    else if (t == 0)=true then pure (.done (some (Ho a b (o.push z++(b.extract t (n - 1)).reverse) m t),m,t,o.push z++(b.extract t (n - 1)).reverse,g,k,n - 1 - t))
    else VV a b m t (o.push z++(b.extract t (n - 1)).reverse) g k (n - 1 - t)
   else VV a b m (n - 1) (o.push z) g k (n - 1 - t)
  | _=>pure (.done (some (Ho a b (o.push z) m (n - 1)),m,n - 1,o.push z,g,k,q))
noncomputable def RP(a b:Array Keyed)(m n:Nat)(o:Array Keyed)(p q g:Nat):SM (ForInStep H2):=do
 Mw g
 let y <-elem' b (n - 1)
 match <-gR false y a 0 m (m - 1) with
 | some t=>
  if m - t > 0 then
   if (t == 0)=true then pure (.done (some (Ho a b (o++(a.extract t m).reverse) t n),t,n,o++(a.extract t m).reverse,g,m - t,q))
   else V0 a b t n (o++(a.extract t m).reverse) g (m - t) q
  else V0 a b m n o g (m - t) q
 | _=>pure (.done (some (Ho a b o m n),m,n,o,g,p,q))
noncomputable def hiS(a b:Array Keyed)(t m n:Nat)(o:Array Keyed)(g:Nat):SM (ForInStep H0):=do
 let c <-forIn [0:t] ((none,m,n,o,0,0):H1) λ_ c=>hi1 a b g c.2.1 c.2.2.1 c.2.2.2.1 c.2.2.2.2.1 c.2.2.2.2.2
 match c.1 with
 | some r=>pure (.done (some r,c.2.1,c.2.2.1,c.2.2.2.1,g))
 | none=>do
  rule "list.sort.gallop"
  let d <-forIn [0:t] ((none,c.2.1,c.2.2.1,c.2.2.2.1,g+1,c.2.2.2.2.1,c.2.2.2.2.2):H2) λ_ d=>
   if d.2.2.2.2.1 > 1 then RP a b d.2.1 d.2.2.1 d.2.2.2.1 d.2.2.2.2.2.1 d.2.2.2.2.2.2 (d.2.2.2.2.1 - 1) else RP a b d.2.1 d.2.2.1 d.2.2.2.1 d.2.2.2.2.2.1 d.2.2.2.2.2.2 d.2.2.2.2.1
  match d.1 with
  | some r=>pure (.done (some r,d.2.1,d.2.2.1,d.2.2.2.1,d.2.2.2.2.1))
  | none=>do
   Mw (d.2.2.2.2.1+1)
   pure (.yield (none,d.2.1,d.2.2.1,d.2.2.2.1,d.2.2.2.2.1+1))
theorem ad1(a b:Array Keyed):mHi a b=(do
 rule "list.sort.merge-hi"
 let z <-elem' a (a.size - 1)
 if (a.size - 1 == 0)=true then pure (Ho a b #[z] (a.size - 1) b.size)
 else if (b.size == 1)=true then pure (Ho b a #[z] b.size (a.size - 1))
 else do
  let st <-get
  let c <-forIn [0:a.size+b.size] ((none,a.size - 1,b.size, #[z],gallopOf st):H0) λ_ c=>hiS a b (a.size+b.size) c.2.1 c.2.2.1 c.2.2.2.1 c.2.2.2.2
  match c.1 with
  | some r=>pure r
  | none=>unsupported "internal:list.sort.merge-bound"):=by
 refine(show mHi a b=bind _ _ from rfl).trans ?_;refine Qxz (bind _) (funext λ_=>?_);refine Qxz (bind _) (funext λz=>?_);dsimp only
 congr 1
 congr 1
 refine Qxz (bind _) (funext λst=>?_);refine congr (Qxz bind ?_) (funext λc=>?_)
 ·congr 1
  funext u c
  unfold hiS;refine congr (Qxz bind ?_) (funext λd=>?_)
  ·congr 1
  ·rcases d with ⟨_|r,d⟩
   ·refine Qxz (bind _) (funext λ_=>?_);refine congr (Qxz bind ?_) (funext λf=>?_)
    ·congr 1
    ·rcases f with ⟨_|r,f⟩<;>rfl
   ·rfl
 ·rcases c with ⟨_|r,c⟩<;>rfl
abbrev geR(r:Keyed->Nat):Keyed->Keyed->Prop:=λx y=>r y<=r x
theorem Fo(l:List Keyed){m:Nat}(h:m<=l.length):l.reverse.drop (l.length - m)=(l.take m).reverse:=by
 rw[List.drop_reverse]
 congr 2
 omega
theorem acM(l:List Keyed){m:Nat}(h0:0<m)(h:m<=l.length):l.reverse[l.length - m]'(by rw[Qjz];omega)=l[m - 1]'(by omega):=by
 rw[List.getElem_reverse]
 congr 1
 omega
theorem Xh(a b o:Array Keyed)(m n:Nat)(hm:m<=a.size)(hn:n<=b.size):(Ho a b o m n).toList=(o.toList++b.toList.reverse.drop (b.size - n)++a.toList.reverse.drop (a.size - m)).reverse:=by have e1:=Fo a.toList (m:=m) (by rw[Qqx];exact hm);have e2:=Fo b.toList (m:=n) (by rw[Qqx];exact hn);rw[Qqx] at e1 e2;rw[e1,e2];unfold Ho;rw[Array.toList_append,Array.toList_append,Array.toList_extract,Array.toList_extract,Array.toList_reverse];unfold List.extract;simp
theorem acN(a o:Array Keyed){t m:Nat}(ht:t<=m)(hm:m<=a.size):(o++(a.extract t m).reverse).toList=o.toList++(a.toList.reverse.drop (a.size - m)).take (m - t):=by
 have e1:=Fo a.toList (m:=m) (by rw[Qqx];exact hm);rw[Qqx] at e1;rw[e1,Array.toList_append,Array.toList_reverse,Array.toList_extract,List.take_reverse,Qw3,Qqx];unfold List.extract;have:min m a.size - (m - t)=t:=by omega
 rw[this,List.drop_take]
section
variable{prog:Program}{w:World}{A:Around}{E:Value->Shared->Prop}{s:Shared}{kd:SortKind}{r:Keyed->Nat}{a₀:Array Keyed}
variable{a b:Array Keyed}{st:SortSt}(C:Ly prog w A E s kd r a₀)(hk:kindOf st=kd)(ma:∀x∈a,x∈a₀)(mb:∀x∈b,x∈a₀)(hX:a.toList.Pairwise (jf r))(hY:b.toList.Pairwise (jf r))
 (hl:∀y∈a.toList,∀h:0<b.toList.length,r b.toList[0]<=r y)
abbrev JH(r:Keyed->Nat)(a b o:Array Keyed)(m n:Nat):Prop:=J (geR r) a.toList.reverse b.toList.reverse o.toList (a.size - m) (b.size - n)
structure KS(r:Keyed->Nat)(a b o:Array Keyed)(m n:Nat):Prop where
 on:JH r a b o m n
 m0:0<m
 ml:m<=a.size
 n1:1<n
 nl:n<=b.size
theorem Pu{l:List Keyed}(h:l.Pairwise (jf r)):l.reverse.Pairwise (geR r):=List.pairwise_reverse.mpr h
theorem un{L:List Keyed}{R:Array Keyed}(h:Good (geR r) a.toList.reverse b.toList.reverse L)(e:R.toList=L.reverse):GD r a b R:=by
 refine⟨?_,?_⟩
 ·rw[e];exact(List.reverse_perm L).trans (h.1.trans ((List.reverse_perm _).append (List.reverse_perm _)))
 ·rw[e];exact List.pairwise_reverse.mpr h.2
theorem JH.swap{o:Array Keyed}{m n:Nat}(h:JH r a b o m n):JH r b a o n m:=J.swap h
theorem VR{o:Array Keyed}{m n:Nat}(h:JH r a b o m n)(hX:a.toList.Pairwise (jf r))(h0:0<m)(hm:m<=a.size)(hn:n<=b.size)(hle:∀y∈b.toList.take n,r y<=r (a[m - 1]'(by omega))):JH r a b (o.push (a[m - 1]'(by omega))) (m - 1) n:=by
 have g:=acM a.toList h0 (by rw[Qqx];exact hm);have e2:=Fo b.toList (m:=n) (by rw[Qqx];exact hn);simp only[Qqx] at g e2;have:=h.push (Pu hX) (by rw[Qjz,Qqx];omega) (λy hy=>by
  show r y<=r _;rw[g];rw[e2] at hy;exact hle y (List.mem_reverse.mp hy))
 rw[g] at this;have e:a.size - m+1=a.size - (m - 1):=by omega
 rw[e] at this;unfold JH;rw[Array.toList_push];exact this
theorem adZ{o:Array Keyed}{m n:Nat}(h:JH r a b o m n)(hY:b.toList.Pairwise (jf r))(h0:0<n)(hm:m<=a.size)(hn:n<=b.size)(hle:∀y∈a.toList.take m,r y<=r (b[n - 1]'(by omega))):JH r a b (o.push (b[n - 1]'(by omega))) m (n - 1):=
 (VR h.swap hY h0 hn hm hle).swap
theorem X3{o:Array Keyed}{m n t:Nat}(h:JH r a b o m n)(hX:a.toList.Pairwise (jf r))(ht:t<=m)(hm:m<=a.size)(hn:n<=b.size)(hle:∀u (hu:u<a.toList.length),t<=u->u<m->∀y∈b.toList.take n,r y<=r a.toList[u]):JH r a b (o++(a.extract t m).reverse) t n:=by
 have e2:=Fo b.toList (m:=n) (by rw[Qqx];exact hn);simp only[Qqx] at e2;have:=J.CW (Pu hX) (m - t) (a.size - m) _ h (by rw[Qjz,Qqx];omega) (λu hu u1 u2 y hy=>by
  show r y<=r _;rw[List.getElem_reverse];rw[e2] at hy;rw[Qjz,Qqx] at hu;exact hle _ _ (by rw[Qqx];omega) (by rw[Qqx];omega) y (List.mem_reverse.mp hy))
 have e:a.size - m+(m - t)=a.size - t:=by omega
 rw[e] at this;unfold JH;rw[acN a o ht hm];exact this
include hX hY in
theorem R4{o:Array Keyed}{m n:Nat}(h:JH r a b o m n)(hm:m<=a.size)(hn:n<=b.size)(h0:m=0\/n=0):GD r a b (Ho a b o m n):=by
 refine un (L:=o.toList++(b.toList.reverse.drop (b.size - n)++a.toList.reverse.drop (a.size - m))) (h.fin List.perm_append_comm ?_) (by rw[Xh a b o m n hm hn,Qwj]);rcases h0 with rfl|rfl
 ·rw[p6 (X:=a.toList.reverse) (by rw[Qjz,Qqx];omega),Qw0];exact(Pu hY).sublist (List.drop_sublist _ _)
 ·rw[p6 (X:=b.toList.reverse) (by rw[Qjz,Qqx];omega),Qk0];exact(Pu hX).sublist (List.drop_sublist _ _)
include hX hl in
theorem Dv{o:Array Keyed}{m n:Nat}(h:JH r a b o m n)(hm:m<=a.size)(hn:1<=b.size)(h1:n=1):GD r a b (Ho b a o n m):=by subst h1;have g:=acM b.toList (m:=1) (by decide) (by rw[Qqx];exact hn);simp only[Qqx] at g;refine un (Good.swap (J.fin2 h.swap (Pu hX) (by rw[Qjz,Qqx];omega) λy hy=>?_)) (Xh b a o 1 m hn hm);show r _<=r y;rw[g];exact hl y (List.mem_reverse.mp hy) (by rw[Qqx];omega)
include hX in
theorem El{m:Nat}(h0:0<m)(hm:m<=a.size){x:Nat}(h:r (a[m - 1]'(by omega))<=x):∀y∈a.toList.take m,r y<=x:=λy hy=>by
 obtain⟨u,hu,rfl⟩:=List.mem_iff_getElem.mp hy;rw[List.getElem_take];rw[Qw3,Qqx] at hu;exact Qq4 (pw_le (le:=jf r) rf hX (i:=u) (j:=m - 1) (by omega) (by rw[Qqx];omega)) h
def P2(r:Keyed->Nat)(a b:Array Keyed)(k:Nat)(c:Option (Array Keyed))(m n:Nat)(o:Array Keyed):Prop:=match c with
 | some R=>GD r a b R
 | none=>KS r a b o m n/\m+n<=k
theorem P2.mono{k l:Nat}{c:Option (Array Keyed)}{o:Array Keyed}{m n:Nat}(h:P2 r a b k c m n o)(hm:k<=l):P2 r a b l c m n o:=by
 cases c with
 | some R=>exact h
 | none=>exact⟨h.1,Qq4 h.2 hm⟩
include C hk ma mb hX hY hl
theorem acp{g p q m n:Nat}{o:Array Keyed}(h:KS r a b o m n):wpS (model prog w) A E s (hi1 a b g m n o p q) (λt st'=>st'=st/\match t with
  | .done c=>P2 r a b (m+n - 1) c.1 c.2.1 c.2.2.1 c.2.2.2.1
  | .yield c=>c.1=none/\P2 r a b (m+n - 1) none c.2.1 c.2.2.1 c.2.2.2.1) st:=by
 obtain⟨hj,m0,ml,n1,nl⟩:=h;have bm:m - 1<a.size:=by omega
 have bn:n - 1<b.size:=by omega
 unfold hi1;refine wpS_bind (eU bn (wpS_bind (eU bm (wpS_bind (C _ _ (mb _ (Array.getElem_mem bn)) (ma _ (Array.getElem_mem bm)) st _ hk ?_)))));by_cases e:r b[n - 1]<r a[m - 1]
 ·rw[Qwy e];dsimp only;rw[if_pos rfl];have h':=VR hj hX m0 ml nl (El (a:=b) hY (by omega) nl (Qxv e));refine wpS_bind (eU bm ?_);by_cases q1:m - 1=0
  ·rw[if_pos (beq_iff_eq.mpr q1)];exact wpS_pure ⟨rfl,R4 hX hY h' (by omega) nl (.inl q1)⟩
  ·rw[if_neg (λz=>q1 (beq_iff_eq.mp z))];split
   ·exact wpS_pure ⟨rfl,⟨h',by dsimp only;omega,by dsimp only;omega,n1,nl⟩,by dsimp only;omega⟩
   ·exact wpS_pure ⟨rfl,rfl,⟨h',by dsimp only;omega,by dsimp only;omega,n1,nl⟩,by dsimp only;omega⟩
 ·rw[Qwx e];dsimp only;rw[if_neg (by decide)];have h':=adZ hj hY (by omega) ml nl (El hX m0 ml (Nat.le_of_not_lt e));refine wpS_bind (eU bn ?_);by_cases q1:n - 1=1
  ·rw[if_pos (beq_iff_eq.mpr q1)];exact wpS_pure ⟨rfl,Dv hX hl h' ml (by omega) q1⟩
  ·rw[if_neg (λz=>q1 (beq_iff_eq.mp z))];split
   ·exact wpS_pure ⟨rfl,⟨h',m0,ml,by dsimp only;omega,by dsimp only;omega⟩,by dsimp only;omega⟩
   ·exact wpS_pure ⟨rfl,rfl,⟨h',m0,ml,by dsimp only;omega,by dsimp only;omega⟩,by dsimp only;omega⟩
theorem O1{g k l m n z:Nat}{o:Array Keyed}(h:KS r a b o m n)(hle:∀y∈b.toList.take n,r y<=r (a[m - 1]'(by have:=h.m0;have:=h.ml;omega)))(hz:m+n<=z+1):wpS (model prog w) A E s (VV a b m n o g k l) (λt st'=>st'=st/\match t with
  | .done c=>P2 r a b z c.1 c.2.1 c.2.2.1 c.2.2.2.1
  | .yield c=>c.1=none/\P2 r a b z none c.2.1 c.2.2.1 c.2.2.2.1) st:=by
 obtain⟨hj,m0,ml,n1,nl⟩:=h;have bm:m - 1<a.size:=by omega
 have h':=VR hj hX m0 ml nl hle;unfold VV;refine wpS_bind (eU bm ?_);by_cases q1:m - 1=0
 ·rw[if_pos (beq_iff_eq.mpr q1)];exact wpS_pure ⟨rfl,R4 hX hY h' (by omega) nl (.inl q1)⟩
 ·rw[if_neg (λz=>q1 (beq_iff_eq.mp z))];split
  ·exact wpS_pure ⟨rfl,⟨h',by dsimp only;omega,by dsimp only;omega,n1,nl⟩,by dsimp only;omega⟩
  ·exact wpS_pure ⟨rfl,rfl,⟨h',by dsimp only;omega,by dsimp only;omega,n1,nl⟩,by dsimp only;omega⟩
theorem gah{m n:Nat}(m0:0<m)(ml:m<=a.size)(n0:n - 1<b.size){Q:Option Nat->SortSt->Prop}(h:∀t,t<=m->(∀u (hu:u<a.toList.length),t<=u->u<m->r b[n - 1]<=r a.toList[u])->(∀y∈a.toList.take t,r y<=r b[n - 1])->Q (some t) st) :
  wpS (model prog w) A E s (gR false b[n - 1] a 0 m (m - 1)) Q st:=by
 refine o6 C hk (mb _ (Array.getElem_mem n0)) ma (by omega) (λu=>match a.toList[u]? with|some x=>!decide (r b[n - 1]<r x)|none=>false) (λu hu hu'=>?_) (λu u' h1 h2 h3=>?_) (by omega) λk h1 h2 h3=>?_
 ·rw[Qqy (by rw[Qqx];omega)];simp only[Nat.zero_add]
  rfl
 ·rw[Qqy (by rw[Qqx];omega)] at h3 ⊢;simp only[Bool.not_eq_true',decide_eq_false_iff_not,Nat.not_lt] at h3 ⊢;exact Qq4 (pw_le (le:=jf r) rf hX (i:=u) (j:=u') (by omega) (by rw[Qqx];omega)) h3
 ·refine h k h1 (λu hu q1 q2=>?_) (λy hy=>?_)
  ·have:=h3 u q1 q2;rw[Qqy hu] at this;simp only[Bool.not_eq_false',decide_eq_true_eq] at this;exact Qxv this
  ·obtain⟨u,hu,rfl⟩:=List.mem_iff_getElem.mp hy;rw[Qw3,Qqx] at hu;rw[List.getElem_take];have:=h2 u (by omega);rw[Qqy (by rw[Qqx];omega)] at this;simp only[Bool.not_eq_true',decide_eq_false_iff_not,Nat.not_lt] at this;exact this
theorem gbh{m n:Nat}(n0:0<n)(nl:n<=b.size)(m0:m - 1<a.size){Q:Option Nat->SortSt->Prop}(h:∀t,t<=n->(∀u (hu:u<b.toList.length),t<=u->u<n->r a[m - 1]<=r b.toList[u])->(∀y∈b.toList.take t,r y<=r a[m - 1])->Q (some t) st) :
  wpS (model prog w) A E s (gR true a[m - 1] b 0 n (n - 1)) Q st:=by
 refine o6 C hk (ma _ (Array.getElem_mem m0)) mb (by omega) (λu=>match b.toList[u]? with|some x=>decide (r x<r a[m - 1])|none=>false) (λu hu hu'=>?_) (λu u' h1 h2 h3=>?_) (by omega) λk h1 h2 h3=>?_
 ·rw[Qqy (by rw[Qqx];omega)];simp only[Nat.zero_add]
  rfl
 ·rw[Qqy (by rw[Qqx];omega)] at h3 ⊢;simp only[decide_eq_true_eq] at h3 ⊢;exact Qxq (pw_le (le:=jf r) rf hY (i:=u) (j:=u') (by omega) (by rw[Qqx];omega)) h3
 ·refine h k h1 (λu hu q1 q2=>?_) (λy hy=>?_)
  ·have:=h3 u q1 q2;rw[Qqy hu] at this;simp only[decide_eq_false_iff_not,Nat.not_lt] at this;exact this
  ·obtain⟨u,hu,rfl⟩:=List.mem_iff_getElem.mp hy;rw[Qw3,Qqx] at hu;rw[List.getElem_take];have:=h2 u (by omega);rw[Qqy (by rw[Qqx];omega)] at this;simp only[decide_eq_true_eq] at this;exact Qxv this
end
section
variable{prog:Program}{w:World}{A:Around}{E:Value->Shared->Prop}{s:Shared}{kd:SortKind}{r:Keyed->Nat}{a₀:Array Keyed}
variable{a b:Array Keyed}{st:SortSt}(C:Ly prog w A E s kd r a₀)(hk:kindOf st=kd)(ma:∀x∈a,x∈a₀)(mb:∀x∈b,x∈a₀)(hX:a.toList.Pairwise (jf r))(hY:b.toList.Pairwise (jf r))
 (hl:∀y∈a.toList,∀h:0<b.toList.length,r b.toList[0]<=r y)
include C hk ma mb hX hY hl
theorem O2{g k q m n z:Nat}{o:Array Keyed}(h:KS r a b o m n)(hle:∀y∈a.toList.take m,r y<=r (b[n - 1]'(by have:=h.n1;have:=h.nl;omega)))(hz:m+n<=z+1):wpS (model prog w) A E s (V0 a b m n o g k q) (λt st'=>st'=st/\match t with
  | .done c=>P2 r a b z c.1 c.2.1 c.2.2.1 c.2.2.2.1
  | .yield c=>c.1=none/\P2 r a b z none c.2.1 c.2.2.1 c.2.2.2.1) st:=by
 obtain⟨hj,m0,ml,n1,nl⟩:=h;have bm:m - 1<a.size:=by omega
 have bn:n - 1<b.size:=by omega
 have h':=adZ hj hY (by omega) ml nl hle;unfold V0;refine wpS_bind (eU bn ?_);by_cases q1:n - 1=1
 ·rw[if_pos (beq_iff_eq.mpr q1)];exact wpS_pure ⟨rfl,Dv hX hl h' ml (by omega) q1⟩
 ·rw[if_neg (λz=>q1 (beq_iff_eq.mp z))];refine wpS_bind (eU bm (wpS_bind (gbh C hk ma mb hX hY hl (n:=n - 1) (by omega) (by omega) bm λt t1 t2 t3=>?_)));dsimp only;by_cases t0:n - 1 - t > 0
  ·rw[if_pos t0];have h2:JH r a b (o.push b[n - 1]++(b.extract t (n - 1)).reverse) m t:=(X3 h'.swap hY t1 (by omega) ml λu hu u1 u2=>El hX m0 ml (t2 u hu u1 u2)).swap;by_cases q2:t=1
   ·rw[if_pos (beq_iff_eq.mpr q2)];exact wpS_pure ⟨rfl,Dv hX hl h2 ml (by omega) q2⟩
   ·rw[if_neg (λz=>q2 (beq_iff_eq.mp z))];by_cases q3:t=0
    ·rw[if_pos (beq_iff_eq.mpr q3)];exact wpS_pure ⟨rfl,R4 hX hY h2 ml (by omega) (.inr q3)⟩
    ·rw[if_neg (λz=>q3 (beq_iff_eq.mp z))];exact O1 C hk ma mb hX hY hl ⟨h2,m0,ml,by omega,by omega⟩ t3 (by omega)
  ·rw[if_neg t0];have:t=n - 1:=by omega
   subst this;exact O1 C hk ma mb hX hY hl ⟨h',m0,ml,by omega,by omega⟩ t3 (by omega)
theorem Yx{g p q m n z:Nat}{o:Array Keyed}(h:KS r a b o m n)(hz:m+n<=z+1):wpS (model prog w) A E s (RP a b m n o p q g) (λt st'=>Sm st st'/\match t with
  | .done c=>P2 r a b z c.1 c.2.1 c.2.2.1 c.2.2.2.1
  | .yield c=>c.1=none/\P2 r a b z none c.2.1 c.2.2.1 c.2.2.2.1) st:=by
 have h0:=h;obtain⟨hj,m0,ml,n1,nl⟩:=h;have bn:n - 1<b.size:=by omega
 have hk2:kindOf (setG st g)=kd:=hk;have sm:Sm st (setG st g):=⟨g,rfl⟩;unfold RP;refine wpS_bind (rW (wpS_bind (eU bn (wpS_bind (gah C hk2 ma mb hX hY hl m0 ml bn λt t1 t2 t3=>?_)))));dsimp only;by_cases t0:m - t > 0
 ·rw[if_pos t0];have h2:JH r a b (o++(a.extract t m).reverse) t n:=X3 hj hX t1 ml nl λu hu u1 u2=>El (a:=b) hY (by omega) nl (t2 u hu u1 u2);by_cases q2:t=0
  ·rw[if_pos (beq_iff_eq.mpr q2)];exact wpS_pure ⟨sm,R4 hX hY h2 (by omega) nl (.inl q2)⟩
  ·rw[if_neg (λz=>q2 (beq_iff_eq.mp z))];exact wpS_mono (O2 C hk2 ma mb hX hY hl (z:=z) ⟨h2,by omega,by omega,n1,nl⟩ t3 (by omega)) λt st' ⟨e,z⟩=>⟨by rw[e];exact sm,z⟩
 ·rw[if_neg t0];have:t=m:=by omega
  subst this;exact wpS_mono (O2 C hk2 ma mb hX hY hl (z:=z) h0 t3 (by omega)) λt st' ⟨e,z⟩=>⟨by rw[e];exact sm,z⟩
theorem aco{t g m n:Nat}{o:Array Keyed}(ht:0<t)(h:KS r a b o m n):wpS (model prog w) A E s (hiS a b t m n o g) (λt st'=>Sm st st'/\match t with
  | .done c=>∃R,c.1=some R/\GD r a b R
  | .yield c=>c.1=none/\P2 r a b (m+n - 1) none c.2.1 c.2.2.1 c.2.2.2.1) st:=by
 unfold hiS;refine wpS_bind (wpS_mono (wpS_forRange (I:=λx (c:H1) st'=>st'=st/\c.1=none/\KS r a b c.2.2.2.1 c.2.1 c.2.2.1/\c.2.1+c.2.2.1+x<=m+n) (Q:=λc st'=>st'=st/\P2 r a b (m+n - 1) c.1 c.2.1 c.2.2.1 c.2.2.2.1) ?_ ?_ ⟨rfl,rfl,h,Qq0 _⟩) ?_)
 ·rintro x ⟨c,m',n',o',p,q⟩ st' _ hx ⟨rfl,e,h',hp⟩;cases e;dsimp only at h' hp ⊢;have:=h'.m0;refine wpS_mono (acp C hk ma mb hX hY hl h') λu st2 ⟨e,z⟩=>?_;cases u with
  | done c=>exact⟨e,z.mono (by omega)⟩
  | yield c=>exact⟨e,z.1,z.2.1,by have:=z.2.2;omega⟩
 ·rintro⟨c,m',n',o',p,q⟩ st' ⟨rfl,e,h',hp⟩;cases e;exact⟨rfl,h',by dsimp only at hp ⊢;omega⟩
 ·rintro⟨c,m',n',o',p,q⟩ st' ⟨rfl,hp⟩;dsimp only at hp ⊢;cases c with
  | some R=>exact wpS_pure ⟨Sm.Ad _,R,rfl,hp⟩
  | none=>
   dsimp only;refine wpS_bind (wpS_lift (Qkk ⟨rfl,?_⟩));refine wpS_bind (wpS_mono (wpS_forRange (I:=λx (c:H2) st2=>Sm st' st2/\c.1=none/\KS r a b c.2.2.2.1 c.2.1 c.2.2.1/\c.2.1+c.2.2.1<=m+n - 1) (Q:=λc st2=>Sm st' st2/\P2 r a b (m+n - 1) c.1 c.2.1 c.2.2.1 c.2.2.2.1) ?_ ?_ ⟨Sm.Ad _,rfl,hp.1,hp.2⟩) ?_)
   ·rintro x ⟨c,m2,n2,o2,g2,p2,q2⟩ st2 _ hx ⟨sm,e,h',hp⟩;cases e;dsimp only at h' hp ⊢;have go:∀g3,wpS (model prog w) A E s (RP a b m2 n2 o2 p2 q2 g3) (λu st3=>match u with
      | .done c=>Sm st' st3/\P2 r a b (m+n - 1) c.1 c.2.1 c.2.2.1 c.2.2.2.1
      | .yield c=>Sm st' st3/\c.1=none/\KS r a b c.2.2.2.1 c.2.1 c.2.2.1/\c.2.1+c.2.2.1<=m+n - 1) st2:=λg3=>by
     refine wpS_mono (Yx C (sm.kind hk) ma mb hX hY hl (z:=m+n - 1) h' (by omega)) λu st3 ⟨e,z⟩=>?_;have sm3:Sm st' st3:=by obtain⟨g4,rfl⟩:=sm;obtain⟨g5,rfl⟩:=e;exact⟨g5,rfl⟩
     cases u with
     | done c=>exact⟨sm3,z⟩
     | yield c=>exact⟨sm3,z.1,z.2.1,z.2.2⟩
    split
    ·exact wpS_mono (go _) λu st3 z=>by cases u<;>exact z
    ·exact wpS_mono (go _) λu st3 z=>by cases u<;>exact z
   ·rintro⟨c,m2,n2,o2,g2,p2,q2⟩ st2 ⟨sm,e,h',hp⟩;cases e;exact⟨sm,h',hp⟩
   ·rintro⟨c,m2,n2,o2,g2,p2,q2⟩ st2 ⟨sm,hp⟩;dsimp only at hp ⊢;cases c with
    | some R=>exact wpS_pure ⟨sm,R,rfl,hp⟩
    | none=>exact wpS_bind (rW (wpS_pure ⟨sm.put _,rfl,hp⟩))
theorem ach{Q:Array Keyed->SortSt->Prop}(ha:0<a.size)(hb:0<b.size)(h0:r (b[b.size - 1]'(by omega))<=r (a[a.size - 1]'(by omega)))(h:∀R st',Sm st st'->GD r a b R->Q R st'):wpS (model prog w) A E s (mHi a b) Q st:=by
 rw[ad1];refine wpS_bind (wpS_lift (Qkk ⟨rfl,wpS_bind (eU (by omega) ?_)⟩));have j0:JH r a b #[] a.size b.size:=⟨by omega,by omega,by rw[Nat.sub_self,Nat.sub_self];exact List.Perm.refl _,List.Pairwise.nil,λx hx=>absurd hx (by simp)⟩;have j1:=VR j0 hX ha (Qq0 _) (Qq0 _) (El (a:=b) hY hb (Qq0 _) h0);by_cases q1:a.size - 1=0
 ·rw[if_pos (beq_iff_eq.mpr q1)];exact wpS_pure (h _ st (Sm.Ad _) (R4 hX hY j1 (by omega) (Qq0 _) (.inl q1)))
 ·rw[if_neg (λz=>q1 (beq_iff_eq.mp z))];by_cases q2:b.size=1
  ·rw[if_pos (beq_iff_eq.mpr q2)];exact wpS_pure (h _ st (Sm.Ad _) (Dv hX hl j1 (by omega) (by omega) q2))
  ·rw[if_neg (λz=>q2 (beq_iff_eq.mp z))];refine wpS_bind (wpS_get (wpS_bind (wpS_mono (wpS_forRange (I:=λx (c:H0) st'=>Sm st st'/\c.1=none/\KS r a b c.2.2.2.1 c.2.1 c.2.2.1/\c.2.1+c.2.2.1+x+1<=a.size+b.size) (Q:=λc st'=>Sm st st'/\∃R,c.1=some R/\GD r a b R) ?_ ?_ ⟨Sm.Ad _,rfl,⟨j1,by dsimp only;omega,by dsimp only;omega,by dsimp only;omega,Qq0 _⟩,by dsimp only;omega⟩) ?_)))
   ·rintro x ⟨c,m,n,o,g⟩ st' _ hx ⟨sm,e,h',hp⟩;cases e;dsimp only at h' hp ⊢;refine wpS_mono (aco C (sm.kind hk) ma mb hX hY hl (by omega) h') λu st2 ⟨e,z⟩=>?_;have sm3:Sm st st2:=by
     obtain⟨g4,rfl⟩:=sm;obtain⟨g5,rfl⟩:=e;exact⟨g5,rfl⟩
    cases u with
    | done c=>exact⟨sm3,z⟩
    | yield c=>exact⟨sm3,z.1,z.2.1,by have:=z.2.2;have:=h'.m0;omega⟩
   ·rintro⟨c,m,n,o,g⟩ st' ⟨sm,e,h',hp⟩;dsimp only at h' hp ⊢;have:=h'.m0;omega
   ·rintro⟨c,d⟩ st' ⟨sm,R,e,z⟩;cases e;exact wpS_pure (h R st' sm z)
end
noncomputable def kA(r:Keyed->Nat)(a:Array Keyed)(i:Nat):Nat:=match a[i]? with
 | some x=>r x
 | none=>0
theorem pP{r:Keyed->Nat}{a b:Array Keyed}{i j:Nat}(h:a[i]? = b[j]?):kA r a i=kA r b j:=by unfold kA;rw[h]
section
variable{prog:Program}{w:World}{A:Around}{E:Value->Shared->Prop}{s:Shared}{kd:SortKind}{r:Keyed->Nat}{a₀:Array Keyed}
structure Bs(kd:SortKind)(a₀:Array Keyed)(st:SortSt):Prop where
 perm:(arrOf st).Perm a₀
 fail:failedOf st=none
 kind:kindOf st=kd
theorem Bs.size{st:SortSt}(h:Bs kd a₀ st):(arrOf st).size=a₀.size:=h.perm.size_eq
theorem Bs.mem{st:SortSt}(h:Bs kd a₀ st){x:Keyed}(hx:x∈arrOf st):x∈a₀:=h.perm.mem_iff.mp hx
theorem Bs.arr{st:SortSt}(h:Bs kd a₀ st){b:Array Keyed}(hp:b.Perm (arrOf st)):Bs kd a₀ (setArr st b):=⟨hp.trans h.perm,h.fail,h.kind⟩
theorem O3(C:Ly prog w A E s kd r a₀){st:SortSt}{i j:Nat}{Q:Option Bool->SortSt->Prop}(hB:Bs kd a₀ st)(hi:i<(arrOf st).size)(hj:j<(arrOf st).size)(h:Q (some (decide (kA r (arrOf st) i<kA r (arrOf st) j))) st) :
  wpS (model prog w) A E s (ltAt' i j) Q st:=by
 rw[ltAt'_eq];refine wpS_bind (wpS_get (wpS_bind (eU hi (wpS_bind (eU hj (C _ _ (hB.mem (Array.getElem_mem hi)) (hB.mem (Array.getElem_mem hj)) st _ hB.kind ?_))))));unfold kA at h;rw[Array.getElem?_eq_getElem hi,Array.getElem?_eq_getElem hj] at h;exact h
theorem Jr{a:Array Keyed}{i j:Nat}(hj:j<=a.size)(k:Nat):kA r (mirror a i j ((j - i) / 2)) k=if i<=k/\k<j then kA r a (i+j - 1 - k) else kA r a k:=by
 by_cases q:i<=k/\k<j
 ·rw[if_pos q];exact pP (by rw[getElem?_mirror_all hj,if_pos q])
 ·rw[if_neg q];exact pP (by rw[getElem?_mirror_all hj,if_neg q])
theorem jM{a:Array Keyed}{i j:Nat}(hj:j<=a.size)(h:∀k,i<=k->k<j->kA r a k=kA r a (j - 1))(k:Nat):kA r (mirror a i j ((j - i) / 2)) k=kA r a k:=by
 rw[Jr hj];split
 ·rename_i q;rw[h _ (by omega) (by omega),h k q.1 q.2]
 ·rfl
def Lo(lo:Nat)(a b:Array Keyed):Prop:=∀m,m<lo->b[m]? = a[m]?
theorem Lo.refl(lo:Nat)(a:Array Keyed):Lo lo a a:=λ_ _=>rfl
theorem Lo.mir{lo i j:Nat}{a b:Array Keyed}(h:Lo lo a b)(hi:lo<=i)(hj:j<=b.size):Lo lo a (mirror b i j ((j - i) / 2)):=λm hm=>by
 rw[getElem?_mirror_all hj,if_neg (by omega)];exact h m hm
def Up(r:Keyed->Nat)(a:Array Keyed)(lo n:Nat):Prop:=∀i j,i<=j->j<n->kA r a (lo+i)<=kA r a (lo+j)
def Dn(r:Keyed->Nat)(a:Array Keyed)(lo n:Nat):Prop:=∀i j,i<=j->j<n->kA r a (lo+j)<=kA r a (lo+i)
theorem Up.more{a:Array Keyed}{lo n:Nat}(h:Up r a lo n)(hn:0<n->kA r a (lo+n - 1)<=kA r a (lo+n)):Up r a lo (n+1):=λi j hij hj=>by
 by_cases e:j<n
 ·exact h i j hij e
 ·have e:j=n:=by omega
  subst e;by_cases e2:i=j
  ·subst e2;exact Qq0 _
  ·have:=h i (j - 1) (by omega) (by omega);have e3:lo+(j - 1)=lo+j - 1:=by omega
   rw[e3] at this;exact Qq4 this (hn (by omega))
theorem Dn.more{a:Array Keyed}{lo n:Nat}(h:Dn r a lo n)(hn:0<n->kA r a (lo+n)<=kA r a (lo+n - 1)):Dn r a lo (n+1):=λi j hij hj=>by
 by_cases e:j<n
 ·exact h i j hij e
 ·have e:j=n:=by omega
  subst e;by_cases e2:i=j
  ·subst e2;exact Qq0 _
  ·have:=h i (j - 1) (by omega) (by omega);have e3:lo+(j - 1)=lo+j - 1:=by omega
   rw[e3] at this;exact Qq4 (hn (by omega)) this
theorem up1{a:Array Keyed}{lo:Nat}:Up r a lo 1:=λi j h1 h2=>by
 have:i=j:=by omega
 subst this;exact Qq0 _
theorem dn1{a:Array Keyed}{lo:Nat}:Dn r a lo 1:=λi j h1 h2=>by
 have:i=j:=by omega
 subst this;exact Qq0 _
abbrev A1:=Option (Option Nat)×Nat
noncomputable def asc(lo n z:Nat):SM A1:=forIn [n:z] ((none,n):A1) λ_ c=>do
 match <-ltAt' (lo+c.2) (lo+c.2 - 1) with
 | some v=>if v=true then pure (.done (none,c.2)) else pure (.yield (none,c.2+1))
 | _=>pure (.done (some none,c.2))
noncomputable def tl3(lo n z:Nat):SM (Option Nat):=do
 reverseSlice' lo (lo+n)
 let c <-asc lo n z
 match c.1 with
 | some t=>pure t
 | none=>pure (some c.2)
abbrev A2:=Option (Option Nat)×Nat×Nat
noncomputable def dsc(lo n z:Nat):SM A2:=forIn [n:z] ((none,n,0):A2) λ_ c=>do
 match <-ltAt' (lo+c.2.1) (lo+c.2.1 - 1) with
 | some v=>
  if v=true then
   if c.2.2 > 0 then do
    reverseSlice' (lo+c.2.1 - (c.2.2+1)) (lo+c.2.1)
    pure (.yield (none,c.2.1+1,0))
   else pure (.yield (none,c.2.1+1,0))
  else do
   match <-ltAt' (lo+c.2.1 - 1) (lo+c.2.1) with
   | some u=>if u=true then pure (.done (none,c.2.1,c.2.2)) else pure (.yield (none,c.2.1+1,c.2.2+1))
   | _=>pure (.done (some none,c.2.1,c.2.2))
 | _=>pure (.done (some none,c.2.1,c.2.2))
noncomputable def dpt(lo n z:Nat):SM (Option Nat):=do
 rule "list.sort.descending-run"
 let c <-dsc lo (n+1) z
 match c.1 with
 | some t=>pure t
 | none=>
  if c.2.2 > 0 then do
   reverseSlice' (lo+c.2.1 - (c.2.2+1)) (lo+c.2.1)
   tl3 lo c.2.1 z
  else tl3 lo c.2.1 z
theorem Ca(lo n z:Nat)(f:A1->SM (Option Nat))(hf:∀c,f c=match c.1 with|some t=>pure t|none=>pure (some c.2)):(do reverseSlice' lo (lo+n);let c <-asc lo n z;f c)=tl3 lo n z:=by unfold tl3;refine Qxz (bind _) (funext λ_=>Qxz (bind _) (funext λc=>hf c))
theorem abr(lo z:Nat):countRun' lo z=(do
 let c <-asc lo 1 z
 match c.1 with
 | some t=>pure t
 | none=>
  if (c.2 == z)=true then pure (some c.2)
  else if c.2 > 1 then do
   match <-ltAt' lo (lo+c.2 - 1) with
   | some v=>
    if v=true then pure (some c.2)
    else do
     reverseSlice' lo (lo+c.2)
     dpt lo c.2 z
   | _=>pure none
  else dpt lo c.2 z):=by
 refine(show countRun' lo z=bind _ _ from rfl).trans ?_;refine congr (Qxz bind ?_) (funext λc=>?_)
 ·rfl
 ·rcases c with ⟨_|t,n⟩
  ·dsimp only
   congr 1
   congr 1
   ·refine Qxz (bind _) (funext λv=>?_);rcases v with _|v
    ·rfl
    ·dsimp only
     congr 1
     refine Qxz (bind _) (funext λ_=>?_);unfold dpt;refine Qxz (bind _) (funext λ_=>?_);refine congr (Qxz bind ?_) (funext λc=>?_)
     ·rfl
     ·rcases c with ⟨_|t,m,q⟩
      ·dsimp only
       congr 1
       ·refine Qxz (bind _) (funext λ_=>?_);exact Ca lo m z _ λc=>by rcases c with ⟨_|t,m⟩<;>rfl
       ·exact Ca lo m z _ λc=>by rcases c with ⟨_|t,m⟩<;>rfl
      ·rfl
   ·unfold dpt;refine Qxz (bind _) (funext λ_=>?_);refine congr (Qxz bind ?_) (funext λc=>?_)
    ·rfl
    ·rcases c with ⟨_|t,m,q⟩
     ·dsimp only
      congr 1
      ·refine Qxz (bind _) (funext λ_=>?_);exact Ca lo m z _ λc=>by rcases c with ⟨_|t,m⟩<;>rfl
      ·exact Ca lo m z _ λc=>by rcases c with ⟨_|t,m⟩<;>rfl
     ·rfl
  ·rfl
theorem w_rev{st:SortSt}{i j:Nat}{Q:Unit->SortSt->Prop}(h:Q () (setArr st (mirror (arrOf st) i j ((j - i) / 2)))):wpS (model prog w) A E s (reverseSlice' i j) Q st:=by rw[reverseSlice'_eq];exact wpS_modify h
section
variable{lo z:Nat}(C:Ly prog w A E s kd r a₀)(hz:lo+z<=a₀.size)
include C hz
theorem Xe{st:SortSt}{n:Nat}{Q:A1->SortSt->Prop}(hB:Bs kd a₀ st)(h1:1<=n)(hn:n<=z)(hs:Up r (arrOf st) lo n)
  (h:∀m,n<=m->m<=z->Up r (arrOf st) lo m->(m=z\/kA r (arrOf st) (lo+m)<kA r (arrOf st) (lo+m - 1))->Q (none,m) st):wpS (model prog w) A E s (asc lo n z) Q st:=by
 unfold asc;refine wpS_forRange (I:=λx (c:A1) st'=>st'=st/\c=(none,x)/\Up r (arrOf st) lo x) ?_ ?_ ⟨rfl,rfl,hs⟩
 ·rintro x c st' hx1 hx2 ⟨rfl,rfl,hs'⟩;have:=hB.size;refine wpS_bind (O3 C hB (by dsimp only;omega) (by dsimp only;omega) ?_);dsimp only;by_cases e:kA r (arrOf st') (lo+x)<kA r (arrOf st') (lo+x - 1)
  ·rw[Qwy e];exact wpS_pure (h x hx1 (by omega) hs' (.inr e))
  ·rw[Qwx e];exact wpS_pure ⟨rfl,rfl,hs'.more λ_=>Nat.le_of_not_lt e⟩
 ·rintro c st' ⟨rfl,rfl,hs'⟩;have e:max n z=z:=by omega
  rw[e] at hs' ⊢;exact h z hn (Qq0 _) hs' (.inl rfl)
theorem Xb{st:SortSt}{n:Nat}{a:Array Keyed}{Q:Option Nat->SortSt->Prop}(hB:Bs kd a₀ st)(h1:1<=n)(hn:n<=z)(hs:Dn r (arrOf st) lo n)(hL:Lo lo a (arrOf st))
  (h:∀m st',Bs kd a₀ st'->pendingOf st'=pendingOf st->1<=m->m<=z->Up r (arrOf st') lo m->Lo lo a (arrOf st')->Q (some m) st'):wpS (model prog w) A E s (tl3 lo n z) Q st:=by
 have hsz:=hB.size;unfold tl3;refine wpS_bind (w_rev ?_);have hB':=hB.arr (mirror_perm (arrOf st) lo (lo+n) ((lo+n - lo) / 2));refine wpS_bind (Xe C hz hB' h1 hn ?_ λm m1 m2 m3 _=>wpS_pure (h m _ hB' rfl (by omega) m2 m3 (hL.mir (Qq0 _) (by omega))));intro i j hij hj;show kA r (mirror (arrOf st) lo (lo+n) _) _<=kA r (mirror (arrOf st) lo (lo+n) _) _;rw[Jr (by omega),Jr (by omega),if_pos (by omega),if_pos (by omega)];have:=hs (n - 1 - j) (n - 1 - i) (by omega) (by omega);have e1:lo+(lo+n) - 1 - (lo+i)=lo+(n - 1 - i):=by omega
 have e2:lo+(lo+n) - 1 - (lo+j)=lo+(n - 1 - j):=by omega
 rw[e1,e2];exact this
theorem acq{st:SortSt}{n:Nat}{a:Array Keyed}{Q:A2->SortSt->Prop}(hB:Bs kd a₀ st)(h1:1<=n)(hn:n<=z)(hs:Dn r (arrOf st) lo n)(hL:Lo lo a (arrOf st))
  (h:∀m q st',Bs kd a₀ st'->pendingOf st'=pendingOf st->n<=m->m<=z->Dn r (arrOf st') lo m->Lo lo a (arrOf st')->q+1<=m->(∀i,lo+m - (q+1)<=i->i<lo+m->kA r (arrOf st') i=kA r (arrOf st') (lo+m - 1))->Q (none,m,q) st'):wpS (model prog w) A E s (dsc lo n z) Q st:=by
 unfold dsc;refine wpS_forRange (I:=λx (c:A2) st'=>∃q,c=(none,x,q)/\Bs kd a₀ st'/\pendingOf st'=pendingOf st/\Dn r (arrOf st') lo x/\Lo lo a (arrOf st')/\q+1<=x/\∀i,lo+x - (q+1)<=i->i<lo+x->kA r (arrOf st') i=kA r (arrOf st') (lo+x - 1)) ?_ ?_
  ⟨0,rfl,hB,rfl,hs,hL,h1,λi q1 q2=>by congr 1;omega⟩
 ·rintro x c st' hx1 hx2 ⟨q,rfl,hB',hp,hs',hL',hq,he⟩;have hsz:=hB'.size;refine wpS_bind (O3 C hB' (by dsimp only;omega) (by dsimp only;omega) ?_);dsimp only;by_cases e:kA r (arrOf st') (lo+x)<kA r (arrOf st') (lo+x - 1)
  ·rw[Qwy e,if_pos rfl];by_cases hq0:q > 0
   ·rw[if_pos hq0];refine wpS_bind (w_rev (wpS_pure ⟨0,rfl,hB'.arr (mirror_perm _ _ _ _),hp,Dn.more (λi j hij hj=>?_) λ_=>?_,hL'.mir (by omega) (by omega),by omega,λi q1 q2=>by congr 1;omega⟩))
    ·show kA r (mirror (arrOf st') _ _ _) _<=kA r (mirror (arrOf st') _ _ _) _;rw[jM (by omega) he,jM (by omega) he];exact hs' i j hij hj
    ·show kA r (mirror (arrOf st') _ _ _) _<=kA r (mirror (arrOf st') _ _ _) _;rw[jM (by omega) he,jM (by omega) he];exact Qxv e
   ·rw[if_neg hq0];exact wpS_pure ⟨0,rfl,hB',hp,hs'.more λ_=>Qxv e,hL',by omega,λi q1 q2=>by congr 1;omega⟩
  ·rw[Qwx e,if_neg (by decide)];refine wpS_bind (O3 C hB' (by omega) (by omega) ?_);by_cases e2:kA r (arrOf st') (lo+x - 1)<kA r (arrOf st') (lo+x)
   ·rw[Qwy e2];exact wpS_pure (h x q st' hB' hp hx1 (by omega) hs' hL' hq he)
   ·rw[Qwx e2];have e3:kA r (arrOf st') (lo+x)=kA r (arrOf st') (lo+x - 1):=by omega
    refine wpS_pure ⟨q+1,rfl,hB',hp,hs'.more λ_=>by omega,hL',by omega,λi q1 q2=>?_⟩;have e4:lo+(x+1) - 1=lo+x:=by omega
    rw[e4];by_cases e5:i=lo+x
    ·rw[e5]
    ·rw[e3];exact he i (by omega) (by omega)
 ·rintro c st' ⟨q,rfl,hB',hp,hs',hL',hq,he⟩;have e:max n z=z:=by omega
  rw[e] at hs' hq he ⊢;exact h z q st' hB' hp hn (Qq0 _) hs' hL' hq he
theorem Xd{st:SortSt}{n:Nat}{a:Array Keyed}{Q:Option Nat->SortSt->Prop}(hB:Bs kd a₀ st)(hn:n+1<=z)(hs:Dn r (arrOf st) lo (n+1))(hL:Lo lo a (arrOf st))
  (h:∀m st',Bs kd a₀ st'->pendingOf st'=pendingOf st->1<=m->m<=z->Up r (arrOf st') lo m->Lo lo a (arrOf st')->Q (some m) st'):wpS (model prog w) A E s (dpt lo n z) Q st:=by
 unfold dpt;refine wpS_bind (wpS_lift (Qkk ⟨rfl,?_⟩));refine wpS_bind (acq C hz hB (by omega) hn hs hL λm q st' hB' hp m1 m2 hs' hL' hq he=>?_);have hsz:=hB'.size;dsimp only;by_cases hq0:q > 0
 ·rw[if_pos hq0];refine wpS_bind (w_rev (Xb C hz (hB'.arr (mirror_perm _ _ _ _)) (by omega) m2 (λi j hij hj=>?_) (hL'.mir (by omega) (by omega)) λm st2 b1 b2=>h m st2 b1 (b2.trans hp)));show kA r (mirror (arrOf st') _ _ _) _<=kA r (mirror (arrOf st') _ _ _) _;rw[jM (by omega) he,jM (by omega) he];exact hs' i j hij hj
 ·rw[if_neg hq0];exact Xb C hz hB' (by omega) m2 hs' hL' λm st2 b1 b2=>h m st2 b1 (b2.trans hp)
theorem acr{st:SortSt}{Q:Option Nat->SortSt->Prop}(h1:1<=z)(hB:Bs kd a₀ st)
  (h:∀m st',Bs kd a₀ st'->pendingOf st'=pendingOf st->1<=m->m<=z->Up r (arrOf st') lo m->Lo lo (arrOf st) (arrOf st')->Q (some m) st'):wpS (model prog w) A E s (countRun' lo z) Q st:=by
 have hsz:=hB.size;rw[abr];refine wpS_bind (Xe C hz hB (Qq0 1) h1 up1 λn n1 n2 hs hor=>?_);dsimp only;by_cases q1:n=z
 ·rw[if_pos (beq_iff_eq.mpr q1)];exact wpS_pure (h n st hB rfl n1 n2 hs (Lo.refl _ _))
 ·rw[if_neg (λz=>q1 (beq_iff_eq.mp z))];have hlt:=hor.resolve_left q1;by_cases q2:n > 1
  ·rw[if_pos q2];refine wpS_bind (O3 C hB (by omega) (by omega) ?_);by_cases e:kA r (arrOf st) lo<kA r (arrOf st) (lo+n - 1)
   ·rw[Qwy e];exact wpS_pure (h n st hB rfl n1 n2 hs (Lo.refl _ _))
   ·rw[Qwx e];have flat:∀k,lo<=k->k<lo+n->kA r (arrOf st) k=kA r (arrOf st) (lo+n - 1):=λk k1 k2=>by
     have a1:=hs 0 (k - lo) (by omega) (by omega);have a2:=hs (k - lo) (n - 1) (by omega) (by omega);have e1:lo+(k - lo)=k:=by omega
     have e2:lo+(n - 1)=lo+n - 1:=by omega
     rw[e1] at a1 a2;rw[e2] at a2;rw[Nat.add_zero] at a1;omega
    refine wpS_bind (w_rev (Xd C hz (hB.arr (mirror_perm _ _ _ _)) (by omega) (Dn.more (λi j hij hj=>?_) λ_=>?_) ((Lo.refl _ _).mir (Qq0 _) (by omega)) h))
    ·show kA r (mirror (arrOf st) _ _ _) _<=kA r (mirror (arrOf st) _ _ _) _;rw[jM (by omega) flat,jM (by omega) flat,flat _ (by omega) (by omega),flat (lo+i) (by omega) (by omega)];exact Qq0 _
    ·show kA r (mirror (arrOf st) _ _ _) _<=kA r (mirror (arrOf st) _ _ _) _;rw[jM (by omega) flat,jM (by omega) flat];exact Qxv hlt
  ·rw[if_neg q2];have:n=1:=by omega
   subst this;exact Xd C hz hB (by omega) (dn1.more λ_=>Qxv hlt) (Lo.refl _ _) h
theorem acs{st:SortSt}{ok:Nat}{Q:Bool->SortSt->Prop}(hB:Bs kd a₀ st)(h1:1<=ok)(hok:ok<=z)(hs:Up r (arrOf st) lo ok)
  (h:∀st',Bs kd a₀ st'->pendingOf st'=pendingOf st->Up r (arrOf st') lo z->Lo lo (arrOf st) (arrOf st')->Q true st'):wpS (model prog w) A E s (binarySort' lo z ok) Q st:=by
 rw[binarySort'_eq];refine wpS_bind (wpS_mono (wpS_forRange (I:=λk c st'=>c=(none,())/\Bs kd a₀ st'/\pendingOf st'=pendingOf st/\Up r (arrOf st') lo k/\Lo lo (arrOf st) (arrOf st'))
  (Q:=λc st'=>c=(none,())/\Bs kd a₀ st'/\pendingOf st'=pendingOf st/\Up r (arrOf st') lo z/\Lo lo (arrOf st) (arrOf st')) ?_ ?_ ⟨rfl,hB,rfl,by rw[Nat.max_eq_left h1];exact hs,Lo.refl _ _⟩) ?_)
 ·rintro k c st' k1 k2 ⟨rfl,hB',hp,hs',hL⟩;have hsz:=hB'.size;refine wpS_bind (wpS_mono (wpS_forRange (I:=λx (c:Option Bool×Nat×Nat) st2=>st2=st'/\c.1=none/\c.2.1<=c.2.2/\c.2.2<=k/\c.2.2 - c.2.1+x<=k/\(∀i,i<c.2.1->kA r (arrOf st') (lo+i)<=kA r (arrOf st') (lo+k))/\∀i,c.2.2<=i->i<k->kA r (arrOf st') (lo+k)<=kA r (arrOf st') (lo+i))
   (Q:=λc st2=>st2=st'/\c.1=none/\c.2.1<=k/\(∀i,i<c.2.1->kA r (arrOf st') (lo+i)<=kA r (arrOf st') (lo+k))/\∀i,c.2.1<=i->i<k->kA r (arrOf st') (lo+k)<=kA r (arrOf st') (lo+i)) ?_ ?_ ⟨rfl,rfl,Qxy _,Qq0 _,by dsimp only;omega,λi hi=>absurd hi (Qkv i),λi i1 i2=>by dsimp only at i1;omega⟩) ?_)
  ·rintro x ⟨c,l,u⟩ st2 _ hx ⟨rfl,e,q1,q2,q3,q4,q5⟩;cases e;dsimp only at q1 q2 q3 q4 q5 ⊢;by_cases hl:l ≥ u
   ·rw[if_pos hl];exact wpS_pure ⟨rfl,rfl,by dsimp only;omega,q4,λi i1 i2=>q5 i (by dsimp only at i1;omega) i2⟩
   ·rw[if_neg hl];refine wpS_bind (O3 C hB' (by omega) (by omega) ?_);by_cases e:kA r (arrOf st2) (lo+k)<kA r (arrOf st2) (lo+(l+u) / 2)
    ·rw[Qwy e];refine wpS_pure ⟨rfl,rfl,by dsimp only;omega,by dsimp only;omega,by dsimp only;omega,q4,λi i1 i2=>?_⟩;exact Qq4 (Qxv e) (hs' _ i i1 i2)
    ·rw[Qwx e];refine wpS_pure ⟨rfl,rfl,by dsimp only;omega,q2,by dsimp only;omega,λi hi=>?_,q5⟩;dsimp only at hi;exact Qq4 (hs' i ((l+u) / 2) (by omega) (by omega)) (Nat.le_of_not_lt e)
  ·rintro⟨c,l,u⟩ st2 ⟨rfl,e,q1,q2,q3,q4,q5⟩;cases e;dsimp only at q1 q2 q3 q4 q5 ⊢;exact⟨rfl,rfl,by omega,q4,λi i1 i2=>q5 i (by omega) i2⟩
  ·rintro⟨c,l,u⟩ st2 ⟨rfl,e,q1,q4,q5⟩;cases e;dsimp only at q1 q4 q5 ⊢;rw[moveDown'_eq];refine wpS_bind (wpS_modify (wpS_pure ⟨rfl,hB'.arr (bubble_perm _ _ _),hp,?_,?_⟩))
   ·have kb:∀m,kA r (bubble (arrOf st2) (lo+k) (lo+k - (lo+l))) m=if m=lo+l then kA r (arrOf st2) (lo+k) else if lo+l<m/\m<=lo+k then kA r (arrOf st2) (m - 1) else kA r (arrOf st2) m:=λm=>by
     have g:=getElem?_bubble (xs:=arrOf st2) (src:=lo+k) (by omega) (lo+k - (lo+l)) (by omega) m;have e1:lo+k - (lo+k - (lo+l))=lo+l:=by omega
     rw[e1] at g;by_cases c1:m=lo+l
     ·rw[if_pos c1];rw[if_pos c1] at g;exact pP g
     ·rw[if_neg c1];rw[if_neg c1] at g;by_cases c2:lo+l<m/\m<=lo+k
      ·rw[if_pos c2];rw[if_pos c2] at g;exact pP g
      ·rw[if_neg c2];rw[if_neg c2] at g;exact pP g
    intro i j hij hj;show kA r (bubble (arrOf st2) _ _) _<=kA r (bubble (arrOf st2) _ _) _;rw[kb,kb];by_cases c1:i=l
    ·rw[if_pos (by omega)];by_cases c2:j=l
     ·rw[if_pos (by omega)];exact Qq0 _
     ·rw[if_neg (by omega),if_pos (by omega)];have:=q5 (j - 1) (by omega) (by omega);have e2:lo+(j - 1)=lo+j - 1:=by omega
      rw[e2] at this;exact this
    ·rw[if_neg (by omega)];by_cases c2:j=l
     ·rw[if_neg (show ¬(lo+l<lo+i/\lo+i<=lo+k) by omega),if_pos (by omega)];exact q4 i (by omega)
     ·rw[if_neg (show ¬lo+j=lo+l by omega)];by_cases c3:l<i
      ·rw[if_pos (by omega),if_pos (by omega)];have:=hs' (i - 1) (j - 1) (by omega) (by omega);have e2:lo+(j - 1)=lo+j - 1:=by omega
       have e3:lo+(i - 1)=lo+i - 1:=by omega
       rw[e2,e3] at this;exact this
      ·rw[if_neg (by omega)];by_cases c4:l<j
       ·rw[if_pos (by omega)];have:=hs' i (j - 1) (by omega) (by omega);have e2:lo+(j - 1)=lo+j - 1:=by omega
        rw[e2] at this;exact this
       ·rw[if_neg (by omega)];exact hs' i j hij (by omega)
   ·intro m hm;show(bubble (arrOf st2) _ _)[m]? = _;rw[getElem?_bubble (by omega) _ (by omega),if_neg (by omega),if_neg (by omega)];exact hL m hm
 ·rintro c st' ⟨rfl,hB',hp,hs',hL⟩;refine⟨rfl,hB',hp,?_,hL⟩;have e:max (max ok 1) z=z:=by omega
  rw[e] at hs';exact hs'
 ·rintro c st' ⟨rfl,hB',hp,hs',hL⟩;exact wpS_pure (h st' hB' hp hs' hL)
end
end
noncomputable def mA3(sa na nb k m:Nat)(a:Array Keyed)(sb:Nat):SM Bool:=do
 let R <-if na - k<=m then mLo (a.extract (sa+k) sb) (a.extract sb (sb+m)) else mHi (a.extract (sa+k) sb) (a.extract sb (sb+m))
 modify λst=>setArr st (R.toList.zipIdx.foldl (λa p=>a.setIfInBounds (sa+k+p.2) p.1) (arrOf st))
 let st <-get
 pure (failedOf st).isNone
noncomputable def mA2(a:Array Keyed)(sa na sb nb:Nat):SM Bool:=do
 let y <-elem' a sb
 match <-gR false y a sa na 0 with
 | some k=>
  if (na - k == 0)=true then pure true else do
   let x <-elem' a (sa+k+(na - k) - 1)
   match <-gR true x a sb nb (nb - 1) with
   | some m=>if (m == 0)=true then pure true else mA3 sa na nb k m a sb
   | _=>pure false
 | _=>pure false
theorem aaz(i:Nat):mergeAt' i=(do
 let st <-get
 match (pendingOf st)[i]?,(pendingOf st)[i+1]? with
 | some p,some q=>do
  set (setPending st (((pendingOf st).setIfInBounds i (p.1,p.2.1+q.2.1,p.2.2)).eraseIdxIfInBounds (i+1)))
  mA2 (arrOf st) p.1 p.2.1 q.1 q.2.1
 | _,_=>unsupported "internal:list.sort.pending"):=by
 refine(show mergeAt' i=bind _ _ from rfl).trans ?_;refine Qxz (bind _) (funext λst=>?_);dsimp only;rcases h1:(pendingOf st)[i]? with _|⟨sa,na,pw⟩<;>rcases h2:(pendingOf st)[i+1]? with _|⟨sb,nb,pw2⟩
 ·rfl
 ·rfl
 ·rfl
 ·dsimp only;refine Qxz (bind _) (funext λ_=>?_);unfold mA2;refine Qxz (bind _) (funext λy=>?_);refine Qxz (bind _) (funext λk=>?_);rcases k with _|k
  ·rfl
  ·dsimp only
   congr 1
theorem wb:∀(R:List Keyed) (n base:Nat) (a:Array Keyed),base+n+R.length<=a.size->((R.zipIdx n).foldl (λa p=>a.setIfInBounds (base+p.2) p.1) a).toList=a.toList.take (base+n)++R++a.toList.drop (base+n+R.length)
 | [],n,base,a,h=>by simp
 | x::R,n,base,a,h=>by
  rw[Qqw] at h;have hi:base+n<a.size:=by omega
  rw[List.zipIdx_cons,List.foldl_cons,wb R (n+1) base _ (by rw[Array.size_setIfInBounds];omega),Array.toList_setIfInBounds];have e1:base+(n+1)=base+n+1:=by omega
  have e2:base+(n+1)+R.length=base+n+(x::R).length:=by rw[Qqw];omega
  dsimp only;rw[e2,e1];have hl:base+n<a.toList.length:=by rw[Qqx];exact hi
  rw[List.take_set,List.drop_set_of_lt (by rw[Qqw];omega)];rw[List.take_succ_eq_append_getElem hl];have:(a.toList.take (base+n)++[a.toList[base+n]]).set (base+n) x=a.toList.take (base+n)++[x]:=by
   rw[List.set_append_right _ _ (by rw[Qw3];omega)]
   congr 1
   have:base+n - (a.toList.take (base+n)).length=0:=by rw[Qw3];omega
   rw[this]
   rfl
  rw[this];simp
section
variable{prog:Program}{w:World}{A:Around}{E:Value->Shared->Prop}{s:Shared}{kd:SortKind}{r:Keyed->Nat}{a₀:Array Keyed}
theorem Xc(C:Ly prog w A E s kd r a₀){left:Bool}{key:Keyed}{a:Array Keyed}{base n hint:Nat}{st:SortSt}{Q:Option Nat->SortSt->Prop}(hk:kindOf st=kd)(hkey:key∈a₀)(rC:∀x∈a,x∈a₀)(hb:base+n<=a.size)(hh:hint<n)
  {S:List Keyed} (hS:S=(a.toList.drop base).take n) (hs:S.Pairwise (jf r)) (h:∀k,k<=n->(∀x∈S.take k,bB left r key x=true)->(∀x∈S.drop k,bB left r key x=false)->Q (some k) st):wpS (model prog w) A E s (gR left key a base n hint) Q st:=by
 have hl:S.length=n:=by rw[hS,Qw3,Qxj,Qqx];omega
 have hg:∀i (hi:i<S.length),S[i]=a[base+i]'(by omega):=λi hi=>by
  subst hS;rw[List.getElem_take,List.getElem_drop]
  rfl
 refine o6 C hk hkey rC hb (λi=>match S[i]? with|some x=>bB left r key x|none=>false) (λi h1 h2=>?_) (λi j h1 h2 h3=>?_) hh λk k1 k2 k3=>h k k1 (λx hx=>?_) (λx hx=>?_)
 ·rw[Qqy (by omega),hg i (by omega)]
 ·rw[Qqy (by omega)] at h3 ⊢;have:=pw_le (le:=jf r) rf hs h1 (by omega);dsimp only at h3 ⊢;unfold bB at h3 ⊢;cases left with
  | true=>
   simp only[if_true,decide_eq_true_eq] at h3 ⊢;exact Qxq this h3
  | false=>
   simp only[Bool.false_eq_true,Qk4,Bool.not_eq_true',decide_eq_false_iff_not,Nat.not_lt] at h3 ⊢;exact Qq4 this h3
 ·obtain⟨i,hi,rfl⟩:=List.mem_iff_getElem.mp hx;rw[Qw3] at hi;have:=k2 i (by omega);rw[Qqy (by omega)] at this;rw[List.getElem_take];exact this
 ·obtain⟨i,hi,rfl⟩:=List.mem_iff_getElem.mp hx;rw[Qxj] at hi;have:=k3 (k+i) (by omega) (by omega);rw[Qqy (by omega)] at this;rw[List.getElem_drop];exact this
theorem ace{st st1:SortSt}{Q:PUnit->SortSt->Prop}(h:Q ⟨⟩ st1):wpS (model prog w) A E s (set st1:SM PUnit) Q st:=by unfold wpS;rw[StateT.run_set];exact Qq2 ⟨rfl,h⟩
noncomputable def part(l:List Keyed)(b n:Nat):List Keyed:=(l.drop b).take n
theorem ym{l:List Keyed}{b n:Nat}(h:b+n<=l.length):(part l b n).length=n:=by unfold part;rw[Qw3,Qxj];omega
theorem tK{l:List Keyed}{b n i:Nat}(hi:i<(part l b n).length)(hb:b+i<l.length):(part l b n)[i]=l[b+i]:=by simp only[part,List.getElem_take,List.getElem_drop]
theorem YL{l:List Keyed}(b n m:Nat):l=l.take b++(part l b n++(part l (b+n) m++l.drop (b+n+m))):=by
 unfold part;have e1:(l.drop (b+n)).take m++l.drop (b+n+m)=l.drop (b+n):=by rw[<-List.drop_drop (i:=m) (j:=b+n)];exact List.take_append_drop ..
 have e2:(l.drop b).take n++l.drop (b+n)=l.drop b:=by rw[<-List.drop_drop (i:=n) (j:=b)];exact List.take_append_drop ..
 rw[e1,e2,List.take_append_drop]
theorem pw_app{X Y:List Keyed}(hX:X.Pairwise (jf r))(hY:Y.Pairwise (jf r))(h:∀x∈X,∀y∈Y,r x<=r y):(X++Y).Pairwise (jf r):=List.pairwise_append.mpr ⟨hX,hY,h⟩
def Mgd(r:Keyed->Nat)(l l':List Keyed)(b n:Nat):Prop:=∃M,l'=l.take b++M++l.drop (b+n)/\M.length=n/\M.Pairwise (jf r)
section
variable{st:SortSt}{sa na nb:Nat}(C:Ly prog w A E s kd r a₀)(hB:Bs kd a₀ st)(na0:0<na)(nb0:0<nb)(hs:sa+na+nb<=a₀.size)(S1:(part (arrOf st).toList sa na).Pairwise (jf r))(S2:(part (arrOf st).toList (sa+na) nb).Pairwise (jf r))
include C hB na0 nb0 hs S1 S2
theorem acj{Q:Bool->SortSt->Prop}(h:∀st',Bs kd a₀ st'->pendingOf st'=pendingOf st->Mgd r (arrOf st).toList (arrOf st').toList sa (na+nb)->Q true st'):wpS (model prog w) A E s (mA2 (arrOf st) sa na (sa+na) nb) Q st:=by
 have hsz:=hB.size;have hz:(arrOf st).toList.length=a₀.size:=by rw[Qqx];exact hsz
 have mem:∀x∈arrOf st,x∈a₀:=λx hx=>hB.mem hx;have l1:(part (arrOf st).toList sa na).length=na:=ym (by omega);have l2:(part (arrOf st).toList (sa+na) nb).length=nb:=ym (by omega);have dec:=YL (l:=(arrOf st).toList) sa na nb;generalize hRa:part (arrOf st).toList sa na=Ra at *;generalize hRb:part (arrOf st).toList (sa+na) nb=Rb at *;have hb0:sa+na<(arrOf st).size:=by omega
 have k0:(arrOf st)[sa+na]=Rb[0]'(by omega):=by
  subst hRb;rw[tK _ (by omega)]
  rfl
 have all:∀T,T=Ra++Rb->T.Pairwise (jf r)->Q true st:=λT e q=>h st hB rfl ⟨T,by
  have e3:sa+(na+nb)=sa+na+nb:=by omega
  rw[e3,e,Qwj,Qwj];exact dec,by rw[e,Qq1];omega,q⟩
 have low:∀y∈Rb,r (Rb[0]'(by omega))<=r y:=λy hy=>Lg (le:=jf r) rf S2 (i:=0) (by omega) (by rw[List.drop_zero];exact hy);unfold mA2;refine wpS_bind (eU hb0 (wpS_bind (Xc C hB.kind (mem _ (Array.getElem_mem hb0)) mem (by omega) na0 hRa.symm S1 λk k1 k2 k3=>?_)));rw[k0] at k2 k3;have k2':∀x∈Ra.take k,r x<=r (Rb[0]'(by omega)):=λx hx=>by
  have:=k2 x hx;unfold bB at this
  simpa using this
 have k3':∀x∈Ra.drop k,r (Rb[0]'(by omega))<r x:=λx hx=>by
  have:=k3 x hx;unfold bB at this
  simpa using this
 dsimp only;by_cases q1:na - k=0
 ·rw[if_pos (beq_iff_eq.mpr q1)];refine wpS_pure (all _ rfl (pw_app S1 S2 λx hx y hy=>Qq4 (k2' x ?_) (low y hy)));rw[List.take_of_length_le (by omega)];exact hx
 ·rw[if_neg (λz=>q1 (beq_iff_eq.mp z))];have hb1:sa+k+(na - k) - 1<(arrOf st).size:=by omega
  have k4:(arrOf st)[sa+k+(na - k) - 1]=Ra[na - 1]'(by omega):=by
   subst hRa;rw[tK _ (by omega)];have:sa+k+(na - k) - 1=sa+(na - 1):=by omega
   simp only[this]
   rfl
  refine wpS_bind (eU hb1 (wpS_bind (Xc C hB.kind (mem _ (Array.getElem_mem hb1)) mem (by omega) (by omega) hRb.symm S2 λm m1 m2 m3=>?_)));rw[k4] at m2 m3;have m2':∀y∈Rb.take m,r y<r (Ra[na - 1]'(by omega)):=λy hy=>by
   have:=m2 y hy;unfold bB at this
   simpa using this
  have m3':∀y∈Rb.drop m,r (Ra[na - 1]'(by omega))<=r y:=λy hy=>by
   have:=m3 y hy;unfold bB at this
   simpa using this
  have top:∀x∈Ra,r x<=r (Ra[na - 1]'(by omega)):=λx hx=>by
   obtain⟨u,hu,rfl⟩:=List.mem_iff_getElem.mp hx;exact pw_le (le:=jf r) rf S1 (i:=u) (j:=na - 1) (by omega) (by omega)
  dsimp only;by_cases q2:m=0
  ·rw[if_pos (beq_iff_eq.mpr q2)];subst q2;exact wpS_pure (all _ rfl (pw_app S1 S2 λx hx y hy=>Qq4 (top x hx) (m3' y (by rw[List.drop_zero];exact hy))))
  ·rw[if_neg (λz=>q2 (beq_iff_eq.mp z))];unfold mA3;have xe:((arrOf st).extract (sa+k) (sa+na)).toList=Ra.drop k:=by
    rw[Array.toList_extract];unfold List.extract;subst hRa;unfold part;rw[List.drop_take,List.drop_drop]
    congr 1
    omega
   have ye:((arrOf st).extract (sa+na) (sa+na+m)).toList=Rb.take m:=by rw[Array.toList_extract];unfold List.extract;subst hRb;unfold part;rw[List.take_take,Nat.add_sub_cancel_left,Nat.min_eq_left m1]
   generalize hx:(arrOf st).extract (sa+k) (sa+na)=X at *;generalize hy:(arrOf st).extract (sa+na) (sa+na+m)=Y at *;have xs:X.size=na - k:=by rw[<-Qqx,xe,Qxj];omega
   have ys:Y.size=m:=by rw[<-Qqx,ye,Qw3];omega
   have mX:∀x∈X,x∈a₀:=λx hx'=>by
    have:x∈X.toList:=Array.mem_toList_iff.mpr hx';rw[xe,<-hRa] at this;exact mem x (Array.mem_toList_iff.mp (List.mem_of_mem_drop (List.mem_of_mem_take (List.mem_of_mem_drop this))))
   have mY:∀x∈Y,x∈a₀:=λx hx'=>by
    have:x∈Y.toList:=Array.mem_toList_iff.mpr hx';rw[ye,<-hRb] at this;exact mem x (Array.mem_toList_iff.mp (List.mem_of_mem_drop (List.mem_of_mem_take (List.mem_of_mem_take this))))
   have pX:X.toList.Pairwise (jf r):=by rw[xe];exact S1.sublist (List.drop_sublist _ _)
   have pY:Y.toList.Pairwise (jf r):=by rw[ye];exact S2.sublist (List.take_sublist _ _)
   have gx:∀i (hi:i<X.size),X[i]=Ra[k+i]'(by omega):=λi hi=>by
    show X.toList[i]'(by rw[Qqx];exact hi)=_;simp only[xe,List.getElem_drop]
   have gy:∀i (hi:i<Y.size),Y[i]=Rb[i]'(by omega):=λi hi=>by
    show Y.toList[i]'(by rw[Qqx];exact hi)=_;simp only[ye,List.getElem_take]
   have fin:∀(R:Array Keyed) (st2:SortSt),Sm st st2->GD r X Y R->wpS (model prog w) A E s (do
     modify λst=>setArr st (R.toList.zipIdx.foldl (λa p=>a.setIfInBounds (sa+k+p.2) p.1) (arrOf st))
     let st <-get
     pure (failedOf st).isNone:SM Bool) Q st2:=λR st2 sm gd=>by
    obtain⟨g,rfl⟩:=sm;refine wpS_bind (wpS_modify (wpS_bind (wpS_get (wpS_pure ?_))));have rl:R.toList.length=na - k+m:=by rw[gd.1.length_eq,Qq1,xe,ye,Qxj,Qw3];omega
    have wr:=wb R.toList 0 (sa+k) (arrOf st) (by omega);rw[Nat.add_zero,rl] at wr;have e0:(arrOf st).toList.take (sa+k)=(arrOf st).toList.take sa++Ra.take k:=by rw[<-hRa];unfold part;rw[List.take_take,Nat.min_eq_left k1,List.take_add]
    have e1:(arrOf st).toList.drop (sa+k+(na - k+m))=Rb.drop m++(arrOf st).toList.drop (sa+na+nb):=by
     have e2:sa+k+(na - k+m)=sa+na+m:=by omega
     rw[e2,<-hRb];unfold part;rw[List.drop_take,List.drop_drop];have e3:(arrOf st).toList.drop (sa+na+nb)=((arrOf st).toList.drop (sa+na+m)).drop (nb - m):=by rw[List.drop_drop];congr 1;omega
     rw[e3,List.take_append_drop]
    rw[e0,e1] at wr;have adH:∀x∈R.toList,(x∈Ra.drop k\/x∈Rb.take m):=λx hx'=>by
     have:=gd.1.mem_iff.mp hx';rw[xe,ye] at this;exact Qw4.mp this
    have key:Mgd r (arrOf st).toList (R.toList.zipIdx.foldl (λa p=>a.setIfInBounds (sa+k+p.2) p.1) (arrOf st)).toList sa (na+nb):=by
     refine⟨Ra.take k++(R.toList++Rb.drop m),?_,?_,pw_app (S1.sublist (List.take_sublist _ _)) (pw_app gd.2 (S2.sublist (List.drop_sublist _ _)) λx hx' y hy'=>?_) λx hx' y hy'=>?_⟩
     ·rw[wr];have e3:sa+(na+nb)=sa+na+nb:=by omega
      rw[e3];simp only[Qwj]
     ·simp only[Qq1,Qw3,Qxj];omega
     ·rcases adH x hx' with q|q
      ·exact Qq4 (top x (List.mem_of_mem_drop q)) (m3' y hy')
      ·exact Qq4 (Qxv (m2' x q)) (m3' y hy')
     ·refine Qq4 (k2' x hx') ?_;rcases Qw4.mp hy' with q|q
      ·rcases adH y q with q|q
       ·exact Qxv (k3' y q)
       ·exact low y (List.mem_of_mem_take q)
      ·exact low y (List.mem_of_mem_drop q)
    have hperm:(R.toList.zipIdx.foldl (λa p=>a.setIfInBounds (sa+k+p.2) p.1) (arrOf st)).Perm (arrOf st):=by
     refine Array.perm_iff_toList_perm.mpr ?_;refine List.Perm.trans (List.Perm.of_eq wr) (List.Perm.trans ?_ (List.Perm.of_eq dec.symm));have pR:R.toList.Perm (Ra.drop k++Rb.take m):=by have:=gd.1;rwa [xe,ye] at this
     have t1:(Ra.take k++(R.toList++Rb.drop m)).Perm (Ra++Rb):=by have e4:=List.take_append_drop k Ra;have e5:=List.take_append_drop m Rb;have:(Ra.take k++(R.toList++Rb.drop m)).Perm (Ra.take k++((Ra.drop k++Rb.take m)++Rb.drop m)):=(pR.append_right _).append_left _;refine this.trans ?_;rw[Qwj,e5,<-Qwj,e4]
     have:=(t1.append_right ((arrOf st).toList.drop (sa+na+nb))).append_left ((arrOf st).toList.take sa);simp only[Qwj] at this ⊢;exact this
    have hf:(failedOf (setArr (setG st g) (R.toList.zipIdx.foldl (λa p=>a.setIfInBounds (sa+k+p.2) p.1) (arrOf st)))).isNone=true:=by
     show(failedOf st).isNone=true;rw[hB.fail]
     rfl
    show Q (failedOf (setArr (setG st g) (R.toList.zipIdx.foldl (λa p=>a.setIfInBounds (sa+k+p.2) p.1) (arrOf st)))).isNone _;rw[hf];exact h _ ⟨hperm.trans hB.perm,hB.fail,hB.kind⟩ rfl key
   have x0:0<X.size:=by omega
   have y0:0<Y.size:=by omega
   have hX0:r Y[0]<=r X[0]:=by rw[gx 0 x0,gy 0 y0];refine Qxv (k3' _ ?_);rw[List.mem_iff_getElem];exact⟨0,by rw[Qxj];omega,by rw[List.getElem_drop]⟩
   dsimp only;by_cases q3:na - k<=m
   ·rw[if_pos q3];refine wpS_bind ?_;refine acg C hB.kind mX mY pX pY (λy hy' hlt=>?_) x0 y0 hX0 fin;rw[ye] at hy';have:=m2' y hy';have e4:X.toList[X.size - 1]=Ra[na - 1]'(by omega):=by
     have:=gx (X.size - 1) (by omega);have e5:k+(X.size - 1)=na - 1:=by omega
     simp only[e5] at this;exact this
    show r y<=r _;rw[e4];exact Qxv this
   ·rw[if_neg q3];refine wpS_bind ?_;refine ach C hB.kind mX mY pX pY (λy hy' hlt=>?_) x0 y0 ?_ fin
    ·rw[xe] at hy';have e4:Y.toList[0]=Rb[0]'(by omega):=gy 0 y0;rw[e4];exact Qxv (k3' y hy')
    ·rw[gx _ (by omega),gy _ (by omega)];have e5:k+(X.size - 1)=na - 1:=by omega
     simp only[e5];refine Qxv (m2' _ ?_);rw[List.mem_iff_getElem];exact⟨Y.size - 1,by rw[Qw3];omega,by rw[List.getElem_take]⟩
end
theorem aci(C:Ly prog w A E s kd r a₀){st:SortSt}{i sa na pw nb pw2:Nat}{Q:Bool->SortSt->Prop}(hB:Bs kd a₀ st)(h1:(pendingOf st)[i]? = some (sa,na,pw))(h2:(pendingOf st)[i+1]? = some (sa+na,nb,pw2))(na0:0<na)(nb0:0<nb)(hs:sa+na+nb<=a₀.size)
  (S1:(part (arrOf st).toList sa na).Pairwise (jf r)) (S2:(part (arrOf st).toList (sa+na) nb).Pairwise (jf r))
  (h:∀st',Bs kd a₀ st'->pendingOf st'=((pendingOf st).setIfInBounds i (sa,na+nb,pw)).eraseIdxIfInBounds (i+1)->Mgd r (arrOf st).toList (arrOf st').toList sa (na+nb)->Q true st'):wpS (model prog w) A E s (mergeAt' i) Q st:=by
 rw[aaz];refine wpS_bind (wpS_get ?_);rw[h1,h2];dsimp only;refine wpS_bind (ace ?_);exact acj C (st:=setPending st (((pendingOf st).setIfInBounds i (sa,na+nb,pw)).eraseIdxIfInBounds (i+1))) ⟨hB.perm,hB.fail,hB.kind⟩ na0 nb0 hs S1 S2 λst' b1 b2 b3=>h st' b1 b2 b3
end
theorem Vb{l M D:List Keyed}{b b' n':Nat}(hb:b<=l.length)(h:b'+n'<=b):part (l.take b++M++D) b' n'=part l b' n':=by
 unfold part;rw[Qwj,List.drop_append_of_le_length (by rw[Qw3];omega),List.take_append_of_le_length (by rw[Qxj,Qw3];omega),List.drop_take,List.take_take]
 congr 1
 omega
theorem Lh{l M:List Keyed}{b n b':Nat}(hb:b+n<=l.length)(hM:M.length=n)(h:b+n<=b'):(l.take b++M++l.drop (b+n)).drop b'=l.drop b':=by
 have hl:(l.take b++M).length=b+n:=by rw[Qq1,Qw3,hM];omega
 have e:b'=(l.take b++M).length+(b' - (b+n)):=by omega
 rw[e,List.drop_append,List.drop_of_length_le (by omega),Qk0,Nat.add_sub_cancel_left,List.drop_drop]
 congr 1
 omega
theorem QX{l M D:List Keyed}{b:Nat}(hb:b<=l.length):part (l.take b++M++D) b M.length=M:=by unfold part;rw[Qwj,List.drop_left' (by rw[Qw3];omega),List.take_left' rfl]
section
variable{prog:Program}{w:World}{A:Around}{E:Value->Shared->Prop}{s:Shared}{kd:SortKind}{r:Keyed->Nat}{a₀:Array Keyed}
abbrev Pn:=Nat×Nat×Nat
def xr(r:Keyed->Nat)(l:List Keyed):List Pn->Nat->Nat->Prop
 | [],b,e=>b=e
 | p::ps,b,e=>p.1=b/\0<p.2.1/\(part l b p.2.1).Pairwise (jf r)/\xr r l ps (b+p.2.1) e
theorem xB{l:List Keyed}:∀{P:List Pn} {b e:Nat},xr r l P b e->b+P.length<=e
 | [],b,e,h=>Nat.le_of_eq h
 | p::P,b,e,h=>by have:=xB h.2.2.2;have:=h.2.1;rw[Qqw];omega
theorem sI{l:List Keyed}:∀{P Q:List Pn} {b e:Nat},xr r l (P++Q) b e ↔ ∃m,xr r l P b m/\xr r l Q m e
 | [],Q,b,e=>⟨λh=>⟨b,rfl,h⟩,λ⟨m,h1,h2⟩=>by have h1:b=m:=h1;subst h1;exact h2⟩
 | p::P,Q,b,e=>⟨λh=>by
   obtain⟨m,h1,h2⟩:=sI.mp h.2.2.2;exact⟨m,⟨h.1,h.2.1,h.2.2.1,h1⟩,h2⟩,λ⟨m,h1,h2⟩=>⟨h1.1,h1.2.1,h1.2.2.1,sI.mpr ⟨m,h1.2.2.2,h2⟩⟩⟩
theorem sH{l l':List Keyed}:∀{P:List Pn} {b e:Nat},xr r l P b e->(∀b' n',b<=b'->b'+n'<=e->part l' b' n'=part l b' n')->xr r l' P b e
 | [],b,e,h,_=>h
 | p::P,b,e,h,hs=>by
  have h0:=h.2.1;have hl:=xB h.2.2.2;exact⟨h.1,h0,by rw[hs _ _ (Qq0 _) (by omega)];exact h.2.2.1,sH h.2.2.2 λb' n' h1 h2=>hs b' n' (by omega) h2⟩
theorem Ka{l:List Keyed}{f:Pn->Pn}(hf:∀p,(f p).1=p.1/\(f p).2.1=p.2.1):∀{P:List Pn} {i b e:Nat},xr r l P b e->xr r l (P.modify i f) b e
 | [],i,b,e,h=>by cases i<;>exact h
 | p::P,0,b,e,h=>by
  rw[List.modify_cons,if_pos rfl];refine⟨(hf p).1.trans h.1,?_,?_,?_⟩
  ·rw[(hf p).2];exact h.2.1
  ·rw[(hf p).2];exact h.2.2.1
  ·rw[(hf p).2];exact h.2.2.2
 | p::P,i+1,b,e,h=>by
  rw[List.modify_cons,if_neg (by omega)];exact⟨h.1,h.2.1,h.2.2.1,Ka hf h.2.2.2⟩
theorem Yy{P:List Pn}{i:Nat}(h:i+1<P.length):P=P.take i++P[i]::P[i+1]::P.drop (i+2):=by have e1:=List.take_append_drop i P;rw[Qzz (by omega:i<P.length),Qzz h] at e1;exact e1.symm
theorem T8{P1 P2:List Pn}{x y v:Pn}:((P1++x::y::P2).set P1.length v).eraseIdx (P1.length+1)=P1++v::P2:=by
 rw[List.set_append_right _ _ (Qq0 _),Nat.sub_self,List.eraseIdx_append_of_length_le (by omega)];have:P1.length+1 - P1.length=1:=by omega
 rw[this]
 rfl
theorem acf(C:Ly prog w A E s kd r a₀){st:SortSt}{i e:Nat}{Q:Bool->SortSt->Prop}(hB:Bs kd a₀ st)(hS:xr r (arrOf st).toList (pendingOf st).toList 0 e)(he:e<=a₀.size)(hi:i+1<(pendingOf st).size)
  (h:∀st',Bs kd a₀ st'->xr r (arrOf st').toList (pendingOf st').toList 0 e->(pendingOf st').size+1=(pendingOf st).size->(arrOf st').toList.drop e=(arrOf st).toList.drop e->Q true st'):wpS (model prog w) A E s (mergeAt' i) Q st:=by
 have hz:(arrOf st).toList.length=a₀.size:=by rw[Qqx];exact hB.size
 have hi':i+1<(pendingOf st).toList.length:=by rw[Qqx];exact hi
 have g1:(pendingOf st)[i]? = some ((pendingOf st).toList[i]):=by rw[<-Qzw];exact Qqy _
 have g2:(pendingOf st)[i+1]? = some ((pendingOf st).toList[i+1]):=by rw[<-Qzw];exact Qqy _
 have d:=Yy hi';have lP:((pendingOf st).toList.take i).length=i:=by rw[Qw3];omega
 generalize hp1:(pendingOf st).toList.take i=P1 at *;generalize hp2:(pendingOf st).toList.drop (i+2)=P2 at *;generalize hx:(pendingOf st).toList[i]=x at *;generalize hy:(pendingOf st).toList[i+1]=y at *;rw[d] at hS;obtain⟨m,s1,s2⟩:=sI.mp hS;obtain⟨sa,na,pw⟩:=x;obtain⟨sb,nb,pw2⟩:=y;obtain⟨b1,b2,b3,c1,c2,c3,c4⟩:=s2;dsimp only at b1 b2 b3 c1 c2 c3 c4;subst b1;subst c1;have hle:=xB c4;refine aci C hB g1 g2 b2 c2 (by omega) b3 c3 λst' hB' hp hM=>h st' hB' ?_ ?_ ?_
 ·obtain⟨M,e1,e2,e3⟩:=hM;have el:(pendingOf st').toList=P1++(sa,na+nb,pw)::P2:=by
   rw[hp,Array.toList_eraseIdxIfInBounds,Array.toList_setIfInBounds,d,<-lP];exact T8
  rw[el,e1];refine sI.mpr ⟨sa,sH s1 λb' n' _ h2=>Vb (by omega) h2,rfl,by dsimp only;omega,?_,?_⟩
  ·dsimp only;rw[<-e2,QX (by omega)];exact e3
  ·dsimp only;have e4:sa+(na+nb)=sa+na+nb:=by omega
   rw[e4] at e1 ⊢;refine sH c4 λb' n' h1 _=>?_;unfold part;have:=Lh (l:=(arrOf st).toList) (M:=M) (b:=sa) (n:=na+nb) (b':=b') (by omega) e2 (by omega);rw[e4] at this;rw[this]
 ·rw[hp,<-Qqx,Array.toList_eraseIdxIfInBounds,Array.toList_setIfInBounds,List.length_eraseIdx,Qw8,if_pos hi',Qqx];omega
 ·obtain⟨M,e1,e2,e3⟩:=hM;rw[e1];exact Lh (by omega) e2 (by omega)
theorem TQ{a:Array Keyed}{lo n:Nat}(h:Up r a lo n)(hn:lo+n<=a.size):(part a.toList lo n).Pairwise (jf r):=by refine List.pairwise_iff_getElem.mpr λi j hi hj hij=>?_;have hl:(part a.toList lo n).length=n:=ym (by rw[Qqx];exact hn);rw[tK hi (by rw[Qqx];omega),tK hj (by rw[Qqx];omega)];have:=h i j (by omega) (by omega);unfold kA at this;rw[Array.getElem?_eq_getElem (by omega),Array.getElem?_eq_getElem (by omega)] at this;exact this
theorem Vy{lo:Nat}{a b:Array Keyed}(h:Lo lo a b){b' n':Nat}(hn:b'+n'<=lo):part b.toList b' n'=part a.toList b' n':=by
 unfold part;refine List.ext_getElem? λi=>?_;rw[List.getElem?_take,List.getElem?_take];split
 ·rw[List.getElem?_drop,List.getElem?_drop,Qzw,Qzw];exact h _ (by omega)
 ·rfl
theorem aaO{c:Prop}[Decidable c]{a b n:Nat}(h1:a+1<n)(h2:b+1<n):(if c then a else b)+1<n:=by split<;>assumption
theorem Yv(C:Ly prog w A E s kd r a₀){st:SortSt}{Q:Unit->SortSt->Prop}(hB:Bs kd a₀ st)(h2:2<=a₀.size)(hp0:pendingOf st = #[])(h:∀st',Bs kd a₀ st'->(arrOf st').toList.Pairwise (jf r)->Q () st'):wpS (model prog w) A E s sortRuns' Q st:=by
 rw[sortRuns'_eq];refine wpS_bind (wpS_get ?_);dsimp only;have hsz:=hB.size;rw[hsz];refine wpS_bind (wpS_mono (wpS_forRange (I:=λx (c:Option Unit×Nat) st1=>c.1=none/\x<=c.2/\c.2<=a₀.size/\Bs kd a₀ st1/\xr r (arrOf st1).toList (pendingOf st1).toList 0 c.2)
  (Q:=λc st1=>c.1=none/\Bs kd a₀ st1/\xr r (arrOf st1).toList (pendingOf st1).toList 0 a₀.size) ?_ ?_ ⟨rfl,Qq0 _,Qxy _,hB,by rw[hp0];rfl⟩) ?_)
 ·rintro x ⟨c,lo⟩ st1 _ hx ⟨e,x1,x2,hB1,hS⟩;cases e;dsimp only at x1 x2 hS ⊢;by_cases hl:lo ≥ a₀.size
  ·rw[if_pos hl];have:lo=a₀.size:=by omega
   subst this;exact wpS_pure ⟨rfl,hB1,hS⟩
  ·rw[if_neg hl];refine wpS_bind (acr C (by omega) (by omega) hB1 λn st2 hB2 hp2 n1 n2 hu hL=>?_);dsimp only;have jp:∀(n:Nat) (st3:SortSt),Bs kd a₀ st3->pendingOf st3=pendingOf st1->1<=n->lo+n<=a₀.size->Up r (arrOf st3) lo n->Lo lo (arrOf st1) (arrOf st3)->
     xr r (arrOf st3).toList (pendingOf st3).toList 0 lo/\(part (arrOf st3).toList lo n).Pairwise (jf r):=λn st3 q1 q2 q3 q4 q5 q6=>by
    rw[q2];exact⟨sH hS λb' n' _ h2=>Vy q6 h2,TQ q5 (by rw[q1.size];exact q4)⟩
   have fin:∀(n:Nat) (st3:SortSt),Bs kd a₀ st3->1<=n->lo+n<=a₀.size->xr r (arrOf st3).toList (pendingOf st3).toList 0 lo->(part (arrOf st3).toList lo n).Pairwise (jf r)->
     wpS (model prog w) A E s (do
      modify λs=>setPending s ((pendingOf s).push (lo,n,0))
      pure (ForInStep.yield ((none,lo+n):Option Unit×Nat)):SM (ForInStep (Option Unit×Nat))) (λt zX=>match t with
       | .done c=>c.1=none/\Bs kd a₀ zX/\xr r (arrOf zX).toList (pendingOf zX).toList 0 a₀.size
       | .yield c=>c.1=none/\x+1<=c.2/\c.2<=a₀.size/\Bs kd a₀ zX/\xr r (arrOf zX).toList (pendingOf zX).toList 0 c.2) st3:=λn st3 q1 q2 q3 q4 q5=>by
    refine wpS_bind (wpS_modify (wpS_pure ⟨rfl,by dsimp only;omega,q3,⟨q1.perm,q1.fail,q1.kind⟩,?_⟩));show xr r (arrOf st3).toList ((pendingOf st3).push (lo,n,0)).toList 0 (lo+n);rw[Array.toList_push];exact sI.mpr ⟨lo,q4,rfl,q2,q5,rfl⟩
   by_cases hm:n<minRun' a₀.size a₀.size 0
   case' pos=>
    rw[if_pos hm];refine wpS_bind (wpS_lift (Qkk ⟨rfl,?_⟩));refine wpS_bind (acs C (by omega) hB2 n1 (by omega) hu λst3 hB3 hp3 hu3 hL3=>?_);rw[if_neg (by decide)];have q1:=hB3;have q2:=hp3.trans hp2;have q3:1<=min (a₀.size - lo) (minRun' a₀.size a₀.size 0):=by omega
    have q4:lo+min (a₀.size - lo) (minRun' a₀.size a₀.size 0)<=a₀.size:=by omega
    have q5:=hu3;have q6:Lo lo (arrOf st1) (arrOf st3):=λm hm=>(hL3 m hm).trans (hL m hm);generalize min (a₀.size - lo) (minRun' a₀.size a₀.size 0)=n3 at q3 q4 q5 ⊢
   case' neg=>
    rw[if_neg hm];have q1:=hB2;have q2:=hp2;have q3:=n1;have q4:lo+n<=a₀.size:=by omega
    have q5:=hu;have q6:=hL;generalize n=n3 at q3 q4 q5 ⊢;generalize st2=st3 at q1 q2 q5 q6 ⊢
   all_goals
    obtain⟨k1,k2⟩:=jp n3 st3 q1 q2 q3 q4 q5 q6;refine wpS_bind (wpS_get ?_);rcases(pendingOf st3).back? with _|⟨s1,n1',_⟩
    ·exact fin n3 st3 q1 q3 q4 k1 k2
    ·dsimp only;refine wpS_bind (wpS_mono (wpS_forRange (I:=λy (c:Option Unit×Unit) zX=>c=(none,())/\Bs kd a₀ zX/\xr r (arrOf zX).toList (pendingOf zX).toList 0 lo/\(part (arrOf zX).toList lo n3).Pairwise (jf r))
      (Q:=λc zX=>c=(none,())/\Bs kd a₀ zX/\xr r (arrOf zX).toList (pendingOf zX).toList 0 lo/\(part (arrOf zX).toList lo n3).Pairwise (jf r)) ?_ (λc zX z=>z) ⟨rfl,q1,k1,k2⟩) ?_)
     ·rintro y c zX _ hy ⟨rfl,p1,p2,p3⟩;refine wpS_bind (wpS_get ?_)
      try dsimp only
      by_cases z:(pendingOf zX).size > 1
      ·rw[if_pos z,Array.getElem?_eq_getElem (by omega)];dsimp only;split
       ·exact wpS_pure ⟨rfl,p1,p2,p3⟩
       ·refine wpS_bind (acf C p1 p2 (by omega) (by omega) λYK r1 r2 _ r3=>?_);refine wpS_pure ⟨rfl,r1,r2,?_⟩;unfold part;rw[r3];exact p3
      ·rw[if_neg z];exact wpS_pure ⟨rfl,p1,p2,p3⟩
     ·rintro c zX ⟨rfl,p1,p2,p3⟩;dsimp only;refine wpS_bind (wpS_modify (fin n3 _ ⟨p1.perm,p1.fail,p1.kind⟩ q3 q4 ?_ p3));show xr r (arrOf zX).toList (Array.modify (pendingOf zX) _ _).toList 0 lo;rw[Array.toList_modify];refine Ka (λp=>?_) p2;exact⟨rfl,rfl⟩
 ·rintro⟨c,lo⟩ st1 ⟨e,x1,x2,hB1,hS⟩;dsimp only at e x1 x2 hS ⊢;have:lo=a₀.size:=by omega
  subst this;exact⟨e,hB1,hS⟩
 ·rintro⟨c,lo⟩ st1 ⟨e,hB1,hS⟩;cases e;dsimp only;refine wpS_bind (wpS_mono (wpS_forRange (I:=λy (c:Option Unit×Unit) st2=>c=(none,())/\Bs kd a₀ st2/\xr r (arrOf st2).toList (pendingOf st2).toList 0 a₀.size/\((pendingOf st2).size<=1\/(pendingOf st2).size+y<=a₀.size))
   (Q:=λc st2=>c=(none,())/\Bs kd a₀ st2/\xr r (arrOf st2).toList (pendingOf st2).toList 0 a₀.size/\(pendingOf st2).size<=1) ?_ ?_ ⟨rfl,hB1,hS,.inr (by have:=xB hS;rw[Qqx] at this;omega)⟩) ?_)
  ·rintro y c st2 _ hy ⟨rfl,p1,p2,p3⟩;refine wpS_bind (wpS_get ?_)
   try dsimp only
   by_cases z:(pendingOf st2).size<=1
   ·rw[if_pos z];exact wpS_pure ⟨rfl,p1,p2,z⟩
   ·rw[if_neg z];have go:∀i,i+1<(pendingOf st2).size->wpS (model prog w) A E s (do
      let v <-mergeAt' i
      if (!v)=true then pure (ForInStep.done ((some (),()):Option Unit×Unit)) else pure (ForInStep.yield (none,())):SM (ForInStep (Option Unit×Unit))) (λt st3=>match t with
       | .done c=>c=(none,())/\Bs kd a₀ st3/\xr r (arrOf st3).toList (pendingOf st3).toList 0 a₀.size/\(pendingOf st3).size<=1
       | .yield c=>c=(none,())/\Bs kd a₀ st3/\xr r (arrOf st3).toList (pendingOf st3).toList 0 a₀.size/\((pendingOf st3).size<=1\/(pendingOf st3).size+(y+1)<=a₀.size)) st2:=λi hi=>by
     refine wpS_bind (acf C p1 p2 (Qq0 _) hi λst3 r1 r2 r3 _=>?_);exact wpS_pure ⟨rfl,r1,r2,by omega⟩
    refine wpS_mono (go _ ?_) λt st3 z=>by cases t<;>exact z
    exact aaO (by omega) (by omega)
  ·rintro c st2 ⟨rfl,p1,p2,p3⟩;refine⟨rfl,p1,p2,?_⟩;omega
  ·rintro c st2 ⟨rfl,p1,p2,p3⟩;refine wpS_pure (h st2 p1 ?_);have hl:(arrOf st2).toList.length=a₀.size:=by rw[Qqx];exact p1.size
   have l1:(pendingOf st2).toList.length<=1:=by rw[Qqx];exact p3
   match (pendingOf st2).toList,l1,p2 with
   | [],_,z=>have z:0=a₀.size:=z;omega
   | [p],_,z=>
    obtain⟨z1,z2,z3,z4⟩:=z;have z4:0+p.2.1=a₀.size:=z4;unfold part at z3;rw[List.drop_zero,List.take_of_length_le (by omega)] at z3;exact z3
end
end ST
namespace Ev
open PySem PySem.Spec PyProof.Rows PySem.Calls PySem.W L2
mutual
theorem Sh.kept{h h':Heap}(k:∀b o,h.get? b=some o->h'.get? b=some o):∀(d:D) (u:Value),Sh h d u->Sh h' d u
 | .non,_,e=>e
 | .bl _,_,e=>e
 | .int _,_,e=>e
 | .str _,_,e=>e
 | .tup xs,u,e=>by obtain⟨a,its,rfl,⟨o,e1,e2,e3⟩,h2⟩:=e;exact⟨a,its,rfl,⟨o,k _ _ e1,e2,e3⟩,kW.kept k xs its h2⟩
 | .lst xs,u,e=>by obtain⟨a,its,rfl,⟨o,n,e1,e2⟩,h2⟩:=e;exact⟨a,its,rfl,⟨o,n,k _ _ e1,e2⟩,kW.kept k xs its h2⟩
 | .arr xs,u,e=>by obtain⟨a,its,rfl,⟨o,n,e1,e2⟩,h2⟩:=e;exact⟨a,its,rfl,⟨o,n,k _ _ e1,e2⟩,kW.kept k xs its h2⟩
 | .dct _,u,e=>by obtain⟨a,o,rfl,e1,e2⟩:=e;exact⟨a,o,rfl,k _ _ e1,e2⟩
 | .gh _,u,e=>by obtain⟨a,o,rfl,e1,e2⟩:=e;exact⟨a,o,rfl,k _ _ e1,e2⟩
 | .clo _ _,u,e=>e
theorem kW.kept{h h':Heap}(k:∀b o,h.get? b=some o->h'.get? b=some o):∀(ds:List D) (us:List Value),kW h ds us->kW h' ds us
 | [],_,e=>e
 | d::ds,us,e=>by obtain⟨u,r,rfl,e1,e2⟩:=e;exact⟨u,r,rfl,Sh.kept k d u e1,kW.kept k ds r e2⟩
end
section
variable{P:Program}{w:World}{A:Around}{E:Value->Shared->Prop}{s:Shared}{Q:Bool->Shared->Prop}
theorem Ug{x y:D}{u v:Value}{b:Bool}{Q:Value->Shared->Prop}(hx:Sh s.heap x u)(hy:Sh s.heap y v)(h:ltB x y=some b)(q:Q (.bool b) s):wpAny (model P w) A (richCompare .Lt u v) Q E s:=by
 cases x<;>cases y<;>simp only[ltB,reduceCtorEq,Qw7] at h
 ·cases hx;cases hy;subst h;exact(lt_bool q:wpAny (model P w) A (compareOp .Lt _ _) Q E s)
 ·obtain⟨t,rfl⟩:=hx;obtain⟨t',rfl⟩:=hy;subst h;exact(lt_int q:wpAny (model P w) A (compareOp .Lt _ _) Q E s)
 ·obtain⟨t,rfl⟩:=hx;obtain⟨t',rfl⟩:=hy;subst h;exact(show wpAny (model P w) A (compareOp .Lt (.str (strOf _) t) (.str (strOf _) t')) Q E s from lt_str q)
section
open PySem.SeqAt
open PySem.AutoSeq1 (wpAny_loadPart')
open PySem.MeetsSeq PySem.MeetsSeq2 PySem.MeetsSeq3
theorem HH(l b:Addr)(items items2:Array Value)(n n2:Nat)(dd dd2:Option Addr)(sl sl2:Array (Option Value))(xs ys:List D)(r:Bool)(hr:Vt xs ys=some r) :
  Meets (Builtin.«tuple.__lt__» ⟨[.ref l,.ref b],[]⟩)
   (λA R s=>s.heap.get? l=some { cls:=.type "tuple",dict:=dd,data:=.seq items n,slots:=sl }/\s.heap.get? b=some { cls:=.type "tuple",dict:=dd2,data:=.seq items2 n2,slots:=sl2 }/\
    kW s.heap xs items.toList/\kW s.heap ys items2.toList/\A.units+41<cLine/\R (.ok (.ret (.bool r))) s):=
 .of_wp λprog w A R s h=>by
  obtain⟨hp,g,d,tk,os⟩:=s;obtain⟨hl,hb,hi,hj,hu,h⟩:=h;have f2:=AutoSeq1.sub_tuple_tuple;have z1:items.size=xs.length:=by rw[<-hi.length];simp
  have z2:items2.size=ys.length:=by rw[<-hj.length];simp
  wp_walk using wpAny_loadPart' hl,wpAny_loadPart' hb,wpAny_forIn_list _ (λrest b s'=>b.1=none/\s'=⟨hp,g,d,tk,os⟩/\∃(vs ws:List Value) (xs' ys':List D),rest=vs.zip ws/\
   kW hp xs' vs/\kW hp ys' ws/\xs'.length+items2.size=ys'.length+items.size/\Vt xs' ys'=some r) _
  case turn=>
   rintro⟨y,x⟩ rest b s' ⟨hb',rfl,vs,ws,xs',ys',hz,hvi,hwi,hlen,hR⟩;cases xs' with
   | nil=>cases hvi;rw[List.zip_nil_left] at hz;cases hz
   | cons a xs'=>
    obtain⟨u,vs,rfl,ha,adX⟩:=hvi;cases ys' with
    | nil=>cases hwi;rw[List.zip_nil_right] at hz;cases hz
    | cons c ys'=>
     obtain⟨v,ws,rfl,hc,adW⟩:=hwi;rw[List.zip_cons_cons] at hz;injection hz with hyx hrest
     injection hyx with hy hx
     subst hy hx;simp only[Qqw] at hlen;unfold Vt at hR;split at hR
     ·rename_i e;refine Qqq (pW 40 a c _ _ true A.in1 ⟨hp,g,d,tk,os⟩ ha hc e (by show A.units+1+40<cLine;omega) prog w _ _ ?_)
      wp_walk
      exact⟨rfl,rfl,_,_,_,_,hrest,adX,adW,by omega,hR⟩
     ·rename_i e;refine Qqq (pW 40 a c _ _ false A.in1 ⟨hp,g,d,tk,os⟩ ha hc e (by show A.units+1+40<cLine;omega) prog w _ _ ?_);have hri:=λ(Q:Value->Shared->Prop) E (q:Q (.bool r) ⟨hp,g,d,tk,os⟩)=>Ug (P:=prog) (w:=w) (A:=A.in1) (E:=E) (s:=⟨hp,g,d,tk,os⟩) ha hc hR q
      wp_walk using hri
      exact⟨_,rfl,by simpa using h⟩
     ·cases hR
  case fin=>
   rintro⟨b1,b2⟩ s' ⟨hb',rfl,vs,ws,xs',ys',hz,hvi,hwi,hlen,hR⟩;simp only at hb';subst hb';have hv:r=decide (items.size<items2.size):=by
    cases xs' with
    | nil=>
     cases ys' with
     | nil=>
      simp only[Qz8] at hlen;cases hR;exact(Qwx (by omega)).symm
     | cons c ys'=>
      simp only[Qz8,Qqw] at hlen;cases hR;exact(Qwy (by omega)).symm
    | cons a xs'=>
     cases ys' with
     | nil=>
      simp only[Qz8,Qqw] at hlen;cases hR;exact(Qwx (by omega)).symm
     | cons c ys'=>
      obtain⟨u,vs,rfl,ha,adX⟩:=hvi;obtain⟨v,ws,rfl,hc,adW⟩:=hwi;rw[List.zip_cons_cons] at hz;cases hz
   rw[hv] at h
   wp_walk
   exact⟨_,rfl,by simpa[Builtin.Tuple.tupleCompareSizes] using h⟩
  case h=>
   exact⟨rfl,rfl,items.toList,items2.toList,xs,ys,rfl,hi,hj,by omega,hr⟩
end
theorem Vs{xs ys:List D}{u v:Value}{r:Bool}{Q:Value->Shared->Prop}(hx:Sh s.heap (.tup xs) u)(hy:Sh s.heap (.tup ys) v)(hu:A.units+41<cLine)(hr:Vt xs ys=some r)(q:Q (.bool r) s):wpAny (model P w) A (compareOp .Lt u v) Q E s:=by
 obtain⟨a,its,rfl,⟨⟨cls,dd,data,sl⟩,ho,hc,n,hd⟩,h2⟩:=hx;obtain⟨a',its',rfl,⟨⟨cls2,dd2,data2,sl2⟩,ho2,hc2,n2,hd2⟩,h2'⟩:=hy;simp only at hc hd hc2 hd2;subst hc hd hc2 hd2;exact richCompare_meets_room (op:=.Lt) ⟨_,ho,rfl⟩ ⟨_,ho2,rfl⟩ PySem.F.slot_tuple_lt PySem.F.entry_tuple_lt (PySem.F.args_tuple_lt_2 _ _) (HH a a' its.toArray its'.toArray n n2 dd dd2 sl sl2 xs ys r hr)
  ⟨ho,ho2,by simpa using h2,by simpa using h2',hu,show Value.bool r≠Value.notImplemented/\Q (.bool r) s from⟨(λx=>nomatch x),q⟩⟩ (by omega)
theorem aaE(hu:A.units+57<cLine){t:Bool}{x y:D}{u v:Value}{b c:Bool}(ht:t=true->c=false)(hx:Sh s.heap x u)(hy:Sh s.heap y v)(h:XH t x y=some b)(q:Q b s):wpAny (model P w) A (oneLt' c u v) Q E s:=by
 cases x<;>cases y<;>simp only[XH,reduceCtorEq,Qw7] at h
 ·obtain⟨t,rfl⟩:=hx;obtain⟨t',rfl⟩:=hy;subst h;cases c with
  | true=>exact oneLt_int q
  | false=>exact kat_one _ _ (lt_int q)
 ·obtain⟨t,rfl⟩:=hx;obtain⟨t',rfl⟩:=hy;subst h;cases c with
  | true=>exact oneLt_str q
  | false=>exact kat_one _ _ (lt_str q)
 ·split at h
  ·rename_i e;cases ht e;exact kat_one _ _ (Vs hx hy (by omega) h q)
  ·cases h
theorem Rp(hu:A.units+57<cLine){t c:Bool}(ht:t=true->c=false):∀(xs ys:List D) (us vs:List Value) (i:Nat) (b fin:Bool),kW s.heap xs us->kW s.heap ys vs->XD t xs ys=some b->fin=decide (us.length<vs.length)->Q b s->KatLex P w A c fin Q (us.zip vs) i s
 | [],[],us,vs,i,b,fin,hx,hy,h,hf,q=>by
  cases hx;cases hy;cases h;cases hf;exact q
 | [],y::ys,us,vs,i,b,fin,hx,hy,h,hf,q=>by
  obtain⟨v,r,rfl,_,_⟩:=hy;cases hx;cases h;subst hf;show Q (decide (0<r.length+1)) s;rw[Qwy (by omega)];exact q
 | x::xs,[],us,vs,i,b,fin,hx,hy,h,hf,q=>by
  obtain⟨v,r,rfl,_,_⟩:=hx;cases hy;cases h;subst hf;show Q (decide (r.length+1<0)) s;rw[Qwx (by omega)];exact q
 | x::xs,y::ys,us,vs,i,b,fin,hx,hy,h,hf,q=>by
  obtain⟨u,us,rfl,hx1,hx2⟩:=hx;obtain⟨v,vs,rfl,hy1,hy2⟩:=hy;rw[List.zip_cons_cons];unfold XD at h;split at h
  ·rename_i e;refine kat_cons (pW 57 x y u v true A s hx1 hy1 e hu P w _ _ (kat_yes (Rp hu ht xs ys us vs (i+1) b fin hx2 hy2 h ?_ q)));rw[hf,Qqw,Qqw];simp
  ·rename_i e;exact kat_cons (pW 57 x y u v false A s hx1 hy1 e hu P w _ _ (kat_no (aaE hu (λz=>by rw[ht z];rfl) hx1 hy1 h q)))
  ·cases h
theorem aaC(hu:A.units+57<cLine){t:Bool}{x y:D}{u v:Value}{b c:Bool}(ht:t=true->c=false)(hx:Sh s.heap x u)(hy:Sh s.heap y v)(h:Th t x y=some b)(q:Q b s):wpAny (model P w) A (keyLt' (tuples' c) u v) Q E s:=by cases x<;>cases y<;>simp only[Th,reduceCtorEq] at h;rename_i xs ys;obtain⟨a,its,rfl,⟨o,e1,_,n,e2⟩,h2⟩:=hx;obtain⟨a',its',rfl,⟨o',e1',_,n',e2'⟩,h2'⟩:=hy;exact kat_lt e1 e2 e1' e2' (Rp hu ht xs ys its its' 0 b _ h2 h2' h (by simp) q)
theorem kW.getD{h:Heap}:∀{ds:List D} {us:List Value} {i:Nat},kW h ds us->i<ds.length->Sh h (ds.getD i .non) (us.getD i .none)
 | [],_,_,_,c=>absurd c (Qkv _)
 | d::ds,us,i,e,c=>by
  obtain⟨u,r,rfl,e1,e2⟩:=e;cases i with
  | zero=>exact e1
  | succ i=>simpa using kW.getD e2 (i:=i) (by simpa using c)
theorem zb{h:Heap}:∀{ds:List D} {us:List Value},kW h ds us->(∀d∈ds,aaS d=true)->∃fs,KatTups h us fs/\fs.length=us.length/\∀v∈fs,∃i t,v = .int i t
 | [],_,e,_=>by cases e;exact⟨[],trivial,rfl,λv hv=>by cases hv⟩
 | d::ds,us,e,hd=>by
  obtain⟨u,r,rfl,e1,e2⟩:=e;obtain⟨fs,k1,k2,k3⟩:=zb e2 λx hx=>hd x (Qqk _ hx);have hd1:=hd d (Qqj ..);cases d with
  | tup xs=>cases xs with
   | nil=>cases hd1
   | cons x xs=>cases x with
    | int i=>
     obtain⟨a,its,rfl,⟨o,g1,g2,n,g3⟩,g4⟩:=e1;obtain⟨v,its',rfl,⟨t,rfl⟩,_⟩:=g4;refine⟨.int i t::fs,KatTups.cons g1 g2 g3 (by simp) k1,by simp[k2],λv hv=>?_⟩;rcases Qq7.mp hv with rfl|hv
     ·exact⟨i,t,rfl⟩
     ·exact k3 v hv
    | _=>cases hd1
  | _=>cases hd1
theorem za{h:Heap}:∀{ds:List D} {us:List Value},kW h ds us->(∀d∈ds,aaR d=true)->∃fs,KatTups h us fs/\fs.length=us.length/\∀v∈fs,∃i t,v = .str i t
 | [],_,e,_=>by cases e;exact⟨[],trivial,rfl,λv hv=>by cases hv⟩
 | d::ds,us,e,hd=>by
  obtain⟨u,r,rfl,e1,e2⟩:=e;obtain⟨fs,k1,k2,k3⟩:=za e2 λx hx=>hd x (Qqk _ hx);have hd1:=hd d (Qqj ..);cases d with
  | tup xs=>cases xs with
   | nil=>cases hd1
   | cons x xs=>cases x with
    | str i=>
     obtain⟨a,its,rfl,⟨o,g1,g2,n,g3⟩,g4⟩:=e1;obtain⟨v,its',rfl,⟨t,rfl⟩,_⟩:=g4;refine⟨.str (strOf i) t::fs,KatTups.cons g1 g2 g3 (by simp) k1,by simp[k2],λv hv=>?_⟩;rcases Qq7.mp hv with rfl|hv
     ·exact⟨_,t,rfl⟩
     ·exact k3 v hv
    | _=>cases hd1
  | _=>cases hd1
theorem yZ{h:Heap}:∀{ds:List D} {us:List Value},kW h ds us->(∀d∈ds,aaQ d=true)->∃fs,KatTups h us fs/\fs.length=us.length/\∀v∈fs,∃a o,v = .ref a/\h.get? a=some o/\o.cls = .type "tuple"
 | [],_,e,_=>by cases e;exact⟨[],trivial,rfl,λv hv=>by cases hv⟩
 | d::ds,us,e,hd=>by
  obtain⟨u,r,rfl,e1,e2⟩:=e;obtain⟨fs,k1,k2,k3⟩:=yZ e2 λx hx=>hd x (Qqk _ hx);have hd1:=hd d (Qqj ..);cases d with
  | tup xs=>cases xs with
   | nil=>cases hd1
   | cons x xs=>cases x with
    | tup zs=>
     obtain⟨a,its,rfl,⟨o,g1,g2,n,g3⟩,g4⟩:=e1;obtain⟨v,its',rfl,⟨a',its2,rfl,⟨o',q1,q2,_⟩,_⟩,_⟩:=g4;refine⟨.ref a'::fs,KatTups.cons g1 g2 g3 (by simp) k1,by simp[k2],λv hv=>?_⟩;rcases Qq7.mp hv with rfl|hv
     ·exact⟨a',o',rfl,q1,q2⟩
     ·exact k3 v hv
    | _=>cases hd1
  | _=>cases hd1
theorem VM{ds:List D}{us:List Value}{Q:SortKind->Shared->Prop}(hs:kW s.heap ds us)(h2:2<=ds.length)(hk:(((∀d∈ds,aaS d=true)\/∀d∈ds,aaR d=true)/\∀x∈ds,∀y∈ds,Th false x y≠none)\/(∀d∈ds,aaQ d=true)/\∀x∈ds,∀y∈ds,nG x y≠none)
  (h:∀c t,(t=true->c=false)->(∀x∈ds,∀y∈ds,Th t x y≠none)->Q (tuples' c) s) :
  wpAny (model P w) A (keyKind' us.toArray) Q E s:=by
 rcases hk with ⟨hk|hk,hn⟩|⟨hk,hn⟩
 ·obtain⟨fs,k1,k2,k3⟩:=zb hs hk;refine kat_kind (T:=.type "int") k1 (by rw[k2,hs.length];omega) (λv hv=>?_) (by decide) (h _ false (λz=>by cases z) hn);obtain⟨i,t,rfl⟩:=k3 v hv;exact Looks.of_pure rfl
 ·obtain⟨fs,k1,k2,k3⟩:=za hs hk;refine kat_kind (T:=.type "str") k1 (by rw[k2,hs.length];omega) (λv hv=>?_) (by decide) (h _ false (λz=>by cases z) hn);obtain⟨i,t,rfl⟩:=k3 v hv;exact Looks.of_pure rfl
 ·obtain⟨fs,k1,k2,k3⟩:=yZ hs hk;refine kat_kind (T:=.type "tuple") k1 (by rw[k2,hs.length];omega) (λv hv=>?_) (by decide) (h _ true (λ_=>by decide) hn);obtain⟨a,o,rfl,q1,q2⟩:=k3 v hv;exact λA Q E s' hk q=>wpAny_typeOf_ref (hk _ _ q1) (by rw[q2];exact q)
def Laid(ds:List D)(p:List Nat):Prop:=p.Perm (List.range ds.length)/\bL ds=p.map λi=>ds.getD i .non
theorem VG{ds:List D}(o:jY (·∈ ds)){p:Array Nat}(B:KB ds.length p)(u:kUp (Pz ds) p ds.length):Laid ds p.toList:=by
 have hp:p.toList.Perm (List.range ds.length):=by simpa using Array.perm_iff_toList_perm.mp B.perm
 have hl:p.toList.length=ds.length:=by rw[hp.length_eq,List.length_range]
 refine⟨hp,(sV o (λy h=>h) ?_ ?_).symm⟩
 ·have:=hp.map λi=>ds.getD i D.non;refine this.trans (.of_eq ?_);refine List.ext_getElem (by simp) λi h1 h2=>?_;simp[Qwk,h2]
 ·refine List.pairwise_map.mpr (List.pairwise_iff_getElem.mpr λi j hi hj hij=>?_);have hi':i<ds.length:=by omega
  have hj':j<ds.length:=by omega
  have e1:p.getD i 0=p.toList[i]:=by simp[Array.getD,show i<p.size by rw[B.size];exact hi']
  have e2:p.getD j 0=p.toList[j]:=by simp[Array.getD,show j<p.size by rw[B.size];exact hj']
  have:=u i j (Qxv hij) hj';unfold kK at this;rw[e1,e2] at this;intro c;have c':=(Py o (by have:=B.lt j;rw[e2] at this;exact this) (by have:=B.lt i;rw[e1] at this;exact this)).mp c;omega
theorem Pg{ds:List D}(h:ds.length<2):bL ds=ds:=by
 match ds,h with
 | [],_=>rfl
 | [_],_=>rfl
theorem Rv{ds:List D}(h:ds.length<2):Laid ds (List.range ds.length):=by refine⟨.refl _,?_⟩;rw[Pg h];refine List.ext_getElem (by simp) λi h1 h2=>?_;simp[Qwk,h1]
theorem Ni{h:Heap}{a:Addr}{its its':List Value}(h1:IsTup h a its.toArray)(h2:IsTup h a its'.toArray):its=its':=by
 obtain⟨o,e1,_,n,d1⟩:=h1;obtain⟨o',e2,_,n',d2⟩:=h2;rw[e1] at e2;cases e2;rw[d1] at d2;cases d2
 rfl
mutual
theorem Sh.inj{h : Heap} : ∀ (n : Nat) (d e : D) (u : Value), okP n d = true → okP n e = true → Sh h d u → Sh h e u → d = e
  | 0, _, _, _, o, _, _, _ => by cases o
  | n + 1, d, e, u, o1, o2, h1, h2 => by
    cases d <;> cases e <;> first
      | (cases o1; done)
      | (cases o2; done)
      | rfl
      | (simp only [Sh] at h1 h2; subst h1; cases h2; done)
      | (simp only [Sh] at h1 h2; obtain ⟨_, rfl⟩ := h1; cases h2; done)
      | (simp only [Sh] at h1 h2; subst h1; obtain ⟨_, e⟩ := h2; cases e; done)
      | (simp only [Sh] at h1 h2; obtain ⟨_, rfl⟩ := h1; obtain ⟨_, e⟩ := h2; cases e; done)
      | (simp only [Sh] at h1 h2; obtain ⟨_, _, rfl, _⟩ := h1; cases h2; done)
      | (simp only [Sh] at h1 h2; subst h1; obtain ⟨_, _, e, _⟩ := h2; cases e; done)
      | (simp only [Sh] at h1 h2; obtain ⟨_, _, rfl, _⟩ := h1; obtain ⟨_, e⟩ := h2; cases e; done)
      | (simp only [Sh] at h1 h2; obtain ⟨_, rfl⟩ := h1; obtain ⟨_, _, e, _⟩ := h2; cases e; done)
      | (simp only [Sh] at h1 h2; subst h1; cases h2; rfl)
      | (simp only [Sh] at h1 h2; obtain ⟨_, rfl⟩ := h1; obtain ⟨_, e⟩ := h2; cases e; rfl)
      | (simp only [Sh] at h1 h2; obtain ⟨_, e1⟩ := h1; obtain ⟨_, e2⟩ := h2; rw [e1] at e2; injection e2 with e3; rw [mW e3])
      | (rename_i xs ys
         obtain ⟨a, its, e1, t1, s1⟩ := h1;obtain ⟨a', its', e2, t2, s2⟩ := h2;rw [e1] at e2;cases e2;rw [Ni t1 t2] at s1;rw [kW.inj n xs ys its' (λd hd => Qx6.mp o1 d hd) (λd hd => Qx6.mp o2 d hd) s1 s2])
theorem kW.inj{h:Heap}:∀(n:Nat) (ds es:List D) (us:List Value),(∀d∈ds,okP n d=true)->(∀d∈es,okP n d=true)->kW h ds us->kW h es us->ds=es
 | _,[],[],_,_,_,_,_=>rfl
 | _,[],_::_,_,_,_,h1,h2=>by cases h1;obtain⟨_,_,e,_⟩:=h2;cases e
 | _,_::_,[],_,_,_,h1,h2=>by cases h2;obtain⟨_,_,e,_⟩:=h1;cases e
 | n,d::ds,e::es,us,o1,o2,h1,h2=>by
  obtain⟨u,r,rfl,a1,a2⟩:=h1;obtain⟨u',r',e',b1,b2⟩:=h2;cases e';rw[Sh.inj n d e u (o1 d (Qqj ..)) (o2 e (Qqj ..)) a1 b1,kW.inj n ds es r (λx hx=>o1 x (Qqk _ hx)) (λx hx=>o2 x (Qqk _ hx)) a2 b2]
end
theorem FN{α:Type}(f:Nat->α):∀(l:List α) (m:List Nat),l.Perm (m.map f)->∃p:List Nat,p.Perm m/\l=p.map f
 | [],m,h=>by
  have:m=[]:=List.map_eq_nil_iff.mp h.symm.eq_nil;exact⟨[],by rw[this],rfl⟩
 | x::l,m,h=>by
  obtain⟨a,ha,rfl⟩:=Qw9.mp (h.mem_iff.mp (Qqj ..));have hm:=List.perm_cons_erase ha;have h2:(f a::l).Perm (f a::(m.erase a).map f):=h.trans (hm.map f);obtain⟨p,h3,h4⟩:=FN f l _ h2.cons_inv;exact⟨a::p,(h3.cons a).trans hm.symm,by rw[h4];rfl⟩
open Classical in
noncomputable def yQ(vs:List Value)(x:Value):Nat:=if h:∃i,vs[i]? = some x then h.choose else 0
theorem RG{vs:List Value}{x:Value}{i:Nat}(h:vs[i]? = some x):vs[yQ vs x]? = some x:=by have:∃i,vs[i]? = some x:=⟨i,h⟩;unfold yQ;rw[dif_pos this];exact this.choose_spec
theorem wD{a:Addr}{ds:List D}{vs:List Value}{n:Nat}{h₀:Heap}{R:PySem.Fin->Shared->Prop}(ho:s.heap.get? a=some (seqObj "list" vs.toArray n))(k₀:∀b o,h₀.get? b=some o->b<a/\s.heap.get? b=some o)
  (hs:kW h₀ ds vs) (ok:lF ds) (hu:A.units+57<cLine)
  (h:∀p:List Nat,Laid ds p->R (.done (.ret .none)) { s with heap:=sortedHeap s.heap a vs (p.map λi=>vs.getD i Value.none).toArray }) :
  wpAny (model P w) A (Builtin.«list.sort» ⟨[.ref a],[]⟩) R E s:=by
 have hlen:=hs.length;have h64:vs.length<=1000:=by rcases ok with q|⟨⟨q,_⟩,_⟩<;>omega
 rw[list_sort_plain];have ha:a<s.heap.objs.size:=Qq9 ho;refine Qqq (listItems_at ho rfl ?_);refine Qqq (listUpdate_at ho rfl ?_ (by rw[Qq3,Qj0];omega) (Qxy _));obtain⟨e1,ho1⟩:∃e1,(s.heap.update a (Obj.mapSeq λ_=>(#[]:Array Value))).get? a=some (seqObj "list" #[] e1):=⟨_,get?_update_seq ho λ_=>#[]⟩;refine Qqq (seqEpoch_at ho1 rfl ?_);refine Qqq (wpAny_newTuple ?_ (by show vs.length<=_;rw[Qj0];omega));refine Qqq (wpAny_newList ?_ (Qxy _));refine Qzy ?_;have ho6:(((s.heap.update a (Obj.mapSeq λ_=>(#[]:Array Value))).push (seqObj "tuple" vs.toArray 0)).push (seqObj "list" #[] 0)).get? a=some (seqObj "list" #[] e1):=by rw[Heap.get?_push_ne _ _ _ (by rw[size_push',Heap.size_update];exact Qw6 (Qk1 ha)),Heap.get?_push_ne _ _ _ (by rw[Heap.size_update];exact Qw6 ha)];exact ho1
 have kept:∀b o,h₀.get? b=some o->(((s.heap.update a (Obj.mapSeq λ_=>(#[]:Array Value))).push (seqObj "tuple" vs.toArray 0)).push (seqObj "list" #[] 0)).get? b=some o:=λb o e=>by
  obtain⟨q1,q2⟩:=k₀ b o e;refine Qqz _ (Qqz _ ?_);rw[Heap.get?_update_ne _ _ _ _ (Qw6 q1)];exact q2
 have hs':=hs.kept kept;show wpAny (model P w) A _ R E { s with heap:=((s.heap.update a (Obj.mapSeq λ_=>(#[]:Array Value))).push (seqObj "tuple" vs.toArray 0)).push (seqObj "list" #[] 0) };dsimp only;have fin:∀(st':SortSt) (p:List Nat),(arrOf st').map (·.2)=(p.map λi=>vs.getD i Value.none).toArray->failedOf st'=none->Laid ds p->
   wpAny (model P w) A (do
    let touched:=(<-seqEpoch a) != e1
    Builtin.List.listUpdate (.ref a) λ_=>(arrOf st').map (·.2)
    if let some e:=failedOf st' then rule "list.sort.comparison-raised";throw e
    if touched then rule "list.sort.modified";raiseError "ValueError" "list modified during sort"
    ret .none) R E { s with heap:=((s.heap.update a (Obj.mapSeq λ_=>(#[]:Array Value))).push (seqObj "tuple" vs.toArray 0)).push (seqObj "list" #[] 0) }:=by
  intro st' p he hf lp;have lp1:=lp.1.length_eq;rw[List.length_range] at lp1;refine Qqq (seqEpoch_at ho6 rfl ?_);rw[he];refine Qqq (listUpdate_at ho6 rfl ?_ (Qxy _) (by rw[Qq3,Qqv,lp1,Qj0];omega));rw[hf];simp only[bne_self_eq_false,Bool.false_eq_true,Qk4];exact Qq2 (h p lp)
 by_cases h2:vs.toArray.size<2
 ·rw[if_pos h2,if_pos h2];refine Qqq (Qq2 ?_);rw[StateT.run_pure];refine Qqq (Qq2 ?_);have h2':ds.length<2:=by rw[Qq3] at h2;omega
  refine fin (SortSt.mk' general' (vs.toArray.zip vs.toArray) #[] 7 none) _ ?_ rfl (Rv h2');show(vs.toArray.zip vs.toArray).map (·.2)=_;rw[<-hlen];apply Array.toList_inj.mp;rw[Array.toList_map,Array.toList_zip];refine List.ext_getElem (by simp) λi q1 q2=>?_;have q3:i<vs.length:=by simpa using q2
  simp[Qwk,q3]
 ·rw[if_neg h2,if_neg h2];have h2':2<=vs.length:=by rw[Qq3] at h2;omega
  rcases ok with q|⟨⟨_,okd⟩,hk,o1,o3,o4⟩
  ·omega
  have o:=jY.of o1 o3 o4;refine Qqq (VM hs' (by omega) hk λc t ht o2=>?_);generalize hS:({ s with heap:=((s.heap.update a (Obj.mapSeq λ_=>(#[]:Array Value))).push (seqObj "tuple" vs.toArray 0)).push (seqObj "list" #[] 0) }:Shared)=s1 at *;have hs1:s1.heap=((s.heap.update a (Obj.mapSeq λ_=>(#[]:Array Value))).push (seqObj "tuple" vs.toArray 0)).push (seqObj "list" #[] 0):=by rw[<-hS]
  rw[<-hs1] at hs';have szz:(vs.toArray.zip vs.toArray).size=vs.length:=by simp
  have at0:∀x∈vs.toArray.zip vs.toArray,vs[yQ vs x.1]? = some x.1:=λx hx=>by
   obtain⟨i,hi,rfl⟩:=Array.mem_iff_getElem.mp hx;refine RG (i:=i) ?_;rw[szz] at hi;simp[hi]
  have atd:∀i,(h:i<vs.length)->vs[i]? = some (vs.getD i Value.none):=λi h=>by simp[Qwk,h]
  have C:ST.Ly P w A E s1 (tuples' c) (λx=>Pz ds (yQ vs x.1)) (vs.toArray.zip vs.toArray):=λx y hx hy st Q hk q=>by
   have e1:=at0 x hx;have e2:=at0 y hy;have i1:yQ vs x.1<ds.length:=by rw[<-hlen];exact(Qq6.mp e1).1
   have i2:yQ vs y.1<ds.length:=by rw[<-hlen];exact(Qq6.mp e2).1
   have YW:=hs'.getD i1;have s2':=hs'.getD i2;have g1:vs.getD (yQ vs x.1) Value.none=x.1:=by rw[Qwk,e1];rfl
   have g2:vs.getD (yQ vs y.1) Value.none=y.1:=by rw[Qwk,e2];rfl
   rw[g1] at YW;rw[g2] at s2';have mi:ds.getD (yQ vs x.1) .non∈ds:=by rw[Qwk,Qqy i1];exact Qx7 ..
   have mj:ds.getD (yQ vs y.1) .non∈ds:=by rw[Qwk,Qqy i2];exact Qx7 ..
   have e:Th t (ds.getD (yQ vs x.1) .non) (ds.getD (yQ vs y.1) .non)=some (decide (Pz ds (yQ vs x.1)<Pz ds (yQ vs y.1))):=by
    cases c:Th t (ds.getD (yQ vs x.1) .non) (ds.getD (yQ vs y.1) .non) with
    | none=>exact absurd c (o2 _ mi _ mj)
    | some b=>
     have r:=Py o i1 i2;have c2:nG (ds.getD (yQ vs x.1) .non) (ds.getD (yQ vs y.1) .non)=some b:=by
      cases t with
      | true=>exact c
      | false=>exact aaB c
     rw[c2] at r;cases b with
     | true=>rw[Qwy (r.mp rfl)]
     | false=>rw[Qwx (λz=>by cases r.mpr z)]
   rw[lt'_eq];refine wpS_bind (wpS_get ?_);rw[hk];exact wpS_bind (wpS_lift (wpAny_attempt (aaC hu ht YW s2' e ⟨rfl,wpS_pure q⟩)))
  refine Qqq (Qx8 (ST.Yv C (st:=SortSt.mk' (tuples' c) (vs.toArray.zip vs.toArray) #[] 7 none) (Q:=λ_ st'=>ST.Bs (tuples' c) (vs.toArray.zip vs.toArray) st'/\(arrOf st').toList.Pairwise (ST.jf λx=>Pz ds (yQ vs x.1)))
   ⟨Array.Perm.refl _,rfl,rfl⟩ (by rw[szz];exact h2') rfl λst' b1 b2=>⟨b1,b2⟩) ?_ λ_ _ e=>e)
  rintro⟨⟨⟩,st'⟩ s' ⟨rfl,hb,hp⟩;have zl:(vs.toArray.zip vs.toArray).toList=(List.range vs.length).map λi=>(vs.getD i Value.none,vs.getD i Value.none):=by
   refine List.ext_getElem (by simp) λi q1 q2=>?_;have q3:i<vs.length:=by simpa using q1
   simp[Qwk,q3]
  have pm:=Array.perm_iff_toList_perm.mp hb.perm;rw[zl] at pm;obtain⟨p,p1,p2⟩:=FN _ _ _ pm;have self:∀i,i<vs.length->yQ vs (vs.getD i Value.none)=i:=λi hi=>by
   have e1:=RG (atd i hi);generalize yQ vs (vs.getD i Value.none)=j at e1 ⊢;have hj:j<vs.length:=(Qq6.mp e1).1;have d1:=hs'.getD (i:=i) (by omega);have d2:=hs'.getD (i:=j) (by omega);have g1:vs.getD j Value.none=vs.getD i Value.none:=by rw[Qwk (l:=vs) (i:=j),e1];rfl
   rw[g1] at d2;have mi:ds.getD i .non∈ds:=by rw[Qwk,Qqy (by omega)];exact Qx7 ..
   have mj:ds.getD j .non∈ds:=by rw[Qwk,Qqy (by omega)];exact Qx7 ..
   have e:=Sh.inj 60 _ _ _ (okd _ mi) (okd _ mj) d1 d2;have pr:=List.pairwise_iff_getElem.mp o4;have gi:ds.getD i .non=ds[i]'(by omega):=by rw[Qwk,Qqy (by omega)];rfl
   have gj:ds.getD j .non=ds[j]'(by omega):=by rw[Qwk,Qqy (by omega)];rfl
   rw[gi,gj] at e;rcases Nat.lt_trichotomy i j with z|z|z
   ·have q:=pr i j (by omega) (by omega) z;rw[e,o1 _ (Qx7 ..)] at q;rcases q with q|q<;>cases q
   ·exact z.symm
   ·have q:=pr j i (by omega) (by omega) z;rw[e,o1 _ (Qx7 ..)] at q;rcases q with q|q<;>cases q
  have pin:∀i∈p,i<vs.length:=λi hi=>by have:=p1.mem_iff.mp hi;simpa using this
  refine fin st' p ?_ hb.fail ?_
  ·apply Array.toList_inj.mp;rw[Array.toList_map,p2,Qj2]
   rfl
  ·have B:KB ds.length p.toArray:=⟨by omega,by rw[<-hlen];exact Array.perm_iff_toList_perm.mpr (by simpa using p1)⟩;refine VG o B λi j hij hj=>?_;have hpl:p.length=ds.length:=by rw[p1.length_eq,List.length_range,hlen]
   rw[p2] at hp;have pr:=List.pairwise_iff_getElem.mp (List.pairwise_map.mp hp);unfold kK;have gi:p.toArray.getD i 0=p[i]'(by omega):=by simp[Array.getD,show i<p.length by omega]
   have gj:p.toArray.getD j 0=p[j]'(by omega):=by simp[Array.getD,show j<p.length by omega]
   rw[gi,gj];by_cases z:i=j
   ·subst z;exact Qq0 _
   ·have q:=pr i j (by omega) (by omega) (by omega);have q:Pz ds (yQ vs (vs.getD (p[i]'(by omega)) Value.none))<=Pz ds (yQ vs (vs.getD (p[j]'(by omega)) Value.none)):=q;rw[self _ (pin _ (Qx7 ..)),self _ (pin _ (Qx7 ..))] at q;exact q
end
theorem bu.getD{K:Fg}{F:Hp}:∀{ds:List D} {vs:List V} {i:Nat},bu K F ds vs->i<ds.length->Rep K F (ds.getD i .non) (vs.getD i .non)
 | [],_,_,_,c=>absurd c (Qkv _)
 | d::ds,us,i,e,c=>by
  obtain⟨u,r,rfl,e1,e2⟩:=e;cases i with
  | zero=>exact e1
  | succ i=>simpa using bu.getD e2 (i:=i) (by simpa using c)
theorem Ax:∀{vs:List V} {us:List Value} {i:Nat},Vals vs us->i<vs.length->RelV (vs.getD i .non) (us.getD i .none)
 | _,_,_,.nil,c=>absurd c (Qkv _)
 | _,_,0,.cons h _,_=>h
 | _,_,i+1,.cons _ h,c=>by simpa using Ax h (i:=i) (by simpa using c)
theorem vg{K:Fg}{F:Hp}{ds:List D}{vs:List V}(h:bu K F ds vs):∀(p:List Nat),(∀i∈p,i<ds.length)->bu K F (p.map λi=>ds.getD i .non) (p.map λi=>vs.getD i .non)
 | [],_=>rfl
 | i::p,hp=>⟨_,_,rfl,h.getD (hp i (Qqj ..)),vg h p λj hj=>hp j (Qqk _ hj)⟩
theorem uJ{vs:List V}{us:List Value}(h:Vals vs us):∀(p:List Nat),(∀i∈p,i<vs.length)->Vals (p.map λi=>vs.getD i .non) (p.map λi=>us.getD i .none)
 | [],_=>.nil
 | i::p,hp=>.cons (Ax h (hp i (Qqj ..))) (uJ h p λj hj=>hp j (Qqk _ hj))
section
variable{X:Cx}{C:Cfg}{p pos:Pos}{e:Expr}{ea:dg}
def Iv(K:Fg):List V->Hp->VK->Prop:=λxs H Q=>∃F p vs ds,aH F H/\xs=[.ref p]/\(jX K H p vs\/jZ K H p vs)/\bu K F ds vs/\lF ds/\∀l vs',H l=none->bu K F (bL ds) vs'->Q (.ref l) (upd H l (.lst vs'))
theorem JD(hu:X.A.units+60<cLine):gP X (.builtin "sorted") (Iv X.K):=by
 intro pins s σ H xs us Q I r h;obtain⟨F,p,vs,ds,hF,rfl,hq,hr,ok,q⟩:=h;obtain⟨u,rfl,rx⟩:=vals1 r;cases rx;obtain⟨its,rv,T,o,n,hT,ho,hc,hd⟩:∃(its:List Value),Vals vs its/\∃(T:String) (o:Obj) (n:Nat),(T = "list"\/T = "tuple")/\s.heap.get? p=some o/\o.cls = .type T/\o.data = .seq its.toArray n:=by
  rcases hq with hq|hq
  ·obtain⟨its,rv,⟨o,n,e1,e2,_,e3⟩,_⟩:=I.list hq;exact⟨its,rv,"list",o,n,.inl rfl,e1,e2,e3⟩
  ·obtain⟨its,rv,⟨o,e1,e2,n,e3⟩,_⟩:=I.tuple hq;exact⟨its,rv,"tuple",o,n,.inr rfl,e1,e2,e3⟩
 have hs:kW s.heap ds its:=bu.sh I ds vs its (bu.mono hF _ _ hr) rv;have hlen:=hs.length;have h64:its.length<=1000:=by rcases ok with z|⟨⟨z,_⟩,_⟩<;>omega
 have hvl:vs.length=its.length:=rv.length;refine Calls.call_function_entry kind_sorted plain_sorted entry_sorted (args_sorted1 _) ?_;unfold Builtin.«sorted»;refine Qqq (m:=checkCount "sorted" 1 1 _) (Qq2 ?_);refine Qqq (wpAny_collect_seq p hT ho hc hd (λh' hk=>?_) (by rw[Qq3,Qj0];omega));refine Qqq (wpAny_newList ?_ (by rw[Qj0];simp;omega));have hoL:(h'.push (seqObj "list" its.toArray 0)).get? h'.objs.size=some (seqObj "list" its.toArray 0):=Qwz _ rfl;show wpAny _ _ _ _ _ { s with heap:=h'.push (seqObj "list" its.toArray 0) };refine Qqq (Qzy (Qzx slot_list_sort ⟨_,hoL,rfl⟩ entry_list_sort (wD hoL (h₀:=h') (λb o e=>⟨Qq9 e,Qqz _ e⟩) (hs.kept hk) ok (by show X.A.units+1+1+57<cLine;omega) λpp lp=>⟨_,rfl,?_⟩) (args_list_sort _)));obtain⟨e,he⟩:=sortedHeap_at (out:=(pp.map λi=>its.getD i Value.none).toArray) hoL;refine Qq2 ⟨_,rfl,?_⟩;have I1:L2.Inv X pins σ H { s with heap:=h' }:=I.kept hk;have hin:∀i∈pp,i<ds.length:=λi hi=>by have:=lp.1.mem_iff.mp hi;simpa using this
 have hpl:pp.length=ds.length:=by rw[lp.1.length_eq,List.length_range]
 have rv2:=uJ rv pp λi hi=>by rw[hvl,hlen];exact hin i hi
 have rr2:=vg hr pp hin;rw[<-lp.2] at rr2;refine⟨.ref h'.objs.size,_,I1.laid (t':=s.toks) (λb o e=>?_) (Qq0 _) (o:=.lst (pp.map λi=>vs.getD i .non)) (show fj X.prog X.w _ _ h'.objs.size _ from⟨?_,_,e,rv2,by simpa[seqObj] using he⟩),rfl,q _ _ (I1.hok.fresh (Qq0 _)) rr2⟩
 ·have lt':=Qq9 e;rw[sortedHeap_old (Qw6 lt') (by rw[size_push'];exact Qk1 lt')];exact Qqz _ e
 ·rw[Qqv,hpl];exact Qq4 (by omega:ds.length<=1000) (by decide)
noncomputable def yS:List D->Option D
 | [.lst ds]=>if lF ds then some (.lst (bL ds)) else none
 | [.tup ds]=>if lF ds then some (.lst (bL ds)) else none
 | _=>none
theorem Sg:CallD C (Iv C.K) yS:=by
 intro Pr F env σ H ds d vs Q r p e q;have fin:∀(zs:List D) (l:Addr) (vs':List V),lF zs->bu C.K F (bL zs) vs'->d = .lst (bL zs)->H l=none->Q (.ref l) (upd H l (.lst vs')):=λzs l vs' hz hv hd hl=>by
  subst hd;have hlen:(bL zs).length<=1000:=by rw[(fH zs).length_eq];rcases hz with z|⟨⟨z,_⟩,_⟩<;>omega
  obtain⟨F2,r2,s2,p2⟩:=(r.fresh (o:=.lst vs') hl).keep (Om.of r hl (show jo C.K F (upd H l (.lst vs')) (.lst (bL zs)) l from⟨Qq4 hlen (by decide),vs',aX,hv⟩));exact q _ _ F2 r2 s2 p2
 unfold yS at e;split at e
 ·obtain⟨v,w,rfl,p1,p2⟩:=p;cases p2;split at e
  ·rename_i hz;cases e;obtain⟨z,a,ws,rfl,h1,h2⟩:=p1.lst r.fr;exact⟨F,a,ws,_,r.fr,rfl,.inl (jX.of h1),h2,hz,λl vs' hl hv=>fin _ l vs' hz hv rfl hl⟩
  ·cases e
 ·obtain⟨v,w,rfl,p1,p2⟩:=p;cases p2;split at e
  ·rename_i hz;cases e;obtain⟨z,a,ws,rfl,h1,_,h2⟩:=p1.tup r.fr;exact⟨F,a,ws,_,r.fr,rfl,.inr h1,h2,hz,λl vs' hl hv=>fin _ l vs' hz hv rfl hl⟩
  ·cases e
 ·cases e
end
variable{X:Cx}{C:Cfg}{p pos:Pos}{e:Expr}{ea:dg}
theorem Ov(G:Good X C)(hm:X.mg "sorted" = none)(ha:uy X C [e] ea)(hg:Gl X "sorted":=by rfl)(he:Ed e X.env:=by rfl):SX X C (.Call (.Name "sorted" p) [e] [] pos) (ao yS ea):=⟨lg (X:=X) (r:=Iv C.K) (by rw[<-G.K];exact JD G.u60) Sg hg hm PyProof.Rows.boot_sorted ha.u (by decide) (by decide) he rfl⟩
open PySem PySem.Spec PySem.W PySem.Calls PyProof.Rows L2
def FA(K:Fg)(x:Str)(st:Stmt):Prop:=∃(f:Addr) (oc kV doc pm cdv ct:Value) (od an:Option Addr) (osl:Array (Option Value)),PySem.W.nsIn K mainGlobals x=some (some (.ref f))/\
 K.lookup f=some ⟨oc,od,.func (PySem.W.fnOf x x (jj st) (d8 st) (aM st) .none kV doc pm an cdv ct),osl⟩/\PySem.W.codeIn K cdv x=true/\PySem.W.keepIn K (.ref f)=true
theorem FA.mk{K:Fg}{x:Str}{st:Stmt}{f:Addr}{oc kV doc pm cdv ct:Value}{od an:Option Addr}{osl:Array (Option Value)}(a:PySem.W.nsIn K mainGlobals x=some (some (.ref f)))
  (l:K.lookup f=some ⟨oc,od,.func (PySem.W.fnOf x x (jj st) (d8 st) (aM st) .none kV doc pm an cdv ct),osl⟩) (c:PySem.W.codeIn K cdv x=true) (k:PySem.W.keepIn K (.ref f)=true):FA K x st:=
 ⟨f,oc,kV,doc,pm,cdv,ct,od,an,osl,a,l,c,k⟩
theorem FA.at{K:Fg}{h:Heap}{mg:Str->Option Value}{x:Str}{st:Stmt}{ps:List Str}(X:K.In h)(G:h.Ns mainGlobals mg)(F:FA K x st)
  (b:∀{kV doc pm:Value} {an:Option Addr} {cdv ct:Value} (us:List Value),us.length=ps.length->bindArgs (PySem.W.fnOf x x (jj st) (d8 st) (aM st) .none kV doc pm an cdv ct) ⟨us,[]⟩=pure (ps.zip us)):dG K mg x st ps:=by
 obtain⟨f,oc,kV,doc,pm,cdv,ct,od,an,osl,a,l,c,k⟩:=F;exact funAt X G a l c k (λ_ _ _ _ _ _ us hl=>b us hl)
theorem FA.law{P:Program}{w:World}{K:Fg}{h:Heap}{mg:Str->Option Value}{fa:Addr}{x y:Str}{st:Stmt}{k:Nat}{g:List D->Option D}(X:K.In h)(G:h.Ns mainGlobals mg)(hfa:mg x=some (.ref fa))(F:FA K x st)
  (b:∀{kV doc pm:Value} {an:Option Addr} {cdv ct:Value} (s:Shared) (v:Value),BindsTo s (PySem.W.fnOf x x (jj st) (d8 st) (aM st) .none kV doc pm an cdv ct) ⟨[v],[]⟩ [(y,v)])
  (q:∀{fd:FuncData} (base:Heap),Te K x x st fa fd->mR P w K mg base Ec k fa fd [y] (qj K 1 g)) :
  ∃fd:FuncData,(∀(s:Shared) (v:Value),BindsTo s fd ⟨[v],[]⟩ [(y,v)])/\∀base:Heap,K.In base->base.Ns mainGlobals mg->mR P w K mg base Ec k fa fd [y] (qj K 1 g):=by
 obtain⟨f,oc,kV,doc,pm,cdv,ct,od,an,osl,a,l,c,k⟩:=F;have e:=hfa.symm.trans (Qk3 X G a);cases e;exact⟨_,b,λbase _ _=>q base (Jz (st:=st) l c k)⟩
open PySem PySem.Spec PyProof.Rows L2
mutual
theorem Sh.isN{h:Heap}:∀(d:D) (u:Value) (k:NK),Sh h d u->tO d=some k->zZ h k u
 | .int i,u,k,e,g=>by rw[tO] at g;cases g;obtain⟨t,rfl⟩:=e;rw[zZ];exact .inl ⟨t,rfl⟩
 | .bl b,u,k,e,g=>by rw[tO] at g;cases g;cases e;rw[zZ];exact .inr ⟨b,rfl,rfl⟩
 | .str x,u,k,e,g=>by rw[tO] at g;cases g;rw[zZ];exact e
 | .tup xs,u,k,e,g=>by
  rw[tO] at g;obtain⟨ks,g1,rfl⟩:=Qw2.mp g;obtain⟨a,its,rfl,⟨o,e1,e2,n,e3⟩,e4⟩:=e;rw[zZ];exact⟨a,o,its.toArray,n,rfl,e1,e2,e3,by simpa using kW.isN xs its ks e4 g1⟩
 | .non,u,k,e,g=>by simp[tO] at g
 | .lst _,u,k,e,g=>by simp[tO] at g
 | .arr _,u,k,e,g=>by simp[tO] at g
 | .dct _,u,k,e,g=>by simp[tO] at g
 | .gh _,u,k,e,g=>by simp[tO] at g
theorem kW.isN{h:Heap}:∀(ds:List D) (us:List Value) (ks:List NK),kW h ds us->Gf ds=some ks->mQ h ks us
 | [],us,ks,e,g=>by rw[Gf] at g;cases g;cases e;rw[mQ]
 | d::ds,us,ks,e,g=>by
  obtain⟨u,r,rfl,e1,e2⟩:=e;rw[Gf] at g;split at g
  ·rename_i k ks' g1 g2;cases g;rw[mQ];exact⟨u,r,rfl,Sh.isN d u k e1 g1,kW.isN ds r ks' e2 g2⟩
  ·cases g
end
structure nD(K:Fg)(H:Hp)(y:V)(kd:D)(q:NK):Prop where
 rep:Rep K H kd y
 nk:tO kd=some q
 dep:q.dep<=8
 tup:∃xs,kd = .tup xs
abbrev KN:List (NK×V×V)->List (NK×Addr×Value)->Prop:=Paired λp q=>p.1=q.1/\p.2.1 = .ref q.2.1/\RelV p.2.2 q.2.2
noncomputable def valN(ks:List (NK×V×V))(q:NK):Option V:=(ks.find? λp=>decide (p.1=q)).map (·.2.2)
noncomputable def putN(ks:List (NK×V×V))(q:NK)(u v:V):List (NK×V×V):=if (valN ks q).isSome then ks.map (λp=>if p.1=q then (p.1,p.2.1,v) else p) else ks++[(q,u,v)]
theorem KN.val{ks:List (NK×V×V)}{xs:List (NK×Addr×Value)}(r:KN ks xs)(q:NK):uz (valN ks q) ((atKey xs q).map (·.2)):=by
 unfold valN atKey
 induction r with
 | nil=>exact True.intro
 | @cons p x ps xs h t ih=>
  rw[Qzv,Qzv];by_cases c:p.1=q
  ·have c2:x.1=q:=h.1 ▸ c;rw[Qwy c,Qwy c2];exact h.2.2
  ·have c2:¬x.1=q:=h.1 ▸ c;rw[Qwx c,Qwx c2];exact ih
theorem KN.len{ks:List (NK×V×V)}{xs:List (NK×Addr×Value)}(r:KN ks xs):ks.length=xs.length:=by
 induction r with
 | nil=>rfl
 | cons _ _ ih=>simp[ih]
theorem KN.put{ks:List (NK×V×V)}{xs:List (NK×Addr×Value)}(r:KN ks xs)(q:NK){b:Addr}{v:V}{u:Value}(rv:RelV v u):KN (putN ks q (.ref b) v) (storedH xs q b u):=by
 have hs:=(r.val q).vN;rw[Option.isSome_map] at hs;unfold putN storedH;rw[<-hs];split
 ·clear hs
  induction r with
  | nil=>exact .nil
  | @cons p x ps xs h t ih=>
   rw[Qwv,Qwv];refine .cons ?_ ?_
   ·unfold putAt;by_cases c:p.1=q
    ·have c2:x.1=q:=h.1 ▸ c;rw[if_pos c,if_pos c2];exact⟨h.1,h.2.1,rv⟩
    ·have c2:¬x.1=q:=h.1 ▸ c;rw[if_neg c,if_neg c2];exact h
   ·rename_i hsome;clear hsome;clear ih
    induction t with
    | nil=>exact .nil
    | @cons p x ps xs h t ih=>
     rw[Qwv,Qwv];refine .cons ?_ ih;unfold putAt;by_cases c:p.1=q
     ·have c2:x.1=q:=h.1 ▸ c;rw[if_pos c,if_pos c2];exact⟨h.1,h.2.1,rv⟩
     ·have c2:¬x.1=q:=h.1 ▸ c;rw[if_neg c,if_neg c2];exact h
 ·exact Paired.snoc r ⟨rfl,rfl,rv⟩
section
variable{X:Cx}{pins:List (Addr×Obj)}{σ:L2.St}{H:Hp}{s:Shared}{a:Addr}{ks:List (NK×V×V)}{kvs:List (D×D)}{y v:V}{kd:D}{q:NK}{u:Value}{A:Around}{E:Value->Shared->Prop}
theorem Kz(I:Inv X pins σ H s):∀{kvs:List (D×D)} {ks:List (NK×V×V)} {xs:List (NK×Addr×Value)},cC X.K H kvs ks->KN ks xs->∀x∈xs,(pJ X.prog X.w).is s.heap x.1 x.2.1
 | [],_,_,hr,r,x,hx=>by
  cases hr;cases r;cases hx
 | (k,d)::kvs,_,_,hr,r,x,hx=>by
  obtain⟨q,u,v,rest,rfl,h1,h2,h3,h4,h5⟩:=hr;cases r with
  | @cons _ x0 _ xs' h t=>
   rcases Qq7.mp hx with rfl|hx
   ·obtain⟨g1,g2,g3⟩:=h;simp only at g1 g2 g3;subst g1;subst g2;exact⟨Sh.isN k _ _ (Rep.sh I k _ (.ref x.2.1) h3 rfl) h1,h2⟩
   ·exact Kz I h5 t x hx
theorem zx(I:Inv X pins σ H s)(e:Rd H a (.dN ks))(hr:cC X.K H kvs ks):ks.length<=sizeLine/\(a == sysModules)=false/\∃xs,KN ks xs/\s.heap.DictOfH (pJ X.prog X.w) a xs:=by obtain⟨z,y,xs,r,o,es,ep,h1,h2,h3,h4,h5⟩:=(show fj X.prog X.w H s.heap a (.dN ks) from e.ok I.hok);exact⟨z,y,xs,r,o,es,ep,h1,h2,h3,h4,Kz I hr r,h5⟩
theorem nD.is(k:nD X.K H y kd q)(I:Inv X pins σ H s)(ry:RelV y u):∃b,y = .ref b/\u = .ref b/\(pJ X.prog X.w).is s.heap q b:=by obtain⟨h1,h2,h3,xs,rfl⟩:=k;have h4:=Sh.isN _ _ _ (Rep.sh I _ y u h1 ry) h2;obtain⟨_,b,vs,rfl,_⟩:=h1;cases ry;exact⟨b,rfl,rfl,h4,h3⟩
theorem yc(hu:A.units+12<cLine):(pJ X.prog X.w).room A.in1:=by show A.units+1+10<cLine;omega
theorem abp{Q:Value->Shared->Prop}(hu:A.units+12<cLine)(I:Inv X pins σ H s)(e:Rd H a (.dN ks))(hr:cC X.K H kvs ks)(k:nD X.K H y kd q)(hv:valN ks q=some v)(ry:RelV y u)
  (h:∀w' s',Inv X pins σ H s'->RelV v w'->Q w' s'):wpAny (model X.prog X.w) A (getItem (.ref a) u) Q E s:=by
 obtain⟨b,rfl,rfl,hk⟩:=k.is I ry;obtain⟨z,hd,xs,rel,dd⟩:=zx I e hr;obtain⟨w',hw,Io⟩:=uz.some_of (v:=v) (o:=(atKey xs q).map (·.2)) (by rw[<-hv];exact rel.val q);obtain⟨p,hp,hp2⟩:=Qw2.mp hw;refine wpAny_getItem_heap (yc hu) hk dd hp ?_;rw[hp2];exact h w' _ (I.tok _) Io
theorem R7{Q:Value->Shared->Prop}(hu:A.units+12<cLine)(I:Inv X pins σ H s)(e:Rd H a (.dN ks))(hr:cC X.K H kvs ks)(k:nD X.K H y kd q)(ry:RelV y u)
  (h:∀s',Inv X pins σ H s'->Q (.bool (!(valN ks q).isSome)) s'):wpAny (model X.prog X.w) A (compareOp .NotIn u (.ref a)) Q E s:=by
 obtain⟨b,rfl,rfl,hk⟩:=k.is I ry;obtain⟨z,hd,xs,rel,dd⟩:=zx I e hr;refine wpAny_notIn_heap (yc hu) hk hd dd ?_;have q':=(rel.val q).vN;rw[Option.isSome_map] at q';rw[<-q'];exact h _ (I.tok _)
theorem QC(ks:List (NK×V×V))(q:NK)(u v:V):(putN ks q u v).length<=ks.length+1:=by
 unfold putN;split
 ·rw[Qqv];omega
 ·simp
theorem abo{r:Value}{Q:Unit->Shared->Prop}(hu:A.units+12<cLine)(I:Inv X pins σ H s)(e:H a=some (.dN ks))(hr:cC X.K H kvs ks)(k:nD X.K H y kd q)(hl:ks.length<sizeLine)(ry:RelV y u)(rv:RelV v r)
  (h:∀s',Inv X pins σ (upd H a (.dN (putN ks q y v))) s'->Q () s'):wpAny (model X.prog X.w) A (setItem (.ref a) u r) Q E s:=by
 obtain⟨b,rfl,rfl,hk⟩:=k.is I ry;obtain⟨z,hd,xs,rel,dd⟩:=zx I (.inl e) hr;have hz:xs.length<=sizeLine:=by rw[<-rel.len];exact z
 have hl2:(putN ks q (.ref b) v).length<=sizeLine:=by have:=QC ks q (.ref b) v;omega
 refine wpAny_setItem_heap (hsz:=hz) (yc hu) hk dd λh' Yb hs=>h _ ?_;obtain⟨o,es,ep,hq,h2,h3,h4,_,h5⟩:=Yb;exact xM I (by rw[e];exact True.intro) hs ⟨o,hq⟩ ⟨hl2,hd,_,rel.put q rv,o,es,ep,hq,h2,h3,h4,h5⟩
end
noncomputable def jO(kvs:List (D×D))(q:NK):Option D:=(kvs.find? λp=>decide (tO p.1=some q)).map (·.2)
noncomputable def qF(kvs:List (D×D))(kd:D)(q:NK)(d:D):List (D×D):=if (jO kvs q).isSome then kvs.map (λp=>if tO p.1=some q then (p.1,d) else p) else kvs++[(kd,d)]
theorem cC.len{K:Fg}{F:Hp}:∀{kvs:List (D×D)} {ks:List (NK×V×V)},cC K F kvs ks->ks.length=kvs.length
 | [],_,h=>by cases h;rfl
 | (k,d)::kvs,_,h=>by obtain⟨q,u,v,r,rfl,_,_,_,_,h5⟩:=h;rw[Qqw,Qqw,h5.len]
theorem cC.val{K:Fg}{F:Hp}(q:NK):∀{kvs:List (D×D)} {ks:List (NK×V×V)},cC K F kvs ks->(jO kvs q=none/\valN ks q=none)\/∃d v,jO kvs q=some d/\valN ks q=some v/\Rep K F d v
 | [],_,h=>by cases h;exact .inl ⟨rfl,rfl⟩
 | (k,d)::kvs,_,h=>by
  obtain⟨q0,u,v,r,rfl,h1,h2,h3,h4,h5⟩:=h;unfold jO valN;rw[Qzv,Qzv];by_cases c:q0=q
  ·subst c;have c2:decide (tO k=some q0)=true:=Qwy h1;rw[c2,Qwy rfl];exact .inr ⟨d,v,rfl,rfl,h4⟩
  ·have c2:decide (tO k=some q)=false:=Qwx λz=>c (by rw[h1] at z;exact Qw1 z);rw[c2,Qwx c];exact cC.val q h5
theorem cC.snoc{K:Fg}{F:Hp}{kd d:D}{q:NK}{u v:V}(h1:tO kd=some q)(h2:q.dep<=8)(h3:Rep K F kd u)(h4:Rep K F d v):∀{kvs:List (D×D)} {ks:List (NK×V×V)},cC K F kvs ks->cC K F (kvs++[(kd,d)]) (ks++[(q,u,v)])
 | [],_,h=>by cases h;exact⟨q,u,v,[],rfl,h1,h2,h3,h4,rfl⟩
 | (k,e)::kvs,_,h=>by
  obtain⟨q0,u0,v0,r,rfl,g1,g2,g3,g4,g5⟩:=h;exact⟨q0,u0,v0,r++[(q,u,v)],rfl,g1,g2,g3,g4,cC.snoc h1 h2 h3 h4 g5⟩
theorem cC.over{K:Fg}{F:Hp}{d:D}{q:NK}{v:V}(h4:Rep K F d v):∀{kvs:List (D×D)} {ks:List (NK×V×V)},cC K F kvs ks->cC K F (kvs.map λp=>if tO p.1=some q then (p.1,d) else p) (ks.map λp=>if p.1=q then (p.1,p.2.1,v) else p)
 | [],_,h=>by cases h;rfl
 | (k,e)::kvs,_,h=>by
  obtain⟨q0,u0,v0,r,rfl,g1,g2,g3,g4,g5⟩:=h;rw[Qwv,Qwv];have ih:=cC.over (q:=q) h4 g5;by_cases c:q0=q
  ·subst c;rw[if_pos g1,if_pos rfl];exact⟨q0,u0,v,_,rfl,g1,g2,g3,h4,ih⟩
  ·rw[if_neg (λz=>c (by rw[g1] at z;exact Qw1 z)),if_neg c];exact⟨q0,u0,v0,_,rfl,g1,g2,g3,g4,ih⟩
theorem cC.put{K:Fg}{F:Hp}{kvs:List (D×D)}{ks:List (NK×V×V)}{kd d:D}{q:NK}{u v:V}(h:cC K F kvs ks)(h1:tO kd=some q)(h2:q.dep<=8)(h3:Rep K F kd u)(h4:Rep K F d v):cC K F (qF kvs kd q d) (putN ks q u v):=by
 have e:(jO kvs q).isSome=(valN ks q).isSome:=by rcases h.val q with ⟨g1,g2⟩|⟨_,_,g1,g2,_⟩<;>rw[g1,g2]<;>rfl
 unfold qF putN;rw[e];split
 ·exact h.over h4
 ·exact h.snoc h1 h2 h3 h4
theorem Mv(kvs:List (D×D))(kd:D)(q:NK)(d:D):(qF kvs kd q d).length<=kvs.length+1:=by
 unfold qF;split
 ·rw[Qqv];omega
 ·simp
theorem gC.gh{K:Fg}{F H:Hp}{kvs:List (D×D)}{v:V}(s:aH F H)(h:gC K F H (.gh kvs) v):kvs.length<=sizeLine/\∃a ks,v = .ref a/\Rd H a (.dN ks)/\cC K F kvs ks:=by
 rcases h with ⟨z,a,vs,rfl,h1,h2⟩|⟨a,rfl,z,vs,h1,h2⟩
 ·exact⟨z,a,vs,rfl,aH.rd s h1,h2⟩
 ·exact⟨z,a,vs,rfl,.inl h1,h2⟩
noncomputable def Gg(d:D):Option NK:=match d with
 | .tup xs=>(tO (.tup xs)).bind λq=>if q.dep<=8 then some q else none
 | _=>none
theorem yw{d:D}{q:NK}(h:Gg d=some q):tO d=some q/\q.dep<=8/\∃xs,d = .tup xs:=by
 unfold Gg at h;split at h
 ·obtain⟨p,h1,h2⟩:=Qx4.mp h;split at h2
  ·rename_i hd;cases h2;exact⟨h1,hd,_,rfl⟩
  ·cases h2
 ·cases h
theorem nD.of{C:Cfg}{F H:Hp}{d:D}{q:NK}{v:V}(s:aH F H)(p:gC C.K F H d v)(h:Gg d=some q):nD C.K H v d q:=by obtain⟨h1,h2,h3⟩:=yw h;exact⟨p.rep s,h1,h2,h3⟩
section
variable{X:Cx}{C:Cfg}{pos apos cpos:Pos}
def Qj(K:Fg):R2:=λx y H Q=>∃a ks kvs kd q v,x = .ref a/\Rd H a (.dN ks)/\cC K H kvs ks/\nD K H y kd q/\valN ks q=some v/\Q v H
noncomputable def yX:D->D->Option D
 | .gh kvs,k=>(Gg k).bind λq=>jO kvs q
 | _,_=>none
theorem Vk:oU C (Qj C.K) yX:=by
 intro Pr F env σ H x y d vx vy Q r px py e q;unfold yX at e;split at e
 ·obtain⟨z,a,ks,rfl,h1,h2⟩:=px.gh r.fr;obtain⟨k,hk,hv⟩:=Qx4.mp e;rcases h2.val k with ⟨e1,_⟩|⟨d',v',e1,e2,p2⟩
  ·rw[e1] at hv;cases hv
  ·rw[e1] at hv;cases hv;exact⟨a,ks,_,_,k,v',rfl,h1,cC.mono r.fr _ _ h2,nD.of r.fr py hk,e2,q _ _ F r (aH.refl F) p2⟩
 ·cases e
theorem U8{o i:Expr}{td ty:TE}(hu:X.A.units+12<cLine)(ho:PE X o td)(hi:PE X i ty)(hs:Og i):PE X (.Subscript o i pos) (TX (Qj X.K) td ty):=by intro pins s σ H Q I h;refine J8 PySem.F.slot_dict_getitem.lookup hs (fV (ho pins s σ H _ I h) λu s1 ⟨x,H1,I1,rx,q1⟩=>fV (hi pins s1 σ H1 _ I1 q1) λiv s2 ⟨y,H2,I2,ry,a,ks,kvs,kd,q,v,ex,g1,g2,g3,g4,q2⟩=>?_);subst ex;obtain rfl:u=Value.ref a:=rx;obtain⟨_,_,xs,_,dd⟩:=zx I2 g1 g2;exact⟨dd.typeIs,abp hu I2 g1 g2 g3 g4 ry λw' s3 I3 Io=>⟨v,H2,I3,Io,q2⟩⟩
def ac3(K:Fg)(neg:Bool):R2:=λx y H Q=>∃a ks kvs kd q,y = .ref a/\Rd H a (.dN ks)/\cC K H kvs ks/\nD K H x kd q/\Q (.bl (if neg then !(valN ks q).isSome else (valN ks q).isSome)) H
theorem MF(hu:X.A.units+12<cLine):mD X (compareOp .NotIn) (ac3 X.K true):=by intro pins s σ H x y v u Q I rx ry h;obtain⟨a,ks,kvs,kd,q,rfl,g1,g2,g3,q2⟩:=h;cases ry;exact R7 hu I g1 g2 g3 rx λs3 I3=>⟨.bl _,H,I3,rfl,q2⟩
noncomputable def jN(k y:D):Option D:=match y with
 | .gh kvs=>(Gg k).map λq=>.bl (!(jO kvs q).isSome)
 | _=>none
theorem MT:oU C (ac3 C.K true) jN:=by
 intro Pr F env σ H x y d vx vy Q r px py e q;cases y with
 | gh kvs=>
  obtain⟨k,hk,rfl⟩:=Qw2.mp (show(Gg x).map (λq=>D.bl (!(jO kvs q).isSome))=some d from e);obtain⟨z,a,ks,rfl,h1,h2⟩:=py.gh r.fr;refine⟨a,ks,kvs,_,k,rfl,h1,cC.mono r.fr _ _ h2,nD.of r.fr px hk,?_⟩;have e2:(valN ks k).isSome=(jO kvs k).isSome:=by rcases h2.val k with ⟨g1,g2⟩|⟨d',v',g1,g2,_⟩<;>rw[g1,g2]<;>rfl
  rw[e2];exact q _ H F r (aH.refl F) rfl
 | _=>cases e
theorem zF(G:Good X C):Cm X C .NotIn jN:=⟨_,MF (by have:=G.un;omega),by rw[G.K];exact MT⟩
theorem R5{P:Program}{w:World}{H:Hp}(h:Heap)(hb:sysModules<h.objs.size):fj P w H (h.push { cls:=.type "dict",data:=.dict #[] }) h.objs.size (.dN []):=
 ⟨Qxy _,Qz6.mpr (Ne.symm (Qw6 hb)),[],.nil,_, #[],0,Qwz _ rfl,⟨rfl,rfl,rfl⟩,rfl,rfl,List.nodup_nil⟩
noncomputable def nJ(i:Nat)(k a:Ev):bH:=λenv=>gB (a env) λd aG=>match aG[i]? with
 | some (some (_,_))=>gB (k aG) λkd fK=>(match fK[i]?,Gg kd with
  | some (some (true,.gh kvs)),some q=>if kvs.length<sizeLine then .nx (fK.set i (some (true,.gh (qF kvs kd q d)))) else .stuck
  | _,_=>.stuck)
 | _=>.stuck
def Pq(K:Fg)(td ty tv:TE):TS:=λD σ H=>tv σ H λv H1=>td σ H1 λx H2=>ty σ H2 λy H3=>∃a ks kvs kd q,x = .ref a/\H3 a=some (.dN ks)/\cC K H3 kvs ks/\nD K H3 y kd q/\ks.length<sizeLine/\D.nx σ (upd H3 a (.dN (putN ks q y v)))
theorem QG{o i value:Expr}{pos':Pos}{td ty tv:TE}(hu:X.A.units+12<cLine)(ho:PE X o td)(hi:PE X i ty)(hv:PE X value tv)(hs:swapsWith value (some (.Subscript o i pos')) pos.line X.env=pure false) :
  PS X (.Assign [.Subscript o i pos'] value pos) (Pq X.K td ty tv):=by
 intro pins s σ H D I h;refine wpAny_Assign_Subscript (fV (hv pins s σ H _ I h) λr s1 ⟨v,H1,I1,rv,q1⟩=>fV (ho pins s1 σ H1 _ I1 q1) λu s2 ⟨x,H2,I2,rx,q2⟩=>fV (hi pins s2 σ H2 _ I2 q2) λiv s3 ⟨y,H3,I3,ry,a,ks,kvs,kd,q,ex,g1,g2,g3,g4,q3⟩=>?_) hs;subst ex;obtain rfl:u=Value.ref a:=rx;exact abo hu I3 g1 g2 g3 g4 ry rv λs4 I4=>⟨σ,_,I4,q3⟩
def O9(K:Fg)(tk tv:TE):TE:=λσ H Q=>∀p,H p=none->tk σ (upd H p (.dN [])) λx H1=>tv σ H1 λy H2=>H2 p=some (.dN [])/\∃kd q,nD K H2 x kd q/\Q (.ref p) (upd H2 p (.dN [(q,x,y)]))
theorem QT{k v:Expr}{tk tv:TE}(hu:X.A.units+12<cLine)(hk:PE X k tk)(hv:PE X v tv):PE X (.Dict [some k] [v] pos) (O9 X.K tk tv):=by intro pins s σ H Q I q;have hn:=I.hok.fresh (Qq0 s.heap.objs.size);have I1:=I.laid (a:=s.heap.objs.size) (o:=.dN []) (h':=s.heap.push { cls:=.type "dict",data:=.dict #[] }) (t':=s.toks) (λ_ _ q=>Qqz _ q) (Qq0 _) (R5 s.heap I.big);rw[arm_eval_Dict,zip_pairTrees [some k] [v] X.env pos rfl rfl,dictDisplay_pairs (pairTrees [some k] [v] X.env pos) (by intro z;cases z) (by rw[pairTrees_length [some k] [v] X.env pos rfl rfl];simp)];refine Qqq (wpAny_standAt (Qqq ?_));unfold subDict;refine Qqq (wpAny_alloc ?_);refine Qqq (Qzy ?_);rw[if_pos (by rw[pairTrees_length [some k] [v] X.env pos rfl rfl];simp)];refine Qqq (pairTrees_cons_walk (fV (hk pins _ σ _ _ I1 (q _ hn)) λu s1 ⟨x,H1,J1,rx,q1⟩=>fV (hv pins s1 σ H1 _ J1 q1) λw2 s2 ⟨y,H2,J2,ry,e,kd,qq,ka,q2⟩=>pairTrees_nil_walk ?_));refine Qzy ?_;refine Qqq ?_;rw[Qkw];obtain⟨b,rfl,rfl,hkk⟩:=ka.is J2 rx;obtain⟨_,hd,xs,rel,dd⟩:=zx (kvs:=[]) J2 (.inl e) rfl;cases rel;refine Qqq (Qqq (wpAny_dictSet_heap (hsz:=Qxy _) (show X.A.units+10<cLine by omega) hkk dd λh' Yb hs=>Qq2 ?_));show wpAny _ _ (forIn ([]:List (Value×Value)) PUnit.unit _) _ _ _;rw[Qkq];refine Qq2 (Qq2 (Qq2 (Qq2 ?_)));obtain⟨o,es,ep,hq,h2,h3,h4,_,h5⟩:=Yb;exact⟨.ref s.heap.objs.size,_,xM (ob:=.dN [(qq,.ref b,y)]) J2 (by rw[e];exact True.intro) hs ⟨o,hq⟩ ⟨by show 1<=sizeLine;decide,hd,[(qq,b,w2)],.cons ⟨rfl,rfl,ry⟩ .nil,o,es,ep,hq,h2,h3,h4,h5⟩,rfl,q2⟩
noncomputable def vW(k a:Ev):Ev:=λenv=>bindR (k env) λkd e1=>bindR (a e1) λd e2=>match Gg kd with
 | some _=>.ok (.gh [(kd,d)]) e2
 | none=>.stuck
noncomputable def Cp:bH:=λ_=>.stuck
theorem Ei{y:Expr}{b:Ev}{n:Str}{px:Pos}(i:Nat)(G:Good X C)(hb:Lw X C y b)(hN:X.N[i]? = some n:=by rfl)(hv:vZ X.env.scope n:=by first|exact Or.inl rfl|exact Or.inr (Or.inl rfl)|exact Or.inr (Or.inr rfl))(hs:Og y:=by intro _ _;rfl)
  (hd:ju n:=by decide) (hcd:vG n:=by decide):SX X C (.Subscript (.Name n px) y pos) (az yX i b):=⟨by
 have h:PE X (.Subscript (.Name n px) y pos) (TX (Qj X.K) _ _):=U8 (pos:=pos) (by have:=G.un;omega) (iG (pos:=px) hN hv hd hcd) hb.u hs;rw[G.K] at h;exact h.imp (qu Vk)⟩
theorem xZ{n:Str}{k e:Expr}{ek a:Ev}{px pos':Pos}(i:Nat)(G:Good X C)(hk:SX X C k ek)(he:SX X C e a)(hN:X.N[i]? = some n:=by rfl)(hv:vZ X.env.scope n:=by first|exact Or.inl rfl|exact Or.inr (Or.inl rfl)|exact Or.inr (Or.inr rfl))
  (hs:swapsWith e (some (.Subscript (.Name n px) k pos')) pos.line X.env=pure false:=by rfl)
  (hd:ju n:=by decide) (hcd:vG n:=by decide):zV X C (.Assign [.Subscript (.Name n px) k pos'] e pos) (nJ i ek a):=⟨by
 have h0:PS X (.Assign [.Subscript (.Name n px) k pos'] e pos) (Pq X.K _ _ _):=QG (by have:=G.un;omega) (iG hN hv hd hcd) hk.u he.u hs;rw[G.K] at h0;refine h0.imp λD σ H h=>?_;obtain⟨Pr,F,env,r,f⟩:=h;obtain⟨d,aG,e1,f1⟩:=cJ f;refine⟨Pr,F,env,aG,d,r,e1,λv H1 F1 r1 s1 p1=>?_⟩;split at f1
 ·rename_i o0 d0 h0;obtain⟨v0,hv0,_⟩:=r1.rd h0;obtain⟨kd,fK,e2,f2⟩:=cJ f1;refine⟨v0,hv0,Pr,F1,aG,fK,kd,r1,e2,λvk H2 F2 r2 s2 p2=>?_⟩;split at f2
  ·rename_i kvs q h2 hq;split at f2
   ·rename_i hz;obtain⟨b,g1,⟨z,ks,g2,g3⟩,g4,g5⟩:=r2.own i _ h2;rw[hv0] at g1;cases g1;have hz':ks.length<sizeLine:=by rw[g3.len];exact hz
    obtain⟨n1,n2,n3⟩:=yw hq;refine⟨b,ks,kvs,kd,q,rfl,g2,cC.mono r2.fr _ _ g3,⟨Rep.mono r2.fr _ _ p2,n1,n2,n3⟩,hz',?_⟩;refine f2 σ _ F2 (r2.write h2 hv0 ⟨Qq4 (Mv _ _ _ _) hz,_,aX,g3.put n1 n2 p2 (Rep.mono s2 _ _ p1)⟩) (s1.trans s2)
   ·exact f2.elim
  ·exact f2.elim
 ·exact f1.elim⟩
theorem vp{k v:Expr}{ek ev:Ev}(G:Good X C)(hk:SX X C k ek)(hv:SX X C v ev):WQ X C (.Dict [some k] [v] pos) (vW ek ev):=⟨by
 have h0:PE X (.Dict [some k] [v] pos) (O9 X.K _ _):=QT (by have:=G.un;omega) hk.u hv.u;rw[G.K] at h0;refine h0.imp λσ H Q hq=>?_;obtain⟨Pr,F,env,env',d,r,e,q⟩:=hq;obtain⟨kd,aG,e1,e2⟩:=aY e;obtain⟨dv,fK,e3,e4⟩:=aY e2;split at e4
 ·rename_i qq hqq;cases e4;obtain⟨n1,n2,n3⟩:=yw hqq;intro p hp;have ra:=r.aside (o:=.dN []) hp;have nP:Pr p=none:=r.pr.free hp;refine⟨upd Pr p (.dN []),F,env,aG,kd,ra,e1,λx H1 F1 r1 s1 p1=>⟨upd Pr p (.dN []),F1,aG,env',dv,r1,e3,λy H2 F2 r2 s2 p2=>⟨r2.pr p _ aX,kd,qq,⟨Rep.mono r2.fr _ _ (Rep.mono s2 _ _ p1),n1,n2,n3⟩,?_⟩⟩⟩;have r3:=r2.turn (u:=.dN [(qq,x,y)]) aX;have nF:F2 p=none:=by
   cases hF:F2 p with
   | none=>rfl
   | some o=>have:=r2.dj p o hF;rw[aX] at this;cases this
  have r4:Rel C Pr F2 env' σ (upd H2 p (.dN [(qq,x,y)])):=r3.less λb o hb=>by
   have hne:b≠p:=λz=>by rw[z,nP] at hb;cases hb
   rw[bz hne,bz hne];exact hb
  refine q p _ F2 r4 (s1.trans s2) ⟨⟨by show 1<=sizeLine;decide,_,aX,⟨qq,x,y,[],rfl,n1,n2,Rep.mono s2 _ _ p1,p2,rfl⟩⟩,nF,nP,λj e he hs=>?_⟩;obtain⟨b,h1,_,_,h4⟩:=r2.own j e he;rw[hs] at h1;cases h1;rw[aX] at h4;cases h4
 ·cases e4⟩
theorem IV{st:Stmt}:zV X C st Cp:=⟨λpins s σ H D I h=>by
 obtain⟨_,_,_,_,f⟩:=h;exact f.elim⟩
end
end Ev
namespace SI
open PySem PySem.Spec PyProof.Rows L2 PySem.Builtin
def Ris(xs:Array Nat):Prop:=∀i j,i<j->j<xs.size->xs.getD i 0<xs.getD j 0
structure Pl(t:SetTable):Prop where
 dm:t.dummies = #[]
 ri:Ris t.place
open SX (led)
structure TOk(P:Program)(w:World)(es:Array (Int×Value))(t:SetTable)(ys:List Int):Prop where
 el:ElemsOf (intKind P w) es.toList
 tx:∃ss:List Int,IntsAre (es.toList.map (·.2)) ss/\ss.Perm ys
 fit:t.fits es.size=true
 ld:t.led=led w
 pl:Pl t
def JQ(P:Program)(w:World)(h:Heap)(a:Addr)(ys:List Int):Prop:=
 ∃o es ep t,h.get? a=some o/\o.ExactSet/\o.data = .set es ep t/\TOk P w es t ys
open PySem PySem.Spec PyProof.Rows L2 PySem.Builtin Ev
noncomputable def aep(P:Program)(w:World)(a:Addr)(ys:List Int):HO:=.ext λh=>JQ P w h a ys
end SI
namespace Ev
open PySem PySem.Spec PyProof.Rows L2 PySem.Builtin
instance (zs:List Int):Decidable (zs.Pairwise (·< ·)):=inferInstance
open PySem PySem.Spec PyProof.Rows L2
theorem Rel.grow{C:Cfg}{Pr F:Hp}{env:Env}{σ:L2.St}{H H':Hp}(r:Rel C Pr F env σ H)(s:aH H H'):Rel C Pr F env σ H':=by refine⟨r.pr.trans s,r.fr.trans s,r.len,r.val,λj e he=>?_,r.apart,r.dj,r.fix⟩;obtain⟨a,h1,h2,h3,h4⟩:=r.own j e he;obtain⟨o,ho⟩:=h2.some;exact⟨a,h1,h2.mono (aH.refl F) (by rw[ho,s _ _ ho]),h3,h4⟩
theorem Rel.unset{C:Cfg}{Pr F:Hp}{env:Env}{σ:L2.St}{H:Hp}{i:Nat}{v:V}(r:Rel C Pr F env σ H)(hfx:C.fx i=none):Rel C Pr F (env.set i none) (σ.set i (some v)) H:=by
 have un:∀(j:Nat) (x:Bool×D),(env.set i none)[j]? = some (some x)->j≠i/\env[j]? = some (some x):=λj x he=>by
  have hj:j≠i:=λz=>by
   subst z;have hl:j<env.length:=by
    have:=(Qq6.mp he).1
    rwa [Qw8] at this
   rw[Qww hl] at he;cases he
  rw[Qq8 (Ne.symm hj)] at he;exact⟨hj,he⟩
 refine⟨r.pr,r.fr,by rw[Qw8,Qw8];exact r.len,λj e he=>?_,λj e he=>?_,λj k e f b hj hk g1 g2=>?_,r.dj,λj a hj=>?_⟩
 ·obtain⟨nj,he⟩:=un j _ he;rw[Qq8 (Ne.symm nj)];exact r.val j e he
 ·obtain⟨nj,he⟩:=un j _ he;rw[Qq8 (Ne.symm nj)];exact r.own j e he
 ·obtain⟨nj,hj⟩:=un j _ hj;obtain⟨nk,hk⟩:=un k _ hk;rw[Qq8 (Ne.symm nj)] at g1;rw[Qq8 (Ne.symm nk)] at g2;exact r.apart j k e f b hj hk g1 g2
 ·have hji:j≠i:=λz=>by rw[z,hfx] at hj;cases hj
  rw[Qq8 (Ne.symm hji)];exact r.fix j a hj
section
variable{P:Program}{w:World}{A:Around}{E:Value->Shared->Prop}{s:Shared}{it d:Addr}{es:Array DictEntry}{ep i:Nat}{X:Cx}{C:Cfg}{e:Expr}{ea:dg}{p pos:Pos}
def zW(h:Heap)(d:Addr)(es:Array DictEntry)(ep:Nat):Prop:=∃o,h.get? d=some o/\o.ExactDict/\o.data = .dict es ep
theorem zW.ty(r:zW s.heap d es ep):s.TypeIs (.ref d) "dict":=let ⟨o,ho,hc,_⟩:=r;⟨o,ho,hc.1⟩
theorem zW.keep{h h':Heap}(r:zW h d es ep)(k:∀o,h.get? d=some o->h'.get? d=some o):zW h' d es ep:=let ⟨o,ho,q⟩:=r;⟨o,k o ho,q⟩
theorem PQ{Q:Value->Shared->Prop}(lo:(d == sysModules)=false)(r:zW s.heap d es ep)
  (q:Q (.ref s.heap.objs.size) { s with heap:=s.heap.push { cls:=.type "dict_keyiterator",data:=.fields #[.ref d,.int 0 0,.int es.size 0,.int ep 0] } }):wpAny (model P w) A (pyIter (.ref d)) Q E s:=by
 obtain⟨o,ho, -,hdat⟩:=id r;refine wpAny_pyIter_slot r.ty F.slot_dict_iter (Qzx F.slot_dict_iter r.ty F.entry_dict_iter ?_ (F.args_dict_iter_1 _));unfold Builtin.«dict.__iter__» Builtin.Dict.dictSlotNone;refine Qqq (Qqq (wpAny_notOrdered_dict r.ty ?_));show wpAny _ _ (pure (Value.ref d)) _ _ _;refine Qq2 ?_;show wpAny _ _ (Builtin.Dict.showsAll d >>= _) _ _ _;unfold Builtin.Dict.showsAll;rw[if_neg (by rw[lo];simp)];exact Qqq (Qq2 (Qqq (wpAny_dictEntries ho hdat (Qqq (wpAny_dictEpoch ho hdat (Qqq (Qz1 (Qq2 ⟨_,rfl,"dict_keyiterator",_,⟨_,Qwz _ rfl,rfl⟩,F.slot_dict_keyiterator_next.lookup,by simpa[rawInt] using q⟩))))))))
theorem Fq{Q:Option Value->Shared->Prop}(hh:A.handled=none)(x:s.heap.IsKeyIter it d i es.size ep)(r:zW s.heap d es ep)
  (q1:∀(hi:i<es.size) h',h'.IsKeyIter it d (i+1) es.size ep->Heap.SameBut it s.heap h'->Q (some es[i].key) { s with heap:=h' })
  (q2:es.size<=i->∀h',Heap.ExtBut it s.heap h'->Q none { s with heap:=h' }):wpAny (model P w) A (pyNext (.ref it)) Q E s:=by
 obtain⟨o,ho,hc,hd⟩:=id x;obtain⟨od,hod, -,hdd⟩:=id r;unfold pyNext;refine Qqq (wpAny_attempt (Qz0 (name:=Str.ofString "__next__") x.typeIs F.slot_dict_keyiterator_next (Qzx F.slot_dict_keyiterator_next x.typeIs F.entry_dict_keyiterator_next (Qqq (Qq2 (Qqq (Qqq ?_)))) (F.args_dict_keyiterator_next_1 _))));refine Qqq (wpAny_typeNameOfWhole_keyiter x.typeIs (Qq2 (Qqq (wpAny_fieldsOf ho hd ?_))));simp only[show Builtin.Dict_items.ownsTuple "dict_keyiterator" = false by decide,Bool.false_eq_true,Qk4];show wpAny _ _ (if (Value.ref d == Value.none)=true then _ else _) _ _ _;rw[if_neg (show ¬((Value.ref d == Value.none)=true) by simp[show(Value.ref d == Value.none)=false from rfl])];refine Qqq (Qq2 (Qqq (wpAny_dictEntries hod hdd ?_)));rw[if_neg (by simp)];refine Qqq (Qq2 (Qqq (wpAny_dictEpoch hod hdd ?_)));rw[if_neg (by simp)];refine Qq2 ?_;by_cases hi:i<es.size
 ·simp only[show ¬((i:Int)<0) by omega,Qk4,Qjx,Array.getElem?_eq_getElem hi];refine Qqq (Qqq (wpAny_typeNameOfWhole_keyiter x.typeIs (Qq2 (Qqq (wpAny_isOneOf_keyiter x.typeIs ?_)))));show wpAny _ _ (setField (.ref it) 1 (rawInt ((i:Int)+1)) >>= _) _ _ _;refine Qqq (wpAny_setField ho hd (by simp) ?_);have y:(s.heap.update it (Obj.mapFields (·.setIfInBounds 1 (rawInt ((i:Int)+1))))).IsKeyIter it d (i+1) es.size ep:=
   ⟨_,Heap.get?_update_self _ ho (Obj.isFreed_of_fields (Obj.data_mapFields hd _)),(Obj.cls_mapFields ..).trans hc,by rw[Obj.data_mapFields hd];simp[rawInt]⟩
  refine Qqq (Qzy (Qqq (wpAny_isOneOf_keyiter (s:={ s with heap:=s.heap.update it (Obj.mapFields (·.setIfInBounds 1 (rawInt ((i:Int)+1)))) }) y.typeIs ?_)));show wpAny _ _ (pure es[i].key) _ _ _;exact Qq2 (Qq2 ⟨_,rfl,Qq2 (q1 hi _ y (Heap.SameBut.update ..))⟩)
 ·have hi:es.size<=i:=by omega
  simp only[show ¬((i:Int)<0) by omega,Qk4,Qjx,Array.getElem?_eq_none hi];refine Qqq (Qqq (wpAny_typeNameOfWhole_keyiter x.typeIs (Qq2 ?_)));show wpAny _ _ (setField (.ref it) 0 .none >>= _) _ _ _;refine Qqq (wpAny_setField ho hd (by simp) ?_);show wpAny _ _ (newExc (.type "StopIteration") [] >>= _) _ _ _;simp only[newExc,newTuple];refine Qqq (Qqq (Qz1 (Qqq (m:=firstArgMember _ _) (wpAny_of_eq (a:=Value.none) rfl (Qz1 ?_ (by size_fits)))) (by size_fits)));simp only[raiseNew];refine Qqq (wpAny_handled ?_);rw[show A.in1.handled=none from hh];refine Qqq (Qq2 (wpAny_throw ?_));refine Qqq (wpAny_isInstance (T:="StopIteration") (b:=true) ⟨_,Qwz _ rfl,rfl⟩ isSubtype_stop (Qq2 ?_));exact q2 hi _ (((Heap.SameBut.update ..).extBut.push _).push _)
theorem PL(hh:A.handled=none)(hne:d≠it):Walks P w A it [it,d] [it] es.size (λi v=>∃e,es[i]? = some e/\v=e.key) (λi h=>h.IsKeyIter it d i es.size ep/\zW h d es ep) where
 sub:=λb hb=>by simp at hb;simp[hb]
 frame:=λ_ _ _ st k=>⟨st.1.at (k it (by simp)),st.2.keep (k d (by simp))⟩
 item:=λi s Q E hi st q=>Fq hh st.1 st.2 (λhi h' a b=>q _ h' s.toks ⟨_,Array.getElem?_eq_getElem hi,rfl⟩ ⟨a,st.2.keep λo e=>b.extBut d o hne e⟩ λb' o hb e=>b.extBut b' o (λz=>hb (by simp[z])) e) λz=>absurd hi (by omega)
 done:=λs Q E st q=>Fq hh st.1 st.2 (λhi=>absurd hi (by omega)) λ_ h' b=>q h' s.toks λb' o hb e=>b b' o (λz=>hb (by simp[z])) e
 self:=λ_ _ _ _ st q=>wpAny_pyIter_keyiter st.1 q
theorem Uh(lo:(d == sysModules)=false):PySem.W.KdlSrc P w "dict" d d es.size (λi v=>∃e,es[i]? = some e/\v=e.key) (λh=>zW h d es ep) where
 type:=λ_ r=>r.ty
 there:=λ_ ⟨o,ho,_⟩=>⟨Qq9 ho,Qq9 ho⟩
 keep:=λ_ _ r k=>r.keep (k d (.inl rfl))
 notList:=by decide
 notTuple:=by decide
 hint:=λ_ _ _ _ r q=>PySem.W.kdl_hint_dict r.ty q
 iter:=λA s hh r=>⟨_,_,λ_ _ q=>PQ lo r q,PL hh (let ⟨o,ho,_⟩:=r;Qw6 (Qq9 ho)),⟨_,Qwz _ rfl,rfl,rfl⟩,r.keep λo e=>Qqz _ e⟩
theorem cC.keys{K:Fg}{F:Hp}:∀{kvs:List (D×D)} {ks:List (NK×V×V)},cC K F kvs ks->bu K F (kvs.map (·.1)) (ks.map (·.2.1))
 | [],_,h=>by cases h;rfl
 | (k,d)::kvs,_,h=>by
  obtain⟨q,u,v,r,rfl,_,_,h1,_,h2⟩:=h;exact⟨u,_,rfl,h1,cC.keys h2⟩
theorem PN(lo:(d == sysModules)=false):MeetsIn P w (Builtin.«dict.__len__» ⟨[.ref d],[]⟩) (λ_ R s=>∃es ep,zW s.heap d es ep/\R (.ok (.ret (.int es.size s.toks))) { s with toks:=s.toks+1 }):=
 .of_wp λA R s ⟨es,ep,⟨o,ho,_,hdat⟩,h⟩=>by
  show wpAny _ _ (dictSize d >>= _) _ _ _;unfold dictSize;refine Qqq (Qqq (wpAny_dictEntries ho hdat (Qq2 ?_)));show wpAny _ _ (Builtin.Dict.pendingCount d >>= _) _ _ _;exact Qqq (wpAny_pendingCount_other lo (wpAny_ret_mkInt (by rw[Nat.add_zero];exact h)))
theorem Ui{Q:Value->Shared->Prop}(lo:(d == sysModules)=false)(r:zW s.heap d es ep)(hz:es.size<=sizeLine)(h:Q (.int es.size (s.toks+1)) { s with toks:=s.toks+1+1 }):wpAny (model P w) A (call (.builtin "len") [.ref d]) Q E s:=by
 have hf:(es.size:Int)<2^63:=by rw[Qj0] at hz;omega
 refine Calls.call_function_entry kind_len plain_len entry_len (args_len1 _) ?_;unfold Builtin.«len»;refine Qqq (m:=oneArg "len" _) (Qq2 (Qqq (m:=callSpecial? (.ref d) (Str.ofString "__len__")) (Qz0 (name:=Str.ofString "__len__") r.ty F.slot_dict_len (call_meetsIn F.slot_dict_len r.ty F.entry_dict_len (F.args_dict_len_1 _) (PN lo) ⟨es,ep,r,?_⟩))));show wpAny _ _ _ _ _ { s with toks:=s.toks+1 };refine Qqq (Qzy (Qq2 (Qqq (wpAny_letGo ?_))));show wpAny _ _ (if ((es.size:Nat):Int)<0 then _ else _) _ _ _;rw[if_neg (by omega)];show wpAny _ _ (if ((es.size:Nat):Int) ≥ 2^63 then _ else _) _ _ _;rw[if_neg (by omega)];exact Qqq (wpAny_mkInt (Qq2 ⟨_,rfl,h⟩))
abbrev Qh(K:Fg):List V->Hp->VK->Prop:=λxs H Q=>∃p ks kvs,xs=[.ref p]/\Rd H p (.dN ks)/\cC K H kvs ks/\Q (.int ks.length) H
theorem N6:gP X (.builtin "len") (Qh X.K):=by
 intro pins s σ H xs us Q I r h;obtain⟨p,ks,kvs,rfl,hq,hr,q⟩:=h;obtain⟨u,rfl,rx⟩:=vals1 r;cases rx;obtain⟨z,lo,xs,kn,o,es,ep,h1,h2,h3,h4,_,_⟩:=zx I hq hr;have hsz:es.size=ks.length:=by rw[<-Qqx,h4,Qqv,kn.len]
 exact Ui lo ⟨o,h1,h2,h3⟩ (by rw[hsz];exact z) ⟨.int ks.length,H,I.tok _,⟨s.toks+1,by rw[hsz]⟩,q⟩
noncomputable def Bp:List D->Option D
 | [.gh kvs]=>some (.int kvs.length)
 | _=>none
theorem Wn:CallD C (Qh C.K) Bp:=by
 intro Pr F env σ H ds d vs Q r hs h q;unfold Bp at h;split at h
 ·rename_i kvs;cases h;obtain⟨v,rfl,hv⟩:=jl hs;obtain⟨_,a,ks,rfl,h1,h2⟩:=hv.gh r.fr;refine⟨a,ks,kvs,rfl,h1,cC.mono r.fr _ _ h2,?_⟩;rw[h2.len];exact q _ H F r (aH.refl F) rfl
 ·cases h
theorem Tv(G:Good X C)(hm:X.mg "len" = none)(ha:uy X C [e] ea)(hg:Gl X "len":=by rfl)(he:Ed e X.env:=by rfl):SX X C (.Call (.Name "len" p) [e] [] pos) (ao Bp ea):=⟨lg (r:=Qh C.K) (by rw[<-G.K];exact N6) Wn hg hm (by decide +kernel) ha.u (by decide) (by decide) he rfl⟩
end
theorem vC{X:Cx}{C:Cfg}(G:Good X C):Good X.vC C:=⟨G.K,G.calm,G.un⟩
theorem Zk{X:Cx}{body:List Stmt}{h₀:ExceptHandler}{hs:List ExceptHandler}{pos:Pos}{tb:TS}(hbd:BZ X.vC body tb):PS X (.Try body (h₀::hs) [] [] pos) tb:=by
 intro pins s σ H D I h;refine wpAny_Try_except (Qx8 (hbd pins s σ H D (I.wish _) h) (λf s1 q=>?_) λ_ _ z=>False.elim z);cases f with
 | next=>exact wpAny_execs_nil q.fO
 | brk=>exact q.fO
 | cont=>exact q.fO
 | ret u=>exact q.fO
end Ev
namespace L2
open PySem PySem.Spec PyProof.Rows
theorem oH.stays{P:Program}{w:World}{H:Hp}{h h':Heap}(x:oH P w H h)(k:∀b u,H b≠none->h.get? b=some u->h'.get? b=some u):oH P w H h':=λa o e=>
 (x a o e).stay (λb u hb q=>k b u (by
  rcases hb with rfl|hb
  ·rw[e];exact λz=>nomatch z
  ·rw[hb];exact λz=>nomatch z) q) (λ_ q=>q) λ_ _ q=>q
theorem fj.obj{P:Program}{w:World}{H:Hp}{h:Heap}{a:Addr}{o:HO}(x:fj P w H h a o):∃u,h.get? a=some u:=by
 cases o with
 | lst xs=>obtain⟨_,_,_,_,e⟩:=x;exact⟨_,e⟩
 | tup xs=>obtain⟨_,_,_,_,e,_⟩:=x;exact⟨_,e⟩
 | dK kvs=>obtain⟨_,_,_,_,_,_,_,e,_⟩:=x;exact⟨_,e⟩
 | dT kvs=>obtain⟨_,_,_,_,_,_,_,e,_⟩:=x;exact⟨_,e⟩
 | dN kvs=>obtain⟨_,_,_,_,_,_,_,e,_⟩:=x;exact⟨_,e⟩
 | set S n=>obtain⟨_,_,_,_,e,_⟩:=x;exact⟨_,e⟩
 | ins C dx fs=>obtain⟨_,_,_,e,_⟩:=x;exact⟨_,e⟩
 | own y=>exact x
 | xd fs=>obtain⟨_,⟨_,_,_,e,_⟩,_⟩:=x;exact⟨_,e⟩
 | rng lo hi=>obtain⟨_,_,_,e⟩:=x;exact⟨_,e⟩
 | wH ob u=>exact⟨_,x.1⟩
 | Xg ps=>exact⟨_,x⟩
 | tab qs=>obtain⟨_,e,_⟩:=x;exact⟨_,e⟩
 | met f y=>exact⟨_,x⟩
 | ext φ=>exact x.2.1
structure uB(P:Program)(w:World)(outer:List Env)(H:Hp)(s:Shared)(C a t:Addr)(H':Hp)(B:Heap)(s':Shared):Prop where
 os:s'.os=s.os
 bare:AllBare s'.gens
 same:aH H H'
 un:Un (frs outer) [] H H' s.heap s'.heap
 hok:oH P w H' B
 fl:Heap.FlyingW B outer a (.ref C) (.ref t) s'.heap
 old:∀b o,s.heap.get? b=some o->H b=none->b ∉ frs outer->B.get? b=some o
def W2(P:Program)(w:World):Tr:=λouter H s E e s'=>∃(a C t:Addr) (H':Hp) (B:Heap),e = .ref a/\E (.ref C) none H'/\uB P w outer H s C a t H' B s'
structure qC(X:Cx):Prop where
 st:X.stack=X.env::X.outer
 fr:X.env.frame=some X.env.locals
 ex:X.ex=[]
section
variable{X:Cx}{pins:List (Addr×Obj)}{σ:St}{H:Hp}{s s':Shared}{a C:Addr}{vs:List Value}{E E1:XK}{E':Value->Shared->Prop}
theorem qC.Vn(T:qC X)(b:Addr):b ∉ X.ex:=by rw[T.ex];exact λz=>nomatch z
theorem qC.nf(T:qC X)(I:Inv X pins σ H s){b:Addr}{o:Obj}(e:X.s₀.heap.get? b=some o)(hb:b ∉ X.fs):b ∉ frs X.stack:=λhm=>by
 rw[T.st] at hm;unfold frs at hm;rw[Qjj,T.fr] at hm;rcases Qq7.mp hm with rfl|hm
 ·exact absurd (Qwq (Qq9 e) I.ok.above) (Qzj _)
 ·exact hb hm
theorem qC.sub(T:qC X){b:Addr}(hb:b∈X.fs):b∈frs X.stack:=by rw[T.st];unfold frs;rw[Qjj,T.fr];exact Qqk _ hb
theorem qC.Xw(I:Inv X pins σ H s){b:Addr}{o:Obj}(e:X.s₀.heap.get? b=some o)(hb:b∈X.fs):∀vs,o.data ≠ .fields vs:=by obtain⟨_,o',ho,hd⟩:=I.ok.vR.mem hb;rw[e] at ho;cases ho;exact hd
theorem Xf(I:Inv X pins σ H s)(T:qC X){H':Hp}{B h':Heap}(old:∀b o,X.s₀.heap.get? b=some o->X.H₀ b=none->b ∉ X.fs->B.get? b=some o)(st:B.StaysIn h')
  (slot:∀b o,X.s₀.heap.get? b=some o->X.H₀ b=none->b∈X.fs->∃sl,h'.get? b=some { o with slots:=sl }) (free:∀b o,X.s₀.heap.get? b=some o->X.H₀ b=none->H' b=none)
  (sm:aH X.H₀ H') (hok:oH X.prog X.w H' B):Un X.fs [] X.H₀ H' X.s₀.heap h' where
 keep:=λb o e n hb _=>st b o (old b o e n hb)
 slot:=λb o e n hb _=>slot b o e n hb
 free:=λb o e n _=>free b o e n
 there:=λb o e _=>by
  by_cases n:X.H₀ b=none
  ·by_cases hb:b∈X.fs
   ·obtain⟨sl,q⟩:=slot b o e n hb;exact⟨_,q⟩
   ·exact⟨o,st b o (old b o e n hb)⟩
  ·cases q:X.H₀ b with
   | none=>exact absurd q n
   | some u=>
    obtain⟨v,hv⟩:=(hok b u (sm b u q)).obj;exact⟨v,st b v hv⟩
 tups:=λb xs q=>sm b _ q
 rF:=λb o u q=>sm b _ q
 wY:=λb ps q=>⟨#[],by rw[sm b _ q];simp⟩
 tabs:=λb qs q=>sm b _ q
theorem Inv.leave(I:Inv X pins σ H s)(T:qC X)(sm:aH X.H₀ H)(hE:E (.ref C) none H)(hx:Heap.MadeExcOf s.heap s'.heap a (.ref C) vs)(hos:s'.os=s.os)(hg:s'.gens=s.gens) :
  wpAny (model X.prog X.w) X.A (leaving X.env (.ref a)) (λ_ s''=>W2 X.prog X.w X.outer X.H₀ X.s₀ E (.ref a) s'') E' s':=by
 have old:∀b o,X.s₀.heap.get? b=some o->X.H₀ b=none->b ∉ X.fs->(PySem.W.hideAll s.heap (frs X.stack)).get? b=some o:=λb o e n hb=>
  PySem.W.hideAll_get _ (I.base.keep b o e n hb (T.Vn b)) (T.nf I e hb)
 have hok:oH X.prog X.w H (PySem.W.hideAll s.heap (frs X.stack)):=oH.stays I.hok λb u n q=>PySem.W.hideAll_get _ q λhm=>n (I.Cj b hm);have ff:s.heap.FunFrames (PySem.W.hideAll s.heap (frs X.stack)) (X.env::X.outer):=by have:=I.stack;rw[T.st] at this ⊢;exact PySem.W.funFrames_hide this λenv he b hb=>List.mem_filterMap.mpr ⟨env,he,hb⟩
 refine wpAny_leaves_madeW (by rw[I.ok.frames,T.st]) T.fr (λb o q=>PySem.W.of_hideAll _ q) ff hx λh' t x1 x2 x3 x4=>⟨a,C,t,H,_,rfl,hE,hos.trans I.os,by show AllBare s'.gens;rw[hg];exact I.bare,sm,?_,hok,x1,old⟩;refine Xf I T old x1.1 (λb o e n hb=>?_) (λb o e n=>I.base.free b o e n (T.Vn b)) sm hok;obtain⟨sl,e1⟩:=I.base.slot b o e n hb (T.Vn b);obtain⟨sl',e2⟩:=x4 b _ (hx.keeps b _ e1) (by have z:=qC.Xw I e hb;exact z);exact⟨sl',e2⟩
theorem Inv.VD{e:Value}(I:Inv X pins σ H s)(T:qC X)(sm:aH X.H₀ H)(hE:∀C H',E1 (.ref C) none H'->E (.ref C) none H')(hc:W2 X.prog X.w X.stack H s E1 e s') :
  wpAny (model X.prog X.w) X.A (leaving X.env e) (λ_ s''=>W2 X.prog X.w X.outer X.H₀ X.s₀ E e s'') E' s':=by
 obtain⟨a,C,t,H',B,rfl,h1,f⟩:=hc;have old:∀b o,X.s₀.heap.get? b=some o->X.H₀ b=none->b ∉ X.fs->B.get? b=some o:=λb o e n hb=>
  f.old b o (I.base.keep b o e n hb (T.Vn b)) (I.base.free b o e n (T.Vn b)) (T.nf I e hb)
 have sm':=sm.trans f.same;refine wpAny_leaves_onW (by rw[I.ok.frames,T.st]) T.fr (by rw[<-T.st];exact f.fl) λh' x1 x2=>⟨a,C,t,H',B,rfl,hE C H' h1,f.os.trans I.os,f.bare,sm',?_,f.hok,x1,old⟩;refine Xf I T old x1.1 (λb o e n hb=>?_) (λb o e n=>?_) sm' f.hok
 ·obtain⟨sl,e1⟩:=I.base.slot b o e n hb (T.Vn b);obtain⟨sl',e2⟩:=f.un.slot b _ e1 (I.base.free b o e n (T.Vn b)) (T.sub hb) (λz=>nomatch z);obtain⟨sl3,e3⟩:=x2 b _ e2 (by have z:=qC.Xw I e hb;exact z);exact⟨sl3,e3⟩
 ·obtain⟨o',e1⟩:=I.base.there b o e (T.Vn b);exact f.un.free b o' e1 (I.base.free b o e n (T.Vn b)) (λz=>nomatch z)
end
end L2
namespace Ev
open PySem PySem.Spec PyProof.Rows L2
noncomputable def FX(R:Hp->Prop)(C:Cfg)(Pr F:Hp):Out->Prop
 | .rt true .non env'=>∀σ' H' F',Rel C Pr F' env' σ' H'->aH F F'->R H'
 | _=>True
theorem FX.mono{R:Hp->Prop}{C:Cfg}{Pr F F1:Hp}(s:aH F F1){o:Out}(h:FX R C Pr F o):FX R C Pr F1 o:=by
 unfold FX at h ⊢;split
 ·exact λσ' H' F' r t=>h σ' H' F' r (s.trans t)
 ·trivial
def tX(R:Hp->Prop)(C:Cfg)(ev:bH):TS:=λD σ H=>∃(Pr F:Hp) (env:Env),Rel C Pr F env σ H/\Fin C Pr F D (ev env)/\FX R C Pr F (ev env)
def PR(R:Hp->Prop)(X:Cx)(C:Cfg)(st:Stmt)(ev:bH):Prop:=PS X st (tX R C ev)
def Ym(R:Hp->Prop)(X:Cx)(C:Cfg)(st:List Stmt)(ev:bH):Prop:=BZ X st (tX R C ev)
section
variable{R:Hp->Prop}{X:Cx}{C:Cfg}{pos:Pos}
theorem Zm{st:Stmt}{t:TS}(h:PS X.vC st t):PS X st t:=λpins s σ H D I hw=>by
 refine Qx8 (h pins s σ H D (I.wish _) hw) (λf s1 q=>?_) λ_ _ z=>False.elim z;cases f with
 | next=>exact let ⟨σ',H',J,z⟩:=q;⟨σ',H',J.fO,z⟩
 | brk=>exact let ⟨σ',H',J,z⟩:=q;⟨σ',H',J.fO,z⟩
 | cont=>exact let ⟨σ',H',J,z⟩:=q;⟨σ',H',J.fO,z⟩
 | ret u=>exact let ⟨v,σ',H',J,z⟩:=q;⟨v,σ',H',J.fO,z⟩
theorem QZ{es:List Expr}{t:TA}(h:PA X.vC es t):PA X es t:=λpos pins s σ H Q I hw=>
 Qx8 (h pos pins s σ H Q (I.wish _) hw) (λ_ _ ⟨v,H',I',r,q⟩=>⟨v,H',I'.fO,r,q⟩) λ_ _ z=>False.elim z
theorem yj{st:Stmt}{ev:bH}(h:S9 X.vC C st ev):PR R X C st ev:=(Zm h).imp λD σ H ⟨Pr,F,env,r,f,_⟩=>⟨Pr,F,env,r,f⟩
theorem Zr{st:List Stmt}{ev:bH}(h:xu X.vC C st ev):Ym R X C st ev:=(BZ.vC h).imp λD σ H ⟨Pr,F,env,r,f,_⟩=>⟨Pr,F,env,r,f⟩
theorem xG{st:Stmt}{a:bH}(h1:PR R X C st a):Ym R X C [st] a:=CZ h1
theorem lq{st:Stmt}{rest:List Stmt}{a b:bH}(h1:PR R X C st a)(h2:Ym R X C rest b):Ym R X C (st::rest) (aB a b):=(Fz h1 h2).imp λD σ H h=>by
 obtain⟨Pr,F,env,r,f,x⟩:=h;refine⟨Pr,F,env,r,?_⟩;unfold aB at f x;cases e:a env with
 | nx e1=>rw[e] at f x;exact⟨λσ' H' F' r' s'=>⟨Pr,F',e1,r',f.mono s',x.mono s'⟩,trivial⟩
 | rt o d e1=>rw[e] at f x;cases o<;>exact⟨f,x⟩
 | bk e1=>rw[e] at f x;exact⟨f,x⟩
 | ct e1=>rw[e] at f x;exact⟨f,x⟩
 | stuck=>rw[e] at f;exact f.elim
theorem adg{c:Expr}{a b:List Stmt}{t:eO}{ea eb:bH}(hc:PXT X.vC C c t)(ha:Ym R X C a ea)(hb:Ym R X C b eb):PR R X C (.If c a b pos) (dJ t ea eb):=(Xp (PT.vC hc) ha hb).imp λD σ H h=>by
 obtain⟨Pr,F,env,r,f,x⟩:=h;obtain⟨k,e1,e2,f1⟩:=cJ f;have x1:FX R C Pr F (if k=true then ea e1 else eb e1):=by unfold dJ at x;rw[e2] at x;exact x
 refine⟨Pr,F,env,e1,k,r,e2,λH1 F1 r1 s1=>?_⟩;cases k with
 | true=>exact⟨Pr,F1,e1,r1,f1.mono s1,x1.mono s1⟩
 | false=>exact⟨Pr,F1,e1,r1,f1.mono s1,x1.mono s1⟩
theorem QH{c:Expr}{body:List Stmt}{t:eO}{b:bH}(n:Nat)(hp:PassesOwn (model X.prog X.w) X.A X.env X.xe)(hc:PXT X.vC C c t)(hb:Ym R X C body b):PR R X C (.While c body [] pos) (cN t b n):=(FJ hp (PT.vC hc) hb).imp λD σ H h=>by
 obtain⟨Pr,F,env,r,f,x⟩:=h;refine⟨λm σ' H'=>∃F' env',Rel C Pr F' env' σ' H'/\aH F F'/\Fin C Pr F' D (cN t b m env')/\FX R C Pr F' (cN t b m env'),⟨n,F,env,r,aH.refl _,f,x⟩,?_⟩;rintro m σ' H' ⟨F',env',r',s',f',x'⟩;cases m with
 | zero=>exact f'.elim
 | succ m=>
  unfold cN at f' x';obtain⟨k,e1,e2,f1⟩:=cJ f';rw[e2] at x';refine⟨Pr,F',env',e1,k,r',e2,λH1 F1 r1 s1=>?_⟩;have f2:=f1.mono s1;have x2:=x'.mono s1;simp only[gB] at x2;show if k=true then _ else _
  split at f2
  ·rename_i hk;rw[if_pos hk] at x2 ⊢;refine⟨λσ2 H2=>∃F' env',Rel C Pr F' env' σ2 H2/\aH F F'/\Fin C Pr F' D (cN t b m env')/\FX R C Pr F' (cN t b m env'),λσ2 H2 h2=>⟨m,Nat.lt_succ_self _,h2⟩,Pr,F1,e1,r1,?_⟩;have Xj:aH F F1:=s'.trans s1;cases eb:b e1 with
   | nx e3=>rw[eb] at f2 x2;exact⟨λσ4 H4 F4 r4 s4=>⟨F4,e3,r4,Xj.trans s4,f2.mono s4,x2.mono s4⟩,trivial⟩
   | ct e3=>rw[eb] at f2 x2;exact⟨λσ4 H4 F4 r4 s4=>⟨F4,e3,r4,Xj.trans s4,f2.mono s4,x2.mono s4⟩,trivial⟩
   | bk e3=>rw[eb] at f2;exact⟨λσ4 H4 F4 r4 s4=>f2 σ4 H4 F4 r4 s4,trivial⟩
   | rt o d e3=>rw[eb] at f2 x2;cases o<;>exact⟨λv σ4 H4 F4 r4 s4 p4=>f2 v σ4 H4 F4 r4 s4 p4,x2⟩
   | stuck=>rw[eb] at f2;exact f2.elim
  ·rename_i hk;rw[if_neg hk];exact f2 σ' H1 F1 r1 (aH.refl F1)
def JT(K:Fg)(mg:Str->Option Value)(x:Str)(c:Addr):Prop:=∀base:Heap,K.In base->∃(bm:List Value) (newId initId:String),OwnCls x c bm newId mg base/\bm.contains (.type "ValueError")=true/\ExcBaseFacts "ValueError" newId initId bm
noncomputable def sS(a:dg):bH:=λenv=>gB (a env) λ_ aG=>.rt true .non aG
theorem QJ{x:Str}{c:Addr}{e:Expr}{es:List Expr}{a:dg}{np cpos:Pos}(hx:JT X.K X.mg x c)(hc:X.calm=true)(hg:Gl X x)(ha:Lx X.vC C (e::es) a)
  (hxe:∀(pins:List (Addr×Obj)) (σ:L2.St) (H:Hp) (s:Shared) (h':Heap) (b:Addr) (vs:List Value),Inv X pins σ H s->R H->Heap.MadeExcOf s.heap h' b (.ref c) vs->X.xe (.ref b) { s with heap:=h' })
  (hz:∀env ds env',a env = .ok ds env'->ds.length<=sizeLine)
  (hdb:ju x:=by decide) (he:starEach (e::es) X.env=(false,eval e X.env)::starEach es X.env:=by rfl) (hpl:(backTo cpos (starEach es X.env)).any (·.1)=false:=by rfl) :
  PR R X C (.Raise (some (.Call (.Name x np) (e::es) [] cpos)) none pos) (sS a):=by
 intro pins s σ H D I h;obtain⟨Pr,F,env,r,f,y⟩:=h;obtain⟨ds,aG,e1,f1⟩:=cJ f;have y1:FX R C Pr F (.rt true .non aG):=by unfold sS at y;rw[e1] at y;exact y
 obtain⟨bm0,newId,initId,O,hB,FB⟩:=hx X.base I.mod.Hq;obtain⟨tl,N,nm,q,bs,hdct,sn,sub,ab,col,dd,k0,k1,k2,k3,k5,mN,hC,hN,hni,T⟩:=O.obj;refine wpAny_Raise_call_subU (C:=c) (nm:=nm) (q:=q) (N:=N) (bs:=bs) (bm:=tl) (hdct:=hdct) (sn:=sn) (sub:=sub) (ab:=ab) (col:=col) (dd:=dd) (k0:=k0) (k1:=k1) (k2:=k2) (k3:=k3) (k5:=k5)
  FB hB FB (mN:=mN) (T.hasType FB.hasBase) (I.ok.hd hc) (by rw[he];show(false||_)=false;rw[Bool.false_or];exact hpl) hni (tQ I hg O.bound ⟨rfl,?_⟩ hdb)
 have go:=QZ ha cpos pins s σ H (λvs H1=>vs.length=ds.length/\R H1) I ⟨Pr,F,env,aG,ds,r,e1,λvs H' F' r' s' p'=>⟨p'.length,y1 σ H' F' r' s'⟩⟩;rw[he] at go ⊢;refine Calls.evalArgs_plain (Qx8 go (λus s2 ⟨vs,H1,I1,rv,hl,hR⟩=>⟨rfl,?_,I1.bk _ _ hC,hN.keeps I1.bk,T.keeps I1.bk,λh' b m=>hxe pins σ H1 s2 h' b us I1 hR m⟩) λ_ _ z=>z);show us.length<=sizeLine;rw[<-rv.length,hl];exact hz _ _ _ e1
end
noncomputable abbrev bxX(P:Program)(w:World)(K:Fg)(mg:Str->Option Value)(base:Heap)(N:List Str)(qual:Str)(st:Stmt)(f:Addr)(cdv:Value)(A:Around)(outer:List PySem.Env)(s:Shared)(H:Hp)(E:XK):Cx:=G8 (W2 P w) P w K mg base N qual (aM st) f cdv A outer s H E
def Xi(K:Fg)(n:Nat)(c:List D->Bool)(cl:Addr):Sp:=λvs H _ E=>∃(F:Hp) (ds:List D),ds.length=n/\aH F H/\bu K F ds vs/\c ds=true/\∀H',E (.ref cl) none H'
noncomputable def Ip(n:Nat)(ev:bH)(ds:List D):Bool:=match ev (envOf n ds) with
 | .rt true .non _=>true
 | _=>false
def EC(cl:Addr):XK:=λv _ _=>v = .ref cl
def tEX(R:Hp->Prop)(C:Cfg)(c:eO):TE:=λσ H _=>∃(Pr F:Hp) (env env':Env),Rel C Pr F env σ H/\c env = .ok true env'/\∀H' F',Rel C Pr F' env' σ H'->aH F F'->R H'
def Yk(R:Hp->Prop)(X:Cx)(C:Cfg)(e:Expr)(c:eO):Prop:=PE X e (tEX R C c)
def Oe(P:Program)(w:World)(K:Fg)(mg:Str->Option Value)(base:Heap)(x:Str)(k:Nat)(ps:List Str)(sp:Sp):Prop:=
 ∃f fd,mR P w K mg base (W2 P w) k f fd ps sp/\mg x=some (.ref f)/\PySem.W.keepIn K (.ref f)=true/\Binds K fd ps []
section
variable{P:Program}{w:World}{K:Fg}{mg:Str->Option Value}{base:Heap}{x qual:Str}{st:Stmt}{f:Addr}{fd:FuncData}{N ps:List Str}{k:Nat}{ev:bH}{cdv:Value}{A:Around}{outer:List PySem.Env}{s:Shared}{H:Hp}{E:XK}{cl:Addr}{R:Hp->Prop}{X:Cx}{C:Cfg}{pos p:Pos}{e:Expr}{es:List Expr}{c:eO}{n:Nat}
theorem J7:qC (bxX P w K mg base N qual st f cdv A outer s H E):=⟨rfl,rfl,rfl⟩
theorem Bh(F:dG K mg x st ps)(S:bA N ps (aM st))(cl:Addr)
  (hb:∀(f:Addr) (cdv:Value) (A:Around) (outer:List PySem.Env) (s:Shared) (H:Hp) (E:XK),gY k (A.deeper (envOfC x (aM st) s.heap.objs.size f cdv))->(∀H',E (.ref cl) none H')->Good (bx P w K mg base N x st f cdv A outer s H E) (C0 K)->
   Ym (aH H) (bxX P w K mg base N x st f cdv A outer s H E) (C0 K) (d8 st) ev) :
  Oe P w K mg base x (k+1) ps (Xi K ps.length (Ip N.length ev) cl):=by
 obtain⟨f,fd,h1,h2,h3⟩:=F;have kp:=h1.kp;refine⟨f,fd,?_,h2,kp,h3⟩;obtain⟨oc,od,kV,doc,pm,an,cdv,ct,osl,rfl,lk,hcd⟩:=h1.ex;refine X4 lk hcd S (λvs H Q E h=>?_) (λA outer s H vs Q E hr h=>?_)
 ·obtain⟨F0,ds,hl,_,p,_⟩:=h;rw[p.length,hl]
 ·obtain⟨F0,ds,hl,sF,p,e,q⟩:=h;refine⟨_,hb f cdv A outer s H E hr q (tW rfl hr),Bl H F0,F0,envOf N.length ds,vh sF p,?_⟩;unfold Ip at e;split at e
  ·rename_i env' h1;rw[h1];exact⟨λa σ' H' F' r' s' n'=>n'.own.elim,λσ' H' F' r' s'=>aH.Df r'.pr s' r'.fr sF⟩
  ·cases e
theorem Tu(hE:∀H',E (.ref cl) none H')(pins:List (Addr×Obj))(σ:L2.St)(H1:Hp)(s1:Shared)(h':Heap)(b:Addr)(vs:List Value)(I:Inv (bxX P w K mg base N qual st f cdv A outer s H E) pins σ H1 s1)(sm:aH H H1)
  (m:Heap.MadeExcOf s1.heap h' b (.ref cl) vs):(bxX P w K mg base N qual st f cdv A outer s H E).xe (.ref b) { s1 with heap:=h' }:=
 I.leave (s':={ s1 with heap:=h' }) J7 sm (hE H1) m rfl rfl
theorem ab8(hE:∀H',E (.ref cl) none H')(pins:List (Addr×Obj))(σ:L2.St)(H1:Hp)(s1:Shared)(e:Value)(s':Shared)(I:Inv (bxX P w K mg base N qual st f cdv A outer s H E) pins σ H1 s1)(sm:aH H H1)
  (m:W2 P w (bxX P w K mg base N qual st f cdv A outer s H E).stack H1 s1 (EC cl) e s'):(bxX P w K mg base N qual st f cdv A outer s H E).xe e s':=
 I.VD J7 sm (λC H' z=>by cases z;exact hE H') m
noncomputable def ji(cc:List D->Bool)(a:dg):eO:=λenv=>bindR (a env) λds aG=>if cc ds=true then .ok true aG else .stuck
theorem Qo{cc:List D->Bool}{cl:Addr}{a:dg}{ps:List Str}(G:Oe X.prog X.w X.K X.mg X.base x k ps (Xi C.K n cc cl))(hr:gY k X.A)(hg:Gl X x)(ha:Lx X.vC C (e::es) a)
  (hn:∀env ds env',a env = .ok ds env'->ds.length=n)
  (hxe:∀(pins:List (Addr×Obj)) (σ:L2.St) (H:Hp) (s:Shared) (e:Value) (s':Shared),Inv X pins σ H s->R H->W2 X.prog X.w X.stack H s (EC cl) e s'->X.xe e s')
  (hdb:ju x:=by decide) (he:starEach (e::es) X.env=(false,eval e X.env)::starEach es X.env:=by rfl) (hpl:(backTo pos (starEach es X.env)).any (·.1)=false:=by rfl) :
  Yk R X C (.Call (.Name x p) (e::es) [] pos) (ji cc a):=by
 intro pins s σ H Q I h;obtain⟨Pr,F,env,env',r,e1,q⟩:=h;obtain⟨f,fd,G,hm,hk,hb⟩:=G;obtain⟨ds,aG,e2,e3⟩:=aY e1;split at e3
 ·rename_i hc;cases e3;refine wpAny_Call_Name_kw (tQ I hg hm ?_ hdb);refine PySem.W.callWith_K (h₀:=X.base) I.ok.mod.Hq hk (fV (QZ ha pos pins s σ H (λvs H1=>Xi C.K n cc cl vs H1 Q (EC cl)/\R H1) I
   ⟨Pr,F,env,env',ds,r,e2,λvs H' F' r' s' p'=>⟨⟨F',ds,hn _ _ _ e2,r'.fr,p',hc,λ_=>rfl⟩,q H' F' r' s'⟩⟩) λus s1 ⟨vs,H1,I1,rv,q1,hR⟩=>⟨I1.KD,?_⟩) he hpl
  have hl:us.length=ps.length:=by rw[<-rv.length];exact G.len _ _ _ _ q1
  have hb':=hb s1 us I1.KD (by rw[Qw0];exact hl);rw[Qw0] at hb';refine wpAny_call (codeAny_mono (G.run X.A X.stack s1 H1 ⟨us,[]⟩ us vs Q (EC cl) hr I1.env0 hb' rv q1) λr s' hq=>?_);cases r with
  | error e=>exact hxe pins σ H1 s1 e s' I1 hR hq
  | ok fl=>
   cases fl with
   | ret u=>exact I1.after hq
   | next=>exact False.elim hq
   | brk=>exact False.elim hq
   | cont=>exact False.elim hq
 ·cases e3
theorem Y4{y:Expr}(h:Yk R X C e c)(hs:qw y:=by intro _ _;rfl):Yk R X C (.Subscript e y pos) c:=
 (QR (r:=λ_ _ _ _=>False) (tb:=λ_ _ _=>False) (λ_ _ _ _ _ _ _ _ _ _ _ _ _ _ z=>z.elim) h (λ_ _ _ _ _ _ z=>z.elim) hs).imp λσ H Q z=>z
theorem Mp{id:String}(h:Yk R X C e c)(hg:Gl X x)(hm:X.mg x=none)(hv:bootBuiltins x=some (.builtin id))(hn:x ≠ "__name__":=by decide)(hdb:ju x:=by decide)
  (he:Ed e X.env:=by rfl):Yk R X C (.Call (.Name x p) [e] [] pos) c:=
 (pI (r:=λ_ _ _=>False) (λ_ _ _ _ _ _ _ _ _ z=>z.elim) hg hm hv (gw h nW he) hn hdb he rfl).imp λσ H Q z=>z
theorem IK{T:String}(h:Yk R X C e c)(hg:Gl X x)(hm:X.mg x=none)(hv:bootBuiltins x=some (.type T))(hn:x ≠ "__name__":=by decide)(hdb:ju x:=by decide)
  (he:Ed e X.env:=by rfl):Yk R X C (.Call (.Name x p) [e] [] pos) c:=
 (Bd (r:=λ_ _ _=>False) (λ_ _ _ _ _ _ _ _ _ z=>z.elim) hg hm hv (gw h nW he) hn hdb he rfl).imp λσ H Q z=>z
noncomputable def Cq(c:eO):bH:=λenv=>gB (c env) λ_ aG=>.rt true .non aG
theorem Zu(hc:∀env b env',c env = .ok b env'->b=true)(h:Yk R X C e c):PR R X C (.Return (some e) pos) (Cq c):=(Jd h).imp λD σ H z=>by
 obtain⟨Pr,F,env,r,f,y⟩:=z;obtain⟨b,aG,e1,f1⟩:=cJ f;have:=hc _ _ _ e1;subst this;unfold Cq at y;rw[e1] at y;exact⟨Pr,F,env,aG,r,e1,λH' F' r' s'=>y σ H' F' r' s'⟩
theorem Wu{cc:List D->Bool}{a:dg}(env:Env)(b:Bool)(env':Env)(h:ji cc a env = .ok b env'):b=true:=by
 obtain⟨ds,aG,e2,e3⟩:=aY h;split at e3
 ·cases e3;rfl
 ·cases e3
end
end Ev
namespace XC
open PySem PySem.Spec PyProof.Rows PySem.W
structure Cl(K:Frag)(C:Addr):Prop where
 ga:findIn K (.ref C) "__getattribute__" = some (some (.builtin "BaseException.__getattribute__"))
 gt:findIn K (.ref C) "__getattr__" = some none
 cl:findIn K (.ref C) "__class__" = some (some (.builtin "object.__class__"))
 ob:mroIn K C (.type "object")=some true
 be:mroIn K C (.type "BaseException")=some true
section
variable{prog:Program}{w:World}{A:Around}{E:Value->Shared->Prop}{h:Heap}{g:Array GenState}{d:Drawn}{t:Nat}{os:OsState}{K:Frag}{x C:Addr}{M:Model}{S:Addr}{o:Obj}
def At(x C:Addr)(h:Heap):Prop:=∃o,h.get? x=some o/\o.cls = .ref C
theorem At.type{M:Model}(I:At x C h):Looks M h (typeOf (.ref x)) (.ref C):=by obtain⟨o,h1,h2⟩:=I;exact h2 ▸ (Looks.ld h1).andThen .now
theorem get{tp:Value}{R:Result->Shared->Prop}(X:K.In h)(I:At x C h)(Z:Cl K C)(hq:R (.ok (.ret (.ref C))) ⟨h,g,d,t,os⟩) :
  codeAny (model prog w) A (.call (.builtin "getset_descriptor.__get__") ⟨[.builtin "object.__class__",.ref x,tp],[]⟩) R ⟨h,g,d,t,os⟩:=by
 have L0:=I.type (M:=model prog w);have L1:Looks (model prog w) h (isSubtype (.ref C) (.type (".".intercalate ("object.__class__".cutAt '.').dropLast))) true:=by rw[F.owner_object_class];exact looks_mroIn X Z.ob
 have hT:(⟨h,g,d,t,os⟩:Shared).TypeIs (.builtin "object.__class__") "getset_descriptor":=F.typeOf_object_class;refine codeAny_call_builtin F.slot_gs_get.plain F.entry_gs_get (F.slot_gs_get.check _ _ _ _ _ _ _ _ hT (F.args_gs_get _ _ _) ?_)
 repeat (any_goals (first|assumption|with_reducible refine L0.at ?_|with_reducible refine L1.at ?_|wp_step))
 refine⟨Code.quiet_builtin _ (by decide +kernel),codeAny_builtin F.entry_object_class ?_⟩
 repeat (any_goals (first|assumption|with_reducible refine L0.at ?_|wp_step))
theorem entry{tk:Tok}{Q:PySem.Fin->Shared->Prop}(X:K.In h)(I:At x C h)(Z:Cl K C)(hq:Q (.done (.ret (.ref C))) ⟨h,g,d,t,os⟩) :
  wpAny (model prog w) A (Builtin.«object.__getattribute__» ⟨[.ref x,.str "__class__" tk],[]⟩) Q E ⟨h,g,d,t,os⟩:=by
 have L0:=I.type (M:=model prog w);have L1:=looks_findIn (M:=model prog w) X Z.cl;have hT5:(⟨h,g,d,t,os⟩:Shared).TypeIs (.builtin "object.__class__") "getset_descriptor":=F.typeOf_object_class;have f5:=F.typeOf_object_class;have f6:=F.slot_gs_get.lookup;have f7:=F.slot_gs_set.lookup
 repeat (any_goals (first|assumption|with_reducible refine L0.at ?_|with_reducible refine L1.at ?_|wp_step))
 refine get X I Z ?_
 repeat (any_goals (first|assumption|wp_step))
theorem check{M:Model}{nameV:Value}{Q:Unit->Shared->Prop}(X:K.In h)(I:At x C h)(Z:Cl K C)(hq:Q () ⟨h,g,d,t,os⟩):wpAny M A (checkBuiltinCall "BaseException.__getattribute__" ⟨[.ref x,nameV],[]⟩) Q E ⟨h,g,d,t,os⟩:=by
 have hk:builtinKind "BaseException.__getattribute__" = some .slot:=by decide +kernel
 have hsplit:splitId "BaseException.__getattribute__" = some ("BaseException","__getattribute__"):=by decide +kernel
 have ha:=F.args_bexc_ga (.ref x) nameV;have L0:=I.type (M:=M);have L1:=looks_mroIn (M:=M) X Z.be;simp only[checkBuiltinCall,hk,hsplit];refine Qqq ?_;unfold isInstance
 repeat (any_goals (first|assumption|with_reducible refine L0.at ?_|with_reducible refine L1.at ?_|wp_step))
theorem by_{tk:Tok}{Q:Value->Shared->Prop}(X:K.In h)(I:At x C h)(Z:Cl K C)(hq:Q (.ref C) ⟨h,g,d,t,os⟩):wpAny (model prog w) A (getAttrBy (.ref x) (.str "__class__" tk) false) Q E ⟨h,g,d,t,os⟩:=by
 have L0:=I.type (M:=model prog w);have L1:=looks_findIn (M:=model prog w) X Z.ga;have L2:=looks_findIn (M:=model prog w) X Z.gt;have f3:=F.attr_ValueError.ga.bind (.ref x);have hx2:(Value.builtin "BaseException.__getattribute__" == Value.builtin "object.__getattribute__")=false:=by decide +kernel
 have hx1:(onTheHeap (Value.ref C)&&Value.builtin "BaseException.__getattribute__" == Value.builtin "object.__getattribute__")=false:=by rw[hx2];rfl
 repeat (any_goals (first|assumption|with_reducible refine L0.at ?_|with_reducible refine L1.at ?_|with_reducible refine L2.at ?_|wp_step))
 refine codeAny_call_builtin F.attr_ValueError.ga.plain F.entry_bexc_ga (check X I Z (entry X I Z ?_))
 repeat (any_goals (first|assumption|wp_step))
theorem attr{Q:Option Value->Shared->Prop}(X:K.In h)(I:At x C h)(Z:Cl K C)(hq:Q (some (.ref C)) ⟨h,g,d,t+1,os⟩):wpAny (model prog w) A (getAttr? (.ref x) "__class__") Q E ⟨h,g,d,t,os⟩:=by
 unfold getAttr? getAttrBy?
 repeat (any_goals (first|assumption|with_reducible apply by_ X I Z|wp_step))
theorem Cl.at(Z:Cl K C):∃c' d' cd sl,K.lookup C=some ⟨c',d',.cls cd,sl⟩:=by
 obtain⟨cd,q,_⟩:=Qx4.mp Z.ob;unfold clsIn at q;split at q
 ·rename_i ho;exact⟨_,_,_,_,ho⟩
 ·cases q
theorem afM(Z:Cl K C):KitX K (.ref x) (.ref C) (At x C) where
 ty:=λ_ _ _ I=>I.type
 it:=λ_ _ X _=>by
  obtain⟨c',d',cd,sl,ho⟩:=Z.at;intro A' Q' E' s' k q;unfold isType loadHead;exact Qqq (wpAny_loadPart (k _ _ (X _ _ ho)) (Qq2 q))
 ne:=λh tp dd its n sl X htp=>by
  obtain⟨c',d',cd,sl',ho⟩:=Z.at;refine Bool.eq_false_iff.mpr λq=>?_;have e:C=tp:=Value.ref.inj (beq_iff_eq.mp q);subst e;have z:=X _ _ ho;rw[htp] at z;cases z
 ca:=λ{_ _ _ _ _ s} X I k=>by
  obtain⟨h,g,d,t,os⟩:=s;exact attr X I Z k
theorem isi{s:Shared}{c:Value}{b:Bool}{Q:Value->Shared->Prop}(Z:Cl K C)(X:K.In s.heap)(I:At x C s.heap)(e:kitOne K (.ref C) c=some b)(h:∀tk,Q (.bool b) { s with toks:=tk }) :
  wpAny (model prog w) A (call (.builtin "isinstance") [.ref x,c]) Q E s:=kia_one (afM Z) X I e (λz=>nomatch z) h
theorem caught{Q:Bool->Shared->Prop}(X:K.In h)(ho:h.get? x=some o)(hc:o.cls = .ref C)(Z:Cl K S)(ty:typeIn K (.ref S)=some (.type "type"))(sub:mroIn K C (.ref S)=some true)(hq:Q true ⟨h,g,d,t,os⟩) :
  wpAny M A (excMatches (.ref x) (.ref S)) Q E ⟨h,g,d,t,os⟩:=by
 have L1:=looks_mroIn (M:=M) X Z.be;have L2:=looks_mroIn (M:=M) X sub;have L3:=looks_typeIn (M:=M) X ty;obtain⟨c',d',cd,sl,hS⟩:=Z.at;have hS':=X _ _ hS;have f:=tc_notTuple;unfold excMatches
 repeat (any_goals (first|assumption|with_reducible refine L1.at ?_|with_reducible refine L2.at ?_|with_reducible refine L3.at ?_|(with_reducible refine wpAny_loadPart_at ho ?_;rw[hc])|with_reducible refine wpAny_loadPart_at hS' ?_|wp_step))
end
end XC
namespace L2
open PySem PySem.Spec PyProof.Rows
theorem afg{P:Program}{w:World}{fs:List Addr}{H H':Hp}{h B h':Heap}(old:∀b o,h.get? b=some o->H b=none->b ∉ fs->B.get? b=some o)(st:B.StaysIn h')
  (slot:∀b o,h.get? b=some o->H b=none->b∈fs->∃sl,h'.get? b=some { o with slots:=sl }) (free:∀b o,h.get? b=some o->H b=none->H' b=none)
  (sm:aH H H') (hok:oH P w H' B):Un fs [] H H' h h' where
 keep:=λb o e n hb _=>st b o (old b o e n hb)
 slot:=λb o e n hb _=>slot b o e n hb
 free:=λb o e n _=>free b o e n
 there:=λb o e _=>by
  cases n:H b with
  | none=>
   by_cases hb:b∈fs
   ·obtain⟨sl,q⟩:=slot b o e n hb;exact⟨_,q⟩
   ·exact⟨o,st b o (old b o e n hb)⟩
  | some u=>
   obtain⟨v,hv⟩:=(hok b u (sm b u n)).obj;exact⟨v,st b v hv⟩
 tups:=λb xs q=>sm b _ q
 rF:=λb o u q=>sm b _ q
 wY:=λb ps q=>⟨#[],by rw[sm b _ q];simp⟩
 tabs:=λb qs q=>sm b _ q
section
variable{X:Cx}{pins:List (Addr×Obj)}{σ:St}{H H':Hp}{s s':Shared}{a C t:Addr}{B h':Heap}
theorem Inv.caught(I:Inv X pins σ H s)(f:uB X.prog X.w X.stack H s C a t H' B s')(fl:Heap.FlyingW B X.stack a (.ref C) (.ref t) h')(up:s'.heap.UpToSlots h'):Inv X pins σ H' { s' with heap:=h' }:=by refine I.call' (s':={ s' with heap:=h' }) (ch:=[]) f.os (afg f.old fl.1 (λb o e n hb=>?_) (λb o e n=>f.un.free b o e n (λz=>nomatch z)) f.same f.hok) (f.hok.kept fl.1) f.bare (λb z=>nomatch z);obtain⟨sl,e1⟩:=f.un.slot b o e n hb (λz=>nomatch z);obtain⟨_,o',e2,hd⟩:=f.fl.2.2.1.mem hb;rw[e1] at e2;cases e2;obtain⟨sl',e3⟩:=up b _ e1 hd;exact⟨sl',e3⟩
theorem uB.new(f:uB X.prog X.w X.stack H s C a t H' B s'):H' a=none:=by
 cases q:H' a with
 | none=>rfl
 | some u=>
  obtain⟨v,hv⟩:=(f.hok a u q).obj;rw[f.fl.2.1] at hv;cases hv
theorem uB.ne(f:uB X.prog X.w X.stack H s C a t H' B s'){b:Addr}{o:Obj}(e:s.heap.get? b=some o)(n:H b=none)(hb:b ∉ frs X.stack):b≠a:=λz=>by
 have:=f.old b o e n hb;rw[z,f.fl.2.1] at this;cases this
theorem uB.aaq(f:uB X.prog X.w X.stack H s C a t H' B s'):a ∉ frs X.stack:=λhb=>by
 obtain⟨_,o',e2,hd⟩:=f.fl.2.2.1.mem hb;obtain⟨oe,vs,T,oT,ts,h1,_,h3,_⟩:=f.fl.2.2.2;rw[e2] at h1;cases h1;exact hd _ h3
theorem Inv.known{oe:Obj}(T:qC X)(I:Inv X pins σ H s)(f:uB X.prog X.w X.stack H s C a t H' B s')(J:Inv X pins σ H' { s' with heap:=h' })(ho:h'.get? a=some oe) :
  Inv X pins σ (upd H' a (.wH oe (.own a))) { s' with heap:=h' }:=by
 have hn:=f.new;have hnf:=f.aaq;have nL:a≠X.env.locals:=λz=>hnf (by rw[T.st];unfold frs;rw[Qjj,T.fr,z];exact Qqj);have up:∀{b:Addr} {u:HO},H' b=some u->upd H' a (.wH oe (.own a)) b=some u:=λ{b u} q=>by rw[bz (dD q hn)];exact q
 have un:∀{b:Addr},H' b=none->b≠a->upd H' a (.wH oe (.own a)) b=none:=λ{b} q z=>by rw[bz z];exact q
 refine⟨J.ok,J.os,J.bare,⟨J.base.keep,J.base.slot,λb o e n hx=>un (J.base.free b o e n hx) ?_,J.base.there,λb xs q=>up (J.base.tups b xs q),λb o u q=>up (J.base.rF b o u q),λb ps q=>?_,λb qs q=>up (J.base.tabs b qs q)⟩,J.loc,J.cell,un J.free (Ne.symm nL),λx c e=>?_,λp hp=>?_,λb u e=>?_,J.len⟩
 ·by_cases hb:b∈X.fs
  ·exact λz=>hnf (z ▸ T.sub hb)
  ·exact f.ne (I.base.keep b o e n hb hx) (I.base.free b o e n hx) (T.nf I e hb)
 ·obtain⟨more,e⟩:=J.base.wY b ps q;exact⟨more,up e⟩
 ·rcases J.lU x c e with q|⟨q1,o,u,q2⟩
  ·refine .inl (un q λz=>?_);obtain⟨v,oc,hc,_⟩:=I.cell x c e;have n1:H c=none:=by
    cases q1:H c with
    | none=>rfl
    | some u=>rw[f.same c u q1] at q;cases q
   exact f.ne hc n1 (z ▸ hnf) z
  ·exact .inr ⟨q1,o,u,up q2⟩
 ·obtain⟨e,n,ne,nf,d⟩:=J.pin p hp;obtain⟨e',n',_,_,_⟩:=I.pin p hp;refine⟨e,un n (f.ne e' n' λhm=>?_),ne,nf,d⟩;rw[T.st] at hm;unfold frs at hm;rw[Qjj,T.fr] at hm;rcases Qq7.mp hm with z|z
  ·exact ne z
  ·exact nf z
 ·by_cases hb:b=a
  ·subst hb;rw[aX] at e;cases e;exact⟨ho,oe,ho⟩
  ·rw[bz hb] at e;exact(J.hok b u e).stay (λ_ _ _ q=>q) (λc q=>up q) (λc xs q=>up q) λc _ _ _ _ q=>up q
theorem Inv.gone{n:Str}{v:Option Value}{m:Str->Option Value}{tk:Nat}(I:Inv X pins σ H s)(hl:∀(i:Nat) (x:Str) (v:V),X.N[i]? = some x->σ[i]? = some (some v)->vZ X.env.scope x->∃u,RelV v u/\Look X.env s.heap m x u)
  (hn:h'.Ns X.env.locals (λx=>if x=n then v else m x)) (hs:Heap.SameBut X.env.locals s.heap h') (no:∀(i:Nat) (v:V),X.N[i]? = some n->σ[i]? = some (some v)->False):Inv X pins σ H { s with heap:=h',toks:=tk }:=by
 have nl:∀{b:Addr} {o:Obj},X.s₀.heap.get? b=some o->b≠X.env.locals:=λe=>Qw6 (Qwq (Qq9 e) I.ok.above);refine⟨I.ok,I.os,I.bare,⟨λb o e q hb hx=>(hs.2 b (nl e)).trans (I.base.keep b o e q hb hx),λb o e q hb hx=>?_,I.base.free,λb o e hx=>?_,I.base.tups,I.base.rF,I.base.wY,I.base.tabs⟩,⟨_,hn,λi x u e1 e2 e3=>?_⟩,λy c e=>?_,I.free,I.lU,λp hp=>?_,?_,I.len⟩
 ·obtain⟨sl,e1⟩:=I.base.slot b o e q hb hx;exact⟨sl,(hs.2 b (nl e)).trans e1⟩
 ·obtain⟨o',e1⟩:=I.base.there b o e hx;exact⟨o',(hs.2 b (nl e)).trans e1⟩
 ·obtain⟨u',r',q⟩:=hl i x u e1 e2 e3;refine⟨u',r',?_⟩;rcases q with ⟨k,e⟩|⟨k,c,e,z⟩
  ·refine .inl ⟨k,?_⟩;have:x≠n:=λz=>no i u (z ▸ e1) e2;simp[this,e]
  ·exact .inr ⟨k,c,e,z.sameBut hs (I.Wj x c e)⟩
 ·obtain⟨w',z⟩:=I.cell y c e;exact⟨w',z.sameBut hs (I.Wj y c e)⟩
 ·obtain⟨e,n,ne,nf,d⟩:=I.pin p hp;exact⟨(hs.2 p.1 ne).trans e,n,ne,nf,d⟩
 ·exact oH.stays I.hok λb u q e=>(hs.2 b λz=>q (z ▸ I.free)).trans e
abbrev Cx.suite(X:Cx)(v:Value):Cx:={ X with A:=X.A.mark (some v),calm:=false,xe:=λ_ _=>False }
theorem Inv.suite(I:Inv X pins σ H s)(v:Value):Inv (X.suite v) pins σ H s:=
 ⟨⟨I.ok.mod,I.ok.kind,I.ok.glob,I.ok.blt,I.ok.above,I.ok.inj,I.ok.has,I.ok.cab,(λz=>nomatch z),I.ok.frames,I.ok.ik,I.ok.exf,I.ok.bs,I.ok.Ww,I.ok.M5,I.ok.Nx,I.ok.vR,I.ok.frf⟩,I.os,I.bare,I.base,I.loc,I.cell,I.free,I.lU,I.pin,I.hok,I.len⟩
theorem Inv.behind{v:Value}(K:X.Ok)(I:Inv (X.suite v) pins σ H s):Inv X pins σ H s:=
 ⟨K,I.os,I.bare,I.base,I.loc,I.cell,I.free,I.lU,I.pin,I.hok,I.len⟩
end
end L2
namespace Ev
open PySem PySem.Spec PyProof.Rows L2
noncomputable def Tg(n:Str):D:=.clo (.Nonlocal [n] ⟨0,0,0,0⟩) []
theorem Rel.drop{C:Cfg}{Pr F:Hp}{env:Env}{σ:L2.St}{H:Hp}{i:Nat}(r:Rel C Pr F env σ H)(hfx:C.fx i=none)(he:∀x,env[i]? ≠ some (some x)):Rel C Pr F env (σ.set i none) H:=by
 have g:∀(j:Nat) (x:Bool×D) (v:Option V),env[j]? = some (some x)->σ[j]? = some v->(σ.set i none)[j]? = some v:=λj x v e q=>by
  rw[Qq8 (λz:i=j=>by subst z;exact he x e)];exact q
 have g':∀(j:Nat) (x:Bool×D) (v:V),env[j]? = some (some x)->(σ.set i none)[j]? = some (some v)->σ[j]? = some (some v):=λj x v e q=>by
  rw[Qq8 (λz:i=j=>by subst z;exact he x e)] at q;exact q
 refine⟨r.pr,r.fr,by rw[Qw8];exact r.len,λj d e=>?_,λj d e=>?_,λj k d e a h1 h2 h3 h4=>r.apart j k d e a h1 h2 (g' _ _ _ h1 h3) (g' _ _ _ h2 h4),r.dj,λj a e=>?_⟩
 ·obtain⟨v,h1,h2⟩:=r.val j d e;exact⟨v,g _ _ _ e h1,h2⟩
 ·obtain⟨a,h1,h2⟩:=r.own j d e;exact⟨a,g _ _ _ e h1,h2⟩
 ·rw[Qq8 (λz:i=j=>by subst z;rw[hfx] at e;cases e)];exact r.fix j a e
section
variable{X:Cx}{C:Cfg}{pos p:Pos}{x:Str}{e:Expr}{es:List Expr}{c:eO}{m k:Nat}{cl:Addr}
def abI(X:Cx)(C:Cfg)(st:Stmt)(c:eO)(cl:Addr):Prop:=∀(pins:List (Addr×Obj)) (s:Shared) (σ:L2.St) (H Pr F:Hp) (env env':Env) (E':Value->Shared->Prop),Inv X pins σ H s->Rel C Pr F env σ H->c env = .ok true env'->
 (∀(H1 F1:Hp) (s1:Shared) (v:Value) (s':Shared),Inv X pins σ H1 s1->Rel C Pr F1 env' σ H1->aH F F1->W2 X.prog X.w X.stack H1 s1 (EC cl) v s'->E' v s')->wpAny (model X.prog X.w) X.A (exec st X.env) (λ_ _=>False) E' s
theorem P0{cc:List D->Bool}{a:dg}{ps:List Str}(G:Oe X.prog X.w X.K X.mg X.base x k ps (Xi C.K m cc cl))(hr:gY k X.A)(hg:Gl X x)(ha:Lx X.vC C (e::es) a)
  (hn:∀env ds env',a env = .ok ds env'->ds.length=m) {pins:List (Addr×Obj)} {s:Shared} {σ:L2.St} {H Pr F:Hp} {env env':Env} {E':Value->Shared->Prop} (I:Inv X pins σ H s) (r:Rel C Pr F env σ H) (e1:ji cc a env = .ok true env')
  (hxe:∀(H1 F1:Hp) (s1:Shared) (v:Value) (s':Shared),Inv X pins σ H1 s1->Rel C Pr F1 env' σ H1->aH F F1->W2 X.prog X.w X.stack H1 s1 (EC cl) v s'->E' v s')
  (hdb:ju x:=by decide) (he:starEach (e::es) X.env=(false,eval e X.env)::starEach es X.env:=by rfl) (hpl:(backTo pos (starEach es X.env)).any (·.1)=false:=by rfl) :
  wpAny (model X.prog X.w) X.A (eval (.Call (.Name x p) (e::es) [] pos) X.env) (λ_ _=>False) E' s:=by
 obtain⟨f,fd,G,hm,hk,hb⟩:=G;obtain⟨ds,aG,e2,e3⟩:=aY e1;split at e3
 ·rename_i hc;cases e3;refine wpAny_Call_Name_kw (tQ I hg hm ?_ hdb);refine PySem.W.callWith_K (h₀:=X.base) I.ok.mod.Hq hk (Qx8 (ha pos pins s σ H (λvs H1=>∃F1,Rel C Pr F1 env' σ H1/\aH F F1/\Xi C.K m cc cl vs H1 (λ_ _=>False) (EC cl)) (I.wish _)
   ⟨Pr,F,env,env',ds,r,e2,λvs H' F' r' s' p'=>⟨F',r',s',F',ds,hn _ _ _ e2,r'.fr,p',hc,λ_=>rfl⟩⟩) (λus s1 ⟨vs,H1,I1,rv,F1,r1,sF,q1⟩=>⟨I1.fO.KD,?_⟩) λ_ _ z=>False.elim z) he hpl
  have I1:=I1.fO;have hl:us.length=ps.length:=by rw[<-rv.length];exact G.len _ _ _ _ q1
  have hb':=hb s1 us I1.KD (by rw[Qw0];exact hl);rw[Qw0] at hb';refine wpAny_call (codeAny_mono (G.run X.A X.stack s1 H1 ⟨us,[]⟩ us vs _ (EC cl) hr I1.env0 hb' rv q1) λr s' hq=>?_);cases r with
  | error e=>exact hxe H1 F1 s1 e s' I1 r1 sF hq
  | ok fl=>
   cases fl with
   | ret u=>obtain⟨_,_,_,_,_,_,_,z⟩:=hq;exact z.elim
   | next=>exact False.elim hq
   | brk=>exact False.elim hq
   | cont=>exact False.elim hq
 ·cases e3
theorem Uj{cc:List D->Bool}{a:dg}{ps:List Str}{y:Str}{pos' spos:Pos}(G:Oe X.prog X.w X.K X.mg X.base x k ps (Xi C.K m cc cl))(hr:gY k X.A)(hg:Gl X x)(ha:Lx X.vC C (e::es) a)
  (hn:∀env ds env',a env = .ok ds env'->ds.length=m) (hdb:ju x:=by decide) (he:starEach (e::es) X.env=(false,eval e X.env)::starEach es X.env:=by rfl) (hpl:(backTo pos (starEach es X.env)).any (·.1)=false:=by rfl)
  (hs:swapsWith (.Call (.Name x p) (e::es) [] pos) (some (.Name y pos')) spos.line X.env=pure false:=by rfl):abI X C (.Assign [.Name y pos'] (.Call (.Name x p) (e::es) [] pos) spos) (ji cc a) cl:=
 λ_ _ _ _ _ _ _ _ _ I r e1 hxe=>wpAny_Assign_Name (fV (P0 G hr hg ha hn I r e1 hxe hdb he hpl) λ_ _ z=>z.elim) hs
noncomputable def sJ(ev:bH)(c:eO)(iy jn:Nat)(cn:Str):bH:=λenv=>match c env with
 | .ok true env'=>.nx ((env'.set jn none).set iy (some (false,Tg cn)))
 | _=>ev env
structure Below(K:Fg)(mg:Str->Option Value)(S cn:Str)(cl:Addr):Prop where
 at_:∃Sa,mg S=some (.ref Sa)/\XC.Cl K Sa/\PySem.W.typeIn K (.ref Sa)=some (.type "type")/\PySem.W.mroIn K cl (.ref Sa)=some true
 nm:PySem.W.nsIn K mainGlobals cn=some (some (.ref cl))
theorem acH{st:Stmt}{ev:bH}{iy jn:Nat}{S cn n y:Str}{np yp np2 ap hp:Pos}(T:qC X)(hK:X.K=C.K)(W:Below X.K X.mg S cn cl)(hb:xu X.vC C [st] ev)(hx:abI X C st c cl)(hN:X.N.Nodup)(hjn:X.N[jn]? = some n)(hiy:X.N[iy]? = some y)
  (hij:iy≠jn) (hn:X.env.scope.names.lookup n=some .local) (hy:X.env.scope.names.lookup y=some .local) (fjn:C.fx jn=none) (fiy:C.fx iy=none) (gl:Gl X S) (hd:ju S:=by decide) (hd1:ju n:=by decide) (hd2:vG n:=by decide)
  (hsw:swapsWith (.Name n np2) (some (.Name y yp)) ap.line X.env=pure false:=by rfl) :
  S9 X C (.Try [st] [.ExceptHandler (some (.Name S np)) (some n) [.Assign [.Name y yp] (.Name n np2) ap] hp] [] [] pos) (sJ ev c iy jn cn):=by
 intro pins s σ H D I h;obtain⟨Pr,F,env,r,f⟩:=h;unfold sJ at f;split at f
 ·rename_i env' hc;refine wpAny_Try_except (wpAny_execs_cons (Qx8 (hx pins s σ H Pr F env env' _ I r hc λH1 F1 s1 v s' I1 r1 sF cx=>?_) (λ_ _ z=>z.elim) λ_ _ z=>z));obtain⟨a,Cc,t,H',B,rfl,hE,fl⟩:=cx;cases hE;obtain⟨Sa,hS,Z,ty,sub⟩:=W.at_;obtain⟨hp',g',dr',tk',os'⟩:=s';have fl0:=fl.fl;rw[T.st] at fl0;refine wpAny_looks_onW (by rw[I.ok.frames,T.st]) T.fr fl0 λh4 held up4=>?_;refine wpAny_landsW held λh5 abf up5=>?_;have I5:=I1.caught fl (h':=h5) (by rw[T.st];exact abf) (up4.trans up5);obtain⟨oe,hoe,hcls⟩:=abf.there;refine wpAny_handleBy_cons (codeAny_handlers_test (Calls.Name_function_global I5.ok.kind gl (Calls.loadGlobal_global (by rw[I5.ok.glob];exact I5.mod.glob.keeps I5.bk) hS ?_) hd)) (by intro q;cases q);refine XC.caught I5.KD hoe hcls Z ty sub (codeAny_handlers_suite_as ?_);refine lands_againW abf λh6 aeb up6=>?_;have I6:=I1.caught fl (h':=h6) (by rw[T.st];exact aeb) ((up4.trans up5).trans up6);obtain⟨oe6,vs6,T6,oT6,ts6,ho6,⟨hc6,_⟩,hd6,_⟩:=aeb.2.2.2;have I7:=Inv.known T I1 fl I6 ho6;refine xQ I7 hN hjn (.inl hn) (v:=.ref a) rfl (λs8 I8=>?_) (.inr hn);have hσ:jn<σ.length:=by rw[I.len];exact(Qq6.mp hjn).1
  refine Qx8 ((CZ (Jc (X:=X.suite (.ref a)) hN hiy (.inl hy) (iG (X:=X.suite (.ref a)) hjn (.inl hn) hd1 hd2) hsw (.inr hy))) pins s8 _ _
   { nx:=λσ' H''=>σ'=(σ.set jn (some (.ref a))).set iy (some (.ref a))/\H''=upd H' a (.wH oe6 (.own a)),rt:=λ_ _=>False } (I8.suite _) ⟨.ref a,Qww hσ,rfl,rfl⟩) (λf9 s9 q9=>?_) λ_ _ z=>z.elim
  cases f9 with
  | next=>
   obtain⟨σ9,H9,J9,rfl,rfl⟩:=q9;have I9:=J9.behind I.ok;have I9':=I9.weak (σ':=((σ.set jn (some (.ref a))).set iy (some (.ref a))).set jn none) (by rw[Qw8]) (λi v q=>by
    by_cases z:jn=i
    ·subst z;rw[Qww (by rw[Qw8,Qw8];exact hσ)] at q;cases q
    ·rw[Qq8 z] at q;exact q)
   obtain⟨m9,hm9,hl9⟩:=I9'.loc;refine wpAny_nameGoes_keeps (m:=m9) hn hm9 (by rw[I.ok.kind];rfl) λh10 v10 hNs hsb=>?_;have I10:=I9'.gone (tk:=s9.toks+1) hl9 hNs hsb (λi v q1 q2=>by
    have z:jn=i:=yu hN hjn q1;subst z;rw[Qww (by rw[Qw8,Qw8];exact hσ)] at q2;cases q2)
   obtain⟨r2,sF2⟩:=Rel.new (a:=a) (o:=.wH oe6 (.own a)) (r1.grow fl.same) fl.new;have rp:Rep C.K (upd F1 a (.wH oe6 (.own a))) (Tg cn) (.ref a):=⟨a,[],rfl,.inr (.inr ⟨cn,[],_,oe6,.own a,cl,vs6,rfl,by rw[<-hK];exact W.nm,aX,hc6,hd6,.inl ⟨rfl,rfl⟩⟩),rfl⟩;refine⟨_,_,I10,f _ _ _ ((((r2.unset (i:=jn) (v:=.ref a) fjn).put (i:=iy) fiy rp)).drop fjn λx q=>?_) (sF.trans sF2)⟩;rw[Qq8 hij,List.getElem?_set] at q;split at q
   ·split at q<;>cases q
   ·rename_i z;exact z rfl
  | brk=>obtain⟨_,_,_,z⟩:=q9;exact z.elim
  | cont=>obtain⟨_,_,_,z⟩:=q9;exact z.elim
  | ret u=>obtain⟨_,_,_,_,_,z⟩:=q9;exact z.elim
 ·exact Zk hb pins s σ H D I ⟨Pr,F,env,r,f⟩
end
noncomputable def rE(T:Str->Option Bool)(d:D):Option D:=match d with
 | .clo (.Nonlocal [n] ⟨0,0,0,0⟩) []=>(T n).map .bl
 | _=>none
theorem K3{T:Str->Option Bool}{d e:D}(h:rE T d=some e):∃n b,d=Tg n/\T n=some b/\e = .bl b:=by
 unfold rE at h;split at h
 ·rename_i n;obtain⟨b,h1,h2⟩:=Qw2.mp h;exact⟨n,b,rfl,h1,h2.symm⟩
 ·cases h
theorem Yq{K:Fg}{F H:Hp}{n:Str}{v:V}{P:Program}{w:World}{h:Heap}(hr:Rep K F (Tg n) v)(s:aH F H)(ok:oH P w H h):∃a c,v = .ref a/\PySem.W.nsIn K mainGlobals n=some (some (.ref c))/\XC.At a c h:=by
 obtain⟨a,vs,rfl,q,_⟩:=hr;rcases q with ⟨_,z⟩|⟨_,_,_,_,_,_,z,_⟩|⟨n',r',p',o,u,c,fs,z,h1,h2,h3,_⟩
 ·cases z
 ·cases z
 ·cases z;exact⟨a,c,rfl,h1,o,(ok a _ (s _ _ h2)).1,h3⟩
section
variable{X:Cx}{C:Cfg}{pos:Pos}{e:Expr}{ea:dg}{p:Pos}
theorem Hd{T:Str->Option Bool}{y:V}{cv:Value}(ry:∀u,RelV y u->u=cv)(hk:∀n b c,T n=some b->PySem.W.nsIn X.K mainGlobals n=some (some (.ref c))->XC.Cl X.K c/\PySem.W.kitOne X.K (.ref c) cv=some b) :
  gP X (.builtin "isinstance") (λxs H Q=>∃n b x,xs=[x,y]/\T n=some b/\Rep X.K H (Tg n) x/\Q (.bl b) H):=by
 intro pins s σ H xs us Q I r h;obtain⟨n,b,x,rfl,hT,hr,q⟩:=h;obtain⟨u,w,rfl,r1,r2⟩:=vals2 r;obtain⟨a,c,rfl,h1,h2⟩:=Yq hr (aH.refl H) I.hok;cases r1;rw[ry w r2];obtain⟨Z,e⟩:=hk n b c hT h1;exact XC.isi Z I.KD h2 e λtk=>⟨.bl _,H,I.tok tk,rfl,q⟩
theorem Zd{T:Str->Option Bool}{xT:Str}{e:Expr}{a:Ev}{p q pos:Pos}{cl:Addr}(hg:Gl X "isinstance")(hm:X.mg "isinstance" = none)(V1:Gl X xT)(hmT:X.mg xT=some (.ref cl))
  (hk:∀n b c,T n=some b->PySem.W.nsIn X.K mainGlobals n=some (some (.ref c))->XC.Cl X.K c/\PySem.W.kitOne X.K (.ref c) (.ref cl)=some b) (hK:X.K=C.K) (ha:PX X C e a) (hd:ju xT:=by decide)
  (he:starEach [e,.Name xT q] X.env=(false,eval e X.env)::starEach [.Name xT q] X.env:=by rfl) :
  PX X C (.Call (.Name "isinstance" p) [e,.Name xT q] [] pos) (oX (rE T) a):=by
 refine(pI (Hd (y:=.ref cl) (cv:=.ref cl) (λu r=>r) hk) hg hm boot_isinstance (gw ha (gw (Ko (v:=.ref cl) V1 hmT rfl hd) nW) he) (by decide) (by decide) he rfl).imp λσ H Q h=>?_;obtain⟨Pr,F,env,env',d,rl,e1,qq⟩:=h;obtain⟨d0,aG,e2,e3⟩:=aY e1;obtain⟨e4,rfl⟩:=gb e3;obtain⟨n,b,rfl,hT,rfl⟩:=K3 e4;refine⟨Pr,F,env,env',_,rl,e2,λv H1 F1 r1 s1 p1=>⟨n,b,v,rfl,hT,?_,qq _ H1 F1 r1 s1 rfl⟩⟩;rw[hK];exact Rep.mono r1.fr _ v p1
theorem Uy{T:Str->Option Bool}{B:String}{xT:Str}{e:Expr}{a:Ev}{p q pos:Pos}(hg:Gl X "isinstance")(hm:X.mg "isinstance" = none)(V1:Gl X xT)(hmT:X.mg xT=none)(hvT:bootBuiltins xT=some (.type B))
  (hk:∀n b c,T n=some b->PySem.W.nsIn X.K mainGlobals n=some (some (.ref c))->XC.Cl X.K c/\PySem.W.kitOne X.K (.ref c) (.type B)=some b) (hK:X.K=C.K) (ha:PX X C e a) (hn:xT ≠ "__name__":=by decide) (hd:ju xT:=by decide)
  (he:starEach [e,.Name xT q] X.env=(false,eval e X.env)::starEach [.Name xT q] X.env:=by rfl) :
  PX X C (.Call (.Name "isinstance" p) [e,.Name xT q] [] pos) (oX (rE T) a):=by
 refine(pI (Hd (y:=.ty B) (cv:=.type B) (λu r=>r) hk) hg hm boot_isinstance (gw ha (gw (Kq (v:=.ty B) V1 hmT hvT rfl hn hd) nW) he) (by decide) (by decide) he rfl).imp λσ H Q h=>?_;obtain⟨Pr,F,env,env',d,rl,e1,qq⟩:=h;obtain⟨d0,aG,e2,e3⟩:=aY e1;obtain⟨e4,rfl⟩:=gb e3;obtain⟨n,b,rfl,hT,rfl⟩:=K3 e4;refine⟨Pr,F,env,env',_,rl,e2,λv H1 F1 r1 s1 p1=>⟨n,b,v,rfl,hT,?_,qq _ H1 F1 r1 s1 rfl⟩⟩;rw[hK];exact Rep.mono r1.fr _ v p1
noncomputable def Bt(i:Nat):Ev:=λenv=>match env[i]? with
 | some (some (true,.lst xs))=>(match xs[xs.length - 1]? with
  | some d=>.ok d (env.set i (some (true,.lst xs.dropLast)))
  | none=>.stuck)
 | _=>.stuck
theorem bu.at_{K:Fg}{F:Hp}:∀{ds:List D} {vs:List V} {i:Nat} {d:D},bu K F ds vs->ds[i]? = some d->∃v,vs[i]? = some v/\Rep K F d v
 | [],_,_,_,_,h=>by simp at h
 | _::ds,_,i,d,⟨v,r,e,p,q⟩,h=>by
  subst e;cases i with
  | zero=>simp at h;subst h;exact⟨v,rfl,p⟩
  | succ i=>simpa using bu.at_ q (by simpa using h)
theorem bu.X7{K:Fg}{F:Hp}:∀{ds:List D} {vs:List V},bu K F ds vs->bu K F ds.dropLast vs.dropLast
 | [],_,h=>by cases h;rfl
 | [_],_,⟨v,r,e,p,q⟩=>by cases q;subst e;rfl
 | d::e::ds,_,⟨v,r,e',p,q⟩=>by
  subst e';obtain⟨v2,r2,rfl,p2,q2⟩:=q;exact⟨v,_,rfl,p,bu.X7 (ds:=e::ds) ⟨v2,r2,rfl,p2,q2⟩⟩
theorem keysOf{ks:List (NK×V×V)}{xs:List (NK×Addr×Value)}(kn:KN ks xs):∀(vs:List Value),vs.length=ks.length->(∀(j:Nat) v,vs[j]? = some v->∃x,xs[j]? = some x/\v = .ref x.2.1)->Vals (ks.map (·.2.1)) vs:=by
 induction kn with
 | nil=>intro vs hl _;rw[Qjy hl];exact .nil
 | @cons a b as bs h t ih=>
  intro vs hl hv;cases vs with
  | nil=>simp at hl
  | cons v vs=>
   obtain⟨x,e1,e2⟩:=hv 0 v rfl;simp at e1;subst e1 e2;rw[Qwv,h.2.1];exact .cons rfl (ih vs (by simpa using hl) λj w hw=>by simpa using hv (j+1) w (by simpa using hw))
abbrev Iw(K:Fg):List V->Hp->VK->Prop:=λxs H Q=>∃F p ks kvs,aH F H/\xs=[.ref p]/\Rd H p (.dN ks)/\cC K F kvs ks/\lF (kvs.map (·.1))/\∀l vs',H l=none->bu K F (bL (kvs.map (·.1))) vs'->Q (.ref l) (upd H l (.lst vs'))
theorem JF(hc:X.calm=true)(hu:X.A.units+60<cLine):gP X (.builtin "sorted") (Iw X.K):=by
 intro pins s σ H xs us Q I r h;obtain⟨F,p,ks,kvs,hF,rfl,hq,hr,ok,q⟩:=h;obtain⟨u,rfl,rx⟩:=vals1 r;cases rx;obtain⟨z,lo,xs,kn,o,es,ep,h1,h2,h3,h4,_,_⟩:=zx I hq (cC.mono hF _ _ hr);have hsz:es.size=ks.length:=by rw[<-Qqx,h4,Qqv,kn.len]
 have hkl:kvs.length=ks.length:=by have:=hr.keys.length;rw[Qqv,Qqv] at this;omega
 have h64:ks.length<=1000:=by
  have:(kvs.map (·.1)).length<=1000:=by rcases ok with z|⟨⟨z,_⟩,_⟩<;>omega
  rw[Qqv] at this;omega
 refine Calls.call_function_entry kind_sorted plain_sorted entry_sorted (args_sorted1 _) ?_;unfold Builtin.«sorted»;refine Qqq (m:=checkCount "sorted" 1 1 _) (Qq2 ?_);refine Qqq (PySem.W.kdu_collect (A:=X.A.in1) (Uh (es:=es) (ep:=ep) lo) (I.ok.hd hc) ⟨o,h1,h2,h3⟩ (by rw[hsz];exact Qq4 h64 (by decide)) λh' tk acc hk hacc=>?_);have rv:Vals (ks.map (·.2.1)) acc.toList:=keysOf kn _ (by rw[Qqx,hacc.1,hsz]) λj v hv=>by
  rw[Qzw] at hv;obtain⟨y,e1,e2⟩:=hacc.2 j v hv;rw[<-Qzw,h4,Qx1] at e1;obtain⟨x,g1,g2⟩:=Qw2.mp e1;exact⟨x,g1,by rw[e2,<-g2];rfl⟩
 have hal:acc.toList.length=ks.length:=by rw[<-rv.length,Qqv]
 have hs:kW s.heap (kvs.map (·.1)) acc.toList:=bu.sh I _ _ _ (bu.mono hF _ _ hr.keys) rv;have hlen:=hs.length;refine Qqq (wpAny_newList ?_ (by rw[Qj0];simp at hal ⊢;omega));have hoL:(h'.push (seqObj "list" acc.toList.toArray 0)).get? h'.objs.size=some (seqObj "list" acc.toList.toArray 0):=Qwz _ rfl;show wpAny _ _ _ _ _ { s with heap:=h'.push (seqObj "list" acc.toList.toArray 0),toks:=tk };refine Qqq (Qzy (Qzx slot_list_sort ⟨_,hoL,rfl⟩ entry_list_sort (wD hoL (h₀:=h') (λb o e=>⟨Qq9 e,Qqz _ e⟩) (hs.kept hk) ok (by show X.A.units+1+1+57<cLine;omega) λpp lp=>⟨_,rfl,?_⟩) (args_list_sort _)));obtain⟨e,he⟩:=sortedHeap_at (out:=(pp.map λi=>acc.toList.getD i Value.none).toArray) hoL;refine Qq2 ⟨_,rfl,?_⟩;have I1:L2.Inv X pins σ H { s with heap:=h',toks:=tk }:=I.kept hk;have hin:∀i∈pp,i<(kvs.map (·.1)).length:=λi hi=>by have:=lp.1.mem_iff.mp hi;simpa using this
 have hpl:pp.length=(kvs.map (·.1)).length:=by rw[lp.1.length_eq,List.length_range]
 have rv2:=uJ rv pp λi hi=>by rw[rv.length,hlen];exact hin i hi
 have rr2:=vg hr.keys pp hin;rw[<-lp.2] at rr2;refine⟨.ref h'.objs.size,_,I1.laid (t':=tk) (λb o e=>?_) (Qq0 _) (o:=.lst (pp.map λi=>(ks.map (·.2.1)).getD i .non)) (show fj X.prog X.w _ _ h'.objs.size _ from⟨?_,_,e,rv2,by simpa[seqObj] using he⟩),rfl,q _ _ (I1.hok.fresh (Qq0 _)) rr2⟩
 ·have lt':=Qq9 e;rw[sortedHeap_old (Qw6 lt') (by rw[size_push'];exact Qk1 lt')];exact Qqz _ e
 ·rw[Qqv,hpl,Qqv];exact Qq4 (by omega:kvs.length<=1000) (by decide)
noncomputable def yU:List D->Option D
 | [.gh kvs]=>if lF (kvs.map (·.1)) then some (.lst (bL (kvs.map (·.1)))) else none
 | _=>none
theorem Sq:CallD C (Iw C.K) yU:=by
 intro Pr F env σ H ds d vs Q r hs h q;unfold yU at h;split at h
 ·rename_i kvs;split at h
  ·rename_i hz;cases h;obtain⟨v,rfl,hv⟩:=jl hs;have hv2:∃a ks,v = .ref a/\Rd H a (.dN ks)/\cC C.K F kvs ks/\kvs.length<=sizeLine:=by
    rcases hv with hv|⟨a,rfl,hv⟩
    ·obtain⟨z,a,ks,rfl,g1,g2⟩:=hv;exact⟨a,ks,rfl,g1.imp (λg=>r.fr _ _ g) (λ⟨o,g⟩=>⟨o,r.fr _ _ g⟩),g2,z⟩
    ·obtain⟨z,ks,g1,g2⟩:=hv;exact⟨a,ks,rfl,.inl g1,g2,z⟩
   obtain⟨a,ks,rfl,h1,h2,z⟩:=hv2;refine⟨F,a,ks,kvs,r.fr,rfl,h1,h2,hz,λl vs' hl hv=>?_⟩;have hlen:(bL (kvs.map (·.1))).length<=1000:=by rw[(fH _).length_eq];rcases hz with z|⟨⟨z,_⟩,_⟩<;>omega
   obtain⟨F2,r2,s2,p2⟩:=(r.fresh (o:=.lst vs') hl).keep (Om.of r hl (show jo C.K F (upd H l (.lst vs')) (.lst (bL (kvs.map (·.1)))) l from⟨Qq4 hlen (by decide),vs',aX,hv⟩));exact q _ _ F2 r2 s2 p2
  ·cases h
 ·cases h
end
noncomputable def Js(cn:Str)(b:Bool):Str->Option Bool:=λn=>if n=cn then some b else none
theorem RK{cn n:Str}{b b':Bool}(h:Js cn b n=some b'):n=cn/\b=b':=by
 unfold Js at h;split at h
 ·rename_i z;cases h;exact⟨z,rfl⟩
 ·cases h
noncomputable def Ti(K:Fg)(x:Str):Addr:=match PySem.W.nsIn K mainGlobals x with
 | some (some (.ref c))=>c
 | _=>0
theorem R8{K:Fg}{x:Str}{c:Addr}(h:PySem.W.nsIn K mainGlobals x=some (some (.ref c))):Ti K x=c:=by unfold Ti;rw[h]
def qL(K:Fg)(mg:Str->Option Value)(cn x:Str)(b:Bool):Prop:=∃cl,mg x=some (.ref cl)/\∀c,PySem.W.nsIn K mainGlobals cn=some (some (.ref c))->XC.Cl K c/\PySem.W.kitOne K (.ref c) (.ref cl)=some b
def abM(K:Fg)(cn:Str)(B:String)(b:Bool):Prop:=∀c,PySem.W.nsIn K mainGlobals cn=some (some (.ref c))->XC.Cl K c/\PySem.W.kitOne K (.ref c) (.type B)=some b
structure XF(K:Fg)(x:Str)(c:Addr):Prop where
 nm:PySem.W.nsIn K mainGlobals x=some (some (.ref c))
 ex:PySem.W.excIn K c [.type "ValueError",.type "Exception",.type "BaseException",.type "object"] "ValueError.__new__" = true
 cl:XC.Cl K c
theorem XF.raises{K:Fg}{h:Heap}{mg:Str->Option Value}{x:Str}{c:Addr}(F:XF K x c)(X:K.In h)(G:h.Ns mainGlobals mg):JT K mg x (Ti K x):=by
 rw[R8 F.nm];intro base KB;refine⟨_,_,_,⟨Qk3 X G F.nm,?_⟩,by decide +kernel,PySem.F.excBase_ValueError⟩;have q:=F.ex;unfold PySem.W.excIn at q;split at q
 ·rename_i dd cd sl ho;split at q
  ·rename_i C' bm k0 k1 k2 k3 n k5 hm hs;simp only[Qz5,beq_iff_eq,Bool.not_eq_true'] at q;obtain⟨⟨⟨⟨⟨rfl,rfl⟩,hdel⟩,ht⟩,hok⟩,hni⟩:=q;cases cd with
   | mk nm bs mro ns qn hd sn sub ab col del=>
    simp only at hm hdel hok hni;subst hm hdel;cases sl with
    | mk l=>
     simp only at hs;subst hs;exact⟨bm,ns,nm,qn,bs,hd,sn,sub,ab,col,dd,k0,k1,k2,k3,k5,_,KB _ _ ho,.of_isNs (PySem.W.isNs_of_in KB hok),PySem.W.nsMap_none_of_in KB hok hni,PySem.W.tail_of_in KB ht⟩
  ·cases q
 ·cases q
theorem XF.below{K:Fg}{h:Heap}{mg:Str->Option Value}{x S:Str}{c cs:Addr}(F:XF K x c)(X:K.In h)(G:h.Ns mainGlobals mg)(hS:PySem.W.nsIn K mainGlobals S=some (some (.ref cs)))(Z:XC.Cl K cs)(ty:PySem.W.typeIn K (.ref cs)=some (.type "type"))(sub:PySem.W.mroIn K c (.ref cs)=some true):Below K mg S x (Ti K x):=by rw[R8 F.nm];exact⟨⟨cs,Qk3 X G hS,Z,ty,sub⟩,F.nm⟩
theorem XF.XQ{K:Fg}{h:Heap}{mg:Str->Option Value}{x y:Str}{c cy:Addr}{b:Bool}(F:XF K x c)(X:K.In h)(G:h.Ns mainGlobals mg)(hS:PySem.W.nsIn K mainGlobals y=some (some (.ref cy)))(k:PySem.W.kitOne K (.ref c) (.ref cy)=some b):qL K mg x y b:=
 ⟨cy,Qk3 X G hS,λc' h'=>by rw[F.nm] at h';cases h';exact⟨F.cl,k⟩⟩
theorem XF.isB{K:Fg}{x:Str}{c:Addr}{b:Bool}{B:String}(F:XF K x c)(k:PySem.W.kitOne K (.ref c) (.type B)=some b):abM K x B b:=
 λc' h'=>by rw[F.nm] at h';cases h';exact⟨F.cl,k⟩
section
variable{X:Cx}{C:Cfg}{pos p q:Pos}{e:Expr}{a:Ev}{ea:dg}
theorem Yr(i:Nat){x:Str}{px apos cpos:Pos}(hN:X.N[i]? = some x:=by rfl)(hv:vZ X.env.scope x:=by first|exact Or.inl rfl|exact Or.inr (Or.inl rfl)|exact Or.inr (Or.inr rfl))
  (hbase:attributeBase (.Name x px) "pop" X.env (eval (.Name x px) X.env)=eval (.Name x px) X.env:=by rfl)
  (hline:(apos.endLine == cpos.line)=true:=by rfl) (hd:ju x:=by decide) (hcd:vG x:=by decide):SX X C (.Call (.Attribute (.Name x px) "pop" apos) [] [] cpos) (Bt i):=⟨by
 refine(ZM PySem.F.plainAttrs_list PySem.F.slot_list_pop PySem.F.type_list_pop aaw (iG hN hv hd hcd) hbase hline).imp λσ H Q h=>?_;obtain⟨Pr,F,env,env',d,r,e,q⟩:=h;unfold Bt at e;split at e
 ·rename_i xs h0;split at e
  ·rename_i d0 h1;cases e;obtain⟨a0,hv0,⟨z0,vs0,g0,g1⟩,_⟩:=r.own i _ h0;have hl:vs0.length=xs.length:=g1.length;obtain⟨v,e1,p1⟩:=bu.at_ g1 h1;refine⟨_,hv0,.inl ⟨rfl,vs0,jX.of g0⟩,a0,vs0,v,rfl,rfl,g0,by rw[hl];exact e1,?_⟩;exact q v _ F (r.write h0 hv0 ⟨by rw[List.length_dropLast];omega,vs0.dropLast,aX,g1.X7⟩) (aH.refl F) p1
  ·cases e
 ·cases e⟩
theorem Ow(G:Good X C)(hm:X.mg "sorted" = none)(ha:uy X C [e] ea)(hg:Gl X "sorted":=by rfl)(he:Ed e X.env:=by rfl):SX X C (.Call (.Name "sorted" p) [e] [] pos) (ao yU ea):=⟨lg (X:=X) (r:=Iw C.K) (by rw[<-G.K];exact JF G.calm G.u60) Sq hg hm PyProof.Rows.boot_sorted ha.u (by decide) (by decide) he rfl⟩
theorem o5{xT cn:Str}{b:Bool}(G:Good X C)(hm:X.mg "isinstance" = none)(h:qL X.K X.mg cn xT b)(ha:SX X C e a)(hg:Gl X "isinstance":=by rfl)(V1:Gl X xT:=by rfl)(hd:ju xT:=by decide)
  (he:starEach [e,.Name xT q] X.env=(false,eval e X.env)::starEach [.Name xT q] X.env:=by rfl):SX X C (.Call (.Name "isinstance" p) [e,.Name xT q] [] pos) (oX (rE (Js cn b)) a):=by
 obtain⟨cl,h1,h2⟩:=h;exact⟨Ev.Zd hg hm V1 h1 (λn b' c z k=>by obtain⟨rfl,rfl⟩:=RK z;exact h2 c k) G.K ha.u hd he⟩
theorem Tw{xT cn:Str}{B:String}{b:Bool}(hv:bootBuiltins xT=some (.type B))(G:Good X C)(hm:X.mg "isinstance" = none)(hmT:X.mg xT=none)(h:abM X.K cn B b)(ha:SX X C e a)(hg:Gl X "isinstance":=by rfl)(V1:Gl X xT:=by rfl)(hn:xT ≠ "__name__":=by decide)(hd:ju xT:=by decide)
  (he:starEach [e,.Name xT q] X.env=(false,eval e X.env)::starEach [.Name xT q] X.env:=by rfl):SX X C (.Call (.Name "isinstance" p) [e,.Name xT q] [] pos) (oX (rE (Js cn b)) a):=
 ⟨Ev.Uy hg hm V1 hmT hv (λn b' c z k=>by obtain⟨rfl,rfl⟩:=RK z;exact h c k) G.K ha.u hn hd he⟩
theorem Ua{st:Stmt}{ev:bH}{c:eO}(iy jn:Nat){cl:Addr}{S cn n y:Str}{np yp np2 ap hp:Pos}(T:qC X)(G:Good X C)(W:Below X.K X.mg S cn cl)(hb:Good X.vC C->fU X.vC C [st] ev)(hx:abI X C st c cl)(hnd:lA X.N=true:=by rfl)(hjn:X.N[jn]? = some n:=by rfl)(hiy:X.N[iy]? = some y:=by rfl)
  (hij:iy≠jn:=by decide) (hn:X.env.scope.names.lookup n=some .local:=by rfl) (hy:X.env.scope.names.lookup y=some .local:=by rfl) (fjn:C.fx jn=none:=by rfl) (fiy:C.fx iy=none:=by rfl) (gl:Gl X S:=by rfl) (hd:ju S:=by decide) (hd1:ju n:=by decide) (hd2:vG n:=by decide)
  (hsw:swapsWith (.Name n np2) (some (.Name y yp)) ap.line X.env=pure false:=by rfl) :
  zV X C (.Try [st] [.ExceptHandler (some (.Name S np)) (some n) [.Assign [.Name y yp] (.Name n np2) ap] hp] [] [] pos) (sJ ev c iy jn cn):=⟨Ev.acH T G.K W (hb (vC G)).u hx (iR hnd) hjn hiy hij hn hy fjn fiy gl hd hd1 hd2 hsw⟩
end
end Ev
namespace L2
open PySem PySem.Spec PySem.W PySem.Calls PyProof.Rows
theorem U9{X:Cx}{a:Expr}{ta:TE}{c1 c2:Str}{j1 j3:Nat}{p1 p2 p3 pos:Pos}(i:Int)(hi:i.natAbs.log2<1920)(ha:PE X a ta)(h1:c1.length<=sizeLine)(h2:(c1++Str.ofString (toString i)).length<=sizeLine)(h3:(c1++Str.ofString (toString i)++c2).length<=sizeLine) :
  PE X (.JoinedStr [.Constant (.str c1) j1 p1,.FormattedValue a (-1) none p2,.Constant (.str c2) j3 p3] pos) (λσ H Q=>ta σ H λx H1=>x = .int i/\Q (.str (c1++Str.ofString (toString i)++c2)) H1):=by
 intro pins s σ H Q I h;have e0:Str.empty++c1=c1:=by have h:=Ev.sG [] c1.cps.toList;rw[Ev.uR,Qk0,Ev.uR] at h;exact h
 refine JoinedStr_many (joinParts_cons (Calls.Constant_str ?_));show(Str.empty++c1).length<=sizeLine/\_;rw[e0];refine⟨h1,joinParts_cons (FormattedValue_plain (fV (ha pins _ σ H _ (I.tok _) h) λv s1 ⟨x,H1,I1,rx,ex,q1⟩=>?_))⟩;subst ex;obtain⟨t,rfl⟩:=rx;refine wpAny_formatField_int hi ⟨h2,joinParts_consE (joinParts_cons (Calls.Constant_str ⟨h3,joinParts_nilE (joinParts_nil ?_ h3)⟩))⟩;exact⟨.str _,H1,I1.tok _,⟨_,rfl⟩,q1⟩
end L2
namespace Ev
open PySem PySem.Spec PyProof.Rows L2
noncomputable def R3(i:Int)(txt:List Nat)(a:Ev):Ev:=λenv=>bindR (a env) λx e1=>match x with
 | .int k=>if k=i then .ok (.str txt) e1 else .stuck
 | _=>.stuck
theorem TF{X:Cx}{C:Cfg}{a:Expr}{ea:Ev}(i:Int)(txt:List Nat){c1 c2:Str}{j1 j3:Nat}{p1 p2 p3 pos:Pos}(hi:i.natAbs.log2<1920)(ht:strOf txt=c1++Str.ofString (toString i)++c2)(hl:txt.length<=sizeLine)(h1:c1.length<=sizeLine)(h2:(c1++Str.ofString (toString i)).length<=sizeLine)(ha:SX X C a ea) :
  SX X C (.JoinedStr [.Constant (.str c1) j1 p1,.FormattedValue a (-1) none p2,.Constant (.str c2) j3 p3] pos) (R3 i txt ea):=⟨by
 refine(U9 i hi ha.u h1 h2 (by rw[<-ht,dI];exact hl)).imp λσ H Q hq=>?_;obtain⟨Pr,F,env,env',d,r,e0,q⟩:=hq;obtain⟨x,aG,e1,e2⟩:=aY e0;split at e2
 ·rename_i k;split at e2
  ·rename_i hk;subst hk;cases e2;refine⟨Pr,F,env,env',_,r,e1,λvx H1 F1 r1 s1 p1=>⟨p1,?_⟩⟩;rw[<-ht];exact q _ H1 F1 r1 s1 ⟨rfl,hl⟩
  ·cases e2
 ·cases e2⟩
theorem ahL{g:D->D->Option D}{i:Nat}{b:Ev}{env e2:Env}{x y d:D}(h1:env[i]? = some (some (false,x)))(h2:b env = .ok y e2)(h4:e2[i]? = some (some (false,x)))(h3:g x y=some d):az g i b env = .ok d e2:=bZ h1 h2 h4 h3
theorem ahK{g:D->D->Option D}{i:Nat}{b:Ev}{env e2:Env}{x y d:D}(h1:env[i]? = some (some (true,x)))(h2:b env = .ok y e2)(h4:e2[i]? = some (some (true,x)))(h3:g x y=some d):az g i b env = .ok d e2:=bZ h1 h2 h4 h3
theorem agz{i:Nat}{a:Ev}{env e:Env}{d:D}{xs:List D}(h0:env[i]? = some (some (true,.lst xs)))(h1:a env = .ok d e)(h2:e[i]? = some (some (true,.lst xs)))(hz:xs.length<sizeLine):fM i a env = .nx (e.set i (some (true,.lst (xs++[d])))):=by unfold fM;rw[h0];simp only[h1,gB,h2,if_pos hz]
theorem agS{f:List D->Option (D×D)}{i:Nat}{a:dg}{env e1:Env}{ds:List D}{x d x':D}(h0:env[i]? = some (some (true,x)))(h1:a env = .ok ds e1)(h2:e1[i]? = some (some (true,x)))(h3:f (x::ds)=some (d,x')):cX f i a env = .ok d (e1.set i (some (true,x'))):=iC h0 h1 h2 h3
theorem zz1:1<=sizeLine:=by decide
theorem Ht:2<=sizeLine:=by decide
theorem zz3:3<=sizeLine:=by decide
theorem zz4:4<=sizeLine:=by decide
theorem zz5:5<=sizeLine:=by decide
theorem zz6:6<=sizeLine:=by decide
theorem zz7:7<=sizeLine:=by decide
end Ev
abbrev OD:=Option (Bool×Ev.D)
noncomputable abbrev Zf(d:Ev.D):OD:=some (false,d)
noncomputable abbrev Zt(d:Ev.D):OD:=some (true,d)
noncomputable abbrev Zs(w:List Nat):OD:=some (false,.str w)
noncomputable abbrev Zb(b:Bool):OD:=some (false,.bl b)
noncomputable abbrev Zl(l:List Ev.D):OD:=some (true,.lst l)
noncomputable abbrev Zv(i:Nat)(a:Ev.dg):Ev.dg:=Ev.aa (Ev.aK i) a
noncomputable abbrev Zi(i:Int):Ev.Ev:=Ev.rQ (.int i)
noncomputable abbrev Zw(w:List Nat):Ev.Ev:=Ev.rQ (.str w)
abbrev LD:=List Ev.D->Option Ev.D
noncomputable abbrev Zn:OD:=none
noncomputable abbrev WM:List PySem.Str:=["stock","order"]
noncomputable abbrev WL:List PySem.Str:=["_law_pack_here","_law_sounds_here"]
noncomputable abbrev Yh:List PySem.Str:=["_law_order_here"]
noncomputable abbrev Zq3:List PySem.Str:=["rule","standing","sign"]
noncomputable abbrev Zq4:List PySem.Str:=["order","standing","sound"]
noncomputable abbrev Zq5:List PySem.Str:=["_law_stock_here"]
noncomputable abbrev Zq6:List PySem.Str:=["_law_signs_here","_law_sign"]
noncomputable abbrev Zq7:List PySem.Str:=["rule","standing","signs"]
noncomputable abbrev Zq8:List PySem.Str:=["_law_pack_here","_law_size"]
noncomputable abbrev Zq9:List PySem.Str:=["_law_pack_here","_law_sounds_here","_law_most"]
noncomputable abbrev abE:List PySem.Str:=["_law_rule_here","_law_standing","_law_signs_here"]
noncomputable abbrev abD:List PySem.Str:=["_law_order_here","_law_standing","_law_sound"]
noncomputable abbrev abC:List PySem.Str:=["_law_order_here","_law_sounds_here"]
noncomputable abbrev aeo:List PySem.Str:=["rule","standing","sign","way","changes","left","right","near","held","put"]
noncomputable abbrev aen:List PySem.Str:=["_law_script","_law_pack_here","_law_stock_here","_law_sounds_here","_law_order_here","_law_due","_law_found","_law_caught","_law_e","_law_standing"]
namespace lH
open Ev
section
noncomputable def jg:Ev:=fC 1 3 (gf (aK 0)) (cP 2 (aO (ak 1) (aO (ak 2) cQ))) dh (aK 1)
noncomputable def fY:bH:=bw (ao cA (aa (jg) aj))
noncomputable def fX:LD:=cO 1 fY
noncomputable def iM:bH:=bw (Dw (az gIs 0 (rQ .non)) (az gIn 1 (bf 0)))
noncomputable def gn:LD:=cO 2 iM
noncomputable def iz:bH:=aB (aN (aK 0) (cP 4 (aO (ak 1) (aO (ak 2) (aO (ak 3) (aO (ak 4) cQ)))))) (bw (bN (Zv 1 (Zv 2 (Zv 4 (Zv 3 aj))))))
noncomputable def jU:LD:=cO 5 iz
noncomputable def jF:bH:=bw (aF oW (aF dF (aF dF (az dF 0 (Zi 1)) (Zi 0)) (Zi 0)) (Zw []))
noncomputable def jD:LD:=cO 1 jF
noncomputable def iH:Ev:=fC 3 4 (gf (aK 2)) (ak 3) dh (ao jU (Zv 3 aj))
noncomputable def cG:bH:=aB (aN (aK 0) (cP 2 (aO (ak 1) (aO (ak 2) cQ)))) (aB (dJ (eY (az oW 1 (Zw [114,105,103,104,116]))) (bw (ao cA (aa (iH) aj))) bU) (bw (aK 2)))
noncomputable def cM:LD:=cO 3 cG
noncomputable def qx:Ev:=fC 1 5 (gf (ao cM (Zv 0 aj))) (cP 4 (aO (ak 1) (aO (ak 2) (aO (ak 3) (aO (ak 4) cQ))))) dh (bN (aa (ao gn (Zv 3 (aa (Zw [35]) aj))) (aa (Zw []) aj)))
noncomputable def fQ:bH:=bw (ao cA (aa (qx) aj))
noncomputable def eN:LD:=cO 1 fQ
noncomputable def cI:bH:=aB (aN (aK 0) (cP 4 (aO (ak 3) (aO (ak 4) (aO (ak 5) (aO (ak 6) cQ)))))) (aB (aN (aK 1) (cP 2 (aO (ak 7) (aO (ak 8) cQ)))) (aB (aN (aK 8) (ak 9)) (aB (dJ (lC (eY (aK 7)) (eY (ao gn (Zv 6 (Zv 2 aj))))) (aN (az du 8 (aF dF (az dF 4 (Zi 0)) (Zi 1))) (ak 9)) bU) (bw (bN (aa (bN (aa (ao gn (Zv 5 (Zv 2 aj))) (Zv 2 aj))) (Zv 9 aj)))))))
noncomputable def cV:LD:=cO 10 cI
noncomputable def cZ:bH:=aB (aN (aK 0) (cP 4 (aO (ak 3) (aO (ak 4) (aO (ak 5) (aO (ak 6) cQ)))))) (aB (aN (aK 1) (cP 2 (aO (ak 7) (aO (ak 8) cQ)))) (aB (dJ (eY (az oW 8 (Zw []))) (bw (bN (aa (bN (Zv 7 (Zv 2 aj))) (aa (Zw []) aj)))) bU) (aB (aN (aK 8) (ak 9)) (aB (dJ (lC (eY (aK 7)) (eY (ao gn (Zv 6 (Zv 2 aj))))) (aN (rG (ao qH (aa (bf 4) aj)) (aK 8) (aK 8)) (ak 9)) bU) (aB (dJ (eY (az oW 3 (Zw [111,110,99,101]))) (bw (bN (aa (bN (aa (ao gn (Zv 5 (Zv 8 aj))) (Zv 2 aj))) (Zv 9 aj)))) bU) (aB (dJ (eY (az oW 9 (Zw []))) (bw (bN (aa (bN (Zv 7 (Zv 2 aj))) (Zv 9 aj)))) bU) (bw (bN (aa (bN (aa (ao gn (Zv 5 (Zv 9 aj))) (Zv 2 aj))) (Zv 9 aj))))))))))
noncomputable def cY:LD:=cO 10 cZ
noncomputable def iB:bH:=aB (aN (az dF 1 (Zi 1)) (ak 6)) (aB (dJ (eY (ao jD (Zv 0 aj))) (aN (ao cV (Zv 0 (Zv 1 (Zv 5 aj)))) (cP 2 (aO (ak 1) (aO (ak 7) cQ)))) (aN (ao cY (Zv 0 (Zv 1 (Zv 5 aj)))) (cP 2 (aO (ak 1) (aO (ak 7) cQ))))) (aB (aN (Dw (aK 4) (az zY 7 (bf 6))) (ak 4)) (fM 3 (aK 7))))
noncomputable def fZ:bH:=aB (dO 3 (cu aj)) (aB (aN (rQ (.bl false)) (ak 4)) (aB (gq (gf (aK 2)) (ak 5) (iB)) (bw (bN (Zv 1 (aa (aF qG (Zw []) (bf 3)) (Zv 4 aj)))))))
noncomputable def gU:LD:=cO 8 fZ
noncomputable def jL:bH:=aB (aN (ao gU (Zv 6 (Zv 7 (Zv 3 aj)))) (cP 3 (aO (ak 8) (aO (ak 3) (aO (ak 9) cQ))))) (aB (fM 4 (aK 8)) (fM 5 (aK 9)))
noncomputable def iK:bH:=aB (aN (aK 2) (ak 3)) (aB (dO 4 (cu aj)) (aB (dO 5 (cu aj)) (aB (gq (GR (aa (ao cM (Zv 0 aj)) (Zv 1 aj))) (cP 2 (aO (ak 6) (aO (ak 7) cQ))) (jL)) (bw (bN (aa (ao cA (aa (bf 4) aj)) (Zv 3 (aa (ao cA (aa (bf 5) aj)) aj))))))))
noncomputable def lB:LD:=cO 10 iK
noncomputable def iV:bH:=aB (aN (ao lB (Zv 0 (Zv 1 (Zv 2 aj)))) (cP 3 (aO (ak 3) (aO (ak 4) (aO (ak 5) cQ))))) (bw (bN (Zv 3 (Zv 4 aj))))
noncomputable def jC:LD:=cO 6 iV
def gm:bH:=aB (aN (ao jC (Zv 1 (aa (az dF 2 (ao d7 (aa (bf 4) aj))) (Zv 6 aj)))) (cP 2 (aO (ak 7) (aO (ak 8) cQ)))) (aB (dJ (eY (az jN 7 (bf 3))) (aB (nJ 3 (aK 7) (ao d7 (aa (bf 2) aj))) (fM 2 (aK 7))) bU) (fM 5 (bN (Zv 8 (aa (az yX 3 (bf 7)) aj)))))
def z7:bH:=aB (dO 5 (cu aj)) (aB (gq (gf (ao fX (Zv 0 aj))) (ak 6) (gm)) (aB (dJ (eY (aF V9 (ao d7 (aa (bf 2) aj)) (Zi 600))) (Cp) bU) (fM 4 (ao cA (aa (bf 5) aj)))))
def dH:bH:=aB (dO 5 (cu aj)) (aB (gq (gf (ao fX (Zv 0 aj))) (ak 6) (gm)) (aB (dJ (eY (aF V9 (ao d7 (aa (bf 2) aj)) (Zi 600))) (sS (aa (R3 600 [116,104,101,32,111,114,100,101,114,32,104,97,115,32,109,111,114,101,32,116,104,97,110,32,54,48,48,32,115,116,97,110,100,105,110,103,115] (Zi 600)) aj)) bU) (fM 4 (ao cA (aa (bf 5) aj)))))
def zL:bH:=aB (dO 2 (cu (aa (ao eN (Zv 1 aj)) aj))) (aB (dO 3 (vW (az dF 2 (Zi 0)) (Zi 0))) (aB (dO 4 (cu aj)) (aB (cN (eY (aF Ol (ao d7 (aa (bf 4) aj)) (ao d7 (aa (bf 2) aj)))) (z7) 7000) (bw (bN (Zv 2 (Zv 4 aj)))))))
def oh:LD:=cO 9 zL
def jW:bH:=aB (dO 2 (cu (aa (ao eN (Zv 1 aj)) aj))) (aB (dO 3 (vW (az dF 2 (Zi 0)) (Zi 0))) (aB (dO 4 (cu aj)) (aB (cN (eY (aF Ol (ao d7 (aa (bf 4) aj)) (ao d7 (aa (bf 2) aj)))) (dH) 7000) (bw (bN (Zv 2 (Zv 4 aj)))))))
def eQ:List D->Bool:=Ip 9 jW
def wK:bH:=bw (ao cA (aa (ao yS (aa (aF dF (ao oh (Zv 0 (Zv 1 aj))) (Zi 0)) aj)) aj))
def iT:LD:=cO 2 wK
def uo:bH:=Cq (ji eQ (Zv 0 (Zv 1 aj)))
def fW:List D->Bool:=Ip 2 uo
noncomputable def my:bH:=bw (aF aa7 (az rD 0 (Zi 915965594177219015054603514932384110774149374281672134266497)) (aF Jx (Zi 10) (Zi 60)))
noncomputable def gM:LD:=cO 1 my
noncomputable def Ai:bH:=aN (aF du (az rD 2 (aF Jx (Zi 10) (Zi 60))) (ao gM (aa (aF dF (aF du (zf (aK 0) (Hr (aK 3)) (Hr (az du 3 (Zi 1)))) (cu (aa (aF du (aF rD (Zi 7919) (bf 3)) (Zi 61)) aj))) (Zi 0)) aj))) (ak 2)
noncomputable def jG:bH:=aB (aN (Zi 0) (ak 2)) (aB (gq (gf (cu (aa (az du 1 (Zi 1)) (Zv 1 aj)))) (ak 3) (Ai)) (xR (cu (Zv 2 aj))))
noncomputable def ou:LD:=runN 4 jG
noncomputable def eZ:bH:=aB (aN (ao ue (aa (az dF 0 (Zi 0)) (aa (bf 1) aj))) (cP 2 (aO (V2 0 (Zi 0)) (aO (ak 2) cQ)))) (bw (aK 2))
noncomputable def aR:List D->Option (D×D):=gr 3 eZ
noncomputable def yG:Ev:=fC 7 8 (iw (aa (Zi 5) aj)) (ak 7) (eY (aF oW (aF Al (az yV 5 (bf 7)) (Zi 1)) (Zi 1))) (az dF 2 (bf 7))
noncomputable def yK:bH:=aB (aN (cX aR 0 (aa (Zi 32) aj)) (ak 5)) (aB (aN (ao gA (aa (yG) aj)) (ak 6)) (fM 3 (bN (Zv 4 (aa (ao cA (aa (zf (aK 6) GX (Hr (Zi 4))) aj)) aj)))))
noncomputable def lY:bH:=aB (aN (aF dF (cu (aa (Zw [97]) (aa (Zw [97,98]) (aa (Zw [97,98]) (aa (Zw [97,98,99]) (aa (Zw [97,101,112,116]) (aa (Zw [109,110,122]) aj))))))) (cX aR 0 (aa (Zi 6) aj))) (ak 1)) (aB (aN (cu (aa (Zw [115,116,111,112]) (aa (Zw [115,116,111,112,115]) (aa (Zw [115]) (aa (Zw [111,112,101,110]) (aa (Zw [97,98,99,100,101,102,103,104]) aj)))))) (ak 2)) (aB (dO 3 (cu aj)) (aB (gq (gf (aK 1)) (ak 4) (yK)) (bw (ao cA (aa (bf 3) aj))))))
noncomputable def lV:List D->Option (D×D):=gr 7 lY
noncomputable def xn:Ev:=lH.jg
noncomputable def jm:bH:=bw (aF qG (Zw []) (xn))
noncomputable def km:LD:=cO 1 jm
noncomputable def yH:Ev:=fC 4 5 (iw (aa (ao d7 (aa (bf 3) aj)) aj)) (ak 4) (eY (aF oW (aF Al (az yV 2 (bf 4)) (Zi 1)) (Zi 1))) (az dF 3 (bf 4))
noncomputable def eF:bH:=aB (dJ (eY (aF oW (cX aR 0 (aa (Zi 2) aj)) (Zi 0))) (bw (rQ .non)) bU) (aB (aN (aF du (Zi 1) (cX aR 0 (aa (aF GC (aF Jw (Zi 2) (ao d7 (aa (bf 1) aj))) (Zi 1)) aj))) (ak 2)) (aB (aN (aF du (Zw [35]) (bf 1)) (ak 3)) (bw (ao cA (aa (yH) aj)))))
noncomputable def dU:List D->Option (D×D):=gr 4 eF
noncomputable def vL:Ev:=fC 6 7 (gf (aF du (ao t7 (aa (bf 1) aj)) (cu (aa (Zw []) aj)))) (ak 6) (eY (az zY 6 (bf 4))) (aK 6)
noncomputable def vM:bH:=aB (aN (az dF 1 (cX aR 0 (aa (ao d7 (aa (bf 1) aj)) aj))) (ak 4)) (aB (dO 5 (vL)) (o8 2 (aK 4) (az dF 5 (cX aR 0 (aa (ao d7 (aa (bf 5) aj)) aj)))))
noncomputable def vK:Ev:=fC 6 7 (gf (ao gA (aa (bf 2) aj))) (ak 6) dh (bN (Zv 6 (aa (az jT 2 (bf 6)) aj)))
noncomputable def cR:bH:=aB (dJ (eY (aF oW (cX aR 0 (aa (Zi 5) aj)) (Zi 0))) (bw (bN (aa (bN (aa (Zw []) (aa (az dF 1 (cX aR 0 (aa (ao d7 (aa (bf 1) aj)) aj))) aj))) aj))) bU) (aB (dO 2 (zg)) (aB (gq (iw (aa (aF du (Zi 1) (cX aR 0 (aa (Zi 3) aj))) aj)) (ak 3) (vM)) (bw (ao cA (aa (vK) aj)))))
noncomputable def eE:List D->Option (D×D):=gr 6 cR
noncomputable def gO:bH:=aB (aN (aF dF (cu (aa (Zw [111,110,99,101]) (aa (Zw [97,108,111,110,103]) aj))) (cX aR 0 (aa (Zi 2) aj))) (ak 2)) (aB (aN (cX eE 0 (Zv 1 aj)) (ak 3)) (bw (bN (Zv 2 (Zv 3 (aa (cX dU 0 (Zv 1 aj)) (aa (cX dU 0 (Zv 1 aj)) aj)))))))
noncomputable def iI:List D->Option (D×D):=gr 4 gO
noncomputable def yI:Ev:=fC 4 5 (iw (aa (cX aR 0 (aa (az du 2 (Zi 1)) aj)) aj)) (ak 4) dh (cX iI 0 (Zv 1 aj))
noncomputable def mq:bH:=aB (aN (aF dF (cu (aa (Zw [108,101,102,116]) (aa (Zw [114,105,103,104,116]) aj))) (cX aR 0 (aa (Zi 2) aj))) (ak 3)) (bw (bN (Zv 3 (aa (ao cA (aa (yI) aj)) aj))))
noncomputable def lW:List D->Option (D×D):=gr 4 mq
noncomputable def rK:bH:=lH.iM
noncomputable def cB:LD:=cO 2 rK
noncomputable def kI:bH:=bw (bN (aa (az dF 0 (Zi 0)) (aa (az dF 0 (Zi 1)) (aa (az dF 0 (Zi 3)) (aa (az dF 0 (Zi 2)) aj)))))
noncomputable def gV:LD:=cO 1 kI
noncomputable def qy:bH:=aB (aN (qJ (aK 3) (ao cB (aa (az dF 0 (Zi 3)) (Zv 6 aj)))) (ak 7)) (aB (dJ (eY (aF oW (aF dF (aF dF (az dF 0 (Zi 1)) (Zi 0)) (Zi 0)) (Zw []))) (aB (aN (aF du (az du 5 (bf 4)) (aF vQ (aF dF (aF dF (az dF 0 (Zi 1)) (Zi 0)) (Zi 1)) (ao Bq (aa (bf 7) aj)))) (ak 5)) (aN (ao cB (aa (az dF 0 (Zi 2)) (Zv 6 aj))) (ak 3))) (dJ (eY (az zY 4 (Zw []))) (aB (aN (aK 4) (ak 8)) (aB (dJ (eY (aK 7)) (aN (rG (ao qH (aa (az dF 0 (Zi 1)) aj)) (aK 4) (aK 4)) (ak 8)) bU) (aB (aN (az du 5 (bf 8)) (ak 5)) (dJ (eY (aF oW (az dF 0 (Zi 0)) (Zw [111,110,99,101]))) (aN (ao cB (aa (az dF 0 (Zi 2)) (Zv 4 aj))) (ak 3)) (dJ (eY (az zY 8 (Zw []))) (aN (ao cB (aa (az dF 0 (Zi 2)) (Zv 8 aj))) (ak 3)) bU))))) bU)) (aN (aK 6) (ak 4)))
noncomputable def gW:bH:=aB (aN (aK 1) (cP 2 (aO (ak 3) (aO (ak 4) cQ)))) (aB (aN (Zw []) (ak 5)) (aB (gq (gf (aK 2)) (ak 6) (qy)) (bw (bN (aa (bN (Zv 3 (Zv 4 aj))) (Zv 5 aj))))))
noncomputable def eG:LD:=cO 9 gW
noncomputable def Ah:Ev:=fC 1 2 (gf (az dF 0 (Zi 1))) (ak 1) dh (ao gV (Zv 1 aj))
noncomputable def oG:bH:=aB (dJ (eY (aF oW (az dF 0 (Zi 0)) (Zw [108,101,102,116]))) (bw (ao t7 (aa (az dF 0 (Zi 1)) aj))) bU) (bw (Ah))
noncomputable def iJ:LD:=cO 1 oG
noncomputable def yL:bH:=aB (aN (ao eG (Zv 5 (Zv 6 (Zv 3 aj)))) (cP 2 (aO (ak 7) (aO (ak 3) cQ)))) (fM 4 (aK 7))
noncomputable def lZ:bH:=aB (aN (aK 2) (ak 3)) (aB (dO 4 (cu aj)) (aB (gq (zc (aa (ao iJ (Zv 0 aj)) (Zv 1 aj))) (cP 2 (aO (ak 5) (aO (ak 6) cQ))) (yL)) (bw (bN (aa (ao cA (aa (bf 4) aj)) (Zv 3 aj))))))
noncomputable def iU:LD:=cO 8 lZ
noncomputable def yJ:Ev:=fC 1 2 (gf (ao iJ (Zv 0 aj))) (ak 1) dh (bN (aa (ao cB (aa (az dF 1 (Zi 2)) (aa (Zw [35]) aj))) (aa (Zw []) aj)))
noncomputable def qb:bH:=bw (ao cA (aa (yJ) aj))
noncomputable def jV:LD:=cO 1 qb
noncomputable def Ag:Ev:=fC 3 4 (iw (aa (Zi 7) aj)) (ak 3) dh (az oW 3 (bf 1))
noncomputable def JL:bH:=aB (aN (cu (aa (oX (rE (Js "TooMany" true)) (aK 0)) (aa (oX (rE (Js "TooMany" false)) (aK 0)) (aa (oX (rE (Js "TooMany" false)) (aK 0)) (aa (oX (rE (Js "TooMany" false)) (aK 0)) aj))))) (ak 2)) (aB (aN (az du 2 (cu (aa (oX (rE (Js "TooMany" false)) (aK 0)) (aa (oX (rE (Js "TooMany" false)) (aK 0)) (aa (oX (rE (Js "TooMany" false)) (aK 0)) aj))))) (ak 2)) (aB (dJ (wI (pU (eY (oX (rE (Js "TooMany" true)) (aK 0)))) (pU (eY (oX (rE (Js "TooMany" true)) (aK 0))))) (bw (rQ (.bl false))) bU) (bw (az oW 2 (Ag)))))
noncomputable def oA:LD:=cO 3 JL
def kj:bH:=aB (aN (aF dF (ao iU (Zv 0 (Zv 5 (Zv 6 aj)))) (Zi 0)) (ak 7)) (dJ (lC (eY (az jN 7 (bf 3))) (eY (aF Ol (ao Bp (aa (bf 3) aj)) (Zi 601)))) (aB (nJ 3 (aK 7) (rQ (.bl true))) (fM 4 (aK 7))) bU)
def j9:bH:=aB (aN (Bt 4) (ak 5)) (gq (gf (aK 1)) (ak 6) (kj))
def BL:bH:=aB (aN (ao jV (Zv 0 aj)) (ak 2)) (aB (dO 3 (vW (aK 2) (rQ (.bl true)))) (aB (dO 4 (cu (Zv 2 aj))) (aB (cN (eY (az zY 4 (cu aj))) (j9) 7000) (bw (ao yU (aa (bf 3) aj))))))
def vV:LD:=cO 8 BL
noncomputable def Rr:Ev:=fC 10 12 (gf (aK 9)) (cP 2 (aO (ak 10) (aO (ak 11) cQ))) dh (oX (Jy "bool") (aK 10))
noncomputable def pO:bH:=dJ (pU (eY (ao Wa (aa (Rr) aj)))) (bw (rQ (.bl false))) bU
def Sx:bH:=aB (dO 1 (ao ou (Zv 0 (aa (Zi 0) aj)))) (aB (aN (cX lV 1 aj) (ak 2)) (aB (aN (ao km (Zv 2 aj)) (ak 3)) (aB (aN (cX lW 1 (Zv 3 (aa (Zi 4) aj))) (ak 4)) (aB (aN (ao vV (Zv 4 (Zv 3 aj))) (ak 5)) (aB (aN (rQ .non) (ak 6)) (aB (aN (rQ .non) (ak 7)) (aB (sJ (aN (ao iT (Zv 2 (Zv 4 aj))) (ak 6)) (ji fW (Zv 2 (Zv 4 aj))) 7 8 "TooMany") (aB (dJ (eY (aF V9 (ao d7 (aa (bf 5) aj)) (Zi 600))) (bw (ao oA (Zv 7 (aa (Zi 0) aj)))) bU) (aB (dJ (wI (eY (az yW 7 (rQ .non))) (wI (pU (eY (oX (Jy "tuple") (aK 6)))) (eY (az zY 6 (ao cA (aa (bf 5) aj)))))) (bw (rQ (.bl false))) bU) (aB (gq (gf (aK 6)) (ak 9) (pO)) (bw (rQ (.bl true)))))))))))))
def La:LD:=cO 10 Sx
end
open PySem PySem.Spec PyProof.Rows L2 Ev
noncomputable def top(i:Nat):Stmt:=PySem.Challenge.pw_soundrules_k15_all_standings.main.body.getD i (.Pass ⟨0,0,0,0⟩)
noncomputable abbrev ph:Stmt:=top 11
noncomputable abbrev Im:Stmt:=top 13
noncomputable abbrev xY:Stmt:=top 14
noncomputable abbrev uZ:Stmt:=top 15
noncomputable abbrev j5:Stmt:=top 18
noncomputable abbrev jA:Stmt:=top 19
noncomputable abbrev jc:Stmt:=top 20
noncomputable abbrev j6:Stmt:=top 21
noncomputable abbrev nO:Stmt:=top 22
noncomputable abbrev qP:Stmt:=top 23
noncomputable abbrev uY:Stmt:=top 24
noncomputable abbrev qQ:Stmt:=top 25
noncomputable abbrev pg:Stmt:=top 26
noncomputable abbrev pD:Stmt:=top 28
noncomputable abbrev qU:Stmt:=top 29
noncomputable abbrev qR:Stmt:=top 30
noncomputable abbrev pq:Stmt:=top 31
noncomputable abbrev nR:Stmt:=top 32
noncomputable abbrev pA:Stmt:=top 33
noncomputable abbrev mL:Stmt:=top 34
noncomputable abbrev qT:Stmt:=top 35
noncomputable abbrev pC:Stmt:=top 36
noncomputable abbrev qY:Stmt:=top 37
noncomputable abbrev nQ:Stmt:=top 38
noncomputable abbrev jz:Stmt:=top 39
noncomputable abbrev qX:Stmt:=top 40
noncomputable abbrev pB:Stmt:=top 41
noncomputable abbrev pF:Stmt:=top 42
noncomputable abbrev qW:Stmt:=top 43
noncomputable abbrev vd:Stmt:=top 44
noncomputable abbrev Pk:Stmt:=top 45
structure Top(K:Fg)(mg:Str->Option Value):Prop where
 Af:mg "ValueError" = none
 aau:mg "all" = none
 Vo:mg "bool" = none
 Ku:mg "dict" = none
 M6:mg "divmod" = none
 aat:mg "int" = none
 cL:mg "isinstance" = none
 gJ:mg "len" = none
 Ks:mg "list" = none
 pK:mg "range" = none
 m6:mg "sorted" = none
 dq:mg "tuple" = none
 Rc:mg "zip" = none
 pQ:∀d:D,PySem.W.kitOne K (.type (TV d)) (.type "bool")=some (tU d "bool")
 ni:∀d:D,PySem.W.kitOne K (.type (TV d)) (.type "tuple")=some (tU d "tuple")
 Hx:JT K mg "TooMany" (Ti K "TooMany")
 An:Below K mg "SoundError" "TooMany" (Ti K "TooMany")
 Nt:qL K mg "TooMany" "NoCall" false
 Nr:qL K mg "TooMany" "NoKept" false
 Gx:qL K mg "TooMany" "NoNumber" false
 Nq:qL K mg "TooMany" "NoSide" false
 Gw:qL K mg "TooMany" "NoSource" false
 Np:qL K mg "TooMany" "NoText" false
 Aj:qL K mg "TooMany" "SoundError" true
 Ju:qL K mg "TooMany" "TooMany" true
 Ak:abM K "TooMany" "ValueError" true
 tY:Glb K mg "EDGE" (.str [35])
 bD:Glb K mg "MOST_STANDINGS" (.int 600)
 Em:dG K mg "sounds_of" ph ["stock"]
 YB:dG K mg "fits" Im ["signs","sign"]
 O8:dG K mg "turned" xY ["rule"]
 Mf:dG K mg "puts_in" uZ ["rule"]
 wZ:dG K mg "reading_rules" j5 ["order"]
 uP:dG K mg "first_standing" jA ["order"]
 sE:dG K mg "read_putting_in" jc Zq3
 xf:dG K mg "read_changing" j6 Zq3
 Ce:dG K mg "read_signs" nO Zq7
 HJ:dG K mg "watch_on" qP Zq4
 Ma:dG K mg "read_on" uY Zq4
 xP:dG K mg "readings" qQ WM
 wj:dG K mg "standings" pg WM
 Es:dG K mg "_law_mixed" pD ["_law_cell"]
 HR:dG K mg "_law_pack" qU ["_law_script","_law_k"]
 HN:dG K mg "_law_take" qR Zq8
 En:dG K mg "_law_stock" pq ["_law_pack_here"]
 Ci:dG K mg "_law_sounds" nR Zq5
 Eo:dG K mg "_law_signs" pA WL
 z8:dG K mg "_law_changes" mL WL
 HQ:dG K mg "_law_rule" qT WL
 Er:dG K mg "_law_order" pC Zq9
 HX:dG K mg "_law_fits" qY Zq6
 Cg:dG K mg "_law_turned" nQ ["_law_rule_here"]
 uO:dG K mg "_law_rule_reads" jz abE
 HW:dG K mg "_law_laid" qX Yh
 Ep:dG K mg "_law_reads" pB abD
 Et:dG K mg "_law_begun" pF Yh
 HS:dG K mg "_law_only" qW ["_law_e","_law_at"]
 Mg:dG K mg "_law_all" vd abC
section
variable{P:Program}{w:World}{K:Fg}{mg:Str->Option Value}{base:Heap}(Z:Top K mg)
theorem Cy:bA ["stock"] ["stock"] (aM ph):=iD
include Z in
theorem wA:Own P w K mg base "sounds_of" 1 ["stock"] (qj K 1 fX):=by exact cF (k:=0) Z.Em Cy (λf cdv A outer s H E hr G=>(fU.u (aD (bh (dZ G Z.dq (aV (aW (di (oM ["stock","sound","marks"] 1 jE G (gK G (bj 0)) (λX1 h1=>by have G:=G.at h1;obtain⟨_,_,_,_,_,rfl⟩:=h1;exact(fJ G (aJ (aU 1) (aJ (aU 2) bY)))) (λX1 h1=>by have G:=G.at h1;obtain⟨_,_,_,_,_,rfl⟩:=h1;exact gk) (λX1 h1=>by have G:=G.at h1;obtain⟨_,_,_,_,_,rfl⟩:=h1;exact(bj 1)))))))))))
theorem T9:bA ["signs","sign"] ["signs","sign"] (aM Im):=iD
include Z in
theorem vB:Own P w K mg base "fits" 1 ["signs","sign"] (qj K 2 gn):=by exact cF (k:=0) Z.YB T9 (λf cdv A outer s H E hr G=>(fU.u (aD (bh (Jb (nH 0 aeh (aW ql)) (xF (nH 1 (aei G) (cj 0))))))))
theorem Mm:bA ["rule","way","changes","left","right"] ["rule"] (aM xY):=iD
include Z in
theorem Q8:Own P w K mg base "turned" 1 ["rule"] (qj K 1 jU):=by
 exact cF (k:=0) Z.O8 Mm (λf cdv A outer s H E hr G=>(fU.u (aq (eV (bj 0) (fJ G (aJ (aU 1) (aJ (aU 2) (aJ (aU 3) (aJ (aU 4) bY))))))
   (aD (bh (bV (dR 1 (dR 2 (dR 4 (dR 3 au))))))))))
theorem Ik:bA ["rule"] ["rule"] (aM uZ):=iD
include Z in
theorem M3:Own P w K mg base "puts_in" 1 ["rule"] (qj K 1 jD):=by exact cF (k:=0) Z.Mf Ik (λf cdv A outer s H E hr G=>(fU.u (aD (bh (Ys (um G) (mU G (mU G (cT 0 G (aW aQ)) (aW aQ)) (aW aQ)) (aW (bK [])))))))
theorem uW:bA ["order","side","rules"] ["order"] (aM j5):=iD
include Z in
theorem oK:Own P w K mg base "reading_rules" 2 ["order"] (qj K 1 cM):=by
 exact cF (k:=1) Z.wZ uW (λf cdv A outer s H E hr G=>(fU.u (aq (eV (bj 0) (fJ G (aJ (aU 1) (aJ (aU 2) bY))))
   (aq (cU (gQ 1 (um G) (aW (bK [114,105,103,104,116]))) (aD (bh (dZ G Z.dq (aV (aW (di (oM ["order","side","rules","rule"] 3 jE G (gK G (bj 2)) (λX1 h1=>by have G:=G.at h1;obtain⟨_,_,_,_,_,rfl⟩:=h1;exact(aU 3)) (λX1 h1=>by have G:=G.at h1;obtain⟨_,_,_,_,_,rfl⟩:=h1;exact gk) (λX1 h1=>by have G:=G.at h1;obtain⟨_,_,_,_,_,rfl⟩:=h1;exact(cz (Q8 Z) G hr (dR 3 au) (bG len0)))))))))) bW)
   (aD (bh (bj 2)))))))
theorem sY:bA ["order"] ["order"] (aM jA):=iD
include Z in
theorem m5:Own P w K mg base "first_standing" 3 ["order"] (qj K 1 eN):=by obtain⟨afd,afh,tY⟩:=Z.tY;exact cF (k:=2) Z.uP sY (λf cdv A outer s H E hr G=>(fU.u (aD (bh (dZ G Z.dq (aV (aW (di (oM ["order","way","changes","left","right"] 1 jE G (gK G (cz (oK Z) G hr (dR 0 au) (bG len0))) (λX1 h1=>by have G:=G.at h1;obtain⟨_,_,_,_,_,rfl⟩:=h1;exact(fJ G (aJ (aU 1) (aJ (aU 2) (aJ (aU 3) (aJ (aU 4) bY)))))) (λX1 h1=>by have G:=G.at h1;obtain⟨_,_,_,_,_,rfl⟩:=h1;exact gk) (λX1 h1=>by have G:=G.at h1;obtain⟨_,_,_,_,_,rfl⟩:=h1;exact(bV (aA (cz (vB Z) G hr (dR 3 (aA (tH (.str [35]) rfl tY.1 tY.2.1 (λF=>tY.2.2 F)) au)) (bG (bG len0))) (aA (bK []) au)))))))))))))
theorem qO:bA aeo Zq3 (aM jc):=iD
include Z in
theorem tM:Own P w K mg base "read_putting_in" 2 Zq3 (qj K 3 cV):=by
 exact cF (k:=1) Z.sE qO (λf cdv A outer s H E hr G=>(fU.u (aq (eV (bj 0) (fJ G (aJ (aU 3) (aJ (aU 4) (aJ (aU 5) (aJ (aU 6) bY))))))
   (aq (eV (bj 1) (fJ G (aJ (aU 7) (aJ (aU 8) bY))))
   (aq (bM 9 (bj 8))
   (aq (cU (uA (yh (ir (bj 7)) (vm (ir (cz (vB Z) G hr (dR 6 (dR 2 au)) (bG (bG len0))))))) (aD (bM 9 (iZ 8 (lD G) (aW (mU G (cT 4 G (aW aQ)) (aW aQ)))))) bW)
   (aD (bh (bV (aA (bV (aA (cz (vB Z) G hr (dR 5 (dR 2 au)) (bG (bG len0))) (dR 2 au))) (dR 9 au)))))))))))
theorem uX:bA aeo Zq3 (aM j6):=iD
include Z in
theorem xm:Own P w K mg base "read_changing" 2 Zq3 (qj K 3 cY):=by
 exact cF (k:=1) Z.xf uX (λf cdv A outer s H E hr G=>(fU.u (aq (eV (bj 0) (fJ G (aJ (aU 3) (aJ (aU 4) (aJ (aU 5) (aJ (aU 6) bY))))))
   (aq (eV (bj 1) (fJ G (aJ (aU 7) (aJ (aU 8) bY))))
   (aq (cU (gQ 8 (um G) (aW (bK []))) (aD (bh (bV (aA (bV (dR 7 (dR 2 au))) (aA (bK []) au))))) bW)
   (aq (bM 9 (bj 8))
   (aq (cU (uA (yh (ir (bj 7)) (vm (ir (cz (vB Z) G hr (dR 6 (dR 2 au)) (bG (bG len0))))))) (aD (bM 9 (J0 G (J3 G Z.Ku (aV (cj 4))) (bj 8) (bj 8)))) bW)
   (aq (cU (gQ 3 (um G) (aW (bK [111,110,99,101]))) (aD (bh (bV (aA (bV (aA (cz (vB Z) G hr (dR 5 (dR 8 au)) (bG (bG len0))) (dR 2 au))) (dR 9 au))))) bW)
   (aq (cU (gQ 9 (um G) (aW (bK []))) (aD (bh (bV (aA (bV (dR 7 (dR 2 au))) (dR 9 au))))) bW)
   (aD (bh (bV (aA (bV (aA (cz (vB Z) G hr (dR 5 (dR 9 au)) (bG (bG len0))) (dR 2 au))) (dR 9 au))))))))))))))
theorem Aa:bA ["rule","standing","signs","puts","acting","sign","held","put"] Zq7 (aM nO):=iD
include Z in
theorem Dg:Own P w K mg base "read_signs" 3 Zq7 (qj K 3 gU):=by
 exact cF (k:=2) Z.Ce Aa (λf cdv A outer s H E hr G=>(fU.u (aq (gH 3 (cH au))
   (aq (bM 4 qZ)
   (aq (kZ G (gK G (bj 2)) (aU 5) (aq (bM 6 (cT 1 G (aW aQ)))
   (aq (cU (ir (cz (M3 Z) G hr (dR 0 au) (bG len0))) (aD (eV (cz (tM Z) G hr (dR 0 (dR 1 (dR 5 au))) (bG (bG (bG len0)))) (fJ G (aJ (aU 1) (aJ (aU 7) bY))))) (aD (eV (cz (xm Z) G hr (dR 0 (dR 1 (dR 5 au))) (bG (bG (bG len0)))) (fJ G (aJ (aU 1) (aJ (aU 7) bY))))))
   (aq (bM 4 (Jb (bj 4) (xF (nH 7 (Ob G) (cj 6)))))
   (aD (j7 3 G (bj 7)))))))
   (aD (bh (bV (dR 1 (aA (JZ G (bK []) (cj 3)) (dR 4 au)))))))))))
theorem Ey:bA ["order","standing","sound","put","behind","acting","rule","own","new","acts_here"] Zq4 (aM qP):=iD
include Z in
theorem Jg:Own P w K mg base "watch_on" 4 Zq4 (qj K 3 lB):=by
 exact cF (k:=3) Z.HJ Ey (λf cdv A outer s H E hr G=>(fU.u (aq (bM 3 (bj 2))
   (aq (gH 4 (cH au))
   (aq (gH 5 (cH au))
   (aq (kZ G (aaW G Z.Rc (aA (cz (oK Z) G hr (dR 0 au) (bG len0)) (dR 1 au))) (fJ G (aJ (aU 6) (aJ (aU 7) bY))) (aq (eV (cz (Dg Z) G hr (dR 6 (dR 7 (dR 3 au))) (bG (bG (bG len0)))) (fJ G (aJ (aU 8) (aJ (aU 3) (aJ (aU 9) bY)))))
   (aq (j7 4 G (bj 8))
   (aD (j7 5 G (bj 9))))))
   (aD (bh (bV (aA (dZ G Z.dq (aV (cj 4))) (dR 3 (aA (dZ G Z.dq (aV (cj 5))) au))))))))))))
theorem Ij:bA ["order","standing","sound","behind","put","acting"] Zq4 (aM uY):=iD
include Z in
theorem Bj:Own P w K mg base "read_on" 5 Zq4 (qj K 3 jC):=by
 exact cF (k:=4) Z.Ma Ij (λf cdv A outer s H E hr G=>(fU.u (aq (eV (cz (Jg Z) G hr (dR 0 (dR 1 (dR 2 au))) (bG (bG (bG len0)))) (fJ G (aJ (aU 3) (aJ (aU 4) (aJ (aU 5) bY)))))
   (aD (bh (bV (dR 3 (dR 4 au))))))))
theorem wk:bA ["stock","order","found","places","rows","steps","sound","behind","put"] WM (aM qQ):=iD
include Z in
theorem FQ:Oe P w K mg base "readings" 6 WM (Xi K 2 eQ (Ti K "TooMany")):=by
 obtain⟨uM,uN,bD⟩:=Z.bD;exact Bh (k:=5) Z.xP wk (Ti K "TooMany") (λf cdv A outer s H E hr hE G=>(lq (yj (zV.u (gH 2 (cH (aA (cz (m5 Z) G hr (dR 1 au) (bG len0)) au)))))
   (lq (yj (zV.u (gH 3 (vp G (cT 2 G (aW aQ)) aQ))))
   (lq (yj (zV.u (gH 4 (cH au))))
   (lq (QH 7000 PySem.PassesOwn.leaving (JR.u (jx abw (gZ G Z.gJ (aV (cj 4))) (aW (gZ G Z.gJ (aV (cj 2)))))) (lq (yj (zV.u (gH 5 (cH au))))
   (lq (yj (zV.u (kZ G (gK G (cz (wA Z) G hr (dR 0 au) (bG len0))) (aU 6) (aq (eV (cz (Bj Z) G hr (dR 1 (aA (cT 2 G (aW (gZ G Z.gJ (aV (cj 4))))) (dR 6 au))) (bG (bG (bG len0)))) (fJ G (aJ (aU 7) (aJ (aU 8) bY))))
   (aq (cU (gQ 7 (zF G) (cj 3)) (aq (xZ 3 G (bj 7) (gZ G Z.gJ (aV (cj 2))))
   (aD (j7 2 G (bj 7)))) bW)
   (aD (j7 5 G (bV (dR 8 (aA (Ei 3 G (cj 7)) au))))))))))
   (lq (adg (JR.u (jx abx (gZ G Z.gJ (aV (cj 2))) (aW (tH (.int 600) rfl bD.1 bD.2.1 (λF=>bD.2.2 F))))) (xG (QJ Z.Hx rfl rfl (Hs.u (aA (TF 600 [116,104,101,32,111,114,100,101,114,32,104,97,115,32,109,111,114,101,32,116,104,97,110,32,54,48,48,32,115,116,97,110,100,105,110,103,115] (by decide +kernel) (by decide +kernel) (by decide) (by decide +kernel) (by decide +kernel) (tH (.int 600) rfl bD.1 bD.2.1 (λF=>bD.2.2 F))) au)) (Tu hE) (λenv ds env' h=>by rw[(bG len0) env ds env' h];decide))) (Zr (fU.u bW)))
   (xG (yj (zV.u (j7 4 G (dZ G Z.dq (aV (cj 5)))))))))))
   (xG (yj (zV.u (bh (bV (dR 2 (dR 4 au))))))))))))
include Z in
theorem Jh:Own P w K mg base "readings" 6 WM (qj K 2 oh):=by
 obtain⟨uM,uN,bD⟩:=Z.bD;exact cF (k:=5) Z.xP wk (λf cdv A outer s H E hr G=>(fU.u (aq (gH 2 (cH (aA (cz (m5 Z) G hr (dR 1 au) (bG len0)) au)))
   (aq (gH 3 (vp G (cT 2 G (aW aQ)) aQ))
   (aq (gH 4 (cH au))
   (aq (Fi 7000 G (jx abw (gZ G Z.gJ (aV (cj 4))) (aW (gZ G Z.gJ (aV (cj 2))))) (aq (gH 5 (cH au))
   (aq (kZ G (gK G (cz (wA Z) G hr (dR 0 au) (bG len0))) (aU 6) (aq (eV (cz (Bj Z) G hr (dR 1 (aA (cT 2 G (aW (gZ G Z.gJ (aV (cj 4))))) (dR 6 au))) (bG (bG (bG len0)))) (fJ G (aJ (aU 7) (aJ (aU 8) bY))))
   (aq (cU (gQ 7 (zF G) (cj 3)) (aq (xZ 3 G (bj 7) (gZ G Z.gJ (aV (cj 2))))
   (aD (j7 2 G (bj 7)))) bW)
   (aD (j7 5 G (bV (dR 8 (aA (Ei 3 G (cj 7)) au))))))))
   (aq (cU (jx abx (gZ G Z.gJ (aV (cj 2))) (aW (tH (.int 600) rfl bD.1 bD.2.1 (λF=>bD.2.2 F)))) (aD IV) bW)
   (aD (j7 4 G (dZ G Z.dq (aV (cj 5)))))))))
   (aD (bh (bV (dR 2 (dR 4 au)))))))))))
theorem sW:bA WM WM (aM pg):=iD
include Z in
theorem De:Oe P w K mg base "standings" 7 WM (Xi K 2 fW (Ti K "TooMany")):=by exact Bh (k:=6) Z.wj sW (Ti K "TooMany") (λf cdv A outer s H E hr hE G=>(xG (Zu Wu (IK (T:="tuple") (Mp (Y4 (Qo (FQ Z) (hr.mono (by decide)) rfl (Hs.u (dR 0 (dR 1 au))) (bG (bG len0)) (ab8 hE))) rfl Z.m6 PyProof.Rows.boot_sorted) rfl Z.dq (by decide +kernel)))))
include Z in
theorem FW:Own P w K mg base "standings" 7 WM (qj K 2 iT):=by exact cF (k:=6) Z.wj sW (λf cdv A outer s H E hr G=>(fU.u (aD (bh (dZ G Z.dq (aV (aW (Ov G Z.m6 (aV (aW (mU G (cz (Jh Z) G hr (dR 0 (dR 1 au)) (bG (bG len0))) (aW aQ))))))))))))
theorem CN:bA ["_law_cell"] ["_law_cell"] (aM pD):=iD
include Z in
theorem Gd:Own P w K mg base "_law_mixed" 1 ["_law_cell"] (qj K 1 gM):=by exact cF (k:=0) Z.Es CN (λf cdv A outer s H E hr G=>(fU.u (aD (bh (gD aem (iZ 0 Sw (aW aQ)) (aW (gD Yd aQ (aW aQ))))))))
theorem Fb:bA ["_law_script","_law_k","_law_found","_law_at"] ["_law_script","_law_k"] (aM qU):=iD
include Z in
theorem Jj:Own P w K mg base "_law_pack" 2 ["_law_script","_law_k"] (YM K 2 ou):=by
 exact Vc (k:=1) Z.HR Fb (λf cdv A outer s H E hr G=>(fU.u (aq (bM 2 aQ)
   (aq (kZ G (gK G (di (cH (aA (iZ 1 (lD G) (aW aQ)) (dR 1 au))))) (aU 3) (aD (bM 2 (gD (lD G) (iZ 2 Sw (aW (gD Yd aQ (aW aQ)))) (aW (cz (Gd Z) G hr (aA (mU G (gD (lD G) (W8 G (bj 0) (vo (bj 3)) (vo (iZ 3 (lD G) (aW aQ)))) (aW (di (cH (aA (gD (lD G) (gD Sw aQ (cj 3)) (aW aQ)) au))))) (aW aQ)) au) (bG len0)))))))
   (aD (Fv (cH (dR 2 au))))))))
theorem Ez:bA ["_law_pack_here","_law_size","_law_digit"] Zq8 (aM qR):=iD
include Z in
theorem dY:Own P w K mg base "_law_take" 1 Zq8 (xg K 2 aR):=by
 exact vz (k:=0) Z.HN Ez (λf cdv A outer s H E a hr G=>(fU.u (aq (eV (Lz G Z.M6 (Ja (cT 0 G (aW aQ)) (aV (cj 1)))) (fJ G (aJ (ad8 0 aQ) (aJ (aU 2) bY))))
   (aD (bh (bj 2))))))
theorem Cz:bA ["_law_pack_here","_law_sounds_here","_law_known","_law_found","_law_sound","_law_number","_law_marks"] ["_law_pack_here"] (aM pq):=iD
include Z in
theorem FZ:Own P w K mg base "_law_stock" 2 ["_law_pack_here"] (xg K 1 lV):=by
 exact vz (k:=1) Z.En Cz (λf cdv A outer s H E a hr G=>(fU.u (aq (bM 1 (mU G (di (Vp (kJ (bK [97]) (kJ (bK [97,98]) (kJ (bK [97,98]) (kJ (bK [97,98,99]) (kJ (bK [97,101,112,116]) (kJ (bK [109,110,122]) Qu)))))))) (aW (jr 0 (dY Z) G hr (aA aQ au) (jw (bG len0))))))
   (aq (bM 2 (di (cH (aA (bK [115,116,111,112]) (aA (bK [115,116,111,112,115]) (aA (bK [115]) (aA (bK [111,112,101,110]) (aA (bK [97,98,99,100,101,102,103,104]) au))))))))
   (aq (gH 3 (cH au))
   (aq (kZ G (gK G (bj 1)) (aU 4) (aq (bM 5 (jr 0 (dY Z) G hr (aA aQ au) (jw (bG len0))))
   (aq (bM 6 (Av G Z.m6 (aV (aW (di (oM ["_law_pack_here","_law_sounds_here","_law_known","_law_found","_law_sound","_law_number","_law_marks","_law_k"] 7 jE G (tV Z.pK (aA aQ au) (bG len0)) (λX1 h1=>by have G:=G.at h1;obtain⟨_,_,_,_,_,rfl⟩:=h1;exact(aU 7)) (λX1 h1=>by have G:=G.at h1;obtain⟨_,_,_,_,_,rfl⟩:=h1;exact(vq (jx (um G) (gD Ye (iZ 5 Yc (cj 7)) (aW aQ)) (aW aQ)))) (λX1 h1=>by have G:=G.at h1;obtain⟨_,_,_,_,_,rfl⟩:=h1;exact(cT 2 G (cj 7)))))))))
   (aD (j7 3 G (bV (dR 4 (aA (dZ G Z.dq (aV (aW (W8 G (bj 6) Ms (vo aQ))))) au))))))))
   (aD (bh (dZ G Z.dq (aV (cj 3)))))))))))
theorem Ac:bA Zq5 Zq5 (aM nR):=iD
include Z in
theorem Di:Own P w K mg base "_law_sounds" 1 Zq5 (qj K 1 km):=by exact cF (k:=0) Z.Ci Ac (λf cdv A outer s H E hr G=>(fU.u (aD (bh (JZ G (bK []) (aW (di (oM ["_law_stock_here","_law_sound","_law_marks"] 1 jE G (gK G (bj 0)) (λX1 h1=>by have G:=G.at h1;obtain⟨_,_,_,_,_,rfl⟩:=h1;exact(fJ G (aJ (aU 1) (aJ (aU 2) bY)))) (λX1 h1=>by have G:=G.at h1;obtain⟨_,_,_,_,_,rfl⟩:=h1;exact gk) (λX1 h1=>by have G:=G.at h1;obtain⟨_,_,_,_,_,rfl⟩:=h1;exact(bj 1))))))))))
theorem CG:bA ["_law_pack_here","_law_sounds_here","_law_number","_law_signs_here"] WL (aM pA):=iD
include Z in
theorem wB:Own P w K mg base "_law_signs" 2 WL (xg K 2 dU):=by
 exact vz (k:=1) Z.Eo CG (λf cdv A outer s H E a hr G=>(fU.u (aq (cU (jx (um G) (jr 0 (dY Z) G hr (aA aQ au) (jw (bG len0))) (aW aQ)) (aD (bh ql)) bW)
   (aq (bM 2 (gD (lD G) aQ (aW (jr 0 (dY Z) G hr (aA (gD aek (gD ael aQ (aW (gZ G Z.gJ (aV (cj 1))))) (aW aQ)) au) (jw (bG len0))))))
   (aq (bM 3 (gD (lD G) (bK [35]) (cj 1)))
   (aD (bh (dZ G Z.dq (aV (aW (di (oM ["_law_pack_here","_law_sounds_here","_law_number","_law_signs_here","_law_k"] 4 jE G (tV Z.pK (aA (gZ G Z.gJ (aV (cj 3))) au) (bG len0)) (λX1 h1=>by have G:=G.at h1;obtain⟨_,_,_,_,_,rfl⟩:=h1;exact(aU 4)) (λX1 h1=>by have G:=G.at h1;obtain⟨_,_,_,_,_,rfl⟩:=h1;exact(vq (jx (um G) (gD Ye (iZ 2 Yc (cj 4)) (aW aQ)) (aW aQ)))) (λX1 h1=>by have G:=G.at h1;obtain⟨_,_,_,_,_,rfl⟩:=h1;exact(cT 3 G (cj 4)))))))))))))))
theorem xX:bA ["_law_pack_here","_law_sounds_here","_law_found","_law_turn","_law_one","_law_others"] WL (aM mL):=iD
include Z in
theorem Ae:Own P w K mg base "_law_changes" 2 WL (xg K 2 eE):=by
 exact vz (k:=1) Z.z8 xX (λf cdv A outer s H E a hr G=>(fU.u (aq (cU (jx (um G) (jr 0 (dY Z) G hr (aA aQ au) (jw (bG len0))) (aW aQ)) (aD (bh (bV (aA (bV (aA (bK []) (aA (cT 1 G (aW (jr 0 (dY Z) G hr (aA (gZ G Z.gJ (aV (cj 1))) au) (jw (bG len0))))) au))) au)))) bW)
   (aq (gH 2 Mt)
   (aq (kZ G (tV Z.pK (aA (gD (lD G) aQ (aW (jr 0 (dY Z) G hr (aA aQ au) (jw (bG len0))))) au) (bG len0)) (aU 3) (aq (bM 4 (cT 1 G (aW (jr 0 (dY Z) G hr (aA (gZ G Z.gJ (aV (cj 1))) au) (jw (bG len0))))))
   (aq (acI ["_law_pack_here","_law_sounds_here","_law_found","_law_turn","_law_one","_law_others","_law_sound"] 6 5 jE G (gK G (gD (lD G) (JX G Z.Ks (aV (cj 1))) (aW (di (cH (aA (bK []) au)))))) (λX1 h1=>by have G:=G.at h1;obtain⟨_,_,_,_,_,rfl⟩:=h1;exact(aU 6)) (λX1 h1=>by have G:=G.at h1;obtain⟨_,_,_,_,_,rfl⟩:=h1;exact(vq (gQ 6 (Ob G) (cj 4)))) (λX1 h1=>by have G:=G.at h1;obtain⟨_,_,_,_,_,rfl⟩:=h1;exact(bj 6)))
   (aD (Ub 2 G (bj 4) (cT 5 G (aW (jr 0 (dY Z) G hr (aA (gZ G Z.gJ (aV (cj 5))) au) (jw (bG len0))))))))))
   (aD (bh (dZ G Z.dq (aV (aW (di (oM ["_law_pack_here","_law_sounds_here","_law_found","_law_turn","%4","_law_others","_law_one"] 6 jE G (gK G (Av G Z.m6 (aV (cj 2)))) (λX1 h1=>by have G:=G.at h1;obtain⟨_,_,_,_,_,rfl⟩:=h1;exact(aU 6)) (λX1 h1=>by have G:=G.at h1;obtain⟨_,_,_,_,_,rfl⟩:=h1;exact gk) (λX1 h1=>by have G:=G.at h1;obtain⟨_,_,_,_,_,rfl⟩:=h1;exact(bV (dR 6 (aA (Ox 2 G (cj 6)) au))))))))))))))))
theorem EY:bA ["_law_pack_here","_law_sounds_here","_law_how","_law_changes_here"] WL (aM qT):=iD
include Z in
theorem Ji:Own P w K mg base "_law_rule" 3 WL (xg K 2 iI):=by
 exact vz (k:=2) Z.HQ EY (λf cdv A outer s H E a hr G=>(fU.u (aq (bM 2 (mU G (di (cH (aA (bK [111,110,99,101]) (aA (bK [97,108,111,110,103]) au)))) (aW (jr 0 (dY Z) G hr (aA aQ au) (jw (bG len0))))))
   (aq (bM 3 (jr 0 (Ae Z) G hr (dR 1 au) (jw (bG len0))))
   (aD (bh (bV (dR 2 (dR 3 (aA (jr 0 (wB Z) G hr (dR 1 au) (jw (bG len0))) (aA (jr 0 (wB Z) G hr (dR 1 au) (jw (bG len0))) au)))))))))))
theorem CK:bA ["_law_pack_here","_law_sounds_here","_law_most","_law_side"] Zq9 (aM pC):=iD
include Z in
theorem Gb:Own P w K mg base "_law_order" 4 Zq9 (xg K 3 lW):=by
 exact vz (k:=3) Z.Er CK (λf cdv A outer s H E a hr G=>(fU.u (aq (bM 3 (mU G (di (cH (aA (bK [108,101,102,116]) (aA (bK [114,105,103,104,116]) au)))) (aW (jr 0 (dY Z) G hr (aA aQ au) (jw (bG len0))))))
   (aD (bh (bV (dR 3 (aA (dZ G Z.dq (aV (aW (di (oM ["_law_pack_here","_law_sounds_here","_law_most","_law_side","_law_turn"] 4 jE G (tV Z.pK (aA (jr 0 (dY Z) G hr (aA (iZ 2 (lD G) (aW aQ)) au) (jw (bG len0))) au) (bG len0)) (λX1 h1=>by have G:=G.at h1;obtain⟨_,_,_,_,_,rfl⟩:=h1;exact(aU 4)) (λX1 h1=>by have G:=G.at h1;obtain⟨_,_,_,_,_,rfl⟩:=h1;exact gk) (λX1 h1=>by have G:=G.at h1;obtain⟨_,_,_,_,_,rfl⟩:=h1;exact(jr 0 (Ji Z) G hr (dR 1 au) (jw (bG len0))))))))) au))))))))
theorem Ff:bA Zq6 Zq6 (aM qY):=iD
include Z in
theorem lz:Own P w K mg base "_law_fits" 1 Zq6 (qj K 2 cB):=by exact cF (k:=0) Z.HX Ff (λf cdv A outer s H E hr G=>(fU.u (aD (bh (Jb (nH 0 aeh (aW ql)) (xF (nH 1 (aei G) (cj 0))))))))
theorem Ab:bA ["_law_rule_here"] ["_law_rule_here"] (aM nQ):=iD
include Z in
theorem Dh:Own P w K mg base "_law_turned" 1 ["_law_rule_here"] (qj K 1 gV):=by exact cF (k:=0) Z.Cg Ab (λf cdv A outer s H E hr G=>(fU.u (aD (bh (bV (aA (cT 0 G (aW aQ)) (aA (cT 0 G (aW aQ)) (aA (cT 0 G (aW aQ)) (aA (cT 0 G (aW aQ)) au)))))))))
theorem sX:bA ["_law_rule_here","_law_standing","_law_signs_here","_law_near","_law_held","_law_put","_law_sign","_law_fit","_law_c"] abE (aM jz):=iD
include Z in
theorem vA:Own P w K mg base "_law_rule_reads" 2 abE (qj K 3 eG):=by
 exact cF (k:=1) Z.uO sX (λf cdv A outer s H E hr G=>(fU.u (aq (eV (bj 1) (fJ G (aJ (aU 3) (aJ (aU 4) bY))))
   (aq (bM 5 (bK []))
   (aq (kZ G (gK G (bj 2)) (aU 6) (aq (bM 7 (Uz (bj 3) (xF (cz (lz Z) G hr (aA (cT 0 G (aW aQ)) (dR 6 au)) (bG (bG len0))))))
   (aq (cU (jx (um G) (mU G (mU G (cT 0 G (aW aQ)) (aW aQ)) (aW aQ)) (aW (bK []))) (aq (bM 5 (gD (lD G) (iZ 5 (lD G) (cj 4)) (aW (gD Wy (mU G (mU G (cT 0 G (aW aQ)) (aW aQ)) (aW aQ)) (aW (Tz G Z.aat (aV (cj 7))))))))
   (aD (bM 3 (cz (lz Z) G hr (aA (cT 0 G (aW aQ)) (dR 6 au)) (bG (bG len0)))))) (aD (cU (gQ 4 (Ob G) (aW (bK []))) (aq (bM 8 (bj 4))
   (aq (cU (ir (bj 7)) (aD (bM 8 (J0 G (J3 G Z.Ku (aV (aW (cT 0 G (aW aQ))))) (bj 4) (bj 4)))) bW)
   (aq (bM 5 (iZ 5 (lD G) (cj 8)))
   (aD (cU (jx (um G) (cT 0 G (aW aQ)) (aW (bK [111,110,99,101]))) (aD (bM 3 (cz (lz Z) G hr (aA (cT 0 G (aW aQ)) (dR 4 au)) (bG (bG len0))))) (aD (cU (gQ 8 (Ob G) (aW (bK []))) (aD (bM 3 (cz (lz Z) G hr (aA (cT 0 G (aW aQ)) (dR 8 au)) (bG (bG len0))))) bW))))))) bW)))
   (aD (bM 4 (bj 6))))))
   (aD (bh (bV (aA (bV (dR 3 (dR 4 au))) (dR 5 au))))))))))
theorem Fe:bA Yh Yh (aM qX):=iD
include Z in
theorem yr:Own P w K mg base "_law_laid" 2 Yh (qj K 1 iJ):=by
 exact cF (k:=1) Z.HW Fe (λf cdv A outer s H E hr G=>(fU.u (aq (cU (jx (um G) (cT 0 G (aW aQ)) (aW (bK [108,101,102,116]))) (aD (bh (JX G Z.Ks (aV (aW (cT 0 G (aW aQ))))))) bW)
   (aD (bh (di (oM ["_law_order_here","_law_rule_here"] 1 jE G (gK G (cT 0 G (aW aQ))) (λX1 h1=>by have G:=G.at h1;obtain⟨_,_,_,_,_,rfl⟩:=h1;exact(aU 1)) (λX1 h1=>by have G:=G.at h1;obtain⟨_,_,_,_,_,rfl⟩:=h1;exact gk) (λX1 h1=>by have G:=G.at h1;obtain⟨_,_,_,_,_,rfl⟩:=h1;exact(cz (Dh Z) G hr (dR 1 au) (bG len0))))))))))
theorem CJ:bA ["_law_order_here","_law_standing","_law_sound","_law_put","_law_found","_law_rule_here","_law_here","_law_there"] abD (aM pB):=iD
include Z in
theorem Ga:Own P w K mg base "_law_reads" 3 abD (qj K 3 iU):=by
 exact cF (k:=2) Z.Ep CJ (λf cdv A outer s H E hr G=>(fU.u (aq (bM 3 (bj 2))
   (aq (gH 4 (cH au))
   (aq (kZ G (VP G Z.Rc (aA (cz (yr Z) G hr (dR 0 au) (bG len0)) (dR 1 au))) (fJ G (aJ (aU 5) (aJ (aU 6) bY))) (aq (eV (cz (vA Z) G hr (dR 5 (dR 6 (dR 3 au))) (bG (bG (bG len0)))) (fJ G (aJ (aU 7) (aJ (aU 3) bY))))
   (aD (j7 4 G (bj 7)))))
   (aD (bh (bV (aA (dZ G Z.dq (aV (cj 4))) (dR 3 au))))))))))
theorem CP:bA Yh Yh (aM pF):=iD
include Z in
theorem Ge:Own P w K mg base "_law_begun" 3 Yh (qj K 1 jV):=by exact cF (k:=2) Z.Et CP (λf cdv A outer s H E hr G=>(fU.u (aD (bh (dZ G Z.dq (aV (aW (di (oM ["_law_order_here","_law_rule_here"] 1 jE G (gK G (cz (yr Z) G hr (dR 0 au) (bG len0))) (λX1 h1=>by have G:=G.at h1;obtain⟨_,_,_,_,_,rfl⟩:=h1;exact(aU 1)) (λX1 h1=>by have G:=G.at h1;obtain⟨_,_,_,_,_,rfl⟩:=h1;exact gk) (λX1 h1=>by have G:=G.at h1;obtain⟨_,_,_,_,_,rfl⟩:=h1;exact(bV (aA (cz (lz Z) G hr (aA (cT 1 G (aW aQ)) (aA (bK [35]) au)) (bG (bG len0))) (aA (bK []) au)))))))))))))
theorem Fd:bA ["_law_e","_law_at","_law_found"] ["_law_e","_law_at"] (aM qW):=iD
include Z in
theorem Jk:Own P w K mg base "_law_only" 1 ["_law_e","_law_at"] (qj K 2 oA):=by
 exact cF (k:=0) Z.HS Fd (λf cdv A outer s H E hr G=>(fU.u (aq (bM 2 (di (cH (aA (o5 G Z.cL Z.Ju (bj 0)) (aA (o5 G Z.cL Z.Nq (bj 0)) (aA (o5 G Z.cL Z.Gx (bj 0)) (aA (o5 G Z.cL Z.Gw (bj 0)) au)))))))
   (aq (bM 2 (iZ 2 (lD G) (aW (di (cH (aA (o5 G Z.cL Z.Np (bj 0)) (aA (o5 G Z.cL Z.Nt (bj 0)) (aA (o5 G Z.cL Z.Nr (bj 0)) au))))))))
   (aq (cU (uA (CV (tD (ir (o5 G Z.cL Z.Aj (bj 0)))) (Ft (tD (ir (Tw (by decide +kernel) G Z.cL Z.Af Z.Ak (bj 0))))))) (aD (bh qZ)) bW)
   (aD (bh (nH 2 (um G) (aW (di (oM ["_law_e","_law_at","_law_found","_law_k"] 3 jE G (tV Z.pK (aA aQ au) (bG len0)) (λX1 h1=>by have G:=G.at h1;obtain⟨_,_,_,_,_,rfl⟩:=h1;exact(aU 3)) (λX1 h1=>by have G:=G.at h1;obtain⟨_,_,_,_,_,rfl⟩:=h1;exact gk) (λX1 h1=>by have G:=G.at h1;obtain⟨_,_,_,_,_,rfl⟩:=h1;exact(nH 3 (um G) (cj 1))))))))))))))
theorem Il:bA ["_law_order_here","_law_sounds_here","_law_first","_law_known","_law_todo","_law_here","_law_sound","_law_there"] abC (aM vd):=iD
include Z in
theorem M4:Own P w K mg base "_law_all" 4 abC (qj K 2 vV):=by
 exact cF (k:=3) Z.Mg Il (λf cdv A outer s H E hr G=>(fU.u (aq (bM 2 (cz (Ge Z) G hr (dR 0 au) (bG len0)))
   (aq (gH 3 (vp G (bj 2) qZ))
   (aq (gH 4 (cH (dR 2 au)))
   (aq (Fi 7000 G (gQ 4 (Ob G) (aW (di (cH au)))) (aq (bM 5 (Yr 4))
   (aD (kZ G (gK G (bj 1)) (aU 6) (aq (bM 7 (mU G (cz (Ga Z) G hr (dR 0 (dR 5 (dR 6 au))) (bG (bG (bG len0)))) (aW aQ)))
   (aD (cU (uA (yh (gQ 7 (zF G) (cj 3)) (vm (jx abw (Tv G Z.gJ (aV (cj 3))) (aW aQ))))) (aq (xZ 3 G (bj 7) qZ)
   (aD (j7 4 G (bj 7)))) bW)))))))
   (aD (bh (Ow G Z.m6 (aV (cj 3)))))))))))
theorem YS:bA aen ["_law_script"] (aM Pk):=iD
include Z in
theorem abe{f:Addr}{fd:FuncData}(F:Te K "law" "law" Pk f fd):mR P w K mg base Ec 8 f fd ["_law_script"] (qj K 1 La):=by
 exact G7 (k:=7) F YS (λcdv A outer s H E hr=>by
  have G:=tW (P:=P) (w:=w) (K:=K) (mg:=mg) (base:=base) (N:=aen) (outer:=outer) (H:=H) (E:=E) (C:=C0 K) rfl hr;exact(fU.u (aq (gH 1 (aav (Jj Z) G hr (dR 0 (aA aQ au)) (bG (bG len0))))
   (aq (bM 2 (jr 1 (FZ Z) G hr au (jw len0)))
   (aq (bM 3 (cz (Di Z) G hr (dR 2 au) (bG len0)))
   (aq (bM 4 (jr 1 (Gb Z) G hr (dR 3 (aA aQ au)) (jw (bG (bG len0)))))
   (aq (bM 5 (cz (M4 Z) G hr (dR 4 (dR 3 au)) (bG (bG len0))))
   (aq (bM 6 ql)
   (aq (bM 7 ql)
   (aq (Ua 7 8 ⟨rfl,rfl,rfl⟩ G Z.An (λG=>(aD (bM 6 (cz (FW Z) G hr (dR 2 (dR 4 au)) (bG (bG len0)))))) (Uj (De Z) (hr.mono (by decide)) rfl (Hs.u (dR 2 (dR 4 au))) (bG (bG len0))))
   (aq (cU (jx abx (gZ G Z.gJ (aV (cj 5))) (aW aQ)) (aD (bh (cz (Jk Z) G hr (dR 7 (aA aQ au)) (bG (bG len0))))) bW)
   (aq (cU (uA (CV (gQ 7 Wv (aW ql)) (CV (tD (ir (Kf (T:="tuple") rfl Z.cL rfl Z.dq (by decide +kernel) Z.ni G.K (bj 6)))) (Ft (gQ 6 (Ob G) (aW (dZ G Z.dq (aV (cj 5))))))))) (aD (bh qZ)) bW)
   (aq (kZ G (gK G (bj 6)) (aU 9) (aD (cU (tD (ir (Yt G Z.aau (aV (aW (di (oM ["_law_script","_law_pack_here","_law_stock_here","_law_sounds_here","_law_order_here","_law_due","_law_found","_law_caught","_law_e","_law_standing","_law_near","_law_held"] 10 jE G (gK G (bj 9)) (λX1 h1=>by have G:=G.at h1;obtain⟨_,_,_,_,_,rfl⟩:=h1;exact(fJ G (aJ (aU 10) (aJ (aU 11) bY)))) (λX1 h1=>by have G:=G.at h1;obtain⟨_,_,_,_,_,rfl⟩:=h1;exact gk) (λX1 h1=>by have G:=G.at h1;obtain⟨_,_,_,_,_,rfl⟩:=h1;exact(Kf (T:="bool") rfl Z.cL rfl Z.Vo (by decide +kernel) Z.pQ G.K (bj 10)))))))))) (aD (bh qZ)) bW)))
   (aD (bh qZ)))))))))))))))
end
end lH
namespace KB
section
variable{P:Type}(L:P->Nat->P)(S:P->Bool)(x:List Nat)(p0:P)
noncomputable def pl(w:List Nat):P:=w.foldl L p0
variable{L S x p0}
theorem V6{α:Type}{l:List α}{a b:α}{i:Nat}(h:l[i]? = some b):(l++[a])[i]? = some b:=by rw[Qxw (Qq6.mp h).1];exact h
theorem yt{α:Type}[DecidableEq α]:∀(U ps:List α),ps.Nodup->(∀p∈ps,p∈U)->ps.length<=U.length
 | U,[],_,_=>Qxy _
 | U,p::ps,hn,hs=>by
  have hp:=hs p (Qqj ..);have h:=yt (U.erase p) ps (Qx9.mp hn).2 λq hq=>by
   have hne:q≠p:=λe=>(Qx9.mp hn).1 (e ▸ hq);exact(List.mem_erase_of_ne hne).mpr (hs q (Qqk _ hq))
  have h2:=List.length_erase_of_mem hp;have h3:0<U.length:=List.length_pos_of_mem hp;rw[Qqw];omega
end
end KB
namespace KM
section
variable{T:Type}[DecidableEq T]
noncomputable def lE(ys:List T)(x:T):List T:=if x∈ys then ys else ys++[x]
theorem ur(ys:List T)(x y:T):y∈lE ys x↔y∈ys\/y=x:=by
 unfold lE;split
 ·rename_i h;exact⟨.inl,λq=>q.elim id λe=>e ▸ h⟩
 ·rw[Qw4,Qq5]
theorem WK{ys:List T}(x:T)(h:ys.Nodup):(lE ys x).Nodup:=by
 unfold lE;split
 ·exact h
 ·rename_i hn;rw[List.nodup_append];exact⟨h,Qx9.mpr ⟨by simp,.nil⟩,λa ha b hb e=>hn (by rw[Qq5.mp hb] at e;exact e ▸ ha)⟩
noncomputable def m8:List T->T->Nat
 | [],_=>0
 | u::us,t=>if u=t then 0 else m8 us t+1
theorem yR:∀{l:List T} {t:T} (m:List T),t∈l->m8 (l++m) t=m8 l t
 | u::us,t,m,h=>by
  rw[List.cons_append];unfold m8;split
  ·rfl
  ·rename_i e;rw[yR m ((Qq7.mp h).resolve_left λz=>e z.symm)]
end
end KM
namespace Td
open Ev
noncomputable def iM:bH:=lH.iM
noncomputable def gn:LD:=cO 2 iM
noncomputable def iz:bH:=lH.iz
noncomputable def jU:LD:=cO 5 iz
noncomputable def cG:bH:=aB (aN (aK 0) (cP 2 (aO (ak 1) (aO (ak 2) cQ)))) (aB (dJ (eY (az oW 1 (Zw [114,105,103,104,116]))) (bw (ao cA (aa (fC 3 4 (gf (aK 2)) (ak 3) dh (ao jU (Zv 3 aj))) aj))) bU) (bw (aK 2)))
noncomputable def cM:LD:=cO 3 cG
noncomputable def fQ:bH:=bw (ao cA (aa (fC 1 5 (gf (ao cM (Zv 0 aj))) (cP 4 (aO (ak 1) (aO (ak 2) (aO (ak 3) (aO (ak 4) cQ))))) dh (bN (aa (ao gn (Zv 3 (aa (Zw [35]) aj))) (aa (Zw []) aj)))) aj))
noncomputable def eZ:bH:=lH.eZ
noncomputable def aR:List D->Option (D×D):=gr 3 eZ
noncomputable def jm:bH:=bw (aF qG (Zw []) (fC 1 3 (gf (aK 0)) (cP 2 (aO (ak 1) (aO (ak 2) cQ))) dh (aK 1)))
noncomputable def eF:bH:=aB (dJ (eY (aF oW (cX aR 0 (aa (Zi 2) aj)) (Zi 0))) (bw (rQ .non)) bU) (aB (aN (aF du (Zi 1) (cX aR 0 (aa (aF GC (aF Jw (Zi 2) (ao d7 (aa (bf 1) aj))) (Zi 1)) aj))) (ak 2)) (aB (aN (aF du (Zw [35]) (bf 1)) (ak 3)) (bw (ao cA (aa (fC 4 5 (iw (aa (ao d7 (aa (bf 3) aj)) aj)) (ak 4) (eY (aF oW (aF Al (az yV 2 (bf 4)) (Zi 1)) (Zi 1))) (az dF 3 (bf 4))) aj)))))
noncomputable def dU:List D->Option (D×D):=gr 4 eF
noncomputable def cR:bH:=aB (dJ (eY (aF oW (cX aR 0 (aa (Zi 5) aj)) (Zi 0))) (bw (bN (aa (bN (aa (Zw []) (aa (az dF 1 (cX aR 0 (aa (ao d7 (aa (bf 1) aj)) aj))) aj))) aj))) bU) (aB (dO 2 (zg)) (aB (gq (iw (aa (aF du (Zi 1) (cX aR 0 (aa (Zi 3) aj))) aj)) (ak 3) (aB (aN (az dF 1 (cX aR 0 (aa (ao d7 (aa (bf 1) aj)) aj))) (ak 4)) (aB (dO 5 (fC 6 7 (gf (aF du (ao t7 (aa (bf 1) aj)) (cu (aa (Zw []) aj)))) (ak 6) (eY (az zY 6 (bf 4))) (aK 6))) (o8 2 (aK 4) (az dF 5 (cX aR 0 (aa (ao d7 (aa (bf 5) aj)) aj))))))) (bw (ao cA (aa (fC 6 7 (gf (ao gA (aa (bf 2) aj))) (ak 6) dh (bN (Zv 6 (aa (az jT 2 (bf 6)) aj)))) aj)))))
noncomputable def eE:List D->Option (D×D):=gr 6 cR
noncomputable def gO:bH:=aB (aN (aF dF (cu (aa (Zw [111,110,99,101]) (aa (Zw [97,108,111,110,103]) aj))) (cX aR 0 (aa (Zi 2) aj))) (ak 2)) (aB (aN (cX eE 0 (Zv 1 aj)) (ak 3)) (bw (bN (Zv 2 (Zv 3 (aa (cX dU 0 (Zv 1 aj)) (aa (cX dU 0 (Zv 1 aj)) aj)))))))
end Td
namespace iY
open Ev
noncomputable def iM:bH:=lH.iM
noncomputable def gn:LD:=cO 2 iM
noncomputable def iz:bH:=lH.iz
noncomputable def jU:LD:=cO 5 iz
noncomputable def jF:bH:=lH.jF
noncomputable def jD:LD:=cO 1 jF
noncomputable def cG:bH:=Td.cG
noncomputable def cM:LD:=cO 3 cG
noncomputable def fQ:bH:=Td.fQ
noncomputable def eN:LD:=cO 1 fQ
noncomputable def cI:bH:=lH.cI
noncomputable def cV:LD:=cO 10 cI
noncomputable def cZ:bH:=lH.cZ
noncomputable def cY:LD:=cO 10 cZ
noncomputable def fZ:bH:=aB (dO 3 (cu aj)) (aB (aN (rQ (.bl false)) (ak 4)) (aB (gq (gf (aK 2)) (ak 5) (aB (aN (az dF 1 (Zi 1)) (ak 6)) (aB (dJ (eY (ao jD (Zv 0 aj))) (aN (ao cV (Zv 0 (Zv 1 (Zv 5 aj)))) (cP 2 (aO (ak 1) (aO (ak 7) cQ)))) (aN (ao cY (Zv 0 (Zv 1 (Zv 5 aj)))) (cP 2 (aO (ak 1) (aO (ak 7) cQ))))) (aB (aN (Dw (aK 4) (az zY 7 (bf 6))) (ak 4)) (fM 3 (aK 7)))))) (bw (bN (Zv 1 (aa (aF qG (Zw []) (bf 3)) (Zv 4 aj)))))))
noncomputable def gU:LD:=cO 8 fZ
noncomputable def iK:bH:=aB (aN (aK 2) (ak 3)) (aB (dO 4 (cu aj)) (aB (dO 5 (cu aj)) (aB (gq (GR (aa (ao cM (Zv 0 aj)) (Zv 1 aj))) (cP 2 (aO (ak 6) (aO (ak 7) cQ))) (aB (aN (ao gU (Zv 6 (Zv 7 (Zv 3 aj)))) (cP 3 (aO (ak 8) (aO (ak 3) (aO (ak 9) cQ))))) (aB (fM 4 (aK 8)) (fM 5 (aK 9))))) (bw (bN (aa (ao cA (aa (bf 4) aj)) (Zv 3 (aa (ao cA (aa (bf 5) aj)) aj))))))))
noncomputable def lB:LD:=cO 10 iK
noncomputable def iV:bH:=lH.iV
noncomputable def jC:LD:=cO 6 iV
noncomputable def my:bH:=lH.my
noncomputable def gM:LD:=cO 1 my
noncomputable def jG:bH:=aB (aN (Zi 0) (ak 2)) (aB (gq (gf (cu (aa (az du 1 (Zi 1)) (Zv 1 aj)))) (ak 3) (aN (aF du (az rD 2 (aF Jx (Zi 10) (Zi 60))) (ao gM (aa (aF dF (aF du (zf (aK 0) (Hr (aK 3)) (Hr (az du 3 (Zi 1)))) (cu (aa (aF du (aF rD (Zi 7919) (bf 3)) (Zi 61)) aj))) (Zi 0)) aj))) (ak 2))) (xR (cu (Zv 2 aj))))
noncomputable def ou:LD:=runN 4 jG
noncomputable def eZ:bH:=lH.eZ
noncomputable def aR:List D->Option (D×D):=gr 3 eZ
noncomputable def eF:bH:=Td.eF
noncomputable def dU:List D->Option (D×D):=gr 4 eF
noncomputable def cR:bH:=Td.cR
noncomputable def eE:List D->Option (D×D):=gr 6 cR
noncomputable def gO:bH:=Td.gO
noncomputable def iI:List D->Option (D×D):=gr 4 gO
noncomputable def mq:bH:=aB (aN (aF dF (cu (aa (Zw [108,101,102,116]) (aa (Zw [114,105,103,104,116]) aj))) (cX aR 0 (aa (Zi 2) aj))) (ak 3)) (bw (bN (Zv 3 (aa (ao cA (aa (fC 4 5 (iw (aa (cX aR 0 (aa (az du 2 (Zi 1)) aj)) aj)) (ak 4) dh (cX iI 0 (Zv 1 aj))) aj)) aj))))
noncomputable def lW:List D->Option (D×D):=gr 4 mq
noncomputable def rK:bH:=lH.iM
noncomputable def cB:LD:=cO 2 rK
noncomputable def kI:bH:=lH.kI
noncomputable def gV:LD:=cO 1 kI
noncomputable def gW:bH:=aB (aN (aK 1) (cP 2 (aO (ak 3) (aO (ak 4) cQ)))) (aB (aN (Zw []) (ak 5)) (aB (gq (gf (aK 2)) (ak 6) (aB (aN (qJ (aK 3) (ao cB (aa (az dF 0 (Zi 3)) (Zv 6 aj)))) (ak 7)) (aB (dJ (eY (aF oW (aF dF (aF dF (az dF 0 (Zi 1)) (Zi 0)) (Zi 0)) (Zw []))) (aB (aN (aF du (az du 5 (bf 4)) (aF vQ (aF dF (aF dF (az dF 0 (Zi 1)) (Zi 0)) (Zi 1)) (ao Bq (aa (bf 7) aj)))) (ak 5)) (aN (ao cB (aa (az dF 0 (Zi 2)) (Zv 6 aj))) (ak 3))) (dJ (eY (az zY 4 (Zw []))) (aB (aN (aK 4) (ak 8)) (aB (dJ (eY (aK 7)) (aN (rG (ao qH (aa (az dF 0 (Zi 1)) aj)) (aK 4) (aK 4)) (ak 8)) bU) (aB (aN (az du 5 (bf 8)) (ak 5)) (dJ (eY (aF oW (az dF 0 (Zi 0)) (Zw [111,110,99,101]))) (aN (ao cB (aa (az dF 0 (Zi 2)) (Zv 4 aj))) (ak 3)) (dJ (eY (az zY 8 (Zw []))) (aN (ao cB (aa (az dF 0 (Zi 2)) (Zv 8 aj))) (ak 3)) bU))))) bU)) (aN (aK 6) (ak 4))))) (bw (bN (aa (bN (Zv 3 (Zv 4 aj))) (Zv 5 aj))))))
noncomputable def eG:LD:=cO 9 gW
noncomputable def oG:bH:=aB (dJ (eY (aF oW (az dF 0 (Zi 0)) (Zw [108,101,102,116]))) (bw (ao t7 (aa (az dF 0 (Zi 1)) aj))) bU) (bw (fC 1 2 (gf (az dF 0 (Zi 1))) (ak 1) dh (ao gV (Zv 1 aj))))
noncomputable def iJ:LD:=cO 1 oG
noncomputable def lZ:bH:=aB (aN (aK 2) (ak 3)) (aB (dO 4 (cu aj)) (aB (gq (zc (aa (ao iJ (Zv 0 aj)) (Zv 1 aj))) (cP 2 (aO (ak 5) (aO (ak 6) cQ))) (aB (aN (ao eG (Zv 5 (Zv 6 (Zv 3 aj)))) (cP 2 (aO (ak 7) (aO (ak 3) cQ)))) (fM 4 (aK 7)))) (bw (bN (aa (ao cA (aa (bf 4) aj)) (Zv 3 aj))))))
noncomputable def iU:LD:=cO 8 lZ
noncomputable def qb:bH:=bw (ao cA (aa (fC 1 2 (gf (ao iJ (Zv 0 aj))) (ak 1) dh (bN (aa (ao cB (aa (az dF 1 (Zi 2)) (aa (Zw [35]) aj))) (aa (Zw []) aj)))) aj))
noncomputable def jV:LD:=cO 1 qb
end iY
namespace rN
open Ev
noncomputable def iM:bH:=lH.iM
noncomputable def gn:LD:=cO 2 iM
end rN
namespace Tn
open Ev
noncomputable def fY:bH:=bw (ao cA (aa (fC 1 3 (gf (aK 0)) (cP 2 (aO (ak 1) (aO (ak 2) cQ))) dh (aK 1)) aj))
end Tn
namespace iW
open Ev
noncomputable def fY:bH:=Tn.fY
noncomputable def fX:LD:=cO 1 fY
noncomputable def eZ:bH:=lH.eZ
noncomputable def aR:List D->Option (D×D):=gr 3 eZ
noncomputable def lY:bH:=aB (aN (aF dF (cu (aa (Zw [97]) (aa (Zw [97,98]) (aa (Zw [97,98]) (aa (Zw [97,98,99]) (aa (Zw [97,101,112,116]) (aa (Zw [109,110,122]) aj))))))) (cX aR 0 (aa (Zi 6) aj))) (ak 1)) (aB (aN (cu (aa (Zw [115,116,111,112]) (aa (Zw [115,116,111,112,115]) (aa (Zw [115]) (aa (Zw [111,112,101,110]) (aa (Zw [97,98,99,100,101,102,103,104]) aj)))))) (ak 2)) (aB (dO 3 (cu aj)) (aB (gq (gf (aK 1)) (ak 4) (aB (aN (cX aR 0 (aa (Zi 32) aj)) (ak 5)) (aB (aN (ao gA (aa (fC 7 8 (iw (aa (Zi 5) aj)) (ak 7) (eY (aF oW (aF Al (az yV 5 (bf 7)) (Zi 1)) (Zi 1))) (az dF 2 (bf 7))) aj)) (ak 6)) (fM 3 (bN (Zv 4 (aa (ao cA (aa (zf (aK 6) GX (Hr (Zi 4))) aj)) aj))))))) (bw (ao cA (aa (bf 3) aj))))))
noncomputable def lV:List D->Option (D×D):=gr 7 lY
noncomputable def jm:bH:=Td.jm
noncomputable def km:LD:=cO 1 jm
noncomputable def eF:bH:=aB (dJ (eY (aF oW (cX aR 0 (aa (Zi 2) aj)) (Zi 0))) (bw (rQ .non)) bU) (aB (aN (aF du (Zi 1) (cX aR 0 (aa (aF GC (aF Jw (Zi 2) (ao d7 (aa (bf 1) aj))) (Zi 1)) aj))) (ak 2)) (aB (aN (aF du (Zw [35]) (bf 1)) (ak 3)) (bw (ao cA (aa (fC 4 5 (iw (aa (ao d7 (aa (bf 3) aj)) aj)) (ak 4) (eY (aF oW (aF Al (az yV 2 (bf 4)) (Zi 1)) (Zi 1))) (az dF 3 (bf 4))) aj)))))
noncomputable def dU:List D->Option (D×D):=gr 4 eF
noncomputable def cR:bH:=aB (dJ (eY (aF oW (cX aR 0 (aa (Zi 5) aj)) (Zi 0))) (bw (bN (aa (bN (aa (Zw []) (aa (az dF 1 (cX aR 0 (aa (ao d7 (aa (bf 1) aj)) aj))) aj))) aj))) bU) (aB (dO 2 (zg)) (aB (gq (iw (aa (aF du (Zi 1) (cX aR 0 (aa (Zi 3) aj))) aj)) (ak 3) (aB (aN (az dF 1 (cX aR 0 (aa (ao d7 (aa (bf 1) aj)) aj))) (ak 4)) (aB (dO 5 (fC 6 7 (gf (aF du (ao t7 (aa (bf 1) aj)) (cu (aa (Zw []) aj)))) (ak 6) (eY (az zY 6 (bf 4))) (aK 6))) (o8 2 (aK 4) (az dF 5 (cX aR 0 (aa (ao d7 (aa (bf 5) aj)) aj))))))) (bw (ao cA (aa (fC 6 7 (gf (ao gA (aa (bf 2) aj))) (ak 6) dh (bN (Zv 6 (aa (az jT 2 (bf 6)) aj)))) aj)))))
noncomputable def eE:List D->Option (D×D):=gr 6 cR
noncomputable def gO:bH:=aB (aN (aF dF (cu (aa (Zw [111,110,99,101]) (aa (Zw [97,108,111,110,103]) aj))) (cX aR 0 (aa (Zi 2) aj))) (ak 2)) (aB (aN (cX eE 0 (Zv 1 aj)) (ak 3)) (bw (bN (Zv 2 (Zv 3 (aa (cX dU 0 (Zv 1 aj)) (aa (cX dU 0 (Zv 1 aj)) aj)))))))
noncomputable def iI:List D->Option (D×D):=gr 4 gO
open Ev PySem L2
theorem qt{i:Int}{b:Nat}(h:i.natAbs<2^b):Builtin.Int.intBits i<=b:=by
 unfold Builtin.Int.intBits;split
 ·exact Qxy _
 ·rename_i h0;have hz:i.natAbs≠0:=λz=>h0 (by rw[Int.natAbs_eq_zero.mp z];rfl);exact(Nat.log2_lt hz).mpr h
theorem rA{i j:Int}{a b:Nat}(h1:Builtin.Int.intBits i<=a)(h2:Builtin.Int.intBits j<=b)(h:a+b<=134217728):jK i j=true:=
 Qwy (by omega)
theorem Wi{α:Type}{xs:List α}{lo hi:Option Int}{x:α}(h:x∈cutD xs lo hi):x∈xs:=List.mem_of_mem_drop (List.mem_of_mem_take h)
theorem Sy{α:Type}(x:α)(r:List α):wL (x::r) 0=some x:=uq (j:=0) rfl
noncomputable def known:D:=.lst [.str [115,116,111,112],.str [115,116,111,112,115],.str [115],.str [111,112,101,110],.str [97,98,99,100,101,102,103,104]]
noncomputable def xC:bH:=aN (ao gA (aa (fC 7 8 (iw (aa (Zi 5) aj)) (ak 7) (eY (aF oW (aF Al (az yV 5 (bf 7)) (Zi 1)) (Zi 1))) (az dF 2 (bf 7))) aj)) (ak 6)
noncomputable def mk(d:Nat):D:=match xC [Zn,Zn,Zf known,Zn,Zn,Zf (.int d),Zn] with
 | .nx e=>(match e[6]? with|some (some (_,z))=>z|_=>.non)
 | _=>.non
def AllB(P:Nat->Prop):Nat->Prop
 | 0=>True
 | n+1=>AllB P n/\P n
theorem SN{P:Nat->Prop}:∀{n:Nat},AllB P n->∀d,d<n->P d
 | 0,_,d,h=>absurd h (Qkv d)
 | n+1,⟨a,b⟩,d,h=>by
  by_cases e:d=n
  ·subst e;exact b
  ·exact SN a d (by omega)
theorem marks(d:Nat)(hd:d<32)(a b c e f:OD):xC [a,b,Zf known,c,e,Zf (.int d),f] = .nx [a,b,Zf known,c,e,Zf (.int d),Zf (mk d)]:=by refine SN (P:=λd=>xC [a,b,Zf known,c,e,Zf (.int (d:Nat)),f] = .nx [a,b,Zf known,c,e,Zf (.int (d:Nat)),Zf (mk d)]) ?_ d hd;refine⟨⟨⟨⟨⟨⟨⟨⟨⟨⟨⟨⟨⟨⟨⟨⟨⟨⟨⟨⟨⟨⟨⟨⟨⟨⟨⟨⟨⟨⟨⟨⟨trivial,?_⟩,?_⟩,?_⟩,?_⟩,?_⟩,?_⟩,?_⟩,?_⟩,?_⟩,?_⟩,?_⟩,?_⟩,?_⟩,?_⟩,?_⟩,?_⟩,?_⟩,?_⟩,?_⟩,?_⟩,?_⟩,?_⟩,?_⟩,?_⟩,?_⟩,?_⟩,?_⟩,?_⟩,?_⟩,?_⟩,?_⟩,?_⟩<;>kernel_rfl
noncomputable def adT:D->Bool
 | .lst _=>true
 | _=>false
theorem aax(d:Nat)(hd:d<32):∃zs,mk d = .lst zs:=by
 have h:((List.range 32).all λd=>adT (mk d))=true:=by decide +kernel
 have h1:=Qx6.mp h d (List.mem_range.mpr hd);cases e:mk d with
 | lst zs=>exact⟨zs,rfl⟩
 | _=>rw[e] at h1;cases h1
inductive Rows:List D->List D->Prop where
 | nil:Rows [] []
 | cons {s m:D} {ss rs:List D}:Rows ss rs->Rows (s::ss) (.tup [s,m]::rs)
theorem Rows.snoc{ss rs:List D}(h:Rows ss rs)(s m:D):Rows (ss++[s]) (rs++[.tup [s,m]]):=by
 induction h with
 | nil=>exact .cons .nil
 | cons _ ih=>exact .cons ih
theorem Rows.len{ss rs:List D}(h:Rows ss rs):rs.length=ss.length:=by
 induction h with
 | nil=>rfl
 | cons _ ih=>rw[Qqw,Qqw,ih]
theorem cD{i:Nat}{a:Ev}{env e:Ev.Env}{d:D}{xs x0:List D}(h0:env[i]? = some (Zl x0))(h1:a env = .ok d e)(h2:e[i]? = some (Zl xs))(hz:xs.length<sizeLine):fM i a env = .nx (e.set i (Zl (xs++[d]))):=by unfold fM;rw[h0];show gB (a env) _=_;rw[h1];show(match e[i]? with|some (some (true,.lst xs))=>if xs.length<sizeLine then Out.nx (e.set i (Zl (xs++[d]))) else .stuck|_=>.stuck)=_;rw[h2];show(if xs.length<sizeLine then _ else _)=_;rw[if_pos hz]
noncomputable def Az:bH:=aB (aN (cX aR 0 (aa (Zi 32) aj)) (ak 5)) (aB xC (fM 3 (bN (Zv 4 (aa (ao cA (aa (zf (aK 6) GX (Hr (Zi 4))) aj)) aj)))))
theorem HY(n:Int)(b v5 v6:OD)(acc:List D)(s:D)(ha:acc.length<=10):∃m v5' v6',Az [Zl [.int n],b,Zf known,Zl acc,Zf s,v5,v6] = .nx [Zl [.int (n / 32)],b,Zf known,Zl (acc++[.tup [s,m]]),Zf s,v5',v6']:=by obtain⟨d,hd,e⟩:=dig n 32 (by decide);obtain⟨zs,hz⟩:=aax d hd;refine⟨.tup (cutD zs none (some 4)),Zf (.int d),Zf (.lst zs),?_⟩;unfold Az;refine(aC (e:=[Zl [.int (n / 32)],b,Zf known,Zl acc,Zf s,Zf (.int (n % (32:Nat))),v6]) rfl).trans ?_;rw[e];refine(aC (marks d hd _ _ _ _ _)).trans ?_;rw[hz];exact cD (e:=[Zl [.int (n / 32)],b,Zf known,Zl acc,Zf s,Zf (.int d),Zf (.lst zs)]) rfl rfl rfl (Qxq ha (by decide))
structure XOk(x:List Nat):Prop where
 len:x.length<=4
 pos:0<x.length
 nd:x.Nodup
 ne:35 ∉ x
inductive XSt
 | mk
noncomputable def XS:XSt:=.mk
instance:Membership (List Nat) XSt:=⟨λ_ x=>XOk x⟩
theorem BW{x:List Nat}(h:x∈XS):XOk x:=h
theorem BX{x:List Nat}(h:XOk x):x∈XS:=h
theorem j8:∀x∈XS,x.length<=4:=λ_ h=>(BW h).len
theorem S7{x:List Nat}(h:x∈XS):(∃a,x=[a])\/(∃a b,x=[a,b])\/(∃a b c,x=[a,b,c])\/∃a b c d,x=[a,b,c,d]:=by
 have h1:=(BW h).len;have h2:=(BW h).pos
 match x,h1,h2 with
 | [a],_,_=>exact .inl ⟨a,rfl⟩
 | [a,b],_,_=>exact .inr (.inl ⟨a,b,rfl⟩)
 | [a,b,c],_,_=>exact .inr (.inr (.inl ⟨a,b,c,rfl⟩))
 | [a,b,c,d],_,_=>exact .inr (.inr (.inr ⟨a,b,c,d,rfl⟩))
theorem stock(n:Int):∃x rows n',x∈XS/\lV [.lst [.int n]]=some (.tup rows,.lst [.int n'])/\Rows (o9 x) rows:=by
 obtain⟨d,hd,e⟩:=dig n 6 (by decide);obtain⟨x,hx,h1⟩:∃x,x∈XS/\∀m:Int,(λ(k:Int) (m:Int)=>gB (je (dF (.lst [.str [97],.str [97,98],.str [97,98],.str [97,98,99],.str [97,101,112,116],.str [109,110,122]]) (.int k)) ([Zl [.int m],Zn,Zn,Zn,Zn,Zn,Zn]:Ev.Env)) λd aG=>Ro (ak 1 d aG)) (d:Int) m = .nx [Zl [.int m],Zs x,Zn,Zn,Zn,Zn,Zn]:=by
  have hc:d=0\/d=1\/d=2\/d=3\/d=4\/d=5:=by omega
  rcases hc with rfl|rfl|rfl|rfl|rfl|rfl
  ·exact⟨[97],BX ⟨by decide,by decide,by decide,by decide⟩,λm=>rfl⟩
  ·exact⟨[97,98],BX ⟨by decide,by decide,by decide,by decide⟩,λm=>rfl⟩
  ·exact⟨[97,98],BX ⟨by decide,by decide,by decide,by decide⟩,λm=>rfl⟩
  ·exact⟨[97,98,99],BX ⟨by decide,by decide,by decide,by decide⟩,λm=>rfl⟩
  ·exact⟨[97,101,112,116],BX ⟨by decide,by decide,by decide,by decide⟩,λm=>rfl⟩
  ·exact⟨[109,110,122],BX ⟨by decide,by decide,by decide,by decide⟩,λm=>rfl⟩
 have hxl:x.length<=4:=j8 x hx;obtain⟨e',f1,n',acc,v4,v5,v6,rfl,hr⟩:=qp (g:=ak 4) (o9 x) (λdone env=>∃n acc v4 v5 v6,env=[Zl [.int n],Zs x,Zf known,Zl acc,v4,v5,v6]/\Rows done acc)
  (λdone s rest hall env ⟨n,acc,v4,v5,v6,he,hr⟩=>by
   subst he;have hd:done.length<=4:=by have:=Qxz List.length hall;unfold o9 at this;rw[Qqv,Qq1,Qqw] at this;omega
   obtain⟨m,w5,w6,hb⟩:=HY n (Zs x) v5 v6 acc s (by rw[hr.len];omega);exact⟨_,_,rfl,hb,n / 32,_,_,_,_,rfl,hr.snoc s m⟩)
  [Zl [.int (n / 6)],Zs x,Zf known,Zl [],Zn,Zn,Zn] ⟨_,[],_,_,_,rfl,.nil⟩
 refine⟨x,acc,n',hx,jP (env:=[Zl [.int n'],Zs x,Zf known,Zl acc,v4,v5,v6]) ?_ rfl,hr⟩;unfold lY;refine(aC (e:=[Zl [.int (n / 6)],Zs x,Zn,Zn,Zn,Zn,Zn]) ?_).trans ?_
 ·have h2:=h1 (n / 6);rw[<-e] at h2;exact h2
 refine(aC rfl).trans ?_;refine(aC rfl).trans ?_;refine(aC (e:=[Zl [.int n'],Zs x,Zf known,Zl acc,v4,v5,v6]) ?_).trans ?_
 ·exact(gF rfl).trans f1
 ·rfl
theorem Ud{ss rs:List D}(h:Rows ss rs):∀(a v1 v2:OD),∃w1 w2,Ef (cP 2 (aO (ak 1) (aO (ak 2) cQ))) dh (aK 1) rs [a,v1,v2] = .ok ss [a,w1,w2]:=by
 induction h with
 | nil=>exact λa v1 v2=>⟨v1,v2,rfl⟩
 | cons _ ih=>
  rename_i s m ss rs _;intro a v1 v2;obtain⟨w1,w2,e⟩:=ih a (Zf s) (Zf m);refine⟨w1,w2,?_⟩;unfold Ef;show bindR (Ef _ dh (aK 1) rs [a,Zf s,Zf m]) _=_;rw[e]
  rfl
theorem Ba{x:List Nat}{rs:List D}(hx:x∈XS)(h:Rows (o9 x) rs):fC 1 3 (gf (aK 0)) (cP 2 (aO (ak 1) (aO (ak 2) cQ))) dh (aK 1) [Zf (.tup rs)] = .ok (.lst (o9 x)) [Zf (.tup rs)]:=by obtain⟨w1,w2,e⟩:=Ud h (Zf (.tup rs)) none none;exact kE (n:=3) (aG:=[Zf (.tup rs)]) rfl rfl (by exact e) (by unfold o9;rw[Qqv];exact Qq4 (j8 x hx) (by decide))
theorem sounds_of{x:List Nat}{rs:List D}(hx:x∈XS)(h:Rows (o9 x) rs):fX [.tup rs]=some (.tup (o9 x)):=
 dW (bT (aL (aP (Ba hx h) bI) rfl))
theorem join_eq:∀x∈XS,qG (.str []) (.lst (o9 x))=some (.str x):=by intro x hx;rcases S7 hx with ⟨a,rfl⟩|⟨a,b,rfl⟩|⟨a,b,c,rfl⟩|⟨a,b,c,d,rfl⟩<;>rfl
theorem Jp{x:List Nat}{rs:List D}(hx:x∈XS)(h:Rows (o9 x) rs):km [.tup rs]=some (.str x):=
 dW (bT (bO rfl (Ba hx h) (join_eq x hx)))
theorem Wc{a:dg}{env e:Ev.Env}{ds ys:List D}(h:a env = .ok ds e)(h':yd ds=some ys):iw a env = .ok ys e:=by
 unfold iw;rw[h];show je (yd ds) e=_;rw[h']
 rfl
theorem lM(n:Int)(m:Nat)(h0:0<m)(h1:m<1073741824):aR [.lst [.int n],.int (m:Int)]=some (.int (n % m),.lst [.int (n / m)]):=by
 refine jP (env:=[Zl [.int (n / m)],Zf (.int m),Zf (.int (n % m))]) ?_ rfl;unfold eZ;have g:ue [.int n,.int (m:Int)]=some (.tup [.int (n / m),.int (n % m)]):=by show(if 0<(m:Int)/\(m:Int)<1073741824 then _ else _)=_;rw[if_pos (by omega)]
 refine(aC (e:=[Zl [.int (n / m)],Zf (.int m),Zf (.int (n % m))]) ?_).trans rfl;exact bF (aL (by rfl) g) (by rfl)
noncomputable def Js:Option D->Bool
 | some (.bl true)=>true
 | _=>false
noncomputable def M(x:List Nat):Nat:=2*2^x.length - 1
noncomputable def Ph:bH:=aB (aN (aF du (Zw [35]) (bf 1)) (ak 3)) (bw (ao cA (aa (fC 4 5 (iw (aa (ao d7 (aa (bf 3) aj)) aj)) (ak 4) (eY (aF oW (aF Al (az yV 2 (bf 4)) (Zi 1)) (Zi 1))) (az dF 3 (bf 4))) aj)))
noncomputable def bit(d k:Nat):Bool:=Builtin.bitAnd ((1+(d:Int)) / 2^k) 1 == 1
noncomputable def sgR(x:List Nat)(d:Nat):D:=.tup ((((List.range (x.length+1)).filter (bit d)).map λk=>(35::x).getD k 0).map λc=>.str [c])
noncomputable def SG(x:List Nat):List D:=.non::(List.range (M x)).map (sgR x)
theorem T7(a:OD):∀x∈XS,∀d,d<M x->∃e3,Ph [a,Zs x,Zf (.int (1+(d:Int))),Zn] = .rt false (sgR x d) [a,Zs x,Zf (.int (1+(d:Int))),e3]:=by
 intro x hx d hd;have hl:=j8 x hx;refine⟨Zs (35::x),?_⟩;unfold Ph;refine(aC (bF (d:=.str (35::x)) (bO rfl rfl ?_) rfl)).trans ?_
 ·unfold du;exact if_pos (Qq4 (show 1+x.length<=5 by omega) (by decide))
 ·have h:fC 4 5 (iw (aa (ao d7 (aa (bf 3) aj)) aj)) (ak 4) (eY (aF oW (aF Al (az yV 2 (bf 4)) (Zi 1)) (Zi 1))) (az dF 3 (bf 4)) [a,Zs x,Zf (.int (1+(d:Int))),Zs (35::x)] = .ok (.lst (((List.range (x.length+1)).filter (bit d)).map λk=>.str [(35::x).getD k 0])) [a,Zs x,Zf (.int (1+(d:Int))),Zs (35::x)]:=by
   refine Ld (n:=5) (List.range (x.length+1)) (λ(k:Nat)=>.int (k:Int)) (bit d) (λk=>.str [(35::x).getD k 0]) ?_ rfl rfl (λk hk=>?_) (λk hk _=>?_) (by rw[List.length_range];exact Qq4 (show x.length+1<=5 by omega) (by decide))
   ·exact Wc rfl (YZ (Qxq (show(35::x).length<=5 by rw[Qqw];omega) (by decide)))
   ·refine ig (bO (bO (x:=.int ((1+(d:Int)) / 2^k)) ?_ rfl rfl) rfl rfl);refine bZ (i:=2) rfl rfl rfl ?_;unfold yV gI;simp only;rw[if_pos (Qwy (Int.natCast_nonneg k)),Qjx]
   ·refine bZ (i:=3) rfl rfl rfl ?_;show(wL (35::x) (k:Int)).map _=_;have hk':k<(35::x).length:=List.mem_range.mp hk;rw[uq (v:=(35::x).getD k 0) (by rw[Qwk,Qqy hk'];rfl)]
    rfl
  refine bT (aL (aP h bI) ?_);unfold sgR;rw[Qj2]
  rfl
theorem signs(n:Int)(x:List Nat)(hx:x∈XS):∃r n',dU [.lst [.int n],.str x]=some (r,.lst [.int n'])/\r∈SG x:=by
 obtain⟨d,hd,e⟩:=dig n 2 (by decide);have t:eY (aF oW (cX aR 0 (aa (Zi 2) aj)) (Zi 0)) [Zl [.int n],Zs x,Zn,Zn] = .ok ((d:Int) == 0) [Zl [.int (n / 2)],Zs x,Zn,Zn]:=by
  rw[<-e]
  rfl
 have hc:d=0\/d=1:=by omega
 rcases hc with rfl|rfl
 ·refine⟨.non,n / 2,jP (env:=[Zl [.int (n / 2)],Zs x,Zn,Zn]) ?_ rfl,Qqj ..⟩;unfold eF;refine(sO ?_).trans rfl;exact(ie t).trans rfl
 ·obtain⟨k,hk,ek⟩:=dig (n / 2) (M x) (by unfold M;have:0<2^x.length:=Nat.two_pow_pos _;omega);obtain⟨e3,h3⟩:=T7 (Zl [.int (n / 2 / (M x:Int))]) x hx k hk;refine⟨sgR x k,n / 2 / (M x:Int),jP (env:=[Zl [.int (n / 2 / (M x:Int))],Zs x,Zf (.int (1+(k:Int))),e3]) ?_ rfl,Qqk _ (Qw9.mpr ⟨k,List.mem_range.mpr hk,rfl⟩)⟩;unfold eF;refine(aC (e:=[Zl [.int (n / 2)],Zs x,Zn,Zn]) ?_).trans ?_
  ·exact(fP t).trans rfl
  ·refine(aC (e:=[Zl [.int (n / 2 / (M x:Int))],Zs x,Zf (.int (1+n / 2 % (M x:Int))),Zn]) ?_).trans ?_
   ·have hM:aF GC (aF Jw (Zi 2) (ao d7 (aa (bf 1) aj))) (Zi 1) [Zl [.int (n / 2)],Zs x,Zn,Zn] = .ok (.int (M x:Int)) [Zl [.int (n / 2)],Zs x,Zn,Zn]:=by
     have hl:=j8 x hx;refine bO (x:=.int (2*2^x.length)) (bO rfl rfl ?_) rfl ?_
     ·unfold Jw gI;simp only;rw[if_pos (Qwy ⟨Int.natCast_nonneg _,by omega,by decide⟩),Qjx]
     ·show some (D.int (2*2^x.length - 1))=_;have hp:0<2^x.length:=Nat.two_pow_pos _;have e:((M x:Nat):Int)=2*2^x.length - 1:=by
       unfold M;rw[Int.natCast_sub (by omega),Int.natCast_mul,Int.natCast_pow]
       rfl
      rw[e]
    have ht:aR [.lst [.int (n / 2)],.int (M x:Int)]=some (.int (n / 2 % (M x:Int)),.lst [.int (n / 2 / (M x:Int))]):=by have hl:=j8 x hx;have hp:0<2^x.length:=Nat.two_pow_pos _;have hq:2^x.length<=2^4:=Nat.pow_le_pow_right (by decide) hl;exact lM (n / 2) (M x) (by unfold M;omega) (by unfold M;omega)
    refine bF (bO rfl (iC rfl (aP hM bI) rfl ht) rfl) rfl
   ·rw[ek];exact h3
end iW
namespace Tn
open Ev PySem L2
open iW (lM)
theorem Rt{g:GV}{e:Ev}(P:Ev.Env->Prop)(R:D->Prop):∀(ds:List D) (env:Ev.Env),P env->(∀d∈ds,∀env,P env->∃y e1 e2,g d env=some e1/\e e1 = .ok y e2/\P e2/\R y)->∃ys env',Ef g dh e ds env = .ok ys env'/\P env'/\(∀y∈ys,R y)/\ys.length=ds.length
 | [],env,hp,_=>⟨[],env,rfl,hp,λy hy=>by simp at hy,rfl⟩
 | d::ds,env,hp,h=>by
  obtain⟨y,e1,e2,h1,h2,h3,h4⟩:=h d (Qqj ..) env hp;obtain⟨ys,e3,h5,h6,h7,h8⟩:=Rt P R ds e2 h3 λd' hd=>h d' (Qqk _ hd);refine⟨y::ys,e3,?_,h6,λz hz=>?_,by rw[Qqw,Qqw,h8]⟩
  ·unfold Ef;rw[h1];show bindR (e e1) _=_;rw[h2];show bindR (Ef g dh e ds e2) _=_;rw[h5]
   rfl
  ·rcases Qq7.mp hz with rfl|hz
   ·exact h4
   ·exact h7 z hz
theorem Nh:∀(zs:List (List Nat)),yP [] zs=zs.flatten
 | []=>rfl
 | x::r=>by
  show r.foldl (λacc y=>acc++[]++y) x=(x::r).flatten;have go:∀(r:List (List Nat)) (x:List Nat),r.foldl (λacc y=>acc++[]++y) x=x++r.flatten:=by
   intro r
   induction r with
   | nil=>intro x;simp
   | cons y r ih=>intro x;rw[List.foldl_cons,ih];simp
  rw[go];rfl
theorem qi(zs:List (List Nat)):iQ (zs.map D.str)=some zs:=by
 induction zs with
 | nil=>rfl
 | cons z r ih=>
  rw[Qwv];unfold iQ;rw[ih]
  rfl
theorem YH{zs:List (List Nat)}{k:Nat}(h:∀z∈zs,z.length<=k):(zs.map List.length).sum<=zs.length*k:=by
 induction zs with
 | nil=>simp
 | cons z r ih=>
  rw[Qwv,List.sum_cons,Qqw,Nat.add_mul];have h1:=h z (Qqj ..);have h2:=ih λy hy=>h y (Qqk _ hy);omega
theorem YZ{j:Nat}(h:j<1000):yd [.int (j:Int)]=some (jy 0 1 j):=by
 have hf:jH (j:Int)=true:=by unfold jH;rw[Qz5];exact⟨Qwy (by omega),Qwy (by omega)⟩
 unfold yd;simp only;rw[if_pos hf,Qjx]
theorem RZ{a:dg}{env e:Ev.Env}{ds ys:List D}(h:a env = .ok ds e)(h':yd ds=some ys):iw a env = .ok ys e:=by
 unfold iw;rw[h];show je (yd ds) e=_;rw[h']
 rfl
noncomputable def texts(x:List Nat):List (List Nat):=[[],[x.headD 0],[x.getLastD 0],[x.headD 0,x.headD 0],[x.headD 0,x.getLastD 0]]
end Tn
namespace iW
open Ev PySem L2
noncomputable def oth(x:List Nat)(c:Nat):List D:=((x.map (λa=>[a])++[[]]).filter λz=>z != [c]).map .str
noncomputable def PV(x:List Nat):List (Nat×D):=x.flatMap λc=>(oth x c).map λv=>(c,v)
noncomputable def one:bH:=aN (az dF 1 (cX aR 0 (aa (ao d7 (aa (bf 1) aj)) aj))) (ak 4)
noncomputable def others:bH:=dO 5 (fC 6 7 (gf (aF du (ao t7 (aa (bf 1) aj)) (cu (aa (Zw []) aj)))) (ak 6) (eY (az zY 6 (bf 4))) (aK 6))
noncomputable def Kg:bH:=o8 2 (aK 4) (az dF 5 (cX aR 0 (aa (ao d7 (aa (bf 5) aj)) aj)))
theorem Mz(a b v3 v5:OD):∀x∈XS,∀c∈x,others [a,Zs x,b,v3,Zs [c],v5] = .nx [a,Zs x,b,v3,Zs [c],Zl (oth x c)]:=by
 intro x hx c hc;have hl:=j8 x hx;unfold others;refine(o7 (e:=[a,Zs x,b,v3,Zs [c],v5]) ?_).trans rfl;have h5:(x.map (λa=>[a])++[[]]).length<=5:=by rw[Qq1,Qqv];exact Nat.succ_le_succ hl
 refine Ld (n:=7) (x.map (λa=>[a])++[[]]) D.str (λz=>z != [c]) D.str ?_ rfl rfl (λz hz=>rfl) (λz hz _=>rfl) (Qq4 h5 (by decide));refine lX (d:=.lst (((x.map λa=>[a])++[[]]).map D.str)) (bO rfl rfl ?_) rfl;rw[Qz4,Qj2];refine GK (a:=o9 x) ?_;unfold o9;rw[Qqv];exact Qq4 (Nat.succ_le_succ hl) (by decide)
theorem Vd:∀x∈XS,∀c∈x,(oth x c).length=x.length:=by
 intro x hx c hc;have h1:=List.length_erase_of_mem hc;rw[(BW hx).nd.erase_eq_filter] at h1;have e:(λz:List Nat=>z != [c]) ∘ (λa=>[a])=λa=>a != c:=by
  funext a
  by_cases h:a=c
  ·subst h;show([a] != [a])=(a != a);rw[bne_self_eq_false,bne_self_eq_false]
  ·show([a] != [c])=(a != c);rw[bne_iff_ne.mpr h,bne_iff_ne.mpr λq=>h (List.cons.inj q).1]
 unfold oth;rw[Qqv,List.filter_append,List.filter_map,e,Qq1,Qqv,h1];have:=(BW hx).pos;show x.length - 1+1=_;omega
theorem DW:∀x∈XS,0<x.length:=λ_ h=>(BW h).pos
theorem Mh{i:Nat}{k a:Ev}{env e1 e2:Ev.Env}{d kd x0:D}{o:Bool}{q:Key}{kvs:List (D×D)}(h1:a env = .ok d e1)(h2:e1[i]? = some (some (o,x0)))(h3:k e1 = .ok kd e2)(h4:e2[i]? = some (Zt (.dct kvs)))(h5:qz kd=some q)(hz:kvs.length<sizeLine) :
  o8 i k a env = .nx (e2.set i (Zt (.dct (putD kvs kd q d)))):=by
 unfold o8;rw[h1];simp only[gB];rw[h2];simp only;rw[h3];simp only;rw[h4,h5];simp only;rw[if_pos hz]
noncomputable def QD(kvs:List (D×D))(p:Nat×D):List (D×D):=putD kvs (.str [p.1]) (.inr (strOf [p.1])) p.2
theorem round(n:Int)(x:List Nat)(hx:x∈XS)(kvs:List (D×D))(hk:kvs.length<=10)(v3 v4 v5:OD):∃p n' v4' v5',p∈PV x/\aB one (aB others Kg) [Zl [.int n],Zs x,Zt (.dct kvs),v3,v4,v5] = .nx [Zl [.int n'],Zs x,Zt (.dct (QD kvs p)),v3,v4',v5']:=by
 have hp:=DW x hx;have hl4:=j8 x hx;obtain⟨d,hd,e⟩:=dig n x.length hp;have hc:x[d]∈x:=Qx7 hd;have hol:=Vd x hx x[d] hc;obtain⟨d',hd',e'⟩:=dig (n / (x.length:Int)) x.length hp;have hv:d'<(oth x x[d]).length:=by rw[hol];exact hd'
 refine⟨(x[d],(oth x x[d])[d']),n / (x.length:Int) / (x.length:Int),Zs [x[d]],Zl (oth x x[d]),?_,?_⟩
 ·unfold PV;exact Qj6.mpr ⟨x[d],hc,Qw9.mpr ⟨_,Qx7 hv,rfl⟩⟩
 ·refine(aC (e:=[Zl [.int (n / (x.length:Int))],Zs x,Zt (.dct kvs),v3,Zs [x[d]],v5]) ?_).trans ?_
  ·unfold one;refine bF (e:=[Zl [.int (n / (x.length:Int))],Zs x,Zt (.dct kvs),v3,v4,v5]) ?_ (by rfl);refine bZ (y:=.int (n % (x.length:Int))) (by rfl) ?_ (by rfl) ?_
   ·exact iC (e1:=[Zl [.int n],Zs x,Zt (.dct kvs),v3,v4,v5]) (by rfl) (by rfl) (by rfl) (lM n x.length hp (by omega))
   ·show(wL x (n % (x.length:Int))).map _=_;rw[e,JM hd]
    rfl
  ·refine(aC (Mz _ _ _ _ x hx x[d] hc)).trans ?_;unfold Kg;refine(Mh (e1:=[Zl [.int (n / (x.length:Int) / (x.length:Int))],Zs x,Zt (.dct kvs),v3,Zs [x[d]],Zl (oth x x[d])])
    ?_ (by rfl) (by rfl) (by rfl) (by rfl) (Qxq hk (by decide))).trans rfl
   refine bZ (y:=.int (n / (x.length:Int) % (x.length:Int))) (by rfl) ?_ (by rfl) ?_
   ·refine iC (e1:=[Zl [.int (n / (x.length:Int))],Zs x,Zt (.dct kvs),v3,Zs [x[d]],Zl (oth x x[d])]) (by rfl) ?_ (by rfl) (lM _ x.length hp (by omega));refine aP ?_ bI;refine aL (by rfl) ?_;show some (D.int ((oth x x[d]).length:Int))=_;rw[hol]
   ·show wL (oth x x[d]) (n / (x.length:Int) % (x.length:Int))=_;rw[e',JM hv]
noncomputable def NT(kvs:List (D×D)):Option D:=match gA [.dct kvs] with
 | some (.lst ks)=>if (ks.all λk=>(jT (.dct kvs) k).isSome) then some (.tup (ks.map λk=>.tup [k,(jT (.dct kvs) k).getD .non])) else none
 | _=>none
noncomputable def abt:bH:=bw (ao cA (aa (fC 6 7 (gf (ao gA (aa (bf 2) aj))) (ak 6) dh (bN (Zv 6 (aa (az jT 2 (bf 6)) aj)))) aj))
theorem GF{kvs:List (D×D)}{ks:List D}(h:gA [.dct kvs]=some (.lst ks)):ks.length<=64:=by
 obtain⟨zs,h1,h2⟩:=Qx4.mp h;split at h2
 ·rename_i hz;cases h2;rw[Qqv,(gG zs).length_eq];omega
 ·cases h2
theorem Dz{kvs:List (D×D)}{ch:D}(h:NT kvs=some ch)(a b v3 v4 v5:OD):abt [a,b,Zt (.dct kvs),v3,v4,v5] = .rt false ch [a,b,Zt (.dct kvs),v3,v4,v5]:=by
 unfold NT at h;split at h
 ·rename_i ks hs;split at h
  ·rename_i hall;cases h;obtain⟨env',h1,v6,rfl⟩:=n6 (g:=ak 6) (e:=bN (Zv 6 (aa (az jT 2 (bf 6)) aj))) (λenv=>∃v6,env=[a,b,Zt (.dct kvs),v3,v4,v5,v6]) (λk=>.tup [k,(jT (.dct kvs) k).getD .non]) ks [a,b,Zt (.dct kvs),v3,v4,v5,Zn] ⟨none,rfl⟩
    (λk hk env ⟨v6,he⟩=>by
     subst he;obtain⟨v,hv⟩:=Qz7.mp (Qx6.mp hall k hk);refine⟨_,[a,b,Zt (.dct kvs),v3,v4,v5,Zf k],rfl,?_,Zf k,rfl⟩;rw[hv];exact cW (aP (d:=k) (by rfl) (aP (d:=v) (bZ (y:=k) (by rfl) (by rfl) (by rfl) hv) bI)) Ev.Ht)
   refine bT (aL (ds:=[.lst (ks.map λk=>.tup [k,(jT (.dct kvs) k).getD .non])]) (aP ?_ bI) rfl);refine kE (n:=7) (aG:=[a,b,Zt (.dct kvs),v3,v4,v5]) ?_ (by rfl) h1 ?_
   ·exact lX (aL (by rfl) hs) rfl
   ·rw[Qqv];exact Qq4 (GF hs) (by decide)
  ·cases h
 ·cases h
structure Eb(x:List Nat)(kvs:List (D×D))(zs:List Nat):Prop where
 keys:kvs.map (·.1)=zs.map λc=>D.str [c]
 nd:zs.Nodup
 mem:∀c∈zs,c∈x
 vals:∀k v,(k,v)∈kvs->∃c,k = .str [c]/\(c,v)∈PV x
theorem mW{a b:List Nat}(h:strOf a=strOf b):a=b:=by
 have:=Qxz (λs:Str=>s.cps.toList) h
 simpa[strOf] using this
theorem uV(q:Key)(d:D):∀kvs:List (D×D),(xj kvs q d).map (·.1)=kvs.map (·.1)
 | []=>rfl
 | (k,e)::r=>by
  unfold xj;rw[Qwv,Qwv,uV q d r];split<;>rfl
theorem xW{q:Key}{d:D}:∀{kvs:List (D×D)} {k v:D},(k,v)∈xj kvs q d->(k,v)∈kvs\/(qz k=some q/\v=d)
 | [],_,_,h=>by simp[xj] at h
 | (k',e)::r,k,v,h=>by
  unfold xj at h;rcases Qq7.mp h with h|h
  ·split at h
   ·rename_i hk;cases h;exact .inr ⟨hk,rfl⟩
   ·cases h;exact .inl (Qqj ..)
  ·rcases xW h with h|h
   ·exact .inl (Qqk _ h)
   ·exact .inr h
theorem uL{q:Key}:∀{kvs:List (D×D)},oV kvs q=none->∀k v,(k,v)∈kvs->qz k≠some q
 | [],_,k,v,hm=>by simp at hm
 | (k',e)::r,h,k,v,hm=>by
  unfold oV at h;split at h
  ·cases h
  ·rename_i hk;rcases Qq7.mp hm with hm|hm
   ·cases hm;exact hk
   ·exact uL h k v hm
theorem mV{q:Key}{d:D}:∀{kvs:List (D×D)},oV kvs q=some d->∃k,(k,d)∈kvs/\qz k=some q
 | [],h=>by simp[oV] at h
 | (k',e)::r,h=>by
  unfold oV at h;split at h
  ·rename_i hk;cases h;exact⟨k',Qqj ..,hk⟩
  ·obtain⟨k,h1,h2⟩:=mV h;exact⟨k,Qqk _ h1,h2⟩
theorem Eb.put{x:List Nat}{kvs:List (D×D)}{zs:List Nat}(h:Eb x kvs zs){p:Nat×D}(hp:p∈PV x)(hx:p.1∈x):∃zs',Eb x (QD kvs p) zs'/\0<zs'.length/\zs'.length<=zs.length+1:=by
 unfold QD putD;cases e:oV kvs (.inr (strOf [p.1])) with
 | none=>
  simp only[Option.isSome_none,Bool.false_eq_true,Qk4];refine⟨zs++[p.1],⟨?_,?_,λc hc=>?_,λk v hm=>?_⟩,by simp,by simp⟩
  ·rw[Qz4,Qz4,h.keys];rfl
  ·refine List.nodup_append.mpr ⟨h.nd,Qx9.mpr ⟨Qw5,.nil⟩,λa ha b hb=>?_⟩;rcases Qq5.mp hb with rfl;rintro rfl;have hm:D.str [p.1]∈kvs.map (·.1):=by rw[h.keys];exact Qw9.mpr ⟨p.1,ha,rfl⟩
   obtain⟨⟨k,v⟩,h1,h2⟩:=Qw9.mp hm;have h2':k = .str [p.1]:=h2;subst h2';exact uL e _ _ h1 rfl
  ·rcases Qw4.mp hc with hc|hc
   ·exact h.mem c hc
   ·rw[Qq5.mp hc];exact hx
  ·rcases Qw4.mp hm with hm|hm
   ·exact h.vals k v hm
   ·have:=Qq5.mp hm;cases this;exact⟨p.1,rfl,hp⟩
 | some w=>
  simp only[Option.isSome_some,if_true];obtain⟨k0,hk0,_⟩:=mV e;have hne:0<zs.length:=by have:=Qxz List.length h.keys;rw[Qqv,Qqv] at this;rw[<-this];exact List.length_pos_of_mem hk0
  refine⟨zs,⟨by rw[uV];exact h.keys,h.nd,h.mem,λk v hm=>?_⟩,hne,Nat.le_succ _⟩;rcases xW hm with hm|⟨hk,rfl⟩
  ·exact h.vals k v hm
  ·have hin:k∈(xj kvs (.inr (strOf [p.1])) p.2).map (·.1):=Qw9.mpr ⟨_,hm,rfl⟩;rw[uV,h.keys] at hin;obtain⟨c,hc,rfl⟩:=Qw9.mp hin;have:strOf [c]=strOf [p.1]:=by
    have:=Qw1 hk;exact Sum.inr.inj this
   have e2:=mW this;cases e2;exact⟨p.1,rfl,hp⟩
theorem Ea{x:List Nat}{p:Nat×D}(h:p∈PV x):p.1∈x:=by unfold PV at h;obtain⟨c,hc,h⟩:=Qj6.mp h;obtain⟨v,_,rfl⟩:=Qw9.mp h;exact hc
theorem qi(zs:List (List Nat)):iQ (zs.map D.str)=some zs:=by
 induction zs with
 | nil=>rfl
 | cons z r ih=>
  rw[Qwv];unfold iQ;rw[ih]
  rfl
theorem Mj{x:List Nat}{kvs:List (D×D)}{zs:List Nat}(h:Eb x kvs zs)(h4:zs.length<=4):gA [.dct kvs]=some (.lst ((il (zs.map λc=>[c])).map .str)):=by
 have e:kvs.map (·.1)=(zs.map λc=>[c]).map D.str:=by rw[h.keys,Qj2];rfl
 show(iQ (kvs.map (·.1))).bind _=_;rw[e,qi];show(if _ then _ else _)=_;rw[if_pos];refine⟨by rw[Qqv];omega,λz hz=>?_⟩;obtain⟨c,_,rfl⟩:=Qw9.mp hz;show 1<=sizeLine
 decide
noncomputable def prs(kvs:List (D×D))(ks:List D):List D:=ks.map λk=>.tup [k,(jT (.dct kvs) k).getD .non]
theorem Dt{x:List Nat}{kvs:List (D×D)}{zs:List Nat}(h:Eb x kvs zs)(k:D)(hk:k∈(il (zs.map λc=>[c])).map D.str):∃c v,k = .str [c]/\jT (.dct kvs) k=some v/\(c,v)∈PV x:=by
 obtain⟨z,hz,rfl⟩:=Qw9.mp hk;obtain⟨c,hc,rfl⟩:=Qw9.mp ((gG _).mem_iff.mp hz);have hm:D.str [c]∈kvs.map (·.1):=by rw[h.keys];exact Qw9.mpr ⟨c,hc,rfl⟩
 obtain⟨⟨k,v⟩,h1,h2⟩:=Qw9.mp hm;have h2':k = .str [c]:=h2;subst h2';cases e:oV kvs (.inr (strOf [c])) with
 | none=>exact absurd rfl (uL e _ _ h1)
 | some w=>
  obtain⟨k',h3,h4⟩:=mV e;obtain⟨c',rfl,h5⟩:=h.vals k' w h3;have e2:strOf [c']=strOf [c]:=Sum.inr.inj (Qw1 h4);cases mW e2;exact⟨c,w,rfl,e,h5⟩
theorem DG{x:List Nat}{kvs:List (D×D)}{zs:List Nat}(h:Eb x kvs zs)(h4:zs.length<=4):NT kvs=some (.tup (prs kvs ((il (zs.map λc=>[c])).map D.str))):=by
 unfold NT;rw[Mj h h4];simp only;rw[if_pos]
 ·rfl
 ·refine Qx6.mpr λk hk=>?_;obtain⟨c,v,_,e,_⟩:=Dt h k hk;rw[e];rfl
theorem zJ:∀(n:Nat),p8 (List.replicate n (D.bl true))=some (List.replicate n true)
 | 0=>rfl
 | n+1=>by
  rw[List.replicate_succ];unfold p8;rw[zJ n]
  rfl
theorem all_true{n:Nat}:(List.replicate n true).all id=true:=by
 induction n with
 | zero=>rfl
 | succ n ih=>rw[List.replicate_succ,List.all_cons,ih];rfl
end iW
namespace rN
open Ev PySem L2
noncomputable abbrev XS:=iW.XS
open iW (DW j8 Eb PV SG NT prs one others Kg Dz Dt QD lM Ea DG)
theorem abK:∀x∈XS,∀p∈PV x,∃t,p.2 = .str t/\t.length<=1/\∀c∈t,c∈x:=by
 intro x hx p hp;obtain⟨c,hc,h⟩:=Qj6.mp hp;obtain⟨v,hv,rfl⟩:=Qw9.mp h;obtain⟨t,ht,rfl⟩:=Qw9.mp hv;refine⟨t,rfl,?_⟩;rcases Qw4.mp (List.mem_filter.mp ht).1 with h|h
 ·obtain⟨a,ha,rfl⟩:=Qw9.mp h;exact⟨Qq0 1,λc hc=>by rw[Qq5.mp hc];exact ha⟩
 ·rw[Qq5.mp h];exact⟨Qxy 1,λc hc=>absurd hc Qw5⟩
abbrev Pr:=Nat×List Nat
noncomputable def encC(p:Pr):D:=.tup [.str [p.1],.str p.2]
inductive Ar (x:List Nat):D->Prop
 | put {c:Nat}:c∈x->Ar x (.tup [.tup [.str [],.str [c]]])
 | chg {ps:List Pr}:0<ps.length->ps.length<=4->(∀p∈ps,p.1∈x/\p.2.length<=1/\∀c∈p.2,c∈x)->Ar x (.tup (ps.map encC))
theorem Dc{x:List Nat}{kvs:List (D×D)}(hx:x∈XS):∀(ks:List D),(∀k∈ks,∃c v,k = .str [c]/\jT (.dct kvs) k=some v/\(c,v)∈PV x)->∃ps:List Pr,prs kvs ks=ps.map encC/\ps.length=ks.length/\∀p∈ps,p.1∈x/\p.2.length<=1/\∀c∈p.2,c∈x
 | [],_=>⟨[],rfl,rfl,λp hp=>by simp at hp⟩
 | k::ks,h=>by
  obtain⟨c,v,rfl,e,hv⟩:=h k (Qqj ..);obtain⟨t,et,ht⟩:=abK x hx _ hv;obtain⟨ps,e1,e2,e3⟩:=Dc hx ks λk hk=>h k (Qqk _ hk);refine⟨(c,t)::ps,?_,by rw[Qqw,Qqw,e2],λp hp=>?_⟩
  ·unfold prs at e1 ⊢;rw[Qwv,e1,e];have et':v = .str t:=et;rw[et']
   rfl
  ·rcases Qq7.mp hp with rfl|hp
   ·exact⟨Ea hv,ht⟩
   ·exact e3 p hp
structure lG(x:List Nat)(w ch l r:D):Prop where
 way:w = .str [111,110,99,101]\/w = .str [97,108,111,110,103]
 chg:Ar x ch
 left:l∈SG x
 right:r∈SG x
noncomputable def fit(l:D)(a:Nat):Bool:=iW.Js (gn [l,.str [a]])
theorem Gv(a:Nat):∀z:List Nat,Oj (.str [a]) (z.map λc=>.str [c])=some (z.contains a)
 | []=>rfl
 | c::z=>by
  rw[Qwv];unfold Oj;rw[Gv a z];show some (([c] == [a])||z.contains a)=_;rw[List.contains_cons]
  congr 2
  by_cases h:a=c
  ·subst h;simp
  ·rw[beq_false_of_ne h,beq_false_of_ne λq=>h (List.cons.inj q).1.symm]
theorem fc:∀x∈XS,∀l∈SG x,∀a∈35::x,gn [l,.str [a]]=some (.bl (fit l a)):=by
 intro x hx l hl a ha;have h:∃b,gn [l,.str [a]]=some (.bl b):=by
  rcases Qq7.mp hl with rfl|hl
  ·exact⟨true,rfl⟩
  ·obtain⟨d,_,rfl⟩:=Qw9.mp hl;unfold iW.sgR;generalize(((List.range (x.length+1)).filter (iW.bit d)).map λk=>(35::x).getD k 0)=z;refine⟨z.contains a,dW (env:=[Zf (.tup (z.map λc=>.str [c])),Zs [a]]) (bT ?_)⟩;have e:az gIn 1 (bf 0) [Zf (.tup (z.map λc=>.str [c])),Zs [a]] = .ok (.bl (z.contains a)) [Zf (.tup (z.map λc=>.str [c])),Zs [a]]:=by
    refine bZ rfl rfl rfl ?_;show(Option.map D.bl (Oj (.str [a]) (z.map λc=>.str [c]))).or _=_;rw[Gv]
    rfl
   exact(R1 rfl).trans e
 obtain⟨b,e⟩:=h;unfold fit;rw[e];cases b<;>rfl
open iW (SG cD)
theorem lR{a b:List Nat}(h:a.length+b.length<=100000):du (.str a) (.str b)=some (.str (a++b)):=by show(if a.length+b.length<=sizeLine then _ else _)=_;rw[if_pos (Qq4 h (by decide))]
theorem nq{a b:eO}{env:Ev.Env}{p q:Bool}(h1:a env = .ok p env)(h2:b env = .ok q env):lC a b env = .ok (p&&q) env:=by
 unfold lC;rw[h1];cases p with
 | true=>exact h2
 | false=>rfl
theorem adQ{zs:List (List Nat)}(h1:zs.length<=80000)(h2:∀z∈zs,z.length<=2):qG (.str []) (.lst (zs.map .str))=some (.str zs.flatten):=by
 have hf:joinFits [] zs=true:=by refine Qwy ?_;have:=Tn.YH h2;show _+zs.length*0<=_;omega
 show(match iQ (zs.map D.str) with|some xs=>if joinFits [] xs=true then some (D.str (yP [] xs)) else none|none=>none)=_;rw[Tn.qi];show(if joinFits [] zs=true then _ else _)=_;rw[if_pos hf,Tn.Nh]
noncomputable abbrev ed(w:List Nat):List Nat:=35::(w++[35])
noncomputable abbrev sg(w:List Nat)(n:Nat):Nat:=(ed w).getD n 0
section
variable{x w:List Nat}{l r:D}
noncomputable def pc(l r:D)(c:Nat)(w:List Nat)(n:Nat):List (List Nat):=if (fit l (sg w n)&&fit r (sg w (n+1)))=true then [[c]] else []
noncomputable def pin(l r:D)(c:Nat)(w:List Nat):Nat->List (List Nat)
 | 0=>[]
 | n+1=>pin l r c w n++(pc l r c w n++[[sg w (n+1)]])
variable(hx:x∈XS)(hl:l∈SG x)(hr:r∈SG x)(hw:∀c∈w,c∈x)(hn:w.length<=30000)
include hx hl hr
include hw hn
end
def z6(x:List Nat)(kvs:List (D×D)):Prop:=∀k v,(k,v)∈kvs->∃t:List Nat,v = .str t/\t.length<=1/\∀c∈t,c∈x
theorem z6.put{x:List Nat}{kvs:List (D×D)}(h:z6 x kvs)(k:D)(q:Key)(t:List Nat)(h1:t.length<=1)(h2:∀c∈t,c∈x):z6 x (putD kvs k q (.str t)):=by
 intro k' v hm;unfold putD at hm;split at hm
 ·rcases iW.xW hm with hm|⟨_,rfl⟩
  ·exact h k' v hm
  ·exact⟨t,rfl,h1,h2⟩
 ·rcases Qw4.mp hm with hm|hm
  ·exact h k' v hm
  ·cases Qq5.mp hm;exact⟨t,rfl,h1,h2⟩
theorem z6.all{x:List Nat}:∀(ps:List Pr) (kvs:List (D×D)),z6 x kvs->(∀p∈ps,p.1∈x/\p.2.length<=1/\∀c∈p.2,c∈x)->z6 x (jJ kvs (ps.map λp=>(.str [p.1],.str p.2)))
 | [],kvs,h,_=>h
 | p::ps,kvs,h,hp=>by
  have h1:=hp p (Qqj ..);exact z6.all ps _ (h.put (.str [p.1]) (.inr (strOf [p.1])) p.2 h1.2.1 h1.2.2) λp hm=>hp p (Qqk _ hm)
theorem Bf:∀(ps:List Pr),nU (ps.map encC)=some (ps.map λp=>(.str [p.1],.str p.2))
 | []=>rfl
 | p::ps=>by
  rw[Qwv];unfold nU;rw[Bf ps]
  rfl
theorem xK{x:List Nat}{ps:List Pr}(hp:∀p∈ps,p.1∈x/\p.2.length<=1/\∀c∈p.2,c∈x):∃kvs,qH [.tup (ps.map encC)]=some (.dct kvs)/\z6 x kvs:=by
 refine⟨jJ [] (ps.map λp=>(.str [p.1],.str p.2)),?_,z6.all ps [] (λk v h=>by simp at h) hp⟩;show(nU (ps.map encC)).map _=_;rw[Bf]
 rfl
noncomputable def look(kvs:List (D×D))(s:Nat):Option (List Nat):=match oV kvs (.inr (strOf [s])) with
 | some (.str t)=>some t
 | _=>none
theorem jQ{x:List Nat}{kvs:List (D×D)}(h:z6 x kvs){s:Nat}{t:List Nat}(hs:look kvs s=some t):jT (.dct kvs) (.str [s])=some (.str t)/\t.length<=1/\∀c∈t,c∈x:=by
 unfold look at hs;split at hs
 ·rename_i u e;cases hs;obtain⟨k,hk,_⟩:=iW.mV e;obtain⟨t',h1,h2⟩:=h k _ hk;cases h1;exact⟨e,h2⟩
 ·cases hs
section
variable{x w:List Nat}{l r:D}{kvs:List (D×D)}
noncomputable def nw(kvs:List (D×D))(l r:D)(w:List Nat)(near n:Nat):List Nat:=if ((look kvs (sg w (n+1))).isSome&&(fit l near&&fit r (sg w (n+2))))=true then (look kvs (sg w (n+1))).getD [] else [sg w (n+1)]
noncomputable def Jl(al:Bool)(w:List Nat)(made:List (List Nat))(n:Nat):Nat:=if al=true then (35::made.flatten).getLastD 0 else sg w n
noncomputable def cg(al:Bool)(kvs:List (D×D))(l r:D)(w:List Nat):Nat->List (List Nat)
 | 0=>[]
 | n+1=>cg al kvs l r w n++[nw kvs l r w (Jl al w (cg al kvs l r w n) n) n]
noncomputable def j4(al:Bool):D:=if al=true then .str [97,108,111,110,103] else .str [111,110,99,101]
variable(hx:x∈XS)(hl:l∈SG x)(hr:r∈SG x)(hw:∀c∈w,c∈x)(hn:w.length<=30000)(hk:z6 x kvs)
include hx hl hr hw hn hk
noncomputable def out(al:Bool)(kvs:List (D×D))(l r:D)(w:List Nat):List Nat:=(cg al kvs l r w w.length).flatten
end
noncomputable def sides:List D:=[.str [108,101,102,116],.str [114,105,103,104,116]]
end rN
namespace Hm
open Ev PySem L2
open iW (cD)
open rN (XS sides lG lR)
def fG(x:List Nat)(R:D):Prop:=∃wy ch l r,R = .tup [wy,ch,l,r]/\lG x wy ch l r
theorem jR{d:D}(h:okN 60 d=true):zY d d=some (.bl false):=by
 show(aZ 60 d d).map _=_;rw[zm 60 d h]
 rfl
end Hm
namespace iY
open Ev PySem L2
open iW (SG cD)
open rN (XS sides lG lR fit fc z6 look jQ j4 encC xK Ar nq)
open Hm (fG jR)
abbrev St:=Bool×List Nat
noncomputable def bC(s:St):D:=.tup [.bl s.1,.str s.2]
inductive Rl
 | put (c:Nat) (l r:D)
 | chg (al:Bool) (kvs:List (D×D)) (l r:D)
noncomputable def Fy(kvs:List (D×D))(s:Nat)(b:Bool):List Nat:=if b=true then (look kvs s).getD [s] else [s]
noncomputable def nrC(al:Bool)(l:D)(s:Nat)(b:Bool)(p:List Nat):Bool:=if al=true then (if p=[] then b else fit l (p.headD 0)) else fit l s
noncomputable def stp:Rl->St->Nat->St×List Nat
 | .put c l r,s,a=>((fit l a,[a]),s.2++(if (s.1&&fit r a)=true then [c] else []))
 | .chg al kvs l r,s,a=>match s.2 with
  | []=>((s.1,[a]),[])
  | h::_=>((nrC al l h s.1 (Fy kvs h (s.1&&fit r a)),[a]),Fy kvs h (s.1&&fit r a))
noncomputable def rd(ρ:Rl):St->List Nat->St×List Nat
 | s,[]=>(s,[])
 | s,a::z=>((rd ρ (stp ρ s a).1 z).1,(stp ρ s a).2++(rd ρ (stp ρ s a).1 z).2)
theorem Iu(ρ:Rl):∀(z:List Nat) (s:St) (y:List Nat),rd ρ s (z++y)=((rd ρ (rd ρ s z).1 y).1,(rd ρ s z).2++(rd ρ (rd ρ s z).1 y).2)
 | [],s,y=>rfl
 | a::z,s,y=>by
  show((rd ρ (stp ρ s a).1 (z++y)).1,(stp ρ s a).2++(rd ρ (stp ρ s a).1 (z++y)).2)=_;rw[Iu ρ z];show _=((rd ρ (rd ρ (stp ρ s a).1 z).1 y).1,((stp ρ s a).2++(rd ρ (stp ρ s a).1 z).2)++_);rw[Qwj]
  rfl
theorem PK(ρ:Rl)(s:St)(a:Nat):rd ρ s [a]=stp ρ s a:=by show((stp ρ s a).1,(stp ρ s a).2++[])=_;rw[Qw0]
theorem xE(ρ:Rl)(s:St)(z:List Nat)(a:Nat):rd ρ s (z++[a])=((stp ρ (rd ρ s z).1 a).1,(rd ρ s z).2++(stp ρ (rd ρ s z).1 a).2):=by rw[Iu,PK]
inductive Is (x:List Nat):D->Rl->Prop
 | put {wy l r:D} {c:Nat}:c∈x->l∈SG x->r∈SG x->Is x (.tup [wy,.tup [.tup [.str [],.str [c]]],l,r]) (.put c l r)
 | chg {al:Bool} {ps:List rN.Pr} {kvs:List (D×D)} {l r:D}:0<ps.length->qH [.tup (ps.map encC)]=some (.dct kvs)->z6 x kvs->l∈SG x->r∈SG x->Is x (.tup [j4 al,.tup (ps.map encC),l,r]) (.chg al kvs l r)
theorem Yu{w:D}(h:w = .str [111,110,99,101]\/w = .str [97,108,111,110,103]):∃al,w=j4 al:=by
 rcases h with rfl|rfl
 ·exact⟨false,rfl⟩
 ·exact⟨true,rfl⟩
theorem RJ{x:List Nat}{R:D}(h:fG x R):∃ρ,Is x R ρ:=by
 obtain⟨wy,ch,l,r,rfl,h⟩:=h;obtain⟨h1,h2,h3,h4⟩:=h;cases h2 with
 | put hc=>exact⟨_,.put hc h3 h4⟩
 | chg hp hp4 hps=>
  obtain⟨al,rfl⟩:=Yu h1;obtain⟨kvs,hd,hk⟩:=xK hps;exact⟨_,.chg hp hd hk h3 h4⟩
def nC(x:List Nat)(s:St):Prop:=s.2.length<=1/\∀c∈s.2,c∈35::x
theorem Kh{x:List Nat}{kvs:List (D×D)}(hk:z6 x kvs)(s:Nat)(hs:s∈35::x)(b:Bool):(Fy kvs s b).length<=1/\∀c∈Fy kvs s b,c∈35::x:=by
 unfold Fy;split
 ·cases e:look kvs s with
  | none=>exact⟨Qq0 _,λc hc=>by rw[Qq5.mp hc];exact hs⟩
  | some t=>exact⟨(jQ hk e).2.1,λc hc=>Qqk _ ((jQ hk e).2.2 c hc)⟩
 ·exact⟨Qq0 _,λc hc=>by rw[Qq5.mp hc];exact hs⟩
theorem Pb{x:List Nat}{R:D}{ρ:Rl}(hR:Is x R ρ){s:St}(hs:nC x s){a:Nat}(ha:a∈35::x):nC x (stp ρ s a).1/\(stp ρ s a).2.length<=2/\∀c∈(stp ρ s a).2,c∈35::x:=by
 have h1:∀b:Bool,nC x (b,[a]):=λb=>⟨Qq0 _,λc hc=>by rw[Qq5.mp hc];exact ha⟩;cases hR with
 | put hc hl hr=>
  refine⟨h1 _,?_,?_⟩
  ·show(s.2++_).length<=2;have:=hs.1;rw[Qq1];split
   ·rw[Qx0];omega
   ·rw[Qz8];omega
  ·intro c hm;rcases Qw4.mp hm with hm|hm
   ·exact hs.2 c hm
   ·split at hm
    ·rw[Qq5.mp hm];exact Qqk _ hc
    ·simp at hm
 | chg hp hd hk hl hr=>
  obtain⟨b,h⟩:=s
  match h,hs with
  | [],hs=>exact⟨h1 _,Qxy _,λc hc=>by simp[stp] at hc⟩
  | s::h,hs=>
   exact⟨h1 _,Qq4 (Kh hk s (hs.2 s (Qqj ..)) _).1 (by decide),(Kh hk s (hs.2 s (Qqj ..)) _).2⟩
theorem Fp{x:List Nat}{R:D}{ρ:Rl}(hR:Is x R ρ):∀(z:List Nat) {s:St},nC x s->(∀a∈z,a∈35::x)->nC x (rd ρ s z).1/\(rd ρ s z).2.length<=2*z.length/\∀c∈(rd ρ s z).2,c∈35::x
 | [],s,hs,_=>⟨hs,Qq0 _,λc hc=>by simp[rd] at hc⟩
 | a::z,s,hs,hz=>by
  obtain⟨h1,h2,h3⟩:=Pb hR hs (hz a (Qqj ..));obtain⟨h4,h5,h6⟩:=Fp hR z h1 λb hb=>hz b (Qqk _ hb);refine⟨h4,?_,?_⟩
  ·show((stp ρ s a).2++(rd ρ (stp ρ s a).1 z).2).length<=_;rw[Qq1,Qqw];omega
  ·intro c hc;rcases Qw4.mp (show c∈(stp ρ s a).2++(rd ρ (stp ρ s a).1 z).2 from hc) with hc|hc
   ·exact h3 c hc
   ·exact h6 c hc
theorem ad5{x:List Nat}{kvs:List (D×D)}(hk:z6 x kvs)(s:Nat):RT (.dct kvs) (.str [s]) (.str [s])=some (.str ((look kvs s).getD [s])):=by
 show some ((oV kvs (.inr (strOf [s]))).getD (.str [s]))=_;unfold look;cases e:oV kvs (.inr (strOf [s])) with
 | none=>rfl
 | some v=>
  obtain⟨k,hm,_⟩:=iW.mV e;obtain⟨t,rfl,_⟩:=hk k v hm
  rfl
theorem Bu{a b c:Ev}{env e1 e2 e3:Ev.Env}{kvs:List (D×D)}{k t d:D}(h1:a env = .ok (.dct kvs) e1)(h2:b e1 = .ok k e2)(h3:c e2 = .ok t e3)(h:RT (.dct kvs) k t=some d):rG a b c env = .ok d e3:=by
 unfold rG;rw[h1];simp only[bindR];rw[h2];simp only;rw[h3];simp only;rw[h]
 rfl
theorem Wl(wy ch l r:D)(b:Bool)(a:Nat):cY [.tup [wy,ch,l,r],bC (b,[]),.str [a]]=some (.tup [bC (b,[a]),.str []]):=rfl
section
variable{x:List Nat}{l r:D}(hx:x∈XS)(hl:l∈SG x)(hr:r∈SG x)
include hx hl hr
theorem PB(wy:D)(c:Nat)(b:Bool)(h:List Nat)(hh:h.length<=1)(a:Nat)(ha:a∈35::x) :
  cV [.tup [wy,.tup [.tup [.str [],.str [c]]],l,r],bC (b,h),.str [a]]=some (.tup [bC (stp (.put c l r) (b,h) a).1,.str (stp (.put c l r) (b,h) a).2]):=by
 generalize hR:D.tup [wy,.tup [.tup [.str [],.str [c]]],l,r]=R;generalize hS:bC (b,h)=S;have fl:=fc x hx l hl a ha;have fr:=fc x hx r hr a ha;show _=some (D.tup [.tup [.bl (fit l a),.str [a]],.str (h++(if (b&&fit r a)=true then [c] else []))]);generalize hP:(h++(if (b&&fit r a)=true then [c] else []))=p;refine dW (env:=[Zf R,Zf S,Zs [a],Zf wy,Zf (.tup [.tup [.str [],.str [c]]]),Zf l,Zf r,Zb b,Zs h,Zs p]) ?_;unfold cI;refine(aC (e:=[Zf R,Zf S,Zs [a],Zf wy,Zf (.tup [.tup [.str [],.str [c]]]),Zf l,Zf r,Zn,Zn,Zn]) (by rw[<-hR];rfl)).trans ?_;refine(aC (e:=[Zf R,Zf S,Zs [a],Zf wy,Zf (.tup [.tup [.str [],.str [c]]]),Zf l,Zf r,Zb b,Zs h,Zn]) (by rw[<-hS];rfl)).trans ?_;refine(aC rfl).trans ?_;refine(aC (e:=[Zf R,Zf S,Zs [a],Zf wy,Zf (.tup [.tup [.str [],.str [c]]]),Zf l,Zf r,Zb b,Zs h,Zs p]) ?_).trans ?_
 ·have t:lC (eY (aK 7)) (eY (ao gn (Zv 6 (Zv 2 aj)))) [Zf R,Zf S,Zs [a],Zf wy,Zf (.tup [.tup [.str [],.str [c]]]),Zf l,Zf r,Zb b,Zs h,Zs h] = .ok (b&&fit r a) [Zf R,Zf S,Zs [a],Zf wy,Zf (.tup [.tup [.str [],.str [c]]]),Zf l,Zf r,Zb b,Zs h,Zs h]:=
   nq rfl (ig (aL rfl fr))
  cases hc:b&&fit r a with
  | true=>
   rw[hc] at t hP;rw[if_pos rfl] at hP;rw[<-hP];exact(ie t).trans (bF (bZ rfl rfl rfl (lR (by show h.length+1<=100000;omega))) rfl)
  | false=>
   rw[hc] at t hP;rw[if_neg Qxk,Qw0] at hP;rw[<-hP];exact(fP t).trans rfl
 ·refine bT (cW (aP (cW (aP (aL (by rfl) fl) (aP (by rfl) bI)) Ev.Ht) (aP (by rfl) bI)) Ev.Ht)
theorem PJ(al:Bool){kvs:List (D×D)}(hk:z6 x kvs)(ch:D)(hd:qH [ch]=some (.dct kvs))(b:Bool)(s:Nat)(hs:s∈35::x)(a:Nat)(ha:a∈35::x) :
  cY [.tup [j4 al,ch,l,r],bC (b,[s]),.str [a]]=some (.tup [bC (stp (.chg al kvs l r) (b,[s]) a).1,.str (stp (.chg al kvs l r) (b,[s]) a).2]):=by
 generalize hR:D.tup [j4 al,ch,l,r]=R;generalize hS:bC (b,[s])=S;have fs:=fc x hx l hl s hs;have fr:=fc x hx r hr a ha;have hp:=Kh hk s hs (b&&fit r a);show _=some (D.tup [.tup [.bl (nrC al l s b (Fy kvs s (b&&fit r a))),.str [a]],.str (Fy kvs s (b&&fit r a))]);have hP:Fy kvs s (b&&fit r a)=if (b&&fit r a)=true then (look kvs s).getD [s] else [s]:=rfl
 generalize Fy kvs s (b&&fit r a)=p at *;refine dW (env:=[Zf R,Zf S,Zs [a],Zf (j4 al),Zf ch,Zf l,Zf r,Zb b,Zs [s],Zs p]) ?_;unfold cZ;refine(aC (e:=[Zf R,Zf S,Zs [a],Zf (j4 al),Zf ch,Zf l,Zf r,Zn,Zn,Zn]) (by rw[<-hR];rfl)).trans ?_;refine(aC (e:=[Zf R,Zf S,Zs [a],Zf (j4 al),Zf ch,Zf l,Zf r,Zb b,Zs [s],Zn]) (by rw[<-hS];rfl)).trans ?_;refine(aC ((fP (by rfl)).trans rfl)).trans ?_;refine(aC rfl).trans ?_;refine(aC (e:=[Zf R,Zf S,Zs [a],Zf (j4 al),Zf ch,Zf l,Zf r,Zb b,Zs [s],Zs p]) ?_).trans ?_
 ·have t:lC (eY (aK 7)) (eY (ao gn (Zv 6 (Zv 2 aj)))) [Zf R,Zf S,Zs [a],Zf (j4 al),Zf ch,Zf l,Zf r,Zb b,Zs [s],Zs [s]] = .ok (b&&fit r a) [Zf R,Zf S,Zs [a],Zf (j4 al),Zf ch,Zf l,Zf r,Zb b,Zs [s],Zs [s]]:=
   nq rfl (ig (aL rfl fr))
  cases hc:b&&fit r a with
  | true=>
   rw[hc] at t hP;rw[if_pos rfl] at hP;rw[hP];exact(ie t).trans (bF (Bu (aL rfl hd) rfl rfl (ad5 hk s)) rfl)
  | false=>
   rw[hc] at t hP;rw[if_neg Qxk] at hP;rw[hP];exact(fP t).trans rfl
 ·cases al with
  | false=>
   refine(sO ?_).trans rfl;refine(ie rfl).trans ?_;refine bT (cW (aP (cW (aP (aL rfl fs) (aP rfl bI)) Ev.Ht) (aP rfl bI)) Ev.Ht)
  | true=>
   refine(aC ((fP (by rfl)).trans rfl)).trans ?_
   match p,hp with
   | [],_=>rfl
   | [q],hp=>
    have fq:=fc x hx l hl q (hp.2 q (Qqj ..));refine(aC ((fP (by rfl)).trans rfl)).trans ?_;exact bT (cW (aP (cW (aP (aL rfl fq) (aP rfl bI)) Ev.Ht) (aP rfl bI)) Ev.Ht)
   | _::_::_,hp=>exact absurd hp.1 (by simp)
end
theorem G3{a b:Ev}{env:Ev.Env}{p q:Bool}(h1:a env = .ok (.bl p) env)(h2:b env = .ok (.bl q) env):qJ a b env = .ok (.bl (p&&q)) env:=by
 cases p with
 | true=>rw[We h1,h2];rfl
 | false=>rw[Wf h1];rfl
theorem Wd{a b:Ev}{env:Ev.Env}{p q:Bool}(h1:a env = .ok (.bl p) env)(h2:b env = .ok (.bl q) env):Dw a b env = .ok (.bl (p||q)) env:=by
 cases p with
 | true=>rw[abg h1];rfl
 | false=>rw[R1 h1,h2];rfl
theorem xD:∀{y z:List Nat},o9 y=o9 z->y=z
 | [],[],_=>rfl
 | [],_::_,h=>by cases h
 | _::_,[],h=>by cases h
 | a::y,b::z,h=>by
  have h1:D.str [a]::o9 y=D.str [b]::o9 z:=h;injection h1 with h2 h3
  injection h2 with h4
  injection h4 with h5
  rw[h5,xD h3]
theorem xV(y:List Nat)(a:Nat):o9 (y++[a])=o9 y++[.str [a]]:=by unfold o9;rw[Qz4];rfl
theorem Cw{z:List Nat}{done rest:List D}{d:D}(h:o9 z=done++d::rest):∃a,d = .str [a]/\a∈z/\done.length<z.length:=by
 have hm:d∈o9 z:=by rw[h];exact Qxx _ (Qqj ..)
 obtain⟨a,ha,rfl⟩:=Qw9.mp hm;have:=Qxz List.length h;unfold o9 at this;rw[Qqv,Qq1,Qqw] at this;exact⟨a,rfl,ha,by omega⟩
theorem RQ(ρ:Rl)(s:St)(a:Nat):(stp ρ s a).1.2=[a]:=by
 cases ρ with
 | put c l r=>rfl
 | chg al kvs l r=>
  obtain⟨b,h⟩:=s;cases h<;>rfl
theorem RV{ps:List rN.Pr}(hp:0<ps.length){env:Ev.Env}{wy l r:D}(h:env[0]? = some (Zf (.tup [wy,.tup (ps.map encC),l,r]))):aF oW (aF dF (aF dF (az dF 0 (Zi 1)) (Zi 0)) (Zi 0)) (Zw []) env = .ok (.bl false) env:=by
 match ps,hp with
 | p::ps,_=>
  refine bO (x:=.str [p.1]) ?_ rfl rfl;refine bO (x:=encC p) ?_ rfl rfl;refine bO (x:=.tup ((p::ps).map encC)) ?_ rfl (uq (j:=0) rfl);exact bZ h rfl h rfl
section
variable{x:List Nat}{R:D}{ρ:Rl}(hx:x∈XS)(hR:Is x R ρ)
include hx hR
theorem one_sign{s:St}(hs:nC x s){a:Nat}(ha:a∈35::x) :
  (jD [R]=some (.bl true)/\cV [R,bC s,.str [a]]=some (.tup [bC (stp ρ s a).1,.str (stp ρ s a).2]))\/(jD [R]=some (.bl false)/\cY [R,bC s,.str [a]]=some (.tup [bC (stp ρ s a).1,.str (stp ρ s a).2])):=by
 cases hR with
 | put hc hl hr=>exact .inl ⟨rfl,PB hx hl hr _ _ s.1 s.2 hs.1 a ha⟩
 | chg hp hd hk hl hr=>
  rename_i al ps kvs l r;refine .inr ⟨?_,?_⟩
  ·exact dW (bT (RV hp rfl))
  ·obtain⟨b,h⟩:=s
   match h,hs with
   | [],hs=>exact Wl _ _ _ _ _ _
   | [s],hs=>exact PJ hx hl hr al hk _ hd b s (hs.2 s (Qqj ..)) a ha
   | _::_::_,hs=>exact absurd hs.1 (by simp)
noncomputable def Px:bH:=lH.iB
theorem Uc{s:St}(hs:nC x s){a:Nat}(ha:a∈35::x)(A2 a6 a7:OD)(ps:List D)(hp:ps.length<=400)(t:Bool) :
  ∃u,Px [Zf R,Zf (bC s),A2,Zl ps,Zb t,Zs [a],a6,a7] = .nx [Zf R,(Zf (bC (stp ρ s a).1)),A2,(Zl (ps++[.str (stp ρ s a).2])),Zb (t||u),Zs [a],Zs s.2,(Zs ((stp ρ s a).2))]:=by
 obtain⟨u,hu⟩:∃u,zY (.str (stp ρ s a).2) (.str s.2)=some (.bl u):=⟨_,rfl⟩;refine⟨u,?_⟩;have h1:=one_sign hx hR hs ha;generalize hq:(stp ρ s a).2=q at *;generalize hs':(stp ρ s a).1=s' at *;unfold Px;refine(aC rfl).trans ?_;refine(aC (e:=[Zf R,Zf (bC s'),A2,Zl ps,Zb t,Zs [a],Zs s.2,Zs q]) ?_).trans ?_
 ·rcases h1 with ⟨g1,g2⟩|⟨g1,g2⟩
  ·refine(ie (ig (aL rfl g1))).trans ?_;exact bF (aL rfl g2) rfl
  ·refine(fP (ig (aL rfl g1))).trans ?_;exact bF (aL rfl g2) rfl
 refine(aC (e:=[Zf R,Zf (bC s'),A2,Zl ps,Zb (t||u),Zs [a],Zs s.2,Zs q]) ?_).trans ?_
 ·refine bF (Wd rfl ?_) rfl;exact bZ rfl rfl rfl hu
 ·exact(cD (i:=3) (e:=[Zf R,Zf (bC s'),A2,Zl ps,Zb (t||u),Zs [a],Zs s.2,Zs q]) rfl rfl rfl (Qxq hp (by decide))).trans rfl
theorem read_signs{s:St}(hs:nC x s){z:List Nat}(hz:∀a∈z,a∈35::x)(hn:z.length<=150):∃t,gU [R,bC s,.str z]=some (.tup [bC (rd ρ s z).1,.str (rd ρ s z).2,.bl t]):=by
 obtain⟨e',f1,hd,dz,pl,t,a5,a6,a7,e1,hdz,e2,e3,e4,rfl⟩:=qp (g:=ak 5) (o9 z)
  (λdone env=>done.length<=z.length/\∃dz pl t a5 a6 a7,done=o9 dz/\(∀a∈dz,a∈35::x)/\pl.flatten=(rd ρ s dz).2/\pl.length=done.length/\(∀q∈pl,q.length<=2)/\env=[Zf R,(Zf (bC (rd ρ s dz).1)),Zs z,Zl (pl.map .str),Zb t,a5,a6,a7])
  (λdone d rest hall env ⟨hd,dz,pl,t,a5,a6,a7,e1,hdz,e2,e3,e4,he⟩=>by
   subst he;obtain⟨a,rfl,ha,hl⟩:=Cw hall;have hok:=Fp hR dz hs hdz;have hst:=Pb hR hok.1 (hz a ha);obtain⟨u,hb⟩:=Uc hx hR hok.1 (hz a ha) (Zs z) a6 a7 (pl.map .str) (by rw[Qqv];omega) t;refine⟨_,_,rfl,hb,by rw[Qq1,Qx0];omega,dz++[a],pl++[(stp ρ (rd ρ s dz).1 a).2],(t||u),Zs [a],(Zs ((rd ρ s dz).1.2)),(Zs ((stp ρ (rd ρ s dz).1 a).2)),by rw[xV,e1],?_,?_,?_,?_,?_⟩
   ·intro b hb;rcases Qw4.mp hb with hb|hb
    ·exact hdz b hb
    ·rw[Qq5.mp hb];exact hz a ha
   ·rw[xE,List.flatten_append,e2];simp
   ·rw[Qq1,Qq1,e3]
    rfl
   ·intro q hq;rcases Qw4.mp hq with hq|hq
    ·exact e4 q hq
    ·rw[Qq5.mp hq];exact hst.2.1
   ·rw[xE,Qz4]
    rfl)
  [Zf R,Zf (bC s),Zs z,Zl [],Zb false,Zn,Zn,Zn] ⟨Qxy _,[],[],false,Zn,Zn,Zn,rfl,λa ha=>by simp at ha,rfl,rfl,λq hq=>by simp at hq,rfl⟩
 have hzz:=xD e1;subst hzz;refine⟨t,dW (env:=[Zf R,(Zf (bC (rd ρ s z).1)),Zs z,Zl (pl.map .str),Zb t,a5,a6,a7]) ?_⟩;unfold fZ;refine(aC rfl).trans ?_;refine(aC rfl).trans ?_;refine(aC ((gF rfl).trans f1)).trans ?_;have hj:qG (.str []) (.lst (pl.map .str))=some (.str (rd ρ s z).2):=by rw[rN.adQ (by rw[e3];omega) e4,e2]
 exact bT (cW (aP rfl (aP (bO rfl rfl hj) (aP rfl bI))) Ev.zz3)
noncomputable def Dp:bH:=(aB (aN (qJ (aK 3) (ao cB (aa (az dF 0 (Zi 3)) (Zv 6 aj)))) (ak 7)) (aB (dJ (eY (aF oW (aF dF (aF dF (az dF 0 (Zi 1)) (Zi 0)) (Zi 0)) (Zw []))) (aB (aN (aF du (az du 5 (bf 4)) (aF vQ (aF dF (aF dF (az dF 0 (Zi 1)) (Zi 0)) (Zi 1)) (ao Bq (aa (bf 7) aj)))) (ak 5)) (aN (ao cB (aa (az dF 0 (Zi 2)) (Zv 6 aj))) (ak 3))) (dJ (eY (az zY 4 (Zw []))) (aB (aN (aK 4) (ak 8)) (aB (dJ (eY (aK 7)) (aN (rG (ao qH (aa (az dF 0 (Zi 1)) aj)) (aK 4) (aK 4)) (ak 8)) bU) (aB (aN (az du 5 (bf 8)) (ak 5)) (dJ (eY (aF oW (az dF 0 (Zi 0)) (Zw [111,110,99,101]))) (aN (ao cB (aa (az dF 0 (Zi 2)) (Zv 4 aj))) (ak 3)) (dJ (eY (az zY 8 (Zw []))) (aN (ao cB (aa (az dF 0 (Zi 2)) (Zv 8 aj))) (ak 3)) bU))))) bU)) (aN (aK 6) (ak 4))))
theorem Vx{b:Bool}{h:List Nat}(hs:nC x (b,h)){a:Nat}(ha:a∈35::x)(A1 A2 a7 a8:OD)(p:List Nat)(hp:p.length<=900) :
  ∃b7 b8,Dp [Zf R,A1,A2,Zb b,Zs h,Zs p,Zs [a],a7,a8] = .nx [Zf R,A1,A2,(Zb ((stp ρ (b,h) a).1.1)),Zs [a],(Zs (p++(stp ρ (b,h) a).2)),Zs [a],b7,b8]:=by
 cases hR with
 | put hc hl hr=>
  rename_i wy l r c;have fl:=fc x hx l hl a ha;have fr:=fc x hx r hr a ha;have hh:h.length<=1:=hs.1;refine⟨(Zb (b&&fit r a)),a8,?_⟩;show _=Ev.Out.nx [Zf (.tup [wy,.tup [.tup [.str [],.str [c]]],l,r]),A1,A2,Zb (fit l a),Zs [a],(Zs (p++(h++(if (b&&fit r a)=true then [c] else [])))),Zs [a],Zb (b&&fit r a),a8];unfold Dp;refine(aC (e:=[Zf (.tup [wy,.tup [.tup [.str [],.str [c]]],l,r]),A1,A2,Zb b,Zs h,Zs p,Zs [a],Zb (b&&fit r a),a8]) ?_).trans ?_
  ·exact bF (G3 rfl (aL rfl fr)) rfl
  refine(aC (e:=[Zf (.tup [wy,.tup [.tup [.str [],.str [c]]],l,r]),A1,A2,Zb (fit l a),Zs h,(Zs (p++(h++(if (b&&fit r a)=true then [c] else [])))),Zs [a],Zb (b&&fit r a),a8]) ?_).trans rfl;refine(ie rfl).trans ?_;refine(aC (e:=[Zf (.tup [wy,.tup [.tup [.str [],.str [c]]],l,r]),A1,A2,Zb b,Zs h,(Zs (p++(h++(if (b&&fit r a)=true then [c] else [])))),Zs [a],Zb (b&&fit r a),a8]) ?_).trans ?_
  ·refine bF (e:=[Zf (.tup [wy,.tup [.tup [.str [],.str [c]]],l,r]),A1,A2,Zb b,Zs h,Zs p,Zs [a],Zb (b&&fit r a),a8]) ?_ rfl;rw[<-Qwj];refine bO (e1:=[Zf (.tup [wy,.tup [.tup [.str [],.str [c]]],l,r]),A1,A2,Zb b,Zs h,Zs p,Zs [a],Zb (b&&fit r a),a8]) ?_ ?_ (lR ?_)
   ·exact bZ rfl rfl rfl (lR (by omega))
   ·refine bO rfl rfl ?_;cases(b&&fit r a)<;>rfl
   ·rw[Qq1];split
    ·rw[Qx0];omega
    ·rw[Qz8];omega
  ·exact bF (aL rfl fl) rfl
 | chg hps hd hk hl hr=>
  rename_i al ps kvs l r;have fr:=fc x hx r hr a ha;have hf:∀h p,aN (qJ (aK 3) (ao cB (aa (az dF 0 (Zi 3)) (Zv 6 aj)))) (ak 7) [(Zf (.tup [j4 al,.tup (ps.map encC),l,r])),A1,A2,Zb b,Zs h,Zs p,Zs [a],a7,a8] = .nx [(Zf (.tup [j4 al,.tup (ps.map encC),l,r])),A1,A2,Zb b,Zs h,Zs p,Zs [a],Zb (b&&fit r a),a8]:=λh p=>
   bF (G3 rfl (aL rfl fr)) rfl
  have hq:∀h p,eY (aF oW (aF dF (aF dF (az dF 0 (Zi 1)) (Zi 0)) (Zi 0)) (Zw [])) [(Zf (.tup [j4 al,.tup (ps.map encC),l,r])),A1,A2,Zb b,Zs h,Zs p,Zs [a],Zb (b&&fit r a),a8] = .ok false [(Zf (.tup [j4 al,.tup (ps.map encC),l,r])),A1,A2,Zb b,Zs h,Zs p,Zs [a],Zb (b&&fit r a),a8]:=by intro h p;exact ig (RV hps rfl)
  match h,hs with
  | [],hs=>
   refine⟨(Zb (b&&fit r a)),a8,?_⟩;show _=Ev.Out.nx [(Zf (.tup [j4 al,.tup (ps.map encC),l,r])),A1,A2,Zb b,Zs [a],Zs (p++[]),Zs [a],Zb (b&&fit r a),a8];rw[Qw0];unfold Dp;refine(aC (hf _ _)).trans ?_;refine(aC (e:=[(Zf (.tup [j4 al,.tup (ps.map encC),l,r])),A1,A2,Zb b,Zs [],Zs p,Zs [a],Zb (b&&fit r a),a8]) ?_).trans rfl;exact(fP (hq _ _)).trans ((fP rfl).trans rfl)
  | [s],hs=>
   have hsm:=hs.2 s (Qqj ..);have fs:=fc x hx l hl s hsm;have ho:=Kh hk s hsm (b&&fit r a);show ∃b7 b8,_=Ev.Out.nx [(Zf (.tup [j4 al,.tup (ps.map encC),l,r])),A1,A2,(Zb (nrC al l s b (Fy kvs s (b&&fit r a)))),Zs [a],(Zs (p++(Fy kvs s (b&&fit r a)))),Zs [a],b7,b8];have hP:Fy kvs s (b&&fit r a)=if (b&&fit r a)=true then (look kvs s).getD [s] else [s]:=rfl
   generalize Fy kvs s (b&&fit r a)=q at *;refine⟨(Zb (b&&fit r a)),Zs q,?_⟩;unfold Dp;refine(aC (hf _ _)).trans ?_;refine(aC (e:=[(Zf (.tup [j4 al,.tup (ps.map encC),l,r])),A1,A2,Zb (nrC al l s b q),Zs [s],Zs (p++q),Zs [a],Zb (b&&fit r a),Zs q]) ?_).trans rfl;refine(fP (hq _ _)).trans ((ie rfl).trans ?_);refine(aC rfl).trans ?_;refine(aC (e:=[(Zf (.tup [j4 al,.tup (ps.map encC),l,r])),A1,A2,Zb b,Zs [s],Zs p,Zs [a],Zb (b&&fit r a),Zs q]) ?_).trans ?_
   ·cases hc:b&&fit r a with
    | true=>
     rw[hc] at hP;rw[if_pos rfl] at hP;rw[hP];exact(ie rfl).trans (bF (Bu (aL rfl hd) rfl rfl (ad5 hk s)) rfl)
    | false=>
     rw[hc] at hP;rw[if_neg Qxk] at hP;rw[hP];exact(fP rfl).trans rfl
   refine(aC (e:=[(Zf (.tup [j4 al,.tup (ps.map encC),l,r])),A1,A2,Zb b,Zs [s],Zs (p++q),Zs [a],Zb (b&&fit r a),Zs q]) ?_).trans ?_
   ·exact bF (bZ rfl rfl rfl (lR (by have:=ho.1;omega))) rfl
   cases al with
   | false=>
    refine(ie rfl).trans ?_;exact bF (aL rfl fs) rfl
   | true=>
    refine(fP rfl).trans ?_
    match q,ho with
    | [],_=>rfl
    | [u],ho=>
     have fu:=fc x hx l hl u (ho.2 u (Qqj ..));refine(ie rfl).trans ?_;exact bF (aL rfl fu) rfl
    | _::_::_,ho=>exact absurd ho.1 (by simp)
  | _::_::_,hs=>exact absurd hs.1 (by simp)
theorem yN{s:St}(hs:nC x s){z:List Nat}(hz:∀a∈z,a∈35::x)(hn:z.length<=150):eG [R,bC s,.str z]=some (.tup [bC (rd ρ s z).1,.str (rd ρ s z).2]):=by
 obtain⟨e',f1,hd,dz,a6,a7,a8,e1,hdz,rfl⟩:=qp (g:=ak 6) (o9 z)
  (λdone env=>done.length<=z.length/\∃dz a6 a7 a8,done=o9 dz/\(∀a∈dz,a∈35::x)/\env=[Zf R,Zf (bC s),Zs z,(Zb ((rd ρ s dz).1.1)),(Zs ((rd ρ s dz).1.2)),(Zs ((rd ρ s dz).2)),a6,a7,a8])
  (λdone d rest hall env ⟨hd,dz,a6,a7,a8,e1,hdz,he⟩=>by
   subst he;obtain⟨a,rfl,ha,hl⟩:=Cw hall;have hok:=Fp hR dz hs hdz;have hdl:dz.length=done.length:=by rw[e1];unfold o9;rw[Qqv]
   obtain⟨b7,b8,hb⟩:=Vx hx hR hok.1 (hz a ha) (Zf (bC s)) (Zs z) a7 a8 (rd ρ s dz).2 (by have:=hok.2.1;omega);refine⟨_,_,rfl,hb,by rw[Qq1,Qx0];omega,dz++[a],Zs [a],b7,b8,by rw[xV,e1],?_,?_⟩
   ·intro b hb;rcases Qw4.mp hb with hb|hb
    ·exact hdz b hb
    ·rw[Qq5.mp hb];exact hz a ha
   ·rw[xE];show _=[_,_,_,_,(Zs ((stp ρ (rd ρ s dz).1 a).1.2)),_,_,_,_];rw[RQ])
  [Zf R,Zf (bC s),Zs z,Zb s.1,Zs s.2,Zs [],Zn,Zn,Zn] ⟨Qxy _,[],Zn,Zn,Zn,rfl,λa ha=>by simp at ha,rfl⟩
 have hzz:=xD e1;subst hzz;refine dW (env:=[Zf R,Zf (bC s),Zs z,(Zb ((rd ρ s z).1.1)),(Zs ((rd ρ s z).1.2)),(Zs ((rd ρ s z).2)),a6,a7,a8]) ?_;unfold gW;refine(aC rfl).trans ?_;refine(aC rfl).trans ?_;refine(aC ((gF rfl).trans f1)).trans ?_
 rfl
end
theorem Br{g:GV}{b:bH}{d:D}{ds:List D}{env e1 e2:Ev.Env}(h1:g d env=some e1)(h2:b e1 = .nx e2):jh g b (d::ds) env=jh g b ds e2:=by
 conv=>lhs;unfold jh
 rw[h1];simp only;rw[h2]
noncomputable def tn:D->D
 | .tup [wy,ch,l,r]=>.tup [wy,ch,r,l]
 | d=>d
noncomputable def lf:D->D
 | .tup [_,_,l,_]=>l
 | d=>d
noncomputable def rt:D->Bool
 | .str (114::_)=>true
 | _=>false
noncomputable def lay(s:D)(Rs:List D):List D:=if rt s=true then Rs.map tn else Rs
theorem O7{x:List Nat}{R:D}(h:fG x R):fG x (tn R)/\jU [R]=some (tn R)/\gV [R]=some (tn R):=by obtain⟨wy,ch,l,r,rfl,h1,h2,h3,h4⟩:=h;exact⟨⟨wy,ch,r,l,rfl,h1,h2,h4,h3⟩,rfl,rfl⟩
theorem n8(s:D)(Rs:List D):(lay s Rs).length=Rs.length:=by
 unfold lay;split
 ·rw[Qqv]
 ·rfl
theorem yM{x:List Nat}{s:D}{Rs:List D}(h:∀R∈Rs,fG x R):∀R∈lay s Rs,fG x R:=by
 unfold lay;split
 ·intro R hR;obtain⟨Q,hQ,rfl⟩:=Qw9.mp hR;exact(O7 (h Q hQ)).1
 ·exact h
noncomputable def qD(x:List Nat)(R:D):Rl:=open Classical in if h:∃ρ,Is x R ρ then h.choose else .put 0 .non .non
theorem yf{x:List Nat}{R:D}(h:fG x R):Is x R (qD x R):=by unfold qD;rw[dif_pos (RJ h)];exact(RJ h).choose_spec
noncomputable def lK(x:List Nat):List D->List St->List Nat->List St×List Nat
 | R::Rs,s::ss,z=>((rd (qD x R) s z).1::(lK x Rs ss (rd (qD x R) s z).2).1,(lK x Rs ss (rd (qD x R) s z).2).2)
 | _,_,z=>([],z)
noncomputable def qI(Rs:List D):List St:=Rs.map λR=>(fit (lf R) 35,[])
section
variable{x:List Nat}{s:D}(hx:x∈XS)(hs:s∈sides){Rs:List D}(hR:∀R∈Rs,fG x R)(h4:Rs.length<=10)
include hx hs hR h4
theorem reading_rules:cM [.tup [s,.tup Rs]]=some (.tup (lay s Rs)):=by
 rcases Qq7.mp hs with rfl|hs
 ·rfl
 ·cases Qq5.mp hs;obtain⟨env',g1,v5,rfl⟩:=n6 (g:=ak 3) (e:=ao jU (Zv 3 aj)) (λenv=>∃v5,env=[Zf (.tup [.str [114,105,103,104,116],.tup Rs]),Zs [114,105,103,104,116],Zf (.tup Rs),v5]) tn Rs
   [Zf (.tup [.str [114,105,103,104,116],.tup Rs]),Zs [114,105,103,104,116],Zf (.tup Rs),Zn] ⟨none,rfl⟩
   (λd hd env ⟨v5,he⟩=>by
    subst he;exact⟨[Zf (.tup [.str [114,105,103,104,116],.tup Rs]),Zs [114,105,103,104,116],Zf (.tup Rs),Zf d],_,rfl,aL rfl (O7 (hR d hd)).2.1,_,rfl⟩)
  refine dW (env:=[Zf (.tup [.str [114,105,103,104,116],.tup Rs]),Zs [114,105,103,104,116],Zf (.tup Rs)]) ?_;unfold cG;refine(aC rfl).trans ?_;refine(sO ?_).trans rfl;refine(ie rfl).trans ?_;refine bT (aL (ds:=[.lst (Rs.map tn)]) (aP ?_ bI) rfl);exact kE (n:=4) (aG:=[Zf (.tup [.str [114,105,103,104,116],.tup Rs]),Zs [114,105,103,104,116],Zf (.tup Rs)]) rfl rfl g1 (by rw[Qqv];exact Qq4 h4 (by decide))
theorem Gr:iJ [.tup [s,.tup Rs]]=some (.lst (lay s Rs)):=by
 rcases Qq7.mp hs with rfl|hs
 ·rfl
 ·cases Qq5.mp hs;obtain⟨env',g1,v5,rfl⟩:=n6 (g:=ak 1) (e:=ao gV (Zv 1 aj)) (λenv=>∃v5,env=[Zf (.tup [.str [114,105,103,104,116],.tup Rs]),v5]) tn Rs
   [Zf (.tup [.str [114,105,103,104,116],.tup Rs]),Zn] ⟨none,rfl⟩
   (λd hd env ⟨v5,he⟩=>by
    subst he;exact⟨[Zf (.tup [.str [114,105,103,104,116],.tup Rs]),Zf d],_,rfl,aL rfl (O7 (hR d hd)).2.2,_,rfl⟩)
  refine dW (env:=[Zf (.tup [.str [114,105,103,104,116],.tup Rs])]) ?_;unfold oG;refine(aC ((fP (by rfl)).trans rfl)).trans ?_;refine bT ?_;exact kE (n:=2) (aG:=[Zf (.tup [.str [114,105,103,104,116],.tup Rs])]) rfl rfl g1 (by rw[Qqv];exact Qq4 h4 (by decide))
theorem first_standing:eN [.tup [s,.tup Rs]]=some (.tup ((qI (lay s Rs)).map bC)):=by
 have h1:=reading_rules hx hs hR h4;have h2:=yM (s:=s) hR;have h3:=n8 s Rs;generalize lay s Rs=Ls at *;generalize D.tup [s,.tup Rs]=O at *;obtain⟨env',g1,v1,v2,v3,v4,rfl⟩:=n6 (g:=cP 4 (aO (ak 1) (aO (ak 2) (aO (ak 3) (aO (ak 4) cQ))))) (e:=bN (aa (ao gn (Zv 3 (aa (Zw [35]) aj))) (aa (Zw []) aj))) (λenv=>∃v1 v2 v3 v4,env=[Zf O,v1,v2,v3,v4]) (λR=>bC (fit (lf R) 35,[])) Ls
  [Zf O,Zn,Zn,Zn,Zn] ⟨none,Zn,Zn,Zn,rfl⟩
  (λd hd env ⟨v1,v2,v3,v4,he⟩=>by
   subst he;obtain⟨wy,ch,l,r,rfl,hro⟩:=h2 d hd;exact⟨[Zf O,Zf wy,Zf ch,Zf l,Zf r],[Zf O,Zf wy,Zf ch,Zf l,Zf r],rfl,cW (aP (aL rfl (fc x hx l hro.left 35 (Qqj ..))) rfl) Ev.Ht,_,_,_,_,rfl⟩)
 refine dW (env:=[Zf O]) (bT (aL (ds:=[.lst (Ls.map λR=>bC (fit (lf R) 35,[]))]) (aP ?_ bI) ?_))
 ·exact kE (n:=5) (aG:=[Zf O]) (lX (aL rfl h1) rfl) rfl g1 (by rw[Qqv,h3];exact Qq4 h4 (by decide))
 ·unfold qI;rw[Qj2]
  rfl
theorem M8:jV [.tup [s,.tup Rs]]=some (.tup ((qI (lay s Rs)).map bC)):=by
 have h1:=Gr hx hs hR h4;have h2:=yM (s:=s) hR;have h3:=n8 s Rs;generalize lay s Rs=Ls at *;generalize D.tup [s,.tup Rs]=O at *;obtain⟨env',g1,v1,rfl⟩:=n6 (g:=ak 1) (e:=bN (aa (ao cB (aa (az dF 1 (Zi 2)) (aa (Zw [35]) aj))) (aa (Zw []) aj))) (λenv=>∃v1,env=[Zf O,v1]) (λR=>bC (fit (lf R) 35,[])) Ls
  [Zf O,Zn] ⟨none,rfl⟩
  (λd hd env ⟨v1,he⟩=>by
   subst he;obtain⟨wy,ch,l,r,rfl,hro⟩:=h2 d hd;exact⟨[Zf O,Zf (.tup [wy,ch,l,r])],[Zf O,Zf (.tup [wy,ch,l,r])],rfl,cW (aP (aL rfl (fc x hx l hro.left 35 (Qqj ..))) rfl) Ev.Ht,_,rfl⟩)
 refine dW (env:=[Zf O]) (bT (aL (ds:=[.lst (Ls.map λR=>bC (fit (lf R) 35,[]))]) (aP ?_ bI) ?_))
 ·exact kE (n:=2) (aG:=[Zf O]) (lX (aL rfl h1) rfl) rfl g1 (by rw[Qqv,h3];exact Qq4 h4 (by decide))
 ·unfold qI;rw[Qj2]
  rfl
end
theorem abb(x:List Nat)(Rs:List D):∀s∈qI Rs,nC x s:=by intro s hs;obtain⟨R,_,rfl⟩:=Qw9.mp hs;exact⟨Qxy _,λc hc=>by simp at hc⟩
noncomputable def Hy:bH:=lH.jL
noncomputable def Dm:bH:=aB (aN (ao eG (Zv 5 (Zv 6 (Zv 3 aj)))) (cP 2 (aO (ak 7) (aO (ak 3) cQ)))) (fM 4 (aK 7))
section
variable{x:List Nat}(hx:x∈XS)
theorem K9{n m k:Nat}(h:(n+2)*2^(k+1)<=150)(hm:m<=2*(n+1)):(m+2)*2^k<=150/\n<=73:=by
 have h1:(n+2)*2^(k+1)=(2*(n+1)+2)*2^k:=by
  rw[Nat.pow_succ,<-Nat.mul_assoc,Nat.mul_right_comm]
  congr 1
  omega
 have h2:(m+2)*2^k<=(2*(n+1)+2)*2^k:=Nat.mul_le_mul_right _ (by omega);have h3:1<=2^k:=Nat.one_le_two_pow;have h4:2*(n+1)+2<=(2*(n+1)+2)*2^k:=Nat.le_mul_of_pos_right _ h3;omega
include hx
theorem W9(A0 A1 A2:OD):∀(Rs:List D) (ss:List St) (z:List Nat) (acc ts:List D) (v6 v7 v8 v9:OD),Rs.length=ss.length->(∀R∈Rs,fG x R)->(∀s∈ss,nC x s)->(∀a∈z,a∈35::x)->(z.length+2)*2^Rs.length<=150->acc.length+Rs.length<=100->ts.length+Rs.length<=100->
  ∃us w6 w7 w8 w9,jh (cP 2 (aO (ak 6) (aO (ak 7) cQ))) Hy (rR Rs (ss.map bC)) [A0,A1,A2,Zs z,Zl acc,Zl ts,v6,v7,v8,v9] = .nx [A0,A1,A2,(Zs ((lK x Rs ss z).2)),(Zl (acc++(lK x Rs ss z).1.map bC)),Zl us,w6,w7,w8,w9]/\(∀s∈(lK x Rs ss z).1,nC x s)/\(lK x Rs ss z).1.length=Rs.length/\us.length<=100
 | [],[],z,acc,ts,v6,v7,v8,v9,_,_,_,_,_,_,ht=>by
  refine⟨ts,v6,v7,v8,v9,?_,λs hs=>by simp[lK] at hs,rfl,ht⟩;show Ev.Out.nx _=Ev.Out.nx [A0,A1,A2,Zs z,Zl (acc++[]),Zl ts,v6,v7,v8,v9];rw[Qw0]
 | [],_::_,_,_,_,_,_,_,_,h,_,_,_,_,_,_=>by simp at h
 | _::_,[],_,_,_,_,_,_,_,h,_,_,_,_,_,_=>by simp at h
 | R::Rs,s::ss,z,acc,ts,v6,v7,v8,v9,h,hR,hS,hz,hn,ha,ht=>by
  have hRi:=yf (hR R (Qqj ..));have hso:=hS s (Qqj ..);obtain⟨o1,o2,o3⟩:=Fp hRi z hso hz;obtain⟨n1,n2⟩:=K9 hn (m:=(rd (qD x R) s z).2.length) (by omega);obtain⟨t,hrs⟩:=read_signs hx hRi hso hz (by omega);rw[Qqw] at ha ht;obtain⟨us,w6,w7,w8,w9,g1,g2,g3,g4⟩:=W9 A0 A1 A2 Rs ss (rd (qD x R) s z).2 (acc++[bC (rd (qD x R) s z).1]) (ts++[.bl t]) (Zf R) (Zf (bC s)) (Zf (bC (rd (qD x R) s z).1)) (Zb t) (by simpa using h) (λQ hQ=>hR Q (Qqk _ hQ)) (λq hq=>hS q (Qqk _ hq)) o3 n1 (by rw[Qq1,Qx0];omega) (by rw[Qq1,Qx0];omega);refine⟨us,w6,w7,w8,w9,?_,?_,?_,g4⟩
  ·show jh _ Hy (.tup [R,bC s]::rR Rs (ss.map bC)) _=Ev.Out.nx [A0,A1,A2,(Zs ((lK x Rs ss (rd (qD x R) s z).2).2)),(Zl (acc++(bC (rd (qD x R) s z).1::(lK x Rs ss (rd (qD x R) s z).2).1.map bC))),Zl us,w6,w7,w8,w9];rw[Br rfl ?_,g1,Qwj]
   ·rfl
   ·generalize(rd (qD x R) s z).2=q at *;generalize(rd (qD x R) s z).1=s' at *;unfold Hy;refine(aC (bF (aL rfl hrs) rfl)).trans ?_;refine(aC (e:=[A0,A1,A2,Zs q,Zl (acc++[bC s']),Zl ts,Zf R,Zf (bC s),Zf (bC s'),Zb t]) ?_).trans ?_
    ·exact(cD (i:=4) (e:=[A0,A1,A2,Zs q,Zl acc,Zl ts,Zf R,Zf (bC s),Zf (bC s'),Zb t]) rfl rfl rfl (Qxq (show acc.length<=100 by omega) (by decide))).trans rfl
    ·exact(cD (i:=5) (e:=[A0,A1,A2,Zs q,Zl (acc++[bC s']),Zl ts,Zf R,Zf (bC s),Zf (bC s'),Zb t]) rfl rfl rfl (Qxq (show ts.length<=100 by omega) (by decide))).trans rfl
  ·intro q hq;rcases Qq7.mp (show q∈(rd (qD x R) s z).1::(lK x Rs ss (rd (qD x R) s z).2).1 from hq) with rfl|hq
   ·exact o1
   ·exact g2 q hq
  ·show(_::(lK x Rs ss (rd (qD x R) s z).2).1).length=_;rw[Qqw,g3,Qqw]
theorem Rk(A0 A1 A2:OD):∀(Rs:List D) (ss:List St) (z:List Nat) (acc:List D) (v6 v7 v8:OD),Rs.length=ss.length->(∀R∈Rs,fG x R)->(∀s∈ss,nC x s)->(∀a∈z,a∈35::x)->(z.length+2)*2^Rs.length<=150->acc.length+Rs.length<=100->
  ∃w6 w7 w8,jh (cP 2 (aO (ak 5) (aO (ak 6) cQ))) Dm (rR Rs (ss.map bC)) [A0,A1,A2,Zs z,Zl acc,v6,v7,v8] = .nx [A0,A1,A2,(Zs ((lK x Rs ss z).2)),(Zl (acc++(lK x Rs ss z).1.map bC)),w6,w7,w8]
 | [],[],z,acc,v6,v7,v8,_,_,_,_,_,_=>by
  refine⟨v6,v7,v8,?_⟩;show Ev.Out.nx _=Ev.Out.nx [A0,A1,A2,Zs z,Zl (acc++[]),v6,v7,v8];rw[Qw0]
 | [],_::_,_,_,_,_,_,h,_,_,_,_,_=>by simp at h
 | _::_,[],_,_,_,_,_,h,_,_,_,_,_=>by simp at h
 | R::Rs,s::ss,z,acc,v6,v7,v8,h,hR,hS,hz,hn,ha=>by
  have hRi:=yf (hR R (Qqj ..));have hso:=hS s (Qqj ..);obtain⟨o1,o2,o3⟩:=Fp hRi z hso hz;obtain⟨n1,n2⟩:=K9 hn (m:=(rd (qD x R) s z).2.length) (by omega);have hrs:=yN hx hRi hso hz (by omega);rw[Qqw] at ha;obtain⟨w6,w7,w8,g1⟩:=Rk A0 A1 A2 Rs ss (rd (qD x R) s z).2 (acc++[bC (rd (qD x R) s z).1]) (Zf R) (Zf (bC s)) (Zf (bC (rd (qD x R) s z).1)) (by simpa using h) (λQ hQ=>hR Q (Qqk _ hQ)) (λq hq=>hS q (Qqk _ hq)) o3 n1 (by rw[Qq1,Qx0];omega);refine⟨w6,w7,w8,?_⟩;show jh _ Dm (.tup [R,bC s]::rR Rs (ss.map bC)) _=Ev.Out.nx [A0,A1,A2,(Zs ((lK x Rs ss (rd (qD x R) s z).2).2)),(Zl (acc++(bC (rd (qD x R) s z).1::(lK x Rs ss (rd (qD x R) s z).2).1.map bC))),w6,w7,w8];rw[Br rfl ?_,g1,Qwj]
  ·rfl
  ·generalize(rd (qD x R) s z).2=q at *;generalize(rd (qD x R) s z).1=s' at *;unfold Dm;refine(aC (bF (aL rfl hrs) rfl)).trans ?_;exact(cD (i:=4) (e:=[A0,A1,A2,Zs q,Zl acc,Zf R,Zf (bC s),Zf (bC s')]) rfl rfl rfl (Qxq (show acc.length<=100 by omega) (by decide))).trans rfl
end
open rN (XS sides lG lR Ar)
open iW (DW j8 Eb PV SG NT prs one others Kg Dz Dt QD lM Ea qi DG)
open rN (Dc)
noncomputable def Rg(i:Int):Int:=i*915965594177219015054603514932384110774149374281672134266497 % 10^60
theorem Vr(i:Int):(Rg i).natAbs<2^200:=by
 unfold Rg;have h1:0<=i*915965594177219015054603514932384110774149374281672134266497 % 10^60:=Int.emod_nonneg _ (by decide);have h2:i*915965594177219015054603514932384110774149374281672134266497 % 10^60<10^60:=Int.emod_lt_of_pos _ (by decide);have h3:(10:Int)^60<=2^200:=by decide
 omega
theorem mixed{i:Int}(h:Builtin.Int.intBits i<=2^20):gM [.int i]=some (.int (Rg i)):=by
 have hm:jK i 915965594177219015054603514932384110774149374281672134266497=true:=iW.rA h (iW.qt (b:=200) (by decide)) (by decide);have e1:az rD 0 (Zi 915965594177219015054603514932384110774149374281672134266497) [Zf (.int i)] = .ok (.int (i*915965594177219015054603514932384110774149374281672134266497)) [Zf (.int i)]:=by
  show je (gI jK (λi j=>D.int (i*j)) (.int i) (.int _)) _=_;unfold gI;simp only;rw[if_pos hm]
  rfl
 show(match bw _ [Zf (.int i)] with|.rt false d _=>some d|.nx _=>some .non|_=>none)=_;rw[bT];unfold aF;rw[e1]
 rfl
noncomputable def lr:bH:=aN (aF du (az rD 2 (aF Jx (Zi 10) (Zi 60))) (ao gM (aa (aF dF (aF du (zf (aK 0) (Hr (aK 3)) (Hr (az du 3 (Zi 1)))) (cu (aa (aF du (aF rD (Zi 7919) (bf 3)) (Zi 61)) aj))) (Zi 0)) aj))) (ak 2)
theorem Bg(ns:List Int)(hl:ns.length<=63)(hb:Oi ns)(k a f:Int)(ha:a.natAbs<2^10)(hf:Builtin.Int.intBits f<=2^20) :
  ∃f':Int,lr [Zf (.arr (ns.map .int)),Zf (.int k),Zf (.int f),Zf (.int a)] = .nx [Zf (.arr (ns.map .int)),Zf (.int k),Zf (.int f'),Zf (.int a)]/\(f=0->f'.natAbs<2^200):=by
 generalize hE:([Zf (.arr (ns.map .int)),Zf (.int k),Zf (.int f),Zf (.int a)]:Ev.Env)=env;have m1:jK 7919 a=true:=iW.rA (a:=20) (iW.qt (by decide)) (iW.qt ha) (by decide);have m2:jK f (10^(60:Int).toNat)=true:=iW.rA (b:=200) hf (iW.qt (by decide)) (by decide);have e1:zf (aK 0) (Hr (aK 3)) (Hr (az du 3 (Zi 1))) env = .ok (.lst (cutD (ns.map .int) (some a) (some (a+1)))) env:=by rw[<-hE];rfl
 have e2:cu (aa (aF du (aF rD (Zi 7919) (bf 3)) (Zi 61)) aj) env = .ok (.lst [.int (7919*a+61)]) env:=by refine GZ (aP (bO (bO rfl (by rw[<-hE];rfl) (K1 m1)) rfl rfl) bI) Ev.zz1
 generalize hL:cutD (ns.map D.int) (some a) (some (a+1))=L at e1;have hLl:L.length<=63:=by rw[<-hL];exact Qq4 (uf _ _ _) (by rw[Qqv];exact hl)
 have e3:aF du (zf (aK 0) (Hr (aK 3)) (Hr (az du 3 (Zi 1)))) (cu (aa (aF du (aF rD (Zi 7919) (bf 3)) (Zi 61)) aj)) env = .ok (.lst (L++[.int (7919*a+61)])) env:=by exact bO e1 e2 (GK (by show L.length+1<=sizeLine;exact Qq4 (Nat.succ_le_succ hLl) (by decide)))
 obtain⟨c,hc,hcb⟩:∃c:Int,wL (L++[.int (7919*a+61)]) 0=some (.int c)/\Builtin.Int.intBits c<=2^20:=by
  cases hLc:L with
  | nil=>
   refine⟨7919*a+61,rfl,Qq4 (iW.qt (b:=30) ?_) (by decide)⟩;omega
  | cons y r=>
   have hy:y∈ns.map D.int:=iW.Wi (by rw[hL,hLc];exact Qqj ..);obtain⟨i,hi,rfl⟩:=Qw9.mp hy;exact⟨i,iW.Sy _ _,hb i hi⟩
 have e4:ao gM (aa (aF dF (aF du (zf (aK 0) (Hr (aK 3)) (Hr (az du 3 (Zi 1)))) (cu (aa (aF du (aF rD (Zi 7919) (bf 3)) (Zi 61)) aj))) (Zi 0)) aj) env = .ok (.int (Rg c)) env:=by exact aL (aP (bO e3 rfl hc) bI) (mixed hcb)
 refine⟨f*10^(60:Int).toNat+Rg c,?_,λh0=>?_⟩
 ·unfold lr;refine bF (e:=env) ?_ (by rw[<-hE];rfl);have e5:az rD 2 (aF Jx (Zi 10) (Zi 60)) env = .ok (.int (f*10^(60:Int).toNat)) env:=by
   rw[<-hE];exact bZ rfl rfl rfl (K1 m2)
  exact bO e5 e4 rfl
 ·rw[h0,Int.zero_mul,Int.zero_add];exact Vr c
theorem pack(ns:List Int)(hl:ns.length<=63)(hb:Oi ns)(k:Int)(h0:0<=k)(h1:k<=500):∃p:Int,ou [.arr (ns.map .int),.int k]=some (.lst [.int p]):=by
 obtain⟨f1,e1,b1⟩:=Bg ns hl hb k (k+1) 0 (by omega) (by decide);obtain⟨f2,e2,_⟩:=Bg ns hl hb k k f1 (by omega) (Qq4 (iW.qt (b1 rfl)) (by decide));refine⟨f2,?_⟩;have h:jG [Zf (.arr (ns.map .int)),Zf (.int k),Zn,Zn] = .rt true (.lst [.int f2]) [Zf (.arr (ns.map .int)),Zf (.int k),Zf (.int f2),Zf (.int k)]:=by
  unfold jG;refine(aC rfl).trans ?_;refine(aC (e:=[Zf (.arr (ns.map .int)),Zf (.int k),Zf (.int f2),Zf (.int k)]) ?_).trans rfl;refine(gF rfl).trans ?_;show jh (ak 3) lr [.int (k+1),.int k] _=_;unfold jh;show(match lr [Zf (.arr (ns.map .int)),Zf (.int k),Zf (.int 0),Zf (.int (k+1))] with|.nx e2=>jh (ak 3) lr [.int k] e2|.ct e2=>_|.bk e2=>_|.rt o d e2=>_|.stuck=>_)=_;rw[e1];simp only;unfold jh;show(match lr [Zf (.arr (ns.map .int)),Zf (.int k),Zf (.int f1),Zf (.int k)] with|.nx e2=>jh (ak 3) lr [] e2|.ct e2=>_|.bk e2=>_|.rt o d e2=>_|.stuck=>_)=_;rw[e2]
  rfl
 show(match jG _ with|.rt true d _=>some d|_=>none)=_;have e:envOf 4 [D.arr (ns.map .int),.int k]=[Zf (.arr (ns.map .int)),Zf (.int k),Zn,Zn]:=rfl;rw[e,h]
theorem changes(n:Int)(x:List Nat)(hx:x∈XS):∃ch n',iW.eE [.lst [.int n],.str x]=some (ch,.lst [.int n'])/\Ar x ch:=by
 obtain⟨d,hd,e⟩:=dig n 5 (by decide);have hp:=DW x hx;have hl4:=j8 x hx;have t:eY (aF oW (cX iW.aR 0 (aa (Zi 5) aj)) (Zi 0)) [Zl [.int n],Zs x,Zn,Zn,Zn,Zn] = .ok ((d:Int) == 0) [Zl [.int (n / 5)],Zs x,Zn,Zn,Zn,Zn]:=by
  rw[<-e]
  rfl
 by_cases h0:d=0
 ·subst h0;obtain⟨j,hj,ej⟩:=dig (n / 5) x.length hp;refine⟨.tup [.tup [.str [],.str [x[j]]]],n / 5 / (x.length:Int),jP (env:=[Zl [.int (n / 5 / (x.length:Int))],Zs x,Zn,Zn,Zn,Zn]) ?_ rfl,.put (Qx7 hj)⟩;unfold iW.cR;refine(sO ?_).trans rfl;refine(ie t).trans ?_;refine bT (cW (aP (cW (aP rfl (aP ?_ bI)) Ev.Ht) bI) Ev.zz1);refine bZ (y:=.int (n / 5 % (x.length:Int))) rfl ?_ rfl ?_
  ·exact iC (e1:=[Zl [.int (n / 5)],Zs x,Zn,Zn,Zn,Zn]) rfl rfl rfl (lM _ x.length hp (by omega))
  ·show(wL x (n / 5 % (x.length:Int))).map _=_;rw[ej,JM hj]
   rfl
 ·have t0:((d:Int) == 0)=false:=by rw[Qz6];omega
  rw[t0] at t;obtain⟨j,hj,ej⟩:=dig (n / 5) 3 (by decide);obtain⟨ds,hds,hl1,hl2⟩:∃ds,yd [.int (1+(j:Int))]=some ds/\0<ds.length/\ds.length<=4:=by
   have hc:j=0\/j=1\/j=2:=by omega
   rcases hc with rfl|rfl|rfl
   ·exact⟨_,rfl,by decide,by decide⟩
   ·exact⟨_,rfl,by decide,by decide⟩
   ·exact⟨_,rfl,by decide,by decide⟩
  obtain⟨e',f1,n',kvs,zs,v3,v4,v5,rfl,hk,hz1,hz2⟩:=qp (g:=ak 3) ds
   (λdone env=>∃n kvs zs v3 v4 v5,env=[Zl [.int n],Zs x,Zt (.dct kvs),v3,v4,v5]/\Eb x kvs zs/\zs.length<=done.length/\(0<done.length->0<zs.length))
   (λdone s rest hall env ⟨n,kvs,zs,v3,v4,v5,he,hk,hz1,hz2⟩=>by
    subst he;have hdl:done.length<=4:=by have:=Qxz List.length hall;rw[Qq1,Qqw] at this;omega
    have hkl:kvs.length=zs.length:=by
     have:=Qxz List.length hk.keys
     rwa [Qqv,Qqv] at this
    obtain⟨p,n',w4,w5,hpv,hb⟩:=iW.round n x hx kvs (by omega) (Zf s) v4 v5;obtain⟨zs',hk',z1,z2⟩:=hk.put hpv (Ea hpv);exact⟨_,_,rfl,hb,n',_,zs',_,_,_,rfl,hk',by rw[Qq1,Qx0];omega,λ_=>z1⟩)
   [Zl [.int (n / 5 / 3)],Zs x,Zt (.dct []),Zn,Zn,Zn] ⟨_,[],[],_,_,_,rfl,⟨rfl,.nil,λc hc=>by simp at hc,λk v h=>by simp at h⟩,Qq0 _,λh=>h⟩
  have hz3:zs.length<=4:=Qq4 hz1 hl2;have hok:Ar x (.tup (prs kvs ((il (zs.map λc=>[c])).map D.str))):=by
   obtain⟨ps,e1,e2,e3⟩:=Dc hx _ (Dt hk);have hl:ps.length=zs.length:=by rw[e2,Qqv,(gG _).length_eq,Qqv]
   rw[e1];have:=hz2 hl1;exact .chg (by omega) (by omega) e3
  refine⟨_,n',jP (env:=[Zl [.int n'],Zs x,Zt (.dct kvs),v3,v4,v5]) ?_ rfl,hok⟩;unfold iW.cR;refine(aC ((fP t).trans rfl)).trans ?_;refine(aC (e:=[Zl [.int (n / 5)],Zs x,Zt (.dct []),Zn,Zn,Zn]) rfl).trans ?_;refine(aC (e:=[Zl [.int n'],Zs x,Zt (.dct kvs),v3,v4,v5]) ?_).trans ?_
  ·refine(gF ?_).trans f1;have a1:aa (aF du (Zi 1) (cX iW.aR 0 (aa (Zi 3) aj))) aj [Zl [.int (n / 5)],Zs x,Zt (.dct []),Zn,Zn,Zn] = .ok [.int (1+n / 5 % 3)] [Zl [.int (n / 5 / 3)],Zs x,Zt (.dct []),Zn,Zn,Zn]:=by rfl
   unfold iw;rw[a1];show je (yd [.int (1+n / 5 % ((3:Nat):Int))]) _=_;rw[ej,hds]
   rfl
  ·exact Dz (DG hk hz3) _ _ _ _ _
theorem rule(n:Int)(x:List Nat)(hx:x∈XS):∃w ch l r n',iW.iI [.lst [.int n],.str x]=some (.tup [w,ch,l,r],.lst [.int n'])/\lG x w ch l r:=by
 obtain⟨d,hd,e⟩:=dig n 2 (by decide);obtain⟨w,hw,h1⟩:∃w,(w = .str [111,110,99,101]\/w = .str [97,108,111,110,103])/\dF (.lst [.str [111,110,99,101],.str [97,108,111,110,103]]) (.int (d:Int))=some w:=by
  have hc:d=0\/d=1:=by omega
  rcases hc with rfl|rfl
  ·exact⟨_,.inl rfl,rfl⟩
  ·exact⟨_,.inr rfl,rfl⟩
 obtain⟨ch,n1,h2,h3⟩:=changes (n / 2) x hx;obtain⟨l,n2,h5,h6⟩:=iW.signs n1 x hx;obtain⟨r,n3,h7,h8⟩:=iW.signs n2 x hx;refine⟨w,ch,l,r,n3,jP (env:=[Zl [.int n3],Zs x,Zf w,Zf ch]) ?_ rfl,⟨hw,h3,h6,h8⟩⟩;unfold iW.gO;refine(aC (e:=[Zl [.int (n / 2)],Zs x,Zf w,Zn]) ?_).trans ?_
 ·refine bF (d:=w) (e:=[Zl [.int (n / 2)],Zs x,Zn,Zn]) ?_ rfl;refine bO rfl rfl ?_;have e2:n % 2=(d:Int):=e;rw[e2];exact h1
 refine(aC (e:=[Zl [.int n1],Zs x,Zf w,Zf ch]) ?_).trans ?_
 ·exact bF (iC (e1:=[Zl [.int (n / 2)],Zs x,Zf w,Zn]) rfl rfl rfl h2) rfl
 ·refine bT (cW (aP (d:=w) rfl (aP rfl (aP (d:=l) (e1:=[Zl [.int n2],Zs x,Zf w,Zf ch]) ?_ (aP (d:=r) ?_ bI)))) Ev.zz4)
  ·exact iC (e1:=[Zl [.int n1],Zs x,Zf w,Zf ch]) rfl rfl rfl h5
  ·exact iC (e1:=[Zl [.int n2],Zs x,Zf w,Zf ch]) rfl rfl rfl h7
theorem order(n:Int)(x:List Nat)(hx:x∈XS)(m:Nat)(hm:m<=10):∃s Rs n',lW [.lst [.int n],.str x,.int (m:Int)]=some (.tup [s,.tup Rs],.lst [.int n'])/\s∈sides/\(∀R∈Rs,fG x R)/\Rs.length<=m:=by
 obtain⟨d,hd,e⟩:=dig n 2 (by decide);obtain⟨s,hs,h1⟩:∃s,s∈sides/\dF (.lst [.str [108,101,102,116],.str [114,105,103,104,116]]) (.int (d:Int))=some s:=by
  have hc:d=0\/d=1:=by omega
  rcases hc with rfl|rfl
  ·exact⟨_,Qqj ..,rfl⟩
  ·exact⟨_,Qqk _ (Qqj ..),rfl⟩
 obtain⟨j,hj,ej⟩:=dig (n / 2) (m+1) (by omega);obtain⟨Rs,env',g1,⟨n',v4,rfl⟩,g3,g4⟩:=Tn.Rt (g:=ak 4) (e:=cX iI 0 (Zv 1 aj)) (λenv=>∃n v4,env=[Zl [.int n],Zs x,Zf (.int (m:Int)),Zf s,v4]) (fG x) (jy 0 1 j)
  [Zl [.int (n / 2 / ((m+1:Nat):Int))],Zs x,Zf (.int (m:Int)),Zf s,Zn] ⟨_,_,rfl⟩
  (λt _ env ⟨n,v4,he⟩=>by
   subst he;obtain⟨wy,ch,l,r,n',h2,h3⟩:=rule n x hx;refine⟨.tup [wy,ch,l,r],_,[Zl [.int n'],Zs x,Zf (.int (m:Int)),Zf s,Zf t],rfl,?_,⟨_,_,rfl⟩,_,_,_,_,rfl,h3⟩;exact iC (e1:=[Zl [.int n],Zs x,Zf (.int (m:Int)),Zf s,Zf t]) rfl rfl rfl h2)
 have hl:Rs.length=j:=by rw[qN] at g4;exact g4
 refine⟨s,Rs,n',jP (env:=[Zl [.int n'],Zs x,Zf (.int (m:Int)),Zf s]) ?_ rfl,hs,g3,by omega⟩;unfold mq;refine(aC (e:=[Zl [.int (n / 2)],Zs x,Zf (.int (m:Int)),Zf s]) ?_).trans ?_
 ·refine bF (d:=s) (e:=[Zl [.int (n / 2)],Zs x,Zf (.int (m:Int)),Zn]) ?_ rfl;refine bO rfl rfl ?_;have e2:n % 2=(d:Int):=e;rw[e2];exact h1
 refine bT (cW (aP (d:=s) rfl (aP ?_ bI)) Ev.Ht);refine aL (ds:=[.lst Rs]) (aP ?_ bI) rfl;refine kE (n:=5) (aG:=[Zl [.int (n / 2 / ((m+1:Nat):Int))],Zs x,Zf (.int (m:Int)),Zf s]) ?_ rfl g1 (by rw[hl];exact Qq4 (show j<=10 by omega) (by decide));refine Tn.RZ (ds:=[.int (n / 2 % ((m+1:Nat):Int))]) ?_ ?_
 ·refine aP ?_ bI;exact iC (e1:=[Zl [.int (n / 2)],Zs x,Zf (.int (m:Int)),Zf s]) rfl rfl rfl (iW.lM (n / 2) (m+1) (by omega) (by omega))
 ·have e2:n / 2 % ((m+1:Nat):Int)=(j:Int):=ej;rw[e2];exact Tn.YZ (by omega)
open rN (XS sides lG lR fit fc)
theorem RW{a:dg}{env e:Ev.Env}{x y:List D}(h:a env = .ok [.tup x,.tup y] e):GR a env = .ok (rR x y) e:=by unfold GR;rw[h];rfl
theorem Ny{a:dg}{env e:Ev.Env}{x y:List D}(h:a env = .ok [.lst x,.tup y] e):zc a env = .ok (rR x y) e:=by unfold zc;rw[h];rfl
structure rM(x:List Nat)(s:D)(Rs:List D)(ss:List St):Prop where
 hx:x∈XS
 hs:s∈sides
 hR:∀R∈Rs,fG x R
 h4:Rs.length<=4
 hl:ss.length=Rs.length
 hS:∀t∈ss,nC x t
theorem acu{n m:Nat}(h:n<=4)(hm:m<=7):(m+2)*2^n<=150:=by have h1:2^n<=2^4:=Nat.pow_le_pow_right (by decide) h;have h2:(m+2)*2^n<=9*2^4:=Nat.mul_le_mul (by omega) h1;omega
section
variable{x:List Nat}{s:D}{Rs:List D}{ss:List St}(o:rM x s Rs ss){z:List Nat}(hz:∀a∈z,a∈35::x)(hn:z.length<=7)
include o hz hn
theorem watch_on:∃us,lB [.tup [s,.tup Rs],.tup (ss.map bC),.str z]=some (.tup [.tup ((lK x (lay s Rs) ss z).1.map bC),.str (lK x (lay s Rs) ss z).2,.tup us])/\rM x s Rs (lK x (lay s Rs) ss z).1:=by
 have h1:=reading_rules o.hx o.hs o.hR (Qq4 o.h4 (by decide));have h2:=yM (s:=s) o.hR;have h3:=n8 s Rs;have h4:=o.h4;have hl:=o.hl;have hx:=o.hx;have hS:=o.hS;have hs:=o.hs;have hR:=o.hR;generalize lay s Rs=Ls at *;generalize D.tup [s,.tup Rs]=O at *;obtain⟨us,w6,w7,w8,w9,g1,g2,g3,g4⟩:=W9 hx (Zf O) (Zf (.tup (ss.map bC))) (Zs z) Ls ss z [] [] none none none none (by omega) h2 hS hz (acu (by omega) hn) (by rw[Qz8];omega) (by rw[Qz8];omega);refine⟨us,dW (env:=[Zf O,(Zf (.tup (ss.map bC))),Zs z,(Zs ((lK x Ls ss z).2)),(Zl ([]++(lK x Ls ss z).1.map bC)),Zl us,w6,w7,w8,w9]) ?_,hx,hs,hR,h4,by omega,g2⟩;unfold iK;refine(aC (by rfl)).trans ?_;refine(aC (by rfl)).trans ?_;refine(aC (by rfl)).trans ?_;refine(aC ((gF ?_).trans g1)).trans ?_
 ·exact RW (aP (aL (by rfl) h1) (by rfl))
 ·rw[Qk0];exact bT (cW (by rfl) Ev.zz3)
theorem read_on:jC [.tup [s,.tup Rs],.tup (ss.map bC),.str z]=some (.tup [.tup ((lK x (lay s Rs) ss z).1.map bC),.str (lK x (lay s Rs) ss z).2])/\rM x s Rs (lK x (lay s Rs) ss z).1:=by
 obtain⟨us,h1,h2⟩:=watch_on o hz hn;refine⟨?_,h2⟩;generalize(lK x (lay s Rs) ss z).1.map bC=T at *;generalize(lK x (lay s Rs) ss z).2=q at *;generalize D.tup [s,.tup Rs]=O at *;refine dW (env:=[Zf O,(Zf (.tup (ss.map bC))),Zs z,Zf (.tup T),Zs q,Zf (.tup us)]) ?_;unfold iV;refine(aC (e:=[Zf O,(Zf (.tup (ss.map bC))),Zs z,Zf (.tup T),Zs q,Zf (.tup us)]) ?_).trans ?_
 ·exact bF (aL (by rfl) h1) (by rfl)
 ·exact bT (cW (by rfl) Ev.Ht)
theorem M7:iU [.tup [s,.tup Rs],.tup (ss.map bC),.str z]=some (.tup [.tup ((lK x (lay s Rs) ss z).1.map bC),.str (lK x (lay s Rs) ss z).2]):=by
 have h1:=Gr o.hx o.hs o.hR (Qq4 o.h4 (by decide));have h2:=yM (s:=s) o.hR;have h3:=n8 s Rs;have h4:=o.h4;have hl:=o.hl;have hx:=o.hx;have hS:=o.hS;generalize lay s Rs=Ls at *;generalize D.tup [s,.tup Rs]=O at *;obtain⟨w6,w7,w8,g1⟩:=Rk hx (Zf O) (Zf (.tup (ss.map bC))) (Zs z) Ls ss z [] none none none (by omega) h2 hS hz (acu (by omega) hn) (by rw[Qz8];omega);refine dW (env:=[Zf O,(Zf (.tup (ss.map bC))),Zs z,(Zs ((lK x Ls ss z).2)),(Zl ([]++(lK x Ls ss z).1.map bC)),w6,w7,w8]) ?_;unfold lZ;refine(aC (by rfl)).trans ?_;refine(aC (by rfl)).trans ?_;refine(aC ((gF ?_).trans g1)).trans ?_
 ·exact Ny (aP (aL (by rfl) h1) (by rfl))
 ·rw[Qk0];exact bT (cW (by rfl) Ev.Ht)
omit hz hn
end
section
variable{x:List Nat}{s:D}{Rs:List D}(hx:x∈XS)(hs:s∈sides)(hR:∀R∈Rs,fG x R)(h4:Rs.length<=4)
include hx hs hR h4
theorem zK:rM x s Rs (qI (lay s Rs)):=⟨hx,hs,hR,h4,by unfold qI;rw[Qqv,n8],abb x _⟩
end
end iY
namespace K10
open Ev PySem L2
open rN (XS sides lG Ar lR fit fc sg ed pc pin nw Jl cg out look z6 encC j4 Pr)
section
variable{x w:List Nat}{l r:D}{c:Nat}{kvs:List (D×D)}
noncomputable def T(h:Nat->Nat->Nat->List Nat):Nat->List Nat->Nat->List Nat
 | _,[],_=>[]
 | p,a::t,q=>h p a (t.headD q)++T h a t q
noncomputable def hC(kvs:List (D×D))(l r:D)(a b d:Nat):List Nat:=if ((look kvs b).isSome&&(fit l a&&fit r d))=true then (look kvs b).getD [] else [b]
end
end K10
namespace Td
open Ev PySem L2
open iW (SG cD)
open rN (XS sides lG lR fit fc z6 look jQ j4 encC sg ed nw Jl cg out pc pin)
open Hm (fG jR)
open iY (Rl stp rd Iu xE PK Is RJ qD yf lK qI lay tn lf Fy nrC bC nC rM rt)
theorem CQ{x:List Nat}:∀(Ls:List D) (ss:List iY.St),Ls.length=ss.length->lK x Ls ss []=(ss,[])
 | [],[],_=>rfl
 | [],_::_,h=>by simp at h
 | _::_,[],h=>by simp at h
 | L::Ls,s::ss,h=>by
  show(s::(lK x Ls ss []).1,(lK x Ls ss []).2)=_;rw[CQ Ls ss (by simpa using h)]
end Td
namespace Tp
open Ev PySem L2
open iW (SG)
open rN (XS sides lR fit)
open Hm (fG jR)
open iY (bC rM nC lK qI lay tn lf rt xD xV Cw zK)
open Td (CQ)
noncomputable def qS(ss:List iY.St):NK:=.tup (ss.map λs=>.tup [.num (if s.1 then 1 else 0),.txt (strOf s.2)])
theorem adC:∀ss:List iY.St,Gf (ss.map bC)=some (ss.map λs=>.tup [.num (if s.1 then 1 else 0),.txt (strOf s.2)])
 | []=>rfl
 | (b,z)::ss=>by
  have ih:=adC ss;have h1:tO (bC (b,z))=some (.tup [.num (if b then 1 else 0),.txt (strOf z)]):=by simp[bC,tO,Gf]
  rw[Qwv,Qwv];unfold Gf;rw[h1,ih]
theorem X8:∀ss:List iY.St,NK.rJ (ss.map λs=>.tup [.num (if s.1 then 1 else 0),.txt (strOf s.2)])<=1
 | []=>by unfold NK.rJ;simp
 | s::ss=>by
  have ih:=X8 ss;rw[Qwv];unfold NK.rJ;have:NK.dep (.tup [.num (if s.1 then 1 else 0),.txt (strOf s.2)])=1:=by simp[NK.dep,NK.rJ]
  rw[this];omega
theorem adD(ss:List iY.St):tO (.tup (ss.map bC))=some (qS ss):=by
 unfold tO;rw[adC]
 rfl
theorem Xx(ss:List iY.St):Gg (.tup (ss.map bC))=some (qS ss):=by
 show(tO (.tup (ss.map bC))).bind _=_;rw[adD];have h:(qS ss).dep<=8:=by unfold qS NK.dep;have:=X8 ss;omega
 exact if_pos h
theorem Qm:∀(ss tt:List iY.St),(ss.map λs=>NK.tup [.num (if s.1 then 1 else 0),.txt (strOf s.2)])=(tt.map λs=>NK.tup [.num (if s.1 then 1 else 0),.txt (strOf s.2)])->ss=tt
 | [],[],_=>rfl
 | [],_::_,h=>by cases h
 | _::_,[],h=>by cases h
 | (b,z)::ss,(c,y)::tt,h=>by
  rw[Qwv,Qwv] at h;obtain⟨h1,h2⟩:=List.cons.inj h;have h3:=NK.tup.inj h1;obtain⟨h4,h5⟩:=List.cons.inj h3;obtain⟨h6,_⟩:=List.cons.inj h5;have h7:z=y:=SX.mW (NK.txt.inj h6);have h8:=NK.num.inj h4;simp only at h8;have h9:b=c:=by cases b<;>cases c<;>first|rfl|(simp at h8)
  rw[h9,h7,Qm ss tt h2]
theorem Qn{ss tt:List iY.St}(h:qS ss=qS tt):ss=tt:=Qm ss tt (NK.tup.inj h)
theorem p7{i:Nat}{k a:Ev}{env e1 e2:Ev.Env}{d kd z:D}{o:Bool}{q:NK}{kvs:List (D×D)}(h1:a env = .ok d e1)(h0:e1[i]? = some (some (o,z)))(h2:k e1 = .ok kd e2)(h3:e2[i]? = some (Zt (.gh kvs)))(h4:Gg kd=some q)(h5:kvs.length<sizeLine):nJ i k a env = .nx (e2.set i (Zt (.gh (qF kvs kd q d)))):=by unfold nJ;simp only[h1,gB,h0,h2,h3,h4,if_pos h5]
end Tp
namespace KB
open Ev PySem L2
open iW (cD)
open rN (sides)
open iY (rt)
open Tp (p7)
section
variable{P:Type}[DecidableEq P]{Φ:Stmt->List D->LD}{sl ss:Stmt}{cl cs:List D}{x:List Nat}{ik side:D}{so:LD}{en:P->D}{key:P->NK}{L:P->Nat->P}{S:P->Bool}{Ok:P->Prop}{U:List P}{p0:P}
structure Gives(Φ:Stmt->List D->LD)(sl ss:Stmt)(cl cs:List D)(x:List Nat)(en:P->D)(key:P->NK)(L:P->Nat->P)(S:P->Bool)(Ok:P->Prop)(U:List P):Prop where
 lead:∀p a,Ok p->a∈x->Φ sl cl [en p,.str [a]]=some (en (L p a))/\Ok (L p a)
 shows:∀p,Ok p->Φ ss cs [en p]=some (.bl (S p))
 nk:∀p,Gg (en p)=some (key p)
 inj:∀p q,key p=key q->p=q
 all:∀p,Ok p->p∈U
 few:U.length<=6998
noncomputable def kn(en:P->D)(ps:List P):List (D×D):=ps.map λp=>(en p,.bl true)
variable(G:Gives Φ sl ss cl cs x en key L S Ok U)
include G
omit G [DecidableEq P] in
end
section
variable{P:Type}[DecidableEq P]{Φ:Stmt->List D->LD}{sl ss:Stmt}{cl cs:List D}{x:List Nat}{ik side:D}{so:LD}{en:P->D}{key:P->NK}{L:P->Nat->P}{S:P->Bool}{Ok:P->Prop}{U:List P}{p0:P}
variable(G:Gives Φ sl ss cl cs x en key L S Ok U)
theorem K5{g:GV}{b:bH}{d:D}{ds:List D}{env e1 e2:Ev.Env}(h1:g d env=some e1)(h2:b e1 = .nx e2):jh g b (d::ds) env=jh g b ds e2:=by
 conv=>lhs;unfold jh
 rw[h1];simp only;rw[h2]
theorem Xa{t:eO}{b:bH}{m:Nat}{env e1 e2:Ev.Env}(h:t env = .ok true e1)(h2:b e1 = .nx e2):cN t b (m+1) env=cN t b m e2:=by
 conv=>lhs;unfold cN
 rw[h];simp only[gB,if_true];rw[h2]
theorem aca{t:eO}{b:bH}{m:Nat}{env e1 e2:Ev.Env}{o:Bool}{d:D}(h:t env = .ok true e1)(h2:b e1 = .rt o d e2):cN t b (m+1) env = .rt o d e2:=by
 conv=>lhs;unfold cN
 rw[h];simp only[gB,if_true];rw[h2]
theorem acb{t:eO}{b:bH}{m:Nat}{env e1:Ev.Env}(h:t env = .ok false e1):cN t b (m+1) env = .nx e1:=by
 conv=>lhs;unfold cN
 rw[h];rfl
include G
end
end KB
namespace KM
open Ev PySem L2
open rN (XS sides fit look jQ z6)
open Hm (fG)
open iY (Rl Is stp rd lK qI lay lf qD yf Fy rM nC)
theorem afG{x:List Nat}{kvs:List (D×D)}(hk:z6 x kvs){s:Nat}(hs:s∈x)(b:Bool):∀c∈Fy kvs s b,c∈x:=by
 unfold Fy;split
 ·cases e:look kvs s with
  | none=>exact λc hc=>by rw[Qq5.mp hc];exact hs
  | some t=>exact λc hc=>(jQ hk e).2.2 c hc
 ·exact λc hc=>by rw[Qq5.mp hc];exact hs
theorem acE{x:List Nat}{R:D}{ρ:Rl}(hR:Is x R ρ){s:iY.St}(hs:∀c∈s.2,c∈x){a:Nat}(ha:a∈x):(∃b,(stp ρ s a).1=(b,[a]))/\∀c∈(stp ρ s a).2,c∈x:=by
 cases hR with
 | put hc hl hr=>
  refine⟨⟨_,rfl⟩,λc hm=>?_⟩;rcases Qw4.mp hm with hm|hm
  ·exact hs c hm
  ·split at hm
   ·rw[Qq5.mp hm];exact hc
   ·simp at hm
 | chg hp hd hk hl hr=>
  obtain⟨b,h⟩:=s
  match h,hs with
  | [],hs=>exact⟨⟨_,rfl⟩,λc hc=>by simp[stp] at hc⟩
  | s::h,hs=>exact⟨⟨_,rfl⟩,afG hk (hs s (Qqj ..)) _⟩
theorem acP{x:List Nat}{R:D}{ρ:Rl}(hR:Is x R ρ):∀(z:List Nat) {s:iY.St},(∀c∈s.2,c∈x)->(∀a∈z,a∈x)->((rd ρ s z).1=s/\z=[]\/∃b,∃c∈x,(rd ρ s z).1=(b,[c]))/\∀c∈(rd ρ s z).2,c∈x
 | [],s,hs,_=>⟨.inl ⟨rfl,rfl⟩,λc hc=>by simp[rd] at hc⟩
 | a::z,s,hs,hz=>by
  have ha:=hz a (Qqj ..);obtain⟨⟨b,h1⟩,h2⟩:=acE hR hs ha;have h1':∀c∈(stp ρ s a).1.2,c∈x:=λc hc=>by rw[h1] at hc;rw[Qq5.mp hc];exact ha
  obtain⟨h3,h4⟩:=acP hR z h1' λb hb=>hz b (Qqk _ hb);refine⟨.inr ?_,λc hc=>?_⟩
  ·rcases h3 with ⟨e,_⟩|⟨b',c,hc,e⟩
   ·exact⟨b,a,ha,by show(rd ρ (stp ρ s a).1 z).1=_;rw[e,h1]⟩
   ·exact⟨b',c,hc,e⟩
  ·rcases Qw4.mp (show c∈(stp ρ s a).2++(rd ρ (stp ρ s a).1 z).2 from hc) with hc|hc
   ·exact h2 c hc
   ·exact h4 c hc
noncomputable def U(x:List Nat):List D->List (List iY.St)
 | []=>[[]]
 | R::Ls=>qI (R::Ls)::([false,true].flatMap λb=>x.flatMap λc=>(U x Ls).map λu=>(b,[c])::u)
theorem DY(x:List Nat)(Ls:List D):qI Ls∈U x Ls:=by
 cases Ls with
 | nil=>exact Qqj ..
 | cons R Ls=>exact Qqj ..
theorem abF{x:List Nat}{R:D}{Ls:List D}{u:List iY.St}(b:Bool){c:Nat}(hc:c∈x)(h:u∈U x Ls):(b,[c])::u∈U x (R::Ls):=by refine Qqk _ (Qj6.mpr ⟨b,by cases b<;>simp,Qj6.mpr ⟨c,hc,Qw9.mpr ⟨u,h,rfl⟩⟩⟩)
theorem Lr{x:List Nat}{R:D}{Ls:List D}{p:List iY.St}(h:p∈U x (R::Ls)):∃s u,p=s::u/\u∈U x Ls/\(∀c∈s.2,c∈x)/\(s::u=qI (R::Ls)\/∃b,∃c∈x,s=(b,[c])):=by
 rcases Qq7.mp h with rfl|h
 ·exact⟨_,qI Ls,rfl,DY x Ls,λc hc=>by simp at hc,.inl rfl⟩
 ·obtain⟨b,_,h⟩:=Qj6.mp h;obtain⟨c,hc,h⟩:=Qj6.mp h;obtain⟨u,hu,rfl⟩:=Qw9.mp h;exact⟨(b,[c]),u,rfl,hu,λd hd=>by rw[Qq5.mp hd];exact hc,.inr ⟨b,c,hc,rfl⟩⟩
theorem DX{x:List Nat}:∀(Ls:List D) (p:List iY.St),p∈U x Ls->Ls.length=p.length
 | [],p,h=>by rw[Qq5.mp h];rfl
 | R::Ls,p,h=>by
  obtain⟨s,u,rfl,hu,_⟩:=Lr h;rw[Qqw,Qqw,DX Ls u hu]
theorem Xk{x:List Nat}:∀(Ls:List D) (p:List iY.St) (z:List Nat),(∀R∈Ls,fG x R)->p∈U x Ls->(∀a∈z,a∈x)->(lK x Ls p z).1∈U x Ls
 | [],p,z,_,_,_=>Qq5.mpr rfl
 | R::Ls,p,z,hR,hp,hz=>by
  obtain⟨s,u,rfl,hu,hs,h⟩:=Lr hp;obtain⟨h1,h2⟩:=acP (yf (hR R (Qqj ..))) z hs hz;show(rd (qD x R) s z).1::(lK x Ls u (rd (qD x R) s z).2).1∈U x (R::Ls);have ht:=Xk Ls u (rd (qD x R) s z).2 (λQ hQ=>hR Q (Qqk _ hQ)) hu h2;rcases h1 with ⟨e,hzn⟩|⟨b,c,hc,e⟩
  ·subst hzn;have hl:=DX Ls u hu;have e2:(lK x Ls u (rd (qD x R) s []).2).1=u:=by
    show(lK x Ls u []).1=u;rw[Td.CQ Ls u hl]
   rw[e2];exact hp
  ·rw[e];exact abF b hc ht
end KM
namespace K27
open Ev
section
noncomputable def jg:Ev:=lH.jg
noncomputable def fY:bH:=lH.fY
noncomputable def fX:LD:=cO 1 fY
noncomputable def iM:bH:=lH.iM
noncomputable def gn:LD:=cO 2 iM
noncomputable def iz:bH:=lH.iz
noncomputable def jU:LD:=cO 5 iz
noncomputable def jF:bH:=lH.jF
noncomputable def jD:LD:=cO 1 jF
noncomputable def iH:Ev:=lH.iH
noncomputable def cG:bH:=lH.cG
noncomputable def cM:LD:=cO 3 cG
noncomputable def cI:bH:=lH.cI
noncomputable def cV:LD:=cO 10 cI
noncomputable def cZ:bH:=lH.cZ
noncomputable def cY:LD:=cO 10 cZ
noncomputable def iB:bH:=lH.iB
noncomputable def fZ:bH:=lH.fZ
noncomputable def gU:LD:=cO 8 fZ
noncomputable def jL:bH:=lH.jL
noncomputable def iK:bH:=lH.iK
noncomputable def lB:LD:=cO 10 iK
noncomputable def iV:bH:=lH.iV
noncomputable def jC:LD:=cO 6 iV
def gm:bH:=aB (aN (ao jC (Zv 1 (aa (az dF 2 (ao d7 (aa (bf 4) aj))) (Zv 6 aj)))) (cP 2 (aO (ak 7) (aO (ak 8) cQ)))) (aB (dJ (eY (az jN 7 (bf 3))) (aB (nJ 3 (aK 7) (ao d7 (aa (bf 2) aj))) (fM 2 (aK 7))) bU) (fM 5 (bN (Zv 8 (aa (az yX 3 (bf 7)) aj)))))
end
end K27
namespace KM
open Ev PySem L2
open iW (cD)
open rN (XS sides fit)
open Hm (fG)
open iY (bC lK qI lay rM nC)
open Tp (p7 qS Qn Xx)
section
variable{T:Type}[DecidableEq T]{en:T->D}{key:T->NK}
noncomputable def Bm(en:T->D):Nat->List T->List (D×D)
 | _,[]=>[]
 | n,u::us=>(en u,.int (n:Int))::Bm en (n+1) us
omit [DecidableEq T] in
theorem Gs:∀(us:List T) (n:Nat) (t:T),Bm en n (us++[t])=Bm en n us++[(en t,.int ((n+us.length:Nat):Int))]
 | [],n,t=>rfl
 | u::us,n,t=>by
  show(en u,D.int (n:Int))::Bm en (n+1) (us++[t])=(en u,D.int (n:Int))::(Bm en (n+1) us++_);rw[Gs us (n+1) t,Qqw];have:n+1+us.length=n+(us.length+1):=by omega
  rw[this]
omit [DecidableEq T] in
theorem Ky:∀(us:List T) (n:Nat),(Bm en n us).length=us.length
 | [],n=>rfl
 | u::us,n=>by
  show(Bm en (n+1) us).length+1=us.length+1;rw[Ky us]
structure aeu(en:T->D)(key:T->NK):Prop where
 nk:∀t,Gg (en t)=some (key t)
 inj:∀p q,key p=key q->p=q
variable(Y:aeu en key)
include Y
theorem xH:∀(us:List T) (n:Nat) (t:T),jO (Bm en n us) (key t)=if t∈us then some (.int ((n+m8 us t:Nat):Int)) else none
 | [],n,t=>by simp[Bm,jO]
 | u::us,n,t=>by
  have ih:=xH us (n+1) t;unfold jO at ih ⊢;unfold Bm;rw[Qzv];have hu:tO (en u)=some (key u):=(yw (Y.nk u)).1;by_cases h:u=t
  ·subst h;simp only[hu,decide_true];have ei:m8 (u::us) u=0:=by unfold m8;rw[if_pos rfl]
   rw[if_pos (Qqj ..),ei]
   rfl
  ·have hne:¬(some (key u)=some (key t)):=λe=>h (Y.inj u t (Qw1 e));simp only[hu,Qwx hne];have ei:m8 (u::us) t=m8 us t+1:=by conv=>lhs;unfold m8;rw[if_neg h]
   rw[ih,ei];by_cases hm:t∈us
   ·rw[if_pos hm,if_pos (Qqk _ hm)];have:n+1+m8 us t=n+(m8 us t+1):=by omega
    rw[this]
   ·rw[if_neg hm,if_neg λz=>(Qq7.mp z).elim (λe=>h e.symm) hm]
theorem VJ(us:List T)(t:T)(h:t ∉ us):qF (Bm en 0 us) (en t) (key t) (.int (us.length:Int))=Bm en 0 (us++[t]):=by
 unfold qF;rw[xH Y,if_neg h,Gs,Nat.zero_add]
 rfl
theorem M9(us:List T)(t:T)[dc:Decidable (t∈us)]:jN (en t) (.gh (Bm en 0 us))=some (.bl (!decide (t∈us))):=by
 show(Gg (en t)).map _=_;rw[Y.nk];show some (D.bl (!(jO (Bm en 0 us) (key t)).isSome))=_;rw[xH Y];by_cases h:t∈us
 ·rw[if_pos h,Qwy h];rfl
 ·rw[if_neg h,Qwx h];rfl
theorem VL(us:List T)(t:T)(h:t∈us):yX (.gh (Bm en 0 us)) (en t)=some (.int (m8 us t:Int)):=by show(Gg (en t)).bind _=_;rw[Y.nk];show jO (Bm en 0 us) (key t)=_;rw[xH Y,if_pos h,Nat.zero_add]
omit Y
theorem Oc(us:List T)(t:T):t∈lE us t:=(ur us t t).mpr (.inr rfl)
theorem S5{us:List T}{t u:T}(h:u∈us):m8 (lE us t) u=m8 us u:=by
 unfold lE;split
 ·rfl
 ·exact yR _ h
theorem SQ(us:List T)(t:T):(lE us t).length<=us.length+1:=by
 unfold lE;split
 ·omega
 ·rw[Qq1];exact Qq0 _
theorem Hk{us:List T}{t u:T}{i:Nat}(h:us[i]? = some u):(lE us t)[i]? = some u:=by
 unfold lE;split
 ·exact h
 ·exact KB.V6 h
end
abbrev P:=List iY.St
noncomputable def bQ(p:P):D:=.tup (p.map bC)
theorem oN:aeu bQ qS:=⟨Xx,λ_ _ h=>Qn h⟩
noncomputable def fD(pt:List Nat×Nat):D:=.tup [.str pt.1,.int (pt.2:Int)]
noncomputable def rP(x:List Nat)(Ls:List D)(p:P)(a:Nat):P:=(lK x Ls p [a]).1
noncomputable def FT(x:List Nat)(Ls:List D)(p:P)(a:Nat):List Nat:=(lK x Ls p [a]).2
noncomputable def jb(x:List Nat)(Ls:List D)(ps:List P)(p:P)(a:Nat):List Nat×Nat:=(FT x Ls p a,m8 ps (rP x Ls p a))
structure Yo(x:List Nat)(s:D)(Rs:List D)(p:P):Prop where
 o:rM x s Rs p
 u:p∈U x (lay s Rs)
noncomputable abbrev uD(ik ord:D)(ps:List P)(rows:List D)(a5 a6 a7 a8:OD):Ev.Env:=
 [Zf ik,Zf ord,Zl (ps.map bQ),Zt (.gh (Bm bQ 0 ps)),Zl rows,a5,a6,a7,a8]
structure wX(x:List Nat)(s:D)(Rs:List D)(ps:List P):Prop where
 nd:ps.Nodup
 z0:ps[0]? = some (qI (lay s Rs))
 ok:∀p∈ps,Yo x s Rs p
 reach:∀p∈ps,∃w:List Nat,(∀a∈w,a∈x)/\w.foldl (rP x (lay s Rs)) (qI (lay s Rs))=p
section
variable{x:List Nat}{s:D}{Rs:List D}{ik:D}
theorem Yo.next{p:P}(h:Yo x s Rs p){a:Nat}(ha:a∈x):K27.jC [.tup [s,.tup Rs],bQ p,.str [a]]=some (.tup [bQ (rP x (lay s Rs) p a),.str (FT x (lay s Rs) p a)])/\Yo x s Rs (rP x (lay s Rs) p a):=by
 have hz:∀b ∈ [a],b∈35::x:=λb hb=>by rw[Qq5.mp hb];exact Qqk _ ha
 obtain⟨h1,h2⟩:=iY.read_on h.o hz (by show 1<=7;decide);exact⟨h1,h2,Xk _ _ _ (iY.yM h.o.hR) h.u λb hb=>by rw[Qq5.mp hb];exact ha⟩
theorem wX.add{ps:List P}(F:wX x s Rs ps){p:P}(hp:p∈ps){a:Nat}(ha:a∈x):wX x s Rs (lE ps (rP x (lay s Rs) p a)):=by
 refine⟨WK _ F.nd,Hk F.z0,λq hq=>?_,λq hq=>?_⟩
 ·rcases(ur _ _ _).mp hq with hq|rfl
  ·exact F.ok q hq
  ·exact((F.ok p hp).next ha).2
 ·rcases(ur _ _ _).mp hq with hq|rfl
  ·exact F.reach q hq
  ·obtain⟨w,h1,h2⟩:=F.reach p hp;refine⟨w++[a],λb hb=>?_,by rw[List.foldl_append,h2];rfl⟩;rcases Qw4.mp hb with hb|hb
   ·exact h1 b hb
   ·rw[Qq5.mp hb];exact ha
theorem acR{ps:List P}(F:wX x s Rs ps)(hlen:ps.length<=700){rows steps:List D}{p:P}(hp:ps[rows.length]? = some p)(hs:steps.length<=100){a:Nat}(ha:a∈x)(a7 a8:OD) :
  K27.gm (uD ik (.tup [s,.tup Rs]) ps rows (Zl steps) (Zs [a]) a7 a8) =
   .nx (uD ik (.tup [s,.tup Rs]) (lE ps (rP x (lay s Rs) p a)) rows (Zl (steps++[fD (jb x (lay s Rs) (lE ps (rP x (lay s Rs) p a)) p a)])) (Zs [a]) (Zf (bQ (rP x (lay s Rs) p a))) (Zs (FT x (lay s Rs) p a))):=by
 obtain⟨h1,_⟩:=(F.ok p (Qj1 hp)).next ha;unfold jb fD;generalize rP x (lay s Rs) p a=q at *;generalize FT x (lay s Rs) p a=o at *;generalize D.tup [s,.tup Rs]=O at *;have hix:dF (.lst (ps.map bQ)) (.int (rows.length:Int))=some (bQ p):=by show wL (ps.map bQ) (rows.length:Int)=_;exact uq (by rw[Qx1,hp];rfl)
 unfold K27.gm;refine(aC (e:=uD ik O ps rows (Zl steps) (Zs [a]) (Zf (bQ q)) (Zs o)) ?_).trans ?_
 ·refine bF (d:=.tup [bQ q,.str o]) (e:=uD ik O ps rows (Zl steps) (Zs [a]) a7 a8) ?_ rfl;refine aL (aP rfl (aP (e1:=uD ik O ps rows (Zl steps) (Zs [a]) a7 a8) ?_ rfl)) h1;exact bZ rfl rfl rfl hix
 have fin:∀qs:List P,q∈qs->fM 5 (bN (Zv 8 (aa (az yX 3 (bf 7)) aj))) (uD ik O qs rows (Zl steps) (Zs [a]) (Zf (bQ q)) (Zs o)) =
   .nx (uD ik O qs rows (Zl (steps++[.tup [.str o,.int (m8 qs q:Int)]])) (Zs [a]) (Zf (bQ q)) (Zs o)):=λqs hq=>by
  refine(cD (i:=5) (e:=uD ik O qs rows (Zl steps) (Zs [a]) (Zf (bQ q)) (Zs o)) rfl ?_ rfl (Qxq hs (by decide))).trans rfl;refine cW (aP rfl (aP ?_ bI)) Ev.Ht;exact bZ rfl rfl rfl (VL oN qs q hq)
 have ht:eY (az jN 7 (bf 3)) (uD ik O ps rows (Zl steps) (Zs [a]) (Zf (bQ q)) (Zs o)) = .ok (!decide (q∈ps)) (uD ik O ps rows (Zl steps) (Zs [a]) (Zf (bQ q)) (Zs o)):=
  ig (bZ rfl rfl rfl (M9 oN ps q))
 by_cases hq:q∈ps
 ·rw[Qwy hq] at ht;refine(aC (fP ht)).trans ?_;have e:lE ps q=ps:=if_pos hq;rw[e];exact fin ps hq
 ·rw[Qwx hq] at ht;have e:lE ps q=ps++[q]:=if_neg hq;rw[e];refine(aC ?_).trans (fin (ps++[q]) (by simp));refine(ie ht).trans ?_;have s4:=p7 (i:=3) (k:=aK 7) (a:=ao d7 (aa (bf 2) aj)) (env:=uD ik O ps rows (Zl steps) (Zs [a]) (Zf (bQ q)) (Zs o)) rfl rfl rfl rfl (oN.nk q)
   (by rw[Ky];exact Qxq hlen (by decide))
  rw[Qqv,VJ oN ps q hq] at s4;rw[aC s4];refine(cD (i:=2) (e:=[Zf ik,Zf O,Zl (ps.map bQ),Zt (.gh (Bm bQ 0 (ps++[q]))),Zl rows,Zl steps,Zs [a],Zf (bQ q),Zs o]) rfl rfl rfl (by rw[Qqv];exact Qxq hlen (by decide))).trans ?_;have e5:ps.map bQ++[bQ q]=(ps++[q]).map bQ:=by rw[Qz4];rfl
  rw[e5]
  rfl
theorem acS{rows:List D}{p:P}(hx4:x.length<=50):∀(rest done:List Nat) (ps:List P) (a6 a7 a8:OD),ps.length+rest.length<=700->x=done++rest->wX x s Rs ps->ps[rows.length]? = some p->(∀a∈done,rP x (lay s Rs) p a∈ps)->
  ∃ps' b6 b7 b8,jh (ak 6) K27.gm (o9 rest) (uD ik (.tup [s,.tup Rs]) ps rows (Zl (done.map λa=>fD (jb x (lay s Rs) ps p a))) a6 a7 a8) =
   .nx (uD ik (.tup [s,.tup Rs]) ps' rows (Zl (x.map λa=>fD (jb x (lay s Rs) ps' p a))) b6 b7 b8)/\wX x s Rs ps'/\(∀a∈x,rP x (lay s Rs) p a∈ps')/\∃more,ps'=ps++more:=by
 intro rest
 induction rest with
 | nil=>
  intro done ps a6 a7 a8 hlr hx F hp hd;rw[Qw0] at hx;subst hx;exact⟨ps,a6,a7,a8,rfl,F,hd,[],by rw[Qw0]⟩
 | cons a rest ih=>
  intro done ps a6 a7 a8 hlr hx F hp hd;rw[Qqw] at hlr;have ha:a∈x:=by rw[hx];simp
  have hx':x=(done++[a])++rest:=by rw[hx];simp
  have hdl:done.length<=50:=by have:=Qxz List.length hx;rw[Qq1] at this;omega
  have h1:=acR (ik:=ik) F (by omega) (steps:=done.map λa=>fD (jb x (lay s Rs) ps p a)) hp (by rw[Qqv];omega) ha a7 a8;have F':=F.add (Qj1 hp) ha;have hs:(done.map λb=>fD (jb x (lay s Rs) ps p b))++[fD (jb x (lay s Rs) (lE ps (rP x (lay s Rs) p a)) p a)]=(done++[a]).map λb=>fD (jb x (lay s Rs) (lE ps (rP x (lay s Rs) p a)) p b):=by
   rw[Qz4]
   congr 1
   refine Qj5 λb hb=>?_;unfold jb;rw[S5 (hd b hb)]
  rw[hs] at h1;obtain⟨ps',b6,b7,b8,g1,g2,g3,more,g4⟩:=ih (done++[a]) (lE ps (rP x (lay s Rs) p a)) _ _ _ (by have:=SQ ps (rP x (lay s Rs) p a);omega) hx' F' (Hk hp) (λb hb=>by
   rcases Qw4.mp hb with hb|hb
   ·exact(ur _ _ _).mpr (.inl (hd b hb))
   ·rw[Qq5.mp hb];exact Oc _ _)
  refine⟨ps',b6,b7,b8,?_,g2,g3,?_⟩
  ·rw[<-g1];exact KB.K5 rfl h1
  ·rw[g4];unfold lE;split
   ·exact⟨more,rfl⟩
   ·exact⟨_,Qwj ..⟩
noncomputable def mZ(x:List Nat)(Ls:List D)(ps:List P)(p:P):D:=.tup (x.map λa=>fD (jb x Ls ps p a))
structure All(x:List Nat)(s:D)(Rs:List D)(ps:List P):Prop extends wX x s Rs ps where
 clo:∀p∈ps,∀a∈x,rP x (lay s Rs) p a∈ps
theorem RM{ps more:List P}{q:P}(h:q∈ps):m8 (ps++more) q=m8 ps q:=yR _ h
end
end KM
namespace KZ
open Ev PySem L2
open rN (XS sides fit)
open Hm (fG)
open iY (bC nC lay rM)
open KM (bQ U P All wX)
noncomputable def vH(a b:iY.St):Bool:=if a.1=b.1 then decide (a.2<b.2) else decide (PyProof.Rows.b2i a.1<PyProof.Rows.b2i b.1)
noncomputable def lx:List iY.St->List iY.St->Bool
 | [],[]=>false
 | [],_::_=>true
 | _::_,[]=>false
 | a::p,b::q=>if a=b then lx p q else vH a b
theorem aec(a b:iY.St):aZ 57 (bC a) (bC b)=some (decide (a=b)):=by obtain⟨a1,a2⟩:=a;obtain⟨b1,b2⟩:=b;show uC (aZ 56) [.bl a1,.str a2] [.bl b1,.str b2]=_;cases h1:(a1 == b1)<;>cases h2:(a2 == b2)<;>simp only[Qz6,beq_iff_eq,ne_eq] at h1 h2<;>simp[uC,aZ,h1,h2]
theorem aaA(a b:iY.St)(h:a≠b):XH true (bC a) (bC b)=some (vH a b):=by
 obtain⟨a1,a2⟩:=a;obtain⟨b1,b2⟩:=b;show Vt [.bl a1,.str a2] [.bl b1,.str b2]=_;unfold vH;by_cases h1:a1=b1
 ·subst h1;have h2:a2≠b2:=λe=>h (by rw[e]);have h2':(a2 == b2)=false:=Qz6.mpr h2;simp[Vt,ltB,aZ,h2']
 ·have h1':(a1 == b1)=false:=Qz6.mpr h1;simp[Vt,ltB,aZ,h1',h1]
theorem wC:∀(p q:List iY.St),nG (bQ p) (bQ q)=some (lx p q)
 | [],[]=>rfl
 | [],_::_=>rfl
 | _::_,[]=>rfl
 | a::p,b::q=>by
  show(match aZ 57 (bC a) (bC b) with|some true=>XD true (p.map bC) (q.map bC)|some false=>XH true (bC a) (bC b)|none=>none)=_;rw[aec];unfold lx;by_cases h:a=b
  ·rw[Qwy h,if_pos h];exact wC p q
  ·rw[Qwx h,if_neg h];exact aaA a b h
theorem Vv(a:iY.St):vH a a=false:=by unfold vH;rw[if_pos rfl];simp
theorem aaF{a b c:iY.St}(h1:vH a b=true)(h2:vH b c=true):vH a c=true:=by obtain⟨a1,a2⟩:=a;obtain⟨b1,b2⟩:=b;obtain⟨c1,c2⟩:=c;unfold vH at h1 h2 ⊢;simp only at h1 h2 ⊢;cases a1<;>cases b1<;>cases c1<;>simp[PyProof.Rows.b2i] at h1 h2 ⊢<;>first|exact List.lt_trans h1 h2|assumption|trivial
theorem Vu{a b:iY.St}(h:a≠b):vH a b=true\/vH b a=true:=by
 obtain⟨a1,a2⟩:=a;obtain⟨b1,b2⟩:=b;have tri:a1=b1->a2<b2\/b2<a2:=λe=>by
  by_cases c1:a2<b2
  ·exact .inl c1
  ·by_cases c2:b2<a2
   ·exact .inr c2
   ·exact absurd (by rw[e,List.le_antisymm (List.not_lt.mp c2) (List.not_lt.mp c1)]) h
 unfold vH;simp only;cases a1<;>cases b1<;>simp[PyProof.Rows.b2i]<;>exact tri rfl
theorem Dl:∀p:List iY.St,lx p p=false
 | []=>rfl
 | a::p=>by unfold lx;rw[if_pos rfl];exact Dl p
theorem Xz:∀{p q u:List iY.St},lx p q=true->lx q u=true->lx p u=true
 | [],[],_,h,_=>by cases h
 | [],_::_,[],_,h=>by cases h
 | [],_::_,_::_,_,_=>rfl
 | _::_,[],_,h,_=>by cases h
 | _::_,_::_,[],_,h=>by cases h
 | a::p,b::q,c::u,h1,h2=>by
  unfold lx at h1 h2 ⊢;by_cases e1:a=b
  ·subst e1;rw[if_pos rfl] at h1;by_cases e2:a=c
   ·rw[if_pos e2] at h2 ⊢;exact Xz h1 h2
   ·rw[if_neg e2] at h2 ⊢;exact h2
  ·rw[if_neg e1] at h1;by_cases e2:b=c
   ·subst e2;rw[if_neg e1];exact h1
   ·rw[if_neg e2] at h2;have:=aaF h1 h2;by_cases e3:a=c
    ·subst e3;rw[Vv] at this;cases this
    ·rw[if_neg e3];exact this
theorem Rh:∀{p q:List iY.St},p≠q->lx p q=true\/lx q p=true
 | [],[],h=>absurd rfl h
 | [],_::_,_=>.inl rfl
 | _::_,[],_=>.inr rfl
 | a::p,b::q,h=>by
  unfold lx;by_cases e:a=b
  ·subst e;rw[if_pos rfl,if_pos rfl];exact Rh λz=>h (by rw[z])
  ·rw[if_neg e,if_neg λz=>e z.symm];exact Vu e
theorem aab(p:List iY.St):okP 60 (bQ p)=true:=by
 refine Qx6.mpr λd hd=>?_;obtain⟨a,_,rfl⟩:=Qw9.mp hd
 rfl
theorem Cr{ps:List P}{n:Nat}(nd:ps.Nodup)(hl:∀p∈ps,p.length=n)(hn:ps.length<=1000):lF (ps.map bQ):=by
 by_cases h2:ps.length<2
 ·exact .inl (by rw[Qqv];exact h2)
 have n0:0<n:=by
  rcases Nat.eq_zero_or_pos n with z|z
  ·exfalso
   match ps,nd,hl,h2 with
   | a::b::r,nd,hl,_=>
    have e1:=hl a (Qqj ..);have e2:=hl b (Qqk _ (Qqj ..));rw[z] at e1 e2;have:a=b:=by rw[List.length_eq_zero_iff.mp e1,List.length_eq_zero_iff.mp e2]
    rw[this,Qx9] at nd;exact nd.1 (Qqj ..)
   | [],_,_,h=>exact h (by decide)
   | [_],_,_,h=>exact h (by show 1<2;decide)
  ·exact z
 have one:∀d∈ps.map bQ,∃p,d=bQ p/\p∈ps:=λd hd=>by
  obtain⟨p,hp,rfl⟩:=Qw9.mp hd;exact⟨p,rfl,hp⟩
 refine .inr ⟨⟨by rw[Qqv];exact hn,λd hd=>by obtain⟨p,rfl,_⟩:=one d hd;exact aab p⟩,.inr ⟨λd hd=>?_,λd hd e he=>?_⟩,λd hd=>?_,λd hd e he f hf h1 h2=>?_,?_⟩
 ·obtain⟨p,rfl,hp⟩:=one d hd;have:=hl p hp
  match p,this with
  | [],z=>rw[<-z] at n0;exact absurd n0 (by decide)
  | _::_,_=>rfl
 ·obtain⟨p,rfl,_⟩:=one d hd;obtain⟨q,rfl,_⟩:=one e he;rw[wC];exact λz=>by cases z
 ·obtain⟨p,rfl,_⟩:=one d hd;rw[wC,Dl]
 ·obtain⟨p,rfl,_⟩:=one d hd;obtain⟨q,rfl,_⟩:=one e he;obtain⟨u,rfl,_⟩:=one f hf;rw[wC] at h1 h2 ⊢;rw[Xz (Qw1 h1) (Qw1 h2)]
 ·refine List.pairwise_map.mpr (nd.imp_of_mem λ{p q} hp hq hne=>?_);rw[wC,wC];rcases Rh hne with z|z
  ·exact .inl (by rw[z])
  ·exact .inr (by rw[z])
theorem T4{ps qs:List P}{n:Nat}(nd:ps.Nodup)(hl:∀p∈ps,p.length=n)(hn:ps.length<=1000)(hp:qs.Perm ps):bL (qs.map bQ)=bL (ps.map bQ):=by
 have o:jY (·∈ ps.map bQ):=by
  rcases Cr nd hl hn with z|⟨_,_,o1,o3,o4⟩
  ·rw[Qqv] at z
   match ps,z with
   | [],_=>exact⟨λ_ h=>by simp at h,λ_ _ _ h=>by simp at h,λ_ _ h=>by simp at h⟩
   | [p],_=>exact jY.of (λx hx=>by rw[Qq5.mp hx,wC,Dl]) (λx hx y hy z hz h _=>by rw[Qq5.mp hx,Qq5.mp hy,wC,Dl] at h;cases h) (List.pairwise_singleton _ _)
  ·exact jY.of o1 o3 o4
 have hq:∀y∈qs.map bQ,y∈ps.map bQ:=λy hy=>(hp.map bQ).mem_iff.mp hy;exact sV o (λy h=>h) ((fH _).trans (hp.map bQ)) (nM o _ hq)
section
variable{x:List Nat}{s:D}{Rs:List D}{ik:D}
theorem Lq{ps:List P}(h:All x s Rs ps):∀p∈ps,p.length=Rs.length:=λp hp=>by
 have:=KM.DX _ _ (h.ok p hp).u;rw[iY.n8] at this;exact this.symm
theorem Lp{s':D}{Rs':List D}{ps qs:List P}(h:All x s Rs ps)(h':All x s' Rs' qs)(e:lay s' Rs'=lay s Rs):∀p∈ps,p∈qs:=λp hp=>by
 obtain⟨w,hw,rfl⟩:=h.reach p hp;have go:∀(w:List Nat) (q:P),q∈qs->(∀a∈w,a∈x)->w.foldl (KM.rP x (lay s Rs)) q∈qs:=λw=>by
  induction w with
  | nil=>exact λq hq _=>hq
  | cons a w ih=>exact λq hq hw=>ih _ (by have:=h'.clo q hq a (hw a (Qqj ..));rw[e] at this;exact this) λb hb=>hw b (Qqk _ hb)
 refine go w _ ?_ hw;have:=h'.z0;rw[e] at this;exact Qj1 this
theorem SJ{s':D}{Rs':List D}{ps qs:List P}(h:All x s Rs ps)(h':All x s' Rs' qs)(e:lay s' Rs'=lay s Rs):qs.Perm ps:=
 (List.perm_ext_iff_of_nodup h'.nd h.nd).mpr λp=>⟨Lp h' h e.symm p,Lp h h' e p⟩
end
end KZ
namespace lH
open Ev PySem L2
open iW (cD)
open rN (XS sides)
open Hm (fG)
open iY (bC lay qI lK rM)
open KM (bQ P U rP FT lE m8 Bm oN wX All mZ jb fD uD Yo)
def Lk(b bx:bH):Prop:=∀env,(∃e,bx env = .rt true .non e)\/b env=bx env
theorem lQ(b:bH):Lk b b:=λ_=>.inr rfl
theorem Ii{a b:bH}{env e:Ev.Env}{o:Bool}{d:D}(h:a env = .rt o d e):aB a b env = .rt o d e:=by unfold aB;rw[h]
theorem rB{a ax b bx:bH}(h1:Lk a ax)(h2:Lk b bx):Lk (aB a b) (aB ax bx):=λenv=>by
 rcases h1 env with ⟨e,h⟩|h
 ·exact .inl ⟨e,Ii h⟩
 ·unfold aB;rw[h];cases ax env with
  | nx e=>exact h2 e
  | rt o d e=>exact .inr rfl
  | bk e=>exact .inr rfl
  | ct e=>exact .inr rfl
  | stuck=>exact .inr rfl
theorem adM{t:eO}{a ax b bx:bH}(h1:Lk a ax)(h2:Lk b bx):Lk (dJ t a b) (dJ t ax bx):=λenv=>by
 unfold dJ;cases t env with
 | stuck=>exact .inr rfl
 | ok c e1=>cases c with
  | true=>exact h1 e1
  | false=>exact h2 e1
theorem yF{t:eO}{b bx:bH}(h:Lk b bx):∀n,Lk (cN t b n) (cN t bx n)
 | 0,_=>.inr rfl
 | n+1,env=>by
  unfold cN;cases t env with
  | stuck=>exact .inr rfl
  | ok c e1=>cases c with
   | false=>exact .inr rfl
   | true=>
    simp only[gB,if_true];rcases h e1 with ⟨e,z⟩|z
    ·exact .inl ⟨e,by rw[z]⟩
    ·rw[z];cases bx e1 with
     | nx e=>exact yF h n e
     | ct e=>exact yF h n e
     | bk e=>exact .inr rfl
     | rt o d e=>exact .inr rfl
     | stuck=>exact .inr rfl
theorem Rn{a:dg}:Lk Cp (sS a):=λenv=>by
 unfold sS;cases a env with
 | stuck=>exact .inr rfl
 | ok ds e=>exact .inl ⟨e,rfl⟩
theorem Gp:Lk zL jW:=rB (lQ _) (rB (lQ _) (rB (lQ _) (rB (yF (rB (lQ _) (rB (lQ _) (rB (adM Rn (lQ _)) (lQ _)))) _) (lQ _))))
section
variable{x:List Nat}{s:D}{Rs:List D}{ik:D}
theorem Qc(hx4:x.length<=50)(hso:K27.fX [ik]=some (.tup (o9 x))):∀(m n:Nat) (ps:List P) (a5 a6 a7 a8:OD),n+m=7000->n<=ps.length->ps.length<=600->wX x s Rs ps->(∀p∈ps.take n,∀a∈x,rP x (lay s Rs) p a∈ps)->
  (∃e qs,cN (eY (aF Ol (ao d7 (aa (bf 4) aj)) (ao d7 (aa (bf 2) aj)))) dH m (uD ik (.tup [s,.tup Rs]) ps ((ps.take n).map (mZ x (lay s Rs) ps)) a5 a6 a7 a8) = .rt true .non e/\wX x s Rs qs/\600<qs.length)\/
  ∃ps' b5 b6 b7 b8,cN (eY (aF Ol (ao d7 (aa (bf 4) aj)) (ao d7 (aa (bf 2) aj)))) dH m (uD ik (.tup [s,.tup Rs]) ps ((ps.take n).map (mZ x (lay s Rs) ps)) a5 a6 a7 a8) =
   .nx (uD ik (.tup [s,.tup Rs]) ps' (ps'.map (mZ x (lay s Rs) ps')) b5 b6 b7 b8)/\All x s Rs ps'/\ps'.length<=600:=by
 intro m
 induction m with
 | zero=>
  intro n ps a5 a6 a7 a8 hm hn h6 F hc;omega
 | succ m ih=>
  intro n ps a5 a6 a7 a8 hm hn h6 F hc;have hrl:((ps.take n).map (mZ x (lay s Rs) ps)).length=n:=by rw[Qqv,Qw3];omega
  have ht:eY (aF Ol (ao d7 (aa (bf 4) aj)) (ao d7 (aa (bf 2) aj))) (uD ik (.tup [s,.tup Rs]) ps ((ps.take n).map (mZ x (lay s Rs) ps)) a5 a6 a7 a8) = .ok (decide (n<ps.length)) (uD ik (.tup [s,.tup Rs]) ps ((ps.take n).map (mZ x (lay s Rs) ps)) a5 a6 a7 a8):=by
   refine ig (bO rfl rfl ?_);rw[hrl,Qqv];show some (D.bl (decide ((n:Int)<(ps.length:Int))))=_
   congr 2
   simp
  by_cases hlt:n<ps.length
  ·rw[Qwy hlt] at ht;have hp:ps[n]? = some ps[n]:=Qqy hlt;obtain⟨ps',b6,b7,b8,g1,g2,g3,more,g4⟩:=KM.acS (ik:=ik) hx4 x [] ps a6 a7 a8 (by omega) rfl F (by rw[hrl];exact hp) (λa ha=>by simp at ha);have hn':n+1<=ps'.length:=by rw[g4,Qq1];omega
   by_cases hf:ps'.length<=600
   rotate_left
   ·refine .inl ⟨_,ps',KB.aca ht (?_:dH _ = .rt true .non (uD ik (.tup [s,.tup Rs]) ps' ((ps.take n).map (mZ x (lay s Rs) ps)) (Zl (x.map λa=>fD (jb x (lay s Rs) ps' ps[n] a))) b6 b7 b8)),g2,by omega⟩;generalize(ps.take n).map (mZ x (lay s Rs) ps)=rows at *;unfold dH;refine(aC rfl).trans ?_;refine(aC ((gF (lX (aL rfl hso) rfl)).trans g1)).trans ?_;have t6:eY (aF V9 (ao d7 (aa (bf 2) aj)) (Zi 600)) (uD ik (.tup [s,.tup Rs]) ps' rows (Zl (x.map λa=>fD (jb x (lay s Rs) ps' ps[n] a))) b6 b7 b8) = .ok true (uD ik (.tup [s,.tup Rs]) ps' rows (Zl (x.map λa=>fD (jb x (lay s Rs) ps' ps[n] a))) b6 b7 b8):=by
     refine ig (bO rfl rfl ?_);rw[Qqv];show some (D.bl (decide ((600:Int)<(ps'.length:Int))))=_;rw[Qwy (by omega)]
    exact Ii ((ie t6).trans rfl)
   have e1:(ps.take n).map (mZ x (lay s Rs) ps)++[mZ x (lay s Rs) ps' ps[n]]=(ps'.take (n+1)).map (mZ x (lay s Rs) ps'):=by
    have e2:ps'.take (n+1)=ps.take n++[ps[n]]:=by rw[g4,List.take_append_of_le_length (by omega),List.take_succ_eq_append_getElem hlt]
    rw[e2,Qz4]
    congr 1
    refine Qj5 λp hpm=>?_;unfold mZ
    congr 1
    refine Qj5 λa ha=>?_;unfold jb;rw[g4,KM.RM (hc p hpm a ha)]
   have hb:dH (uD ik (.tup [s,.tup Rs]) ps ((ps.take n).map (mZ x (lay s Rs) ps)) a5 a6 a7 a8) = .nx (uD ik (.tup [s,.tup Rs]) ps' ((ps'.take (n+1)).map (mZ x (lay s Rs) ps')) (Zl (x.map λa=>fD (jb x (lay s Rs) ps' ps[n] a))) b6 b7 b8):=by
    rw[<-e1];generalize(ps.take n).map (mZ x (lay s Rs) ps)=rows at *;unfold dH;refine(aC rfl).trans ?_;refine(aC ((gF (lX (aL rfl hso) rfl)).trans g1)).trans ?_;have t6:eY (aF V9 (ao d7 (aa (bf 2) aj)) (Zi 600)) (uD ik (.tup [s,.tup Rs]) ps' rows (Zl (x.map λa=>fD (jb x (lay s Rs) ps' ps[n] a))) b6 b7 b8) = .ok false (uD ik (.tup [s,.tup Rs]) ps' rows (Zl (x.map λa=>fD (jb x (lay s Rs) ps' ps[n] a))) b6 b7 b8):=by refine ig (bO rfl rfl ?_);rw[Qqv];show some (D.bl (decide ((600:Int)<(ps'.length:Int))))=_;rw[Qwx (by omega)]
    refine(aC (fP t6)).trans ?_;exact(cD (i:=4) (e:=uD ik (.tup [s,.tup Rs]) ps' rows (Zl (x.map λa=>fD (jb x (lay s Rs) ps' ps[n] a))) b6 b7 b8) rfl rfl rfl (by rw[hrl];exact Qwq hlt (Qq4 h6 (by decide)))).trans rfl
   rw[KB.Xa ht hb];refine ih (n+1) ps' _ _ _ _ (by omega) hn' hf g2 λp hpm a ha=>?_;have e2:ps'.take (n+1)=ps.take n++[ps[n]]:=by rw[g4,List.take_append_of_le_length (by omega),List.take_succ_eq_append_getElem hlt]
   rw[e2] at hpm;rcases Qw4.mp hpm with hpm|hpm
   ·rw[g4];exact Qx3 _ (hc p hpm a ha)
   ·rw[Qq5.mp hpm];exact g3 a ha
  ·rw[Qwx hlt] at ht;have e:n=ps.length:=by omega
   have e2:ps.take n=ps:=by rw[e,List.take_length]
   rw[e2] at hc;refine .inr ⟨ps,a5,a6,a7,a8,?_,⟨F,hc⟩,h6⟩;rw[KB.acb ht,e2]
theorem acO(hx:x∈XS)(hs:s∈sides)(hR:∀R∈Rs,fG x R)(h4:Rs.length<=4)(hso:K27.fX [ik]=some (.tup (o9 x))) :
  (eQ [ik,.tup [s,.tup Rs]]=true/\∃qs,wX x s Rs qs/\600<qs.length)\/
  ∃ps,eQ [ik,.tup [s,.tup Rs]]=false/\oh [ik,.tup [s,.tup Rs]]=some (.tup [.lst (ps.map bQ),.lst (ps.map (mZ x (lay s Rs) ps))])/\All x s Rs ps/\ps.length<=600:=by
 have hx4:x.length<=50:=Qq4 (iW.j8 x hx) (by decide);have hf:eN [.tup [s,.tup Rs]]=some (bQ (qI (lay s Rs))):=iY.first_standing hx hs hR (by omega);have o0:rM x s Rs (qI (lay s Rs)):=iY.zK hx hs hR h4;have F0:wX x s Rs [qI (lay s Rs)]:=⟨Qx9.mpr ⟨by simp,.nil⟩,rfl,λp hp=>by rw[Qq5.mp hp];exact⟨o0,KM.DY _ _⟩,λp hp=>by rw[Qq5.mp hp];exact⟨[],λa ha=>by simp at ha,rfl⟩⟩;have W:=Qc hx4 hso 7000 0 [qI (lay s Rs)] none none none none rfl (Qxy _) (by show 1<=600;decide) F0 (λp hp=>by simp at hp);have L:=Gp (envOf 9 [ik,.tup [s,.tup Rs]]);generalize hfe:qI (lay s Rs)=f at *;have go:∀o,cN (eY (aF Ol (ao d7 (aa (bf 4) aj)) (ao d7 (aa (bf 2) aj)))) dH 7000 (uD ik (.tup [s,.tup Rs]) [f] [] none none none none)=o->
   jW (envOf 9 [ik,.tup [s,.tup Rs]])=(match o with|.nx e=>bw (bN (Zv 2 (Zv 4 aj))) e|.rt o d e=>.rt o d e|.bk e=>.bk e|.ct e=>.ct e|.stuck=>.stuck):=λo ho=>by
  generalize D.tup [s,.tup Rs]=O at *;unfold jW;refine(aC (e:=[Zf ik,Zf O,Zl [bQ f],Zn,Zn,Zn,Zn,Zn,Zn]) ?_).trans ?_
  ·exact(o7 (GZ (aP (aL rfl hf) bI) Ev.zz1)).trans rfl
  refine(aC (e:=[Zf ik,Zf O,Zl [bQ f],Zt (.gh [(bQ f,.int 0)]),Zn,Zn,Zn,Zn,Zn]) ?_).trans ?_
  ·refine(o7 (e:=[Zf ik,Zf O,Zl [bQ f],Zn,Zn,Zn,Zn,Zn,Zn]) ?_).trans rfl;unfold vW;show(match Gg (bQ f) with|some _=>_|none=>_)=_;rw[oN.nk]
  refine(aC (e:=[Zf ik,Zf O,Zl [bQ f],Zt (.gh [(bQ f,.int 0)]),Zl [],Zn,Zn,Zn,Zn]) rfl).trans ?_;unfold aB;rw[show cN (eY (aF Ol (ao d7 (aa (bf 4) aj)) (ao d7 (aa (bf 2) aj)))) dH 7000 [Zf ik,Zf O,Zl [bQ f],Zt (.gh [(bQ f,.int 0)]),Zl [],Zn,Zn,Zn,Zn]=o from ho]<;>cases o<;>rfl
 rcases W with ⟨e,qs,w1,w2,w3⟩|⟨ps,b5,b6,b7,b8,w1,w2,w3⟩
 ·refine .inl ⟨?_,qs,w2,w3⟩;unfold eQ Ip;rw[go _ w1]
 ·have g:=go _ w1;have g':jW (envOf 9 [ik,.tup [s,.tup Rs]]) = .rt false (.tup [.lst (ps.map bQ),.lst (ps.map (mZ x (lay s Rs) ps))]) [Zf ik,Zf (.tup [s,.tup Rs]),Zf (.lst (ps.map bQ)),Zt (.gh (Bm bQ 0 ps)),Zf (.lst (ps.map (mZ x (lay s Rs) ps))),b5,b6,b7,b8]:=
   g.trans (bT (cW rfl Ev.Ht))
  refine .inr ⟨ps,?_,?_,w2,w3⟩
  ·unfold eQ Ip;rw[g']
  ·rcases L with ⟨e,z⟩|z
   ·rw[g'] at z;cases z
   ·exact dW (z.trans g')
end
open Tp (p7)
open KM (bQ P U rP FT lE oN wX All Yo)
noncomputable def kT(ps:List P):List (D×D):=ps.map λp=>(bQ p,.bl true)
theorem Jq:∀(ps:List P) (q:P),(jO (kT ps) (Tp.qS q)).isSome=decide (q∈ps)
 | [],q=>rfl
 | p::ps,q=>by
  have ih:=Jq ps q;unfold jO kT at ih ⊢;rw[Qwv,Qzv];have hp:tO (bQ p)=some (Tp.qS p):=(yw (oN.nk p)).1;by_cases h:p=q
  ·subst h;simp[hp]
  ·have hne:¬(some (Tp.qS p)=some (Tp.qS q)):=λe=>h (oN.inj p q (Qw1 e));simp only[hp,Qwx hne];rw[ih];simp[Ne.symm h]
theorem aaL(ps:List P)(q:P)(h:q ∉ ps):qF (kT ps) (bQ q) (Tp.qS q) (.bl true)=kT (ps++[q]):=by unfold qF;rw[Jq,Qwx h];simp[kT]
theorem Ry(ps:List P)(q:P):jN (bQ q) (.gh (kT ps))=some (.bl (!decide (q∈ps))):=by show(Gg (bQ q)).map _=_;rw[oN.nk];show some (D.bl (!(jO (kT ps) (Tp.qS q)).isSome))=_;rw[Jq]
theorem Rz(ps:List P):(kT ps).length=ps.length:=by unfold kT;rw[Qqv]
noncomputable abbrev xx(O:D)(x:List Nat)(f:P)(ks ts:List P)(a5 a6 a7:OD):Ev.Env:=
 [Zf O,Zs x,Zf (bQ f),Zt (.gh (kT ks)),Zl (ts.map bQ),a5,a6,a7]
section
variable{x:List Nat}{s:D}{Rs:List D}{f:P}
theorem reads{p:P}(o:Yo x s Rs p){a:Nat}(ha:a∈x):iU [.tup [s,.tup Rs],bQ p,.str [a]]=some (.tup [bQ (rP x (lay s Rs) p a),.str (FT x (lay s Rs) p a)]):=
 iY.M7 o.o (z:=[a]) (λb hb=>by rw[Qq5.mp hb];exact Qqk _ ha) (by show 1<=7;decide)
theorem adN{ks ts:List P}(F:wX x s Rs ks){p:P}(hp:p∈ks){a:Nat}(ha:a∈x)(hl:ks.length<=601)(ht:ts.length<=700)(a7:OD) :
  ∃more,kj (xx (.tup [s,.tup Rs]) x f ks ts (Zf (bQ p)) (Zs [a]) a7) = .nx (xx (.tup [s,.tup Rs]) x f (ks++more) (ts++more) (Zf (bQ p)) (Zs [a]) (Zf (bQ (rP x (lay s Rs) p a))))/\
   wX x s Rs (ks++more)/\(ks++more).length<=601/\((ks++more).length<601->rP x (lay s Rs) p a∈ks++more)/\more.length<=1:=by
 have h1:=reads (F.ok p hp) ha;have F2:=F.add hp ha;generalize hq:rP x (lay s Rs) p a=q at *;generalize FT x (lay s Rs) p a=o at *;generalize D.tup [s,.tup Rs]=O at *;have e1:aN (aF dF (ao iU (Zv 0 (Zv 5 (Zv 6 aj)))) (Zi 0)) (ak 7) (xx O x f ks ts (Zf (bQ p)) (Zs [a]) a7) = .nx (xx O x f ks ts (Zf (bQ p)) (Zs [a]) (Zf (bQ q))):=
  bF (d:=bQ q) (e:=xx O x f ks ts (Zf (bQ p)) (Zs [a]) a7) (bO (x:=.tup [bQ q,.str o]) (y:=.int 0) (aL (ds:=[O,bQ p,.str [a]]) rfl h1) rfl rfl) rfl
 have t1:eY (az jN 7 (bf 3)) (xx O x f ks ts (Zf (bQ p)) (Zs [a]) (Zf (bQ q))) = .ok (!decide (q∈ks)) (xx O x f ks ts (Zf (bQ p)) (Zs [a]) (Zf (bQ q))):=ig (bZ rfl rfl rfl (Ry ks q));have t2:eY (aF Ol (ao Bp (aa (bf 3) aj)) (Zi 601)) (xx O x f ks ts (Zf (bQ p)) (Zs [a]) (Zf (bQ q))) = .ok (decide (ks.length<601)) (xx O x f ks ts (Zf (bQ p)) (Zs [a]) (Zf (bQ q))):=by refine ig (bO rfl rfl ?_);rw[Rz];show some (D.bl (decide ((ks.length:Int)<601)))=_;rw[show decide ((ks.length:Int)<601)=decide (ks.length<601) from decide_eq_decide.mpr (by omega)]
 unfold kj;rw[aC e1];have no:(q∈ks\/¬ks.length<601)->∃more,dJ (lC (eY (az jN 7 (bf 3))) (eY (aF Ol (ao Bp (aa (bf 3) aj)) (Zi 601)))) (aB (nJ 3 (aK 7) (rQ (.bl true))) (fM 4 (aK 7))) bU (xx O x f ks ts (Zf (bQ p)) (Zs [a]) (Zf (bQ q))) =
   .nx (xx O x f (ks++more) (ts++more) (Zf (bQ p)) (Zs [a]) (Zf (bQ q)))/\wX x s Rs (ks++more)/\(ks++more).length<=601/\((ks++more).length<601->q∈ks++more)/\more.length<=1:=λhno=>by
  refine⟨[],?_,by rw[Qw0];exact F,by rw[Qw0];exact hl,λh=>?_,by decide⟩
  ·rw[Qw0,Qw0];refine(fP (e:=xx O x f ks ts (Zf (bQ p)) (Zs [a]) (Zf (bQ q))) ?_).trans rfl;unfold lC;rw[t1];simp only[bindR];by_cases XX:q∈ks
   ·rw[Qwy XX];rfl
   ·rw[Qwx XX,t2,Qwx (hno.resolve_left XX)];rfl
  ·rw[Qw0] at h ⊢;exact hno.resolve_right λz=>z h
 by_cases XX:q∈ks
 ·exact no (.inl XX)
 ·by_cases h6:ks.length<601
  ·have e:lE ks q=ks++[q]:=if_neg XX;rw[e] at F2;refine⟨[q],?_,F2,by rw[Qq1,Qx0];omega,λ_=>by simp,Qq0 1⟩;refine(ie (e:=xx O x f ks ts (Zf (bQ p)) (Zs [a]) (Zf (bQ q))) ?_).trans ?_
   ·unfold lC;rw[t1,Qwx XX];simp only[bindR];rw[t2,Qwy h6]
    rfl
   have s4:=p7 (i:=3) (k:=aK 7) (a:=rQ (.bl true)) (env:=xx O x f ks ts (Zf (bQ p)) (Zs [a]) (Zf (bQ q))) rfl rfl rfl rfl (oN.nk q) (by rw[Rz];exact Qxq hl (by decide));rw[aaL ks q XX] at s4;rw[aC s4];refine(cD (i:=4) (e:=[Zf O,Zs x,Zf (bQ f),Zt (.gh (kT (ks++[q]))),Zl (ts.map bQ),Zf (bQ p),Zs [a],Zf (bQ q)]) rfl rfl rfl (by rw[Qqv];exact Qxq ht (by decide))).trans ?_;have e5:ts.map bQ++[bQ q]=(ts++[q]).map bQ:=by rw[Qz4];rfl
   rw[e5]
   rfl
  ·exact no (.inr h6)
theorem adO{p:P}:∀(rest done:List Nat) (ks ts:List P) (a6 a7:OD),x=done++rest->wX x s Rs ks->ks.length<=601->ts.length+rest.length<=700->p∈ks->(ks.length<601->∀a∈done,rP x (lay s Rs) p a∈ks)->
  ∃more b6 b7,jh (ak 6) kj (o9 rest) (xx (.tup [s,.tup Rs]) x f ks ts (Zf (bQ p)) a6 a7) = .nx (xx (.tup [s,.tup Rs]) x f (ks++more) (ts++more) (Zf (bQ p)) b6 b7)/\
   wX x s Rs (ks++more)/\(ks++more).length<=601/\((ks++more).length<601->∀a∈x,rP x (lay s Rs) p a∈ks++more):=by
 intro rest
 induction rest with
 | nil=>
  intro done ks ts a6 a7 hx F hl ht hp hd;rw[Qw0] at hx;subst hx;exact⟨[],a6,a7,by rw[Qw0,Qw0];rfl,by rw[Qw0];exact F,by rw[Qw0];exact hl,by rw[Qw0];exact hd⟩
 | cons a rest ih=>
  intro done ks ts a6 a7 hx F hl ht hp hd;rw[Qqw] at ht;have ha:a∈x:=by rw[hx];simp
  obtain⟨m1,g1,g2,g3,g4,g5⟩:=adN (f:=f) F hp ha hl (ts:=ts) (by omega) a7;obtain⟨m2,b6,b7,k1,k2,k3,k4⟩:=ih (done++[a]) (ks++m1) (ts++m1) (Zs [a]) (Zf (bQ (rP x (lay s Rs) p a))) (by rw[hx];simp) g2 g3 (by rw[Qq1];omega) (Qx3 _ hp) (λh b hb=>by
   rcases Qw4.mp hb with hb|hb
   ·exact Qx3 _ (hd (by rw[Qq1] at h;omega) b hb)
   ·rw[Qq5.mp hb];exact g4 h)
  refine⟨m1++m2,b6,b7,?_,by rw[<-Qwj];exact k2,by rw[<-Qwj];exact k3,by rw[<-Qwj];exact k4⟩;rw[<-Qwj,<-Qwj,<-k1];exact KB.K5 rfl g1
theorem R0{i:Nat}{env:Ev.Env}{xs:List D}{d:D}(h:env[i]? = some (Zl xs))(h2:xs[xs.length - 1]? = some d):Bt i env = .ok d (env.set i (Zl xs.dropLast)):=by unfold Bt;rw[h];simp only;rw[h2]
theorem VH(hx4:x.length<=50):∀(m d:Nat) (ks ts:List P) (a5 a6 a7:OD),d+m=7000->ks.length=ts.length+d->wX x s Rs ks->ks.length<=601->(∀t∈ts,t∈ks)->(ks.length<601->∀p∈ks,p∈ts\/∀a∈x,rP x (lay s Rs) p a∈ks)->
  ∃ks' b5 b6 b7,cN (eY (az zY 4 (cu aj))) j9 m (xx (.tup [s,.tup Rs]) x f ks ts a5 a6 a7) = .nx (xx (.tup [s,.tup Rs]) x f ks' [] b5 b6 b7)/\wX x s Rs ks'/\ks'.length<=601/\(ks'.length<601->All x s Rs ks'):=by
 intro m
 induction m with
 | zero=>intro d ks ts a5 a6 a7 hm hk F hl _ _;omega
 | succ m ih=>
  intro d ks ts a5 a6 a7 hm hk F hl hs hc;rcases List.eq_nil_or_concat ts with rfl|⟨r,t,rfl⟩
  ·refine⟨ks,a5,a6,a7,KB.acb rfl,F,hl,λh=>⟨F,λp hp a ha=>?_⟩⟩;rcases hc h p hp with z|z
   ·cases z
   ·exact z a ha
  ·rw[List.concat_eq_append] at *;have tne:eY (az zY 4 (cu aj)) (xx (.tup [s,.tup Rs]) x f ks (r++[t]) a5 a6 a7) = .ok true (xx (.tup [s,.tup Rs]) x f ks (r++[t]) a5 a6 a7):=by
    refine ig (bZ (y:=.lst []) rfl rfl rfl ?_);cases r<;>rfl
   have ep:aN (Bt 4) (ak 5) (xx (.tup [s,.tup Rs]) x f ks (r++[t]) a5 a6 a7) = .nx (xx (.tup [s,.tup Rs]) x f ks r (Zf (bQ t)) a6 a7):=by
    refine bF (d:=bQ t) (e:=xx (.tup [s,.tup Rs]) x f ks r a5 a6 a7) ((R0 (d:=bQ t) (xs:=(r++[t]).map bQ) rfl ?_).trans ?_) rfl
    ·rw[Qz4,Qq1];simp
    ·rw[Qz4];simp
   rw[Qq1,Qx0] at hk;obtain⟨more,b6,b7,g1,g2,g3,g4⟩:=adO (f:=f) x [] ks r a6 a7 rfl F hl (by omega) (hs t (by simp)) (λ_ a ha=>by cases ha);rw[KB.Xa tne (show j9 _ = .nx (xx (.tup [s,.tup Rs]) x f (ks++more) (r++more) (Zf (bQ t)) b6 b7) from by
    unfold j9;rw[aC ep];exact(gF (lX (d:=.str x) rfl rfl)).trans g1)]
   refine ih (d+1) (ks++more) (r++more) _ _ _ (by omega) (by rw[Qq1,Qq1];omega) g2 g3 (λq hq=>?_) (λh q hq=>?_)
   ·rcases Qw4.mp hq with hq|hq
    ·exact Qx3 _ (hs q (Qx3 _ hq))
    ·exact Qxx _ hq
   ·rcases Qw4.mp hq with hq|hq
    ·rcases hc (by rw[Qq1] at h;omega) q hq with z|z
     ·rcases Qw4.mp z with z|z
      ·exact .inl (Qx3 _ z)
      ·rw[Qq5.mp z];exact .inr (g4 h)
     ·exact .inr λa ha=>Qx3 _ (z a ha)
    ·exact .inl (Qxx _ hq)
theorem K8{ps:List P}(h:wX x s Rs ps):∀p∈ps,p.length=Rs.length:=λp hp=>by
 have:=KM.DX _ _ (h.ok p hp).u;rw[iY.n8] at this;exact this.symm
theorem VF(hx:x∈XS)(hs:s∈sides)(hR:∀R∈Rs,fG x R)(h4:Rs.length<=4) :
  ∃ks,vV [.tup [s,.tup Rs],.str x]=some (.lst (bL (ks.map bQ)))/\wX x s Rs ks/\ks.length<=601/\(ks.length<601->All x s Rs ks):=by
 have hx4:x.length<=50:=Qq4 (iW.j8 x hx) (by decide);have hb:jV [.tup [s,.tup Rs]]=some (bQ (qI (lay s Rs))):=iY.M8 hx hs hR (by omega);have o0:rM x s Rs (qI (lay s Rs)):=iY.zK hx hs hR h4;have F0:wX x s Rs [qI (lay s Rs)]:=⟨Qx9.mpr ⟨by simp,.nil⟩,rfl,λp hp=>by rw[Qq5.mp hp];exact⟨o0,KM.DY _ _⟩,λp hp=>by rw[Qq5.mp hp];exact⟨[],λa ha=>by simp at ha,rfl⟩⟩;obtain⟨ks,b5,b6,b7,g1,g2,g3,g4⟩:=VH (f:=qI (lay s Rs)) hx4 7000 0 [qI (lay s Rs)] [qI (lay s Rs)] none none none rfl rfl F0 (by show 1<=601;decide) (λt h=>h) (λ_ p hp=>.inl hp);refine⟨ks,?_,g2,g3,g4⟩;generalize qI (lay s Rs)=f at *;generalize hO:D.tup [s,.tup Rs]=O at *;refine dW (env:=xx O x f ks [] b5 b6 b7) ?_;unfold BL;refine(aC (e:=[Zf O,Zs x,Zf (bQ f),Zn,Zn,Zn,Zn,Zn]) (bF (aL rfl hb) rfl)).trans ?_;refine(aC (e:=[Zf O,Zs x,Zf (bQ f),Zt (.gh [(bQ f,.bl true)]),Zn,Zn,Zn,Zn]) ?_).trans ?_
 ·refine(o7 (e:=[Zf O,Zs x,Zf (bQ f),Zn,Zn,Zn,Zn,Zn]) ?_).trans rfl;unfold vW;show(match Gg (bQ f) with|some _=>_|none=>_)=_;rw[oN.nk]
 refine(aC rfl).trans ?_;refine(aC g1).trans ?_;have e:(kT ks).map (·.1)=ks.map bQ:=by unfold kT;rw[Qj2];rfl
 have g:yU [.gh (kT ks)]=some (.lst (bL (ks.map bQ))):=by show(if lF ((kT ks).map (·.1)) then _ else _)=_;rw[e,if_pos (KZ.Cr g2.nd (K8 g2) (Qq4 g3 (by decide)))]
 exact bT (aL (aP rfl bI) g)
end
open KM (bQ P U rP wX All Yo mZ)
theorem ab9(a b:D):fW [a,b]=eQ [a,b]:=by
 unfold fW Ip uo Cq;have e:ji eQ (Zv 0 (Zv 1 aj)) (envOf 2 [a,b])=if eQ [a,b]=true then .ok true (envOf 2 [a,b]) else .stuck:=rfl
 rw[e];cases eQ [a,b]<;>rfl
theorem Vi:oA [Tg "TooMany",.int 0]=some (.bl true):=by kernel_rfl
section
variable{x:List Nat}{s:D}{Rs:List D}{ik:D}
theorem K7{ps qs:List P}(h':All x s Rs ps)(h:wX x s Rs qs):∀p∈qs,p∈ps:=λp hp=>by
 obtain⟨w,hw,rfl⟩:=h.reach p hp;have go:∀(w:List Nat) (q:P),q∈ps->(∀a∈w,a∈x)->w.foldl (rP x (lay s Rs)) q∈ps:=λw=>by
  induction w with
  | nil=>exact λq hq _=>hq
  | cons a w ih=>exact λq hq hw=>ih _ (h'.clo q hq a (hw a (Qqj ..))) λb hb=>hw b (Qqk _ hb)
 exact go w _ (Qj1 h'.z0) hw
theorem aaa(ps:List P):okN 60 (.tup (bL (ps.map bQ)))=true:=Qx6.mpr λd hd=>by
 obtain⟨p,_,rfl⟩:=Qw9.mp ((fH _).mem_iff.mp hd);refine Qx6.mpr λd hd=>?_;obtain⟨a,_,rfl⟩:=Qw9.mp hd
 rfl
theorem Rq(ps:List P):(bL (ps.map bQ)).length=ps.length:=by rw[(fH _).length_eq,Qqv]
theorem Ck{ps:List P}{rows:List D}(h:oh [ik,.tup [s,.tup Rs]]=some (.tup [.lst (ps.map bQ),.lst rows]))(A:All x s Rs ps)(hl:ps.length<=600):iT [ik,.tup [s,.tup Rs]]=some (.tup (bL (ps.map bQ))):=by refine dW (env:=[Zf ik,Zf (.tup [s,.tup Rs])]) ?_;unfold wK;have g:yS [.lst (ps.map bQ)]=some (.lst (bL (ps.map bQ))):=if_pos (KZ.Cr A.nd (KZ.Lq A) (Qq4 hl (by decide)));exact bT (aL (ds:=[.lst (bL (ps.map bQ))]) (aP (aL (ds:=[.lst (ps.map bQ)]) (aP (bO (x:=.tup [.lst (ps.map bQ),.lst rows]) (y:=.int 0) (aL (ds:=[ik,.tup [s,.tup Rs]]) rfl h) rfl rfl) bI) g) bI) rfl)
noncomputable abbrev E15(A0 A1 A2 A3 A4 A5 A6 A7 A8 A9:OD):Ev.Env:=[A0,A1,A2,A3,A4,A5,A6,A7,A8,A9]
theorem Z9(A0 A1 A2 A3 A4 A5 A6 A7 A8:OD)(p:P)(hp:p.length<=4):pO (E15 A0 A1 A2 A3 A4 A5 A6 A7 A8 (Zf (bQ p))) = .nx (E15 A0 A1 A2 A3 A4 A5 A6 A7 A8 (Zf (bQ p))):=by
 obtain⟨env',g1,v,u,rfl⟩:=n6 (g:=cP 2 (aO (ak 10) (aO (ak 11) cQ))) (e:=oX (Jy "bool") (aK 10)) (λenv=>∃v u,env=[A0,A1,A2,A3,A4,A5,A6,A7,A8,Zf (bQ p),v,u]) (λ_=>.bl true) (p.map bC)
  [A0,A1,A2,A3,A4,A5,A6,A7,A8,Zf (bQ p),Zn,Zn] ⟨none,Zn,rfl⟩
  (λd hd env ⟨v,u,he⟩=>by
   subst he;obtain⟨t,_,rfl⟩:=Qw9.mp hd;exact⟨[A0,A1,A2,A3,A4,A5,A6,A7,A8,Zf (bQ p),Zb t.1,Zs t.2],_,rfl,rfl,_,_,rfl⟩)
 unfold pO;refine(fP (e:=E15 A0 A1 A2 A3 A4 A5 A6 A7 A8 (Zf (bQ p))) (Nz (b:=true) (ig (aL (ds:=[.lst ((p.map bC).map λ_=>.bl true)]) (aP ?_ bI) ?_)))).trans rfl
 ·exact kE (lo:=10) (n:=12) (ds:=p.map bC) (aG:=E15 A0 A1 A2 A3 A4 A5 A6 A7 A8 (Zf (bQ p))) (by rfl) (by rfl) g1 (by rw[Qqv,Qqv];exact Qq4 hp (by decide))
 ·show(p8 ((p.map bC).map λ_=>D.bl true)).map _=_;rw[List.map_const',iW.zJ];show some (D.bl ((List.replicate _ true).all id))=_;rw[iW.all_true]
end
theorem O6(ns:List Int)(hl:ns.length<=63)(hb:Oi ns):La [.arr (ns.map .int)]=some (.bl true):=by
 obtain⟨p,hp⟩:=iY.pack ns hl hb 0 (by decide) (by decide);obtain⟨x,rs,n,hx,hst,hr⟩:=iW.stock p;obtain⟨s,Rs,n1,hor,hs,hR,h4⟩:=iY.order n x hx 4 (by decide);have hso:=iW.sounds_of hx hr;have hsn:=iW.Jp hx hr;obtain⟨ks,k1,k2,k3,k4⟩:=VF hx hs hR h4;have RX:=acO (ik:=.tup rs) hx hs hR h4 hso;generalize hA:(Zf (D.arr (ns.map .int)):OD)=A0;generalize hO:D.tup [s,.tup Rs]=O at *
 -- up to the try
 have run:∀o,aB (sJ (aN (ao iT (Zv 2 (Zv 4 aj))) (ak 6)) (ji fW (Zv 2 (Zv 4 aj))) 7 8 "TooMany") (aB (dJ (eY (aF V9 (ao d7 (aa (bf 5) aj)) (Zi 600))) (bw (ao oA (Zv 7 (aa (Zi 0) aj)))) bU) (aB (dJ (wI (eY (az yW 7 (rQ .non))) (wI (pU (eY (oX (Jy "tuple") (aK 6)))) (eY (az zY 6 (ao cA (aa (bf 5) aj)))))) (bw (rQ (.bl false))) bU) (aB (gq (gf (aK 6)) (ak 9) (pO)) (bw (rQ (.bl true))))))
   (E15 A0 (Zl [.int n1]) (Zf (.tup rs)) (Zs x) (Zf O) (Zf (.lst (bL (ks.map bQ)))) (Zf (.non)) (Zf (.non)) none none)=o->Sx (envOf 10 [.arr (ns.map .int)])=o:=λo ho=>by
  have e0:envOf 10 [D.arr (ns.map .int)]=E15 A0 none none none none none none none none none:=by rw[<-hA];rfl
  rw[e0];unfold Sx;refine(aC (e:=E15 A0 (Zl [.int p]) none none none none none none none none) ?_).trans ?_
  ·rw[<-hA];exact(o7 (d:=.lst [.int p]) (e:=E15 (Zf (.arr (ns.map .int))) none none none none none none none none none) (aL (ds:=[.arr (ns.map .int),.int 0]) (by rfl) hp)).trans rfl
  refine(aC (e:=E15 A0 (Zl [.int n]) (Zf (.tup rs)) none none none none none none none) ?_).trans ?_
  ·refine bF (e:=E15 A0 (Zl [.int n]) none none none none none none none none) ?_ (by rfl);exact iC (e1:=E15 A0 (Zl [.int p]) none none none none none none none none) (by rfl) (by rfl) (by rfl) hst
  refine(aC (e:=E15 A0 (Zl [.int n]) (Zf (.tup rs)) (Zs x) none none none none none none) (bF (aL (by rfl) hsn) (by rfl))).trans ?_;refine(aC (e:=E15 A0 (Zl [.int n1]) (Zf (.tup rs)) (Zs x) (Zf O) none none none none none) ?_).trans ?_
  ·refine bF (e:=E15 A0 (Zl [.int n1]) (Zf (.tup rs)) (Zs x) none none none none none none) ?_ (by rfl);exact iC (e1:=E15 A0 (Zl [.int n]) (Zf (.tup rs)) (Zs x) none none none none none none) (by rfl) (by rfl) (by rfl) hor
  refine(aC (e:=E15 A0 (Zl [.int n1]) (Zf (.tup rs)) (Zs x) (Zf O) (Zf (.lst (bL (ks.map bQ)))) none none none none) (bF (aL (ds:=[O,.str x]) (by rfl) k1) (by rfl))).trans ?_;refine(aC (by rfl)).trans ?_;exact(aC (by rfl)).trans ho
 have many:∀(A6 A7 A8:OD),eY (aF V9 (ao d7 (aa (bf 5) aj)) (Zi 600)) (E15 A0 (Zl [.int n1]) (Zf (.tup rs)) (Zs x) (Zf O) (Zf (.lst (bL (ks.map bQ)))) A6 A7 A8 none) =
   .ok (decide (600<ks.length)) (E15 A0 (Zl [.int n1]) (Zf (.tup rs)) (Zs x) (Zf O) (Zf (.lst (bL (ks.map bQ)))) A6 A7 A8 none):=λA6 A7 A8=>by
  refine ig (bO (x:=.int ((bL (ks.map bQ)).length:Int)) (y:=.int 600) rfl rfl ?_);rw[Rq];show some (D.bl (decide ((600:Int)<(ks.length:Int))))=_;rw[show decide ((600:Int)<(ks.length:Int))=decide (600<ks.length) from decide_eq_decide.mpr (by omega)]
 have cx:ji fW (Zv 2 (Zv 4 aj)) (E15 A0 (Zl [.int n1]) (Zf (.tup rs)) (Zs x) (Zf O) (Zf (.lst (bL (ks.map bQ)))) (Zf (.non)) (Zf (.non)) none none) =
   if eQ [.tup rs,O]=true then .ok true (E15 A0 (Zl [.int n1]) (Zf (.tup rs)) (Zs x) (Zf O) (Zf (.lst (bL (ks.map bQ)))) (Zf (.non)) (Zf (.non)) none none) else .stuck:=by
  rw[<-ab9];rfl
 rcases RX with ⟨r1,qs,F,hq⟩|⟨ps,r1,r2,A,hps⟩
 ·have h6:600<ks.length:=by
   rcases Nat.lt_or_ge ks.length 601 with z|z
   ·have:=KB.yt ks qs F.nd (K7 (k4 z) F);omega
   ·omega
  rw[r1,if_pos rfl] at cx;refine dW (env:=E15 A0 (Zl [.int n1]) (Zf (.tup rs)) (Zs x) (Zf O) (Zf (.lst (bL (ks.map bQ)))) (Zf (.non)) (Zf (Tg "TooMany")) none none) (run _ ?_);have ht:sJ (aN (ao iT (Zv 2 (Zv 4 aj))) (ak 6)) (ji fW (Zv 2 (Zv 4 aj))) 7 8 "TooMany" (E15 A0 (Zl [.int n1]) (Zf (.tup rs)) (Zs x) (Zf O) (Zf (.lst (bL (ks.map bQ)))) (Zf (.non)) (Zf (.non)) none none) =
    .nx (E15 A0 (Zl [.int n1]) (Zf (.tup rs)) (Zs x) (Zf O) (Zf (.lst (bL (ks.map bQ)))) (Zf (.non)) (Zf (Tg "TooMany")) none none):=by
   unfold sJ;rw[cx]
   rfl
  rw[aC ht];have t:=many (Zf (.non)) (Zf (Tg "TooMany")) none;rw[Qwy h6] at t;exact Ii ((ie t).trans (bT (aL (ds:=[Tg "TooMany",.int 0]) rfl Vi)))
 ·have h6:ks.length<=600:=Qq4 (KB.yt ps ks k2.nd (K7 A k2)) hps;have K:=k4 (by omega);have afX:bL (ks.map bQ)=bL (ps.map bQ):=KZ.T4 A.nd (KZ.Lq A) (Qq4 hps (by decide)) (KZ.SJ A K rfl);rw[<-hO] at r2;have hst2:=Ck r2 A hps;rw[<-afX,hO] at hst2;rw[r1,if_neg (by decide)] at cx;obtain⟨e',f1,b9,rfl⟩:=GQ (g:=ak 9) (b:=pO) (λenv=>∃b9,env=E15 A0 (Zl [.int n1]) (Zf (.tup rs)) (Zs x) (Zf O) (Zf (.lst (bL (ks.map bQ)))) (Zf (.tup (bL (ks.map bQ)))) (Zf (.non)) none b9) (bL (ks.map bQ))
   (λd hd env ⟨b9,he⟩=>by
    subst he;obtain⟨q,hq,rfl⟩:=Qw9.mp ((fH _).mem_iff.mp hd);exact⟨_,_,rfl,Z9 _ _ _ _ _ _ _ _ _ q (by rw[K8 k2 q hq];exact h4),_,rfl⟩)
   (E15 A0 (Zl [.int n1]) (Zf (.tup rs)) (Zs x) (Zf O) (Zf (.lst (bL (ks.map bQ)))) (Zf (.tup (bL (ks.map bQ)))) (Zf (.non)) none none) ⟨none,rfl⟩
  refine dW (env:=E15 A0 (Zl [.int n1]) (Zf (.tup rs)) (Zs x) (Zf O) (Zf (.lst (bL (ks.map bQ)))) (Zf (.tup (bL (ks.map bQ)))) (Zf (.non)) none b9) (run _ ?_);have ht:sJ (aN (ao iT (Zv 2 (Zv 4 aj))) (ak 6)) (ji fW (Zv 2 (Zv 4 aj))) 7 8 "TooMany" (E15 A0 (Zl [.int n1]) (Zf (.tup rs)) (Zs x) (Zf O) (Zf (.lst (bL (ks.map bQ)))) (Zf (.non)) (Zf (.non)) none none) =
    .nx (E15 A0 (Zl [.int n1]) (Zf (.tup rs)) (Zs x) (Zf O) (Zf (.lst (bL (ks.map bQ)))) (Zf (.tup (bL (ks.map bQ)))) (Zf (.non)) none none):=by
   unfold sJ;rw[cx];exact bF (aL (ds:=[.tup rs,O]) rfl hst2) rfl
  rw[aC ht];have t:=many (Zf (.tup (bL (ks.map bQ)))) (Zf (.non)) none;rw[Qwx (by omega)] at t;refine(aC ((fP t).trans rfl)).trans ?_;refine(aC ((fP (e:=E15 A0 (Zl [.int n1]) (Zf (.tup rs)) (Zs x) (Zf O) (Zf (.lst (bL (ks.map bQ)))) (Zf (.tup (bL (ks.map bQ)))) (Zf (.non)) none none) ?_).trans rfl)).trans ?_
  ·refine(Lb (e:=E15 A0 (Zl [.int n1]) (Zf (.tup rs)) (Zs x) (Zf O) (Zf (.lst (bL (ks.map bQ)))) (Zf (.tup (bL (ks.map bQ)))) (Zf (.non)) none none) (by rfl)).trans ?_;refine(Lb (e:=E15 A0 (Zl [.int n1]) (Zf (.tup rs)) (Zs x) (Zf O) (Zf (.lst (bL (ks.map bQ)))) (Zf (.tup (bL (ks.map bQ)))) (Zf (.non)) none none) (by rfl)).trans ?_;exact ig (bZ (y:=.tup (bL (ks.map bQ))) rfl rfl rfl (Hm.jR (aaa ks)))
  exact(aC ((gF (lX (d:=.tup (bL (ks.map bQ))) rfl rfl)).trans f1)).trans rfl
open PySem PySem.Spec PyProof.Rows L2 Ev
theorem all_mk{P:Program}{w:World}{K:Fg}{h:Heap}{mg:Str->Option Value}{fa:Addr}(X:K.In h)(G:h.Ns mainGlobals mg)(hfa:mg "law" = some (.ref fa))
  {Hj Hi zH Hh zG Hg jk bJ:Addr} {YC:Tok} {uQ:Tok}
  (rU:PySem.W.nsIn K mainGlobals "ValueError" = some none) (W7:PySem.W.nsIn K mainGlobals "all" = some none) (Ou:PySem.W.nsIn K mainGlobals "bool" = some none) (Ot:PySem.W.nsIn K mainGlobals "dict" = some none) (Eh:PySem.W.nsIn K mainGlobals "divmod" = some none) (W6:PySem.W.nsIn K mainGlobals "int" = some none) (rT:PySem.W.nsIn K mainGlobals "isinstance" = some none) (W5:PySem.W.nsIn K mainGlobals "len" = some none) (Oq:PySem.W.nsIn K mainGlobals "list" = some none) (JW:PySem.W.nsIn K mainGlobals "range" = some none) (Eg:PySem.W.nsIn K mainGlobals "sorted" = some none) (JV:PySem.W.nsIn K mainGlobals "tuple" = some none) (W4:PySem.W.nsIn K mainGlobals "zip" = some none) (pQ:∀d:D,PySem.W.kitOne K (.type (TV d)) (.type "bool")=some (tU d "bool")) (ni:∀d:D,PySem.W.kitOne K (.type (TV d)) (.type "tuple")=some (tU d "tuple")) (yD:PySem.W.nsIn K mainGlobals "NoCall" = some (some (.ref Hj))) (yC:PySem.W.nsIn K mainGlobals "NoKept" = some (some (.ref Hi))) (rn:PySem.W.nsIn K mainGlobals "NoNumber" = some (some (.ref zH))) (yz:PySem.W.nsIn K mainGlobals "NoSide" = some (some (.ref Hh))) (rm:PySem.W.nsIn K mainGlobals "NoSource" = some (some (.ref zG))) (yx:PySem.W.nsIn K mainGlobals "NoText" = some (some (.ref Hg))) (kh:PySem.W.nsIn K mainGlobals "SoundError" = some (some (.ref jk))) (dX:PySem.W.nsIn K mainGlobals "TooMany" = some (some (.ref bJ))) (dC:PySem.W.excIn K bJ [.type "ValueError",.type "Exception",.type "BaseException",.type "object"] "ValueError.__new__" = true) (dB:XC.Cl K bJ) (mH:XC.Cl K jk) (mF:PySem.W.typeIn K (.ref jk)=some (.type "type")) (mG:PySem.W.mroIn K bJ (.ref jk)=some true) (uH:PySem.W.kitOne K (.ref bJ) (.ref Hj)=some false) (uG:PySem.W.kitOne K (.ref bJ) (.ref Hi)=some false) (oZ:PySem.W.kitOne K (.ref bJ) (.ref zH)=some false) (uF:PySem.W.kitOne K (.ref bJ) (.ref Hh)=some false) (oY:PySem.W.kitOne K (.ref bJ) (.ref zG)=some false) (uE:PySem.W.kitOne K (.ref bJ) (.ref Hg)=some false) (mJ:PySem.W.kitOne K (.ref bJ) (.ref jk)=some true) (qM:PySem.W.kitOne K (.ref bJ) (.ref bJ)=some true) (mK:PySem.W.kitOne K (.ref bJ) (.type "ValueError")=some true) (Jv:PySem.W.nsIn K mainGlobals "EDGE" = some (some (.str "#" YC))) (jB:PySem.W.nsIn K mainGlobals "MOST_STANDINGS" = some (some (.int 600 uQ))) (wN:FA K "sounds_of" ph) (S6:FA K "fits" Im) (Hl:FA K "turned" xY) (BR:FA K "puts_in" uZ) (oO:FA K "reading_rules" j5) (nA:FA K "first_standing" jA) (mz:FA K "read_putting_in" jc) (oR:FA K "read_changing" j6) (uv:FA K "read_signs" nO) (zM:FA K "watch_on" qP) (BP:FA K "read_on" uY) (zN:FA K "readings" qQ) (wM:FA K "standings" pg) (wV:FA K "_law_mixed" pD) (zQ:FA K "_law_pack" qU) (zO:FA K "_law_take" qR) (wO:FA K "_law_stock" pq) (ux:FA K "_law_sounds" nR) (wQ:FA K "_law_signs" pA) (qK:FA K "_law_changes" mL) (zP:FA K "_law_rule" qT) (wU:FA K "_law_order" pC) (zU:FA K "_law_fits" qY) (uw:FA K "_law_turned" nQ) (nu:FA K "_law_rule_reads" jz) (zT:FA K "_law_laid" qX) (wR:FA K "_law_reads" pB) (wW:FA K "_law_begun" pF) (zR:FA K "_law_only" qW) (BV:FA K "_law_all" vd) (Yg:FA K "law" Pk) :
  ∃fd:FuncData,(∀(s:Shared) (v:Value),BindsTo s fd ⟨[v],[]⟩ [("_law_script",v)])/\∀base:Heap,K.In base->base.Ns mainGlobals mg->mR P w K mg base Ec 8 fa fd ["_law_script"] (qj K 1 La):=
 Yg.law X G hfa (λs v=>.of_eq rfl) λbase F=>abe ⟨vD X G rU,
  vD X G W7,
  vD X G Ou,
  vD X G Ot,
  vD X G Eh,
  vD X G W6,
  vD X G rT,
  vD X G W5,
  vD X G Oq,
  vD X G JW,
  vD X G Eg,
  vD X G JV,
  vD X G W4,
  pQ,
  ni,
  XF.raises (⟨dX,dC,dB⟩:XF K "TooMany" bJ) X G,
  XF.below (⟨dX,dC,dB⟩:XF K "TooMany" bJ) X G kh mH mF mG,
  XF.XQ (⟨dX,dC,dB⟩:XF K "TooMany" bJ) X G yD uH,
  XF.XQ (⟨dX,dC,dB⟩:XF K "TooMany" bJ) X G yC uG,
  XF.XQ (⟨dX,dC,dB⟩:XF K "TooMany" bJ) X G rn oZ,
  XF.XQ (⟨dX,dC,dB⟩:XF K "TooMany" bJ) X G yz uF,
  XF.XQ (⟨dX,dC,dB⟩:XF K "TooMany" bJ) X G rm oY,
  XF.XQ (⟨dX,dC,dB⟩:XF K "TooMany" bJ) X G yx uE,
  XF.XQ (⟨dX,dC,dB⟩:XF K "TooMany" bJ) X G kh mJ,
  XF.XQ (⟨dX,dC,dB⟩:XF K "TooMany" bJ) X G dX qM,
  XF.isB (⟨dX,dC,dB⟩:XF K "TooMany" bJ) mK,
  V4 X G Jv (by decide +kernel) (by decide),
  V5 X G jB,
  wN.at X G (fun|[_],_=>rfl),
  S6.at X G (fun|[_,_],_=>rfl),
  Hl.at X G (fun|[_],_=>rfl),
  BR.at X G (fun|[_],_=>rfl),
  oO.at X G (fun|[_],_=>rfl),
  nA.at X G (fun|[_],_=>rfl),
  mz.at X G (fun|[_,_,_],_=>rfl),
  oR.at X G (fun|[_,_,_],_=>rfl),
  uv.at X G (fun|[_,_,_],_=>rfl),
  zM.at X G (fun|[_,_,_],_=>rfl),
  BP.at X G (fun|[_,_,_],_=>rfl),
  zN.at X G (fun|[_,_],_=>rfl),
  wM.at X G (fun|[_,_],_=>rfl),
  wV.at X G (fun|[_],_=>rfl),
  zQ.at X G (fun|[_,_],_=>rfl),
  zO.at X G (fun|[_,_],_=>rfl),
  wO.at X G (fun|[_],_=>rfl),
  ux.at X G (fun|[_],_=>rfl),
  wQ.at X G (fun|[_,_],_=>rfl),
  qK.at X G (fun|[_,_],_=>rfl),
  zP.at X G (fun|[_,_],_=>rfl),
  wU.at X G (fun|[_,_,_],_=>rfl),
  zU.at X G (fun|[_,_],_=>rfl),
  uw.at X G (fun|[_],_=>rfl),
  nu.at X G (fun|[_,_,_],_=>rfl),
  zT.at X G (fun|[_],_=>rfl),
  wR.at X G (fun|[_,_,_],_=>rfl),
  wW.at X G (fun|[_],_=>rfl),
  zR.at X G (fun|[_,_],_=>rfl),
  BV.at X G (fun|[_,_],_=>rfl)⟩ F
end lH
theorem PySem.W.Fast.tw5678777525473121312:True:=trivial
theorem PySem.W.Fast.tw10139576737933434200:True:=trivial
theorem PySem.W.Fast.tw7833960729860424227:True:=trivial
theorem PySem.W.Fast.tw596145100470305789:True:=trivial
theorem PySem.W.Fast.tw16504598893280399040:True:=trivial
theorem PySem.W.Fast.tw8826201372634992500:True:=trivial
theorem PySem.W.Fast.tw11516124604226546750:True:=trivial
theorem PySem.W.Fast.tw18116907800058150759:True:=trivial
theorem PySem.W.Fast.tw9601689170144757490:True:=trivial
theorem PySem.W.Fast.tw10902840231969582244:True:=trivial
theorem PySem.W.Fast.tw2844245980532362318:True:=trivial
theorem PySem.W.Fast.tw2838258663836945978:True:=trivial
theorem PySem.W.Fast.tw12754279736502743379:True:=trivial
theorem PySem.W.Fast.tw17058884869184136109:True:=trivial
theorem PySem.W.Fast.tw7176343465891543945:True:=trivial
theorem PySem.W.Fast.tw8018361419884028779:True:=trivial
theorem PySem.W.Fast.tw8901002280236455313:True:=trivial
theorem PySem.W.Fast.tw2127837039160642964:True:=trivial
theorem PySem.W.Fast.tw18092235108024166082:True:=trivial
theorem PySem.W.Fast.tw2591001902878730510:True:=trivial
theorem PySem.W.Fast.tw11905467436970973428:True:=trivial
theorem PySem.W.Fast.tw12415914054594850984:True:=trivial
theorem PySem.W.Fast.tw16483412185974422591:True:=trivial
theorem PySem.W.Fast.tw13062956165705538830:True:=trivial
theorem PySem.W.Fast.tw17995187771348394516:True:=trivial
theorem PySem.W.Fast.tw12886964514073510584:True:=trivial
theorem PySem.W.Fast.tw10945805218041023964:True:=trivial
theorem PySem.W.Fast.tw17517190948002819480:True:=trivial
theorem PySem.W.Fast.tw6046731544525907680:True:=trivial
theorem PySem.W.Fast.tw2467858968463432609:True:=trivial
theorem PySem.W.Fast.tw1365826406538455188:True:=trivial
theorem PySem.W.Fast.tw716931152795401516:True:=trivial
theorem PySem.W.Fast.tw18217039638999779085:True:=trivial
theorem PySem.W.Fast.tw6262908011409948656:True:=trivial
theorem PySem.W.Fast.tw12928584614970367565:True:=trivial
theorem PySem.W.Fast.tw15733295089409154541:True:=trivial
theorem PySem.W.Fast.tw16242165112149586135:True:=trivial
theorem PySem.W.Fast.tw372263720323445577:True:=trivial
theorem PySem.W.Fast.tw7940597721063181220:True:=trivial
theorem PySem.W.Fast.tw4540467281797944598:True:=trivial
theorem PySem.W.Fast.tw17085313972147781889:True:=trivial
theorem PySem.W.Fast.tw10495755364484595981:True:=trivial
theorem PySem.W.Fast.tw13533650301346562384:True:=trivial
theorem PySem.W.Fast.tw2120396584222524923:True:=trivial
theorem PySem.W.Fast.tw11053004819642724147:True:=trivial
theorem PySem.W.Fast.tw16873929182437939550:True:=trivial
theorem PySem.W.Fast.tw10782251019849251662:True:=trivial
theorem PySem.W.Fast.tw13004937725447015731:True:=trivial
theorem PySem.W.Fast.tw10446081163583782407:True:=trivial
open PySem PySem.W PyProof.Rows
set_option maxRecDepth 100000 in
set_option maxHeartbeats 0 in
theorem PySem.Challenge.cw_soundrules_k15_all_standings_holds : PySem.Challenge.rw_soundrules_k15_all_standings.Holds := by
 w_on;o_law;k_head;(case hw=>w_witness2)
 k_fill
 refine Ev.acd (l:=PySem.Challenge.rw_soundrules_k15_all_standings) (k:=8) (x:="_law_script") (f:=lH.La) rfl (by decide) rfl ⟨rfl,by decide,by decide⟩ (λw h Y=>PySem.W.kIn_of Y) lH.O6 ?F
 case F=>
  intro w mg fa h KX G hmg
  refine' lH.all_mk KX G hmg ?rU ?W7 ?Ou ?Ot ?Eh ?W6 ?rT ?W5 ?Oq ?JW ?Eg ?JV ?W4 ?pQ ?ni ?yD ?yC ?rn ?yz ?rm ?yx ?kh ?dX ?dC ?dB ?mH ?mF ?mG ?uH ?uG ?oZ ?uF ?oY ?uE ?mJ ?qM ?mK ?Jv ?jB ?wN ?S6 ?Hl ?BR ?oO ?nA ?mz ?oR ?uv ?zM ?BP ?zN ?wM ?wV ?zQ ?zO ?wO ?ux ?wQ ?qK ?zP ?wU ?zU ?uw ?nu ?zT ?wR ?wW ?zR ?BV ?Yg
  (case pQ=>(intro d;cases d with|clo=>(show PySem.W.kitOne _ (.type "NoneType") (.type "bool")=some false;kit_is)|non=>(show PySem.W.kitOne _ (.type "NoneType") (.type "bool")=some false;kit_is)|bl=>(show PySem.W.kitOne _ (.type "bool") (.type "bool")=some true;kit_is)|int=>(show PySem.W.kitOne _ (.type "int") (.type "bool")=some false;kit_is)|str=>(show PySem.W.kitOne _ (.type "str") (.type "bool")=some false;kit_is)|tup=>(show PySem.W.kitOne _ (.type "tuple") (.type "bool")=some false;kit_is)|lst=>(show PySem.W.kitOne _ (.type "list") (.type "bool")=some false;kit_is)|arr=>(show PySem.W.kitOne _ (.type "list") (.type "bool")=some false;kit_is)|dct=>(show PySem.W.kitOne _ (.type "dict") (.type "bool")=some false;kit_is)|gh=>(show PySem.W.kitOne _ (.type "dict") (.type "bool")=some false;kit_is)))
  (case ni=>(intro d;cases d with|clo=>(show PySem.W.kitOne _ (.type "NoneType") (.type "tuple")=some false;kit_is)|non=>(show PySem.W.kitOne _ (.type "NoneType") (.type "tuple")=some false;kit_is)|bl=>(show PySem.W.kitOne _ (.type "bool") (.type "tuple")=some false;kit_is)|int=>(show PySem.W.kitOne _ (.type "int") (.type "tuple")=some false;kit_is)|str=>(show PySem.W.kitOne _ (.type "str") (.type "tuple")=some false;kit_is)|tup=>(show PySem.W.kitOne _ (.type "tuple") (.type "tuple")=some true;kit_is)|lst=>(show PySem.W.kitOne _ (.type "list") (.type "tuple")=some false;kit_is)|arr=>(show PySem.W.kitOne _ (.type "list") (.type "tuple")=some false;kit_is)|dct=>(show PySem.W.kitOne _ (.type "dict") (.type "tuple")=some false;kit_is)|gh=>(show PySem.W.kitOne _ (.type "dict") (.type "tuple")=some false;kit_is)))
  (case yD=>k_is)
  (case yC=>k_is)
  (case rn=>k_is)
  (case yz=>k_is)
  (case rm=>k_is)
  (case yx=>k_is)
  (case kh=>k_is)
  (case dX=>k_is)
  (case dC=>k_exc)
  (case dB=>(refine' XC.Cl.mk ?abY ?abX ?ab0 ?abU ?ab2<;>k_is))
  (case mH=>(refine' XC.Cl.mk ?V7 ?V3 ?Wk ?Vm ?Wx<;>k_is))
  (case mF=>k_is)
  (case mG=>k_is)
  (case uH=>kit_is)
  (case uG=>kit_is)
  (case oZ=>kit_is)
  (case uF=>kit_is)
  (case oY=>kit_is)
  (case uE=>kit_is)
  (case mJ=>kit_is)
  (case qM=>kit_is)
  (case mK=>kit_is)
  (case Jv=>k_is)
  (case jB=>k_is)
  all_goals first|k_is|(refine' Ev.FA.mk ?a ?l ?c ?k;(case a=>k_is);(case l=>k_is);(case c=>k_is);(case k=>k_is))|(refine' Ev.FC.mk ?a ?l ?c ?k ?lc ?v;(case a=>k_is);(case l=>k_is);(case c=>k_is);(case k=>k_is);(case lc=>k_is);(case v=>exact rfl))
