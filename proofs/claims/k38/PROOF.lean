import PyProof.Rows.All
import Wide.All
import OpenK.AllK
import Wide.FinOn
import Lean
import PyProof.EqAt
import PyProof.EqKinds
import PyProof.TupleCall
import PyProof.TupleKey
import PyProof.DictRoadsH
import PyProof.FactsAll.bool_1
import PyProof.AttrMissHeap
import KE.KDictOf
import PyProof.ListMulRoad
import PyProof.FactsAll.tuple_2
import KE.KSortTup
import PyProof.TupleOfSeq
import PyProof.ListRange
import PyProof.DictTable
import PyProof.Rows.TupTab
import PyProof.FactsAll.range_1
import KE.KDictList
import PyProof.SetRoads
import PyProof.DictTruth
import PySem.Challenge.RW_soundrules_k38_whole_sides_and_sounds_tu
noncomputable section
set_option Elab.async false
set_option linter.all false
set_option maxRecDepth 100000
set_option maxHeartbeats 4000000
theorem Qqq:type_of% @List.mem_cons_of_mem:=@List.mem_cons_of_mem
theorem Qqx:type_of% @PySem.wpAny_bind:=@PySem.wpAny_bind
theorem Qqz:type_of% @List.length_append:=@List.length_append
theorem Qqj:type_of% @List.mem_cons_self:=@List.mem_cons_self
theorem Qqk:type_of% @PySem.Heap.get?_push_of_some:=@PySem.Heap.get?_push_of_some
theorem Qqv:type_of% @List.getElem?_eq_some_iff:=@List.getElem?_eq_some_iff
theorem Qqw:type_of% @List.length_map:=@List.length_map
theorem Qqy:type_of% @List.length_cons:=@List.length_cons
theorem Qq0:type_of% @Nat.le_refl:=@Nat.le_refl
theorem Qq1:type_of% @List.mem_singleton:=@List.mem_singleton
theorem Qq2:type_of% @List.mem_cons:=@List.mem_cons
theorem Qq3:type_of% @List.map_cons:=@List.map_cons
theorem Qq4:type_of% @PySem.wpAny_pure:=@PySem.wpAny_pure
theorem Qq5:type_of% @List.size_toArray:=@List.size_toArray
theorem Qq6:type_of% @Nat.le_trans:=@Nat.le_trans
theorem Qq7:type_of% @PySem.Heap.lt_size:=@PySem.Heap.lt_size
theorem Qq8:type_of% @List.getElem?_set_ne:=@List.getElem?_set_ne
theorem Qq9:type_of% @List.length_singleton:=@List.length_singleton
theorem Qwq:type_of% @List.mem_map:=@List.mem_map
theorem Qwx:type_of% @Nat.lt_of_lt_of_le:=@Nat.lt_of_lt_of_le
theorem Qwz:type_of% @PySem.Heap.get?_push_size:=@PySem.Heap.get?_push_size
theorem Qwj:type_of% @Option.map_eq_some_iff:=@Option.map_eq_some_iff
theorem Qwk:type_of% @List.getElem?_eq_getElem:=@List.getElem?_eq_getElem
theorem Qwv:type_of% @List.getElem?_set_self:=@List.getElem?_set_self
theorem Qww:type_of% @List.mem_append:=@List.mem_append
theorem Qwy:type_of% @List.not_mem_nil:=@List.not_mem_nil
theorem Qw0:type_of% @Option.some.inj:=@Option.some.inj
theorem Qw1:type_of% @List.getElem?_append_left:=@List.getElem?_append_left
theorem Qw2:type_of% @List.getElem?_map:=@List.getElem?_map
theorem Qw3:type_of% @decide_eq_false:=@decide_eq_false
theorem Qw4:type_of% @List.getD_eq_getElem?_getD:=@List.getD_eq_getElem?_getD
theorem Qw5:type_of% @Nat.ne_of_lt:=@Nat.ne_of_lt
theorem Qw6:type_of% @of_decide_eq_true:=@of_decide_eq_true
theorem Qw7:type_of% @Nat.lt_of_le_of_lt:=@Nat.lt_of_le_of_lt
theorem Qw8:type_of% @Bool.false_ne_true:=@Bool.false_ne_true
theorem Qw9:type_of% @Option.some.injEq:=@Option.some.injEq
theorem Qxq:type_of% @List.mem_append_right:=@List.mem_append_right
theorem Qxx:type_of% @List.lookup_cons:=@List.lookup_cons
theorem Qxz:type_of% @List.nodup_cons:=@List.nodup_cons
theorem Qxj:type_of% @decide_eq_true:=@decide_eq_true
theorem Qxk:type_of% @List.getElem?_append_right:=@List.getElem?_append_right
theorem Qxv:type_of% @List.append_nil:=@List.append_nil
theorem Qxw:type_of% @List.mem_of_getElem?:=@List.mem_of_getElem?
theorem Qxy:type_of% @List.length_set:=@List.length_set
theorem Qx0:type_of% @Nat.zero_le:=@Nat.zero_le
theorem Qx1:type_of% @List.all_eq_true:=@List.all_eq_true
theorem Qx2:type_of% @List.map_append:=@List.map_append
theorem Qx3:type_of% @List.length_replicate:=@List.length_replicate
theorem Qx4:type_of% @Nat.le_of_ble_eq_true:=@Nat.le_of_ble_eq_true
theorem Qx5:type_of% @congrArg:=@congrArg
theorem Qx6:type_of% @Option.isSome_iff_exists:=@Option.isSome_iff_exists
theorem Qx7:type_of% @List.map_map:=@List.map_map
theorem Qx8:type_of% @List.length_take:=@List.length_take
theorem Qx9:type_of% @Bool.and_eq_true:=@Bool.and_eq_true
theorem Qzq:type_of% @List.append_assoc:=@List.append_assoc
theorem Qzx:type_of% @Option.bind_eq_some_iff:=@Option.bind_eq_some_iff
theorem Qzz:type_of% @List.getElem?_replicate:=@List.getElem?_replicate
theorem Qzj:type_of% @List.length_drop:=@List.length_drop
theorem Qzk:type_of% @Nat.lt_irrefl:=@Nat.lt_irrefl
theorem Qzv:type_of% @List.cons.inj:=@List.cons.inj
theorem Qzw:type_of% @beq_eq_false_iff_ne:=@beq_eq_false_iff_ne
theorem Qzy:type_of% @Nat.ne_of_gt:=@Nat.ne_of_gt
theorem Qz0:type_of% @List.getElem?_take_of_lt:=@List.getElem?_take_of_lt
theorem Qz1:type_of% @PySem.wpAny_mono:=@PySem.wpAny_mono
theorem Qz2:type_of% @or_false:=@or_false
theorem Qz3:type_of% @PySem.Heap.size_push:=@PySem.Heap.size_push
theorem Qz4:type_of% @PySem.wpAny_holding:=@PySem.wpAny_holding
theorem Qz5:type_of% @PySem.wpAny_callSpecial?_slot:=@PySem.wpAny_callSpecial?_slot
theorem Qz6:type_of% @List.find?_cons:=@List.find?_cons
theorem Qz7:type_of% @PySem.wpAny_field:=@PySem.wpAny_field
theorem Qz8:type_of% @PySem.wpAny_call_entry:=@PySem.wpAny_call_entry
theorem Qz9:type_of% @PyProof.Rows.slot_tuple_getitem:=@PyProof.Rows.slot_tuple_getitem
theorem Qjq:type_of% @PySem.mem_of_lookup:=@PySem.mem_of_lookup
theorem Qjx:type_of% @List.eq_nil_of_length_eq_zero:=@List.eq_nil_of_length_eq_zero
theorem Qjz:type_of% @Bool.and_eq_true_iff:=@Bool.and_eq_true_iff
theorem Qjj:type_of% @PySem.wpAny_seqItems:=@PySem.wpAny_seqItems
theorem Qjk:type_of% @List.mem_range:=@List.mem_range
theorem Qjv:type_of% @PySem.wpAny_newObj_type:=@PySem.wpAny_newObj_type
theorem Qjw:type_of% @List.length_nil:=@List.length_nil
theorem Qjy:type_of% @PyProof.Rows.callWith_type1:=@PyProof.Rows.callWith_type1
theorem Qj0:type_of% @List.flatten_append:=@List.flatten_append
theorem Qj1:type_of% @Bool.eq_iff_iff:=@Bool.eq_iff_iff
theorem Qj2:type_of% @List.mem_reverse:=@List.mem_reverse
theorem Qj3:type_of% @PySem.wpAny_setField_rec:=@PySem.wpAny_setField_rec
theorem Qj4:type_of% @List.forIn_nil:=@List.forIn_nil
theorem Qj5:type_of% @List.drop_eq_getElem_cons:=@List.drop_eq_getElem_cons
theorem Qj6:type_of% @List.mem_append_left:=@List.mem_append_left
theorem Qj7:type_of% @PySem.wpAny_passesOwn:=@PySem.wpAny_passesOwn
theorem Qj8:type_of% @List.map_congr_left:=@List.map_congr_left
theorem Qj9:type_of% @Array.length_toList:=@Array.length_toList
theorem Qkq:type_of% @List.length_reverse:=@List.length_reverse
theorem Qkx:type_of% @List.pairwise_cons:=@List.pairwise_cons
theorem Qkz:type_of% @List.forIn_cons:=@List.forIn_cons
theorem Qkj:type_of% @Nat.le_of_lt:=@Nat.le_of_lt
theorem Qkk:type_of% @Int.toNat_natCast:=@Int.toNat_natCast
theorem Qkv:type_of% @Option.isSome_map:=@Option.isSome_map
theorem Qkw:type_of% @Nat.le_of_succ_le:=@Nat.le_of_succ_le
abbrev lK(x:PySem.Str):Prop:=(x == ("__debug__" : PySem.Str))=false
abbrev tW(x:PySem.Str):Prop:=(x == ("__classdict__" : PySem.Str))=false
open PySem PySem.Spec PyProof.Rows in
abbrev Lj(e:Expr)(E:PySem.Env):Prop:=starEach [e] E=(false,eval e E)::starEach [] E
namespace L2
open PySem PySem.Spec PyProof.Rows
inductive NK where
 | num (i:Int)
 | txt (x:Str)
 | tup (xs:List NK)
noncomputable instance:DecidableEq NK:=λ_ _=>Classical.propDecidable _
mutual
def zE(h:Heap):NK->Value->Prop
 | .num i,v=>(∃t,v = .int i t)\/∃b:Bool,v = .bool b/\i=if b then 1 else 0
 | .txt x,v=>∃t,v = .str x t
 | .tup ks,v=>∃a o items n,v = .ref a/\h.get? a=some o/\o.cls = .type "tuple"/\o.data = .seq items n/\ni h ks items.toList
def ni(h:Heap):List NK->List Value->Prop
 | [],vs=>vs=[]
 | k::ks,vs=>∃v r,vs=v::r/\zE h k v/\ni h ks r
end
mutual
def NK.dep:NK->Nat
 | .num _=>0
 | .txt _=>0
 | .tup ks=>1+NK.xg ks
def NK.xg:List NK->Nat
 | []=>0
 | k::ks=>max (NK.dep k) (NK.xg ks)
end
mutual
def NK.draws:NK->Nat
 | .num _=>1
 | .txt _=>1
 | .tup ks=>NK.oW ks+1
def NK.oW:List NK->Nat
 | []=>0
 | k::ks=>NK.draws k+NK.oW ks
end
section
variable(P:Program)(w:World)
mutual
def NK.hash:NK->Int
 | .num i=>hashInt i
 | .txt x=>(strKind P w).hash x
 | .tup ks=>reduceHash (Builtin.Tuple.tupleHashOf (NK.hashes ks))
def NK.hashes:List NK->List Int
 | []=>[]
 | k::ks=>NK.hash k::NK.hashes ks
end
end
theorem ni.length{h:Heap}:∀{ks:List NK} {vs:List Value},ni h ks vs->vs.length=ks.length
 | [],_,e=>by cases e;rfl
 | k::ks,_,e=>by obtain⟨v,r,rfl,_,q⟩:=e;rw[Qqy,Qqy,q.length]
theorem ni.get{h:Heap}:∀{ks:List NK} {vs:List Value} {j:Nat} {v:Value},ni h ks vs->vs[j]? = some v->∃k,ks[j]? = some k/\zE h k v
 | [],_,_,_,e,g=>by cases e;simp at g
 | k::ks,_,j,v,e,g=>by
  obtain⟨u,r,rfl,h1,h2⟩:=e;cases j with
  | zero=>simp at g;subst g;exact⟨k,rfl,h1⟩
  | succ j=>obtain⟨k',e1,e2⟩:=ni.get h2 (j:=j) (by simpa using g);exact⟨k',by simpa using e1,e2⟩
theorem NK.yZ:∀{ks:List NK} {j:Nat} {k:NK},ks[j]? = some k->k.dep<=NK.xg ks
 | [],_,_,e=>by simp at e
 | c::ks,j,k,e=>by
  unfold NK.xg;cases j with
  | zero=>simp at e;subst e;exact Nat.le_max_left _ _
  | succ j=>exact Qq6 (NK.yZ (j:=j) (by simpa using e)) (Nat.le_max_right _ _)
mutual
theorem zE.inj{h:Heap}:∀{x y:NK} {v:Value},zE h x v->zE h y v->x=y
 | .num i,.num j,v,a,b=>by
  rcases a with ⟨t,rfl⟩|⟨c,rfl,rfl⟩
  ·rcases b with ⟨t',e⟩|⟨c,e,_⟩
   ·cases e;rfl
   ·cases e
  ·rcases b with ⟨t',e⟩|⟨c,e,rfl⟩
   ·cases e
   ·cases e;rfl
 | .num i,.txt x,v,a,b=>by obtain⟨t,rfl⟩:=b;rcases a with ⟨t',e⟩|⟨c,e,_⟩<;>cases e
 | .num i,.tup ks,v,a,b=>by obtain⟨_,_,_,_,rfl,_⟩:=b;rcases a with ⟨t',e⟩|⟨c,e,_⟩<;>cases e
 | .txt x,.num i,v,a,b=>by obtain⟨t,rfl⟩:=a;rcases b with ⟨t',e⟩|⟨c,e,_⟩<;>cases e
 | .txt x,.txt y,v,a,b=>by obtain⟨t,rfl⟩:=a;obtain⟨t',e⟩:=b;cases e;rfl
 | .txt x,.tup ks,v,a,b=>by obtain⟨t,rfl⟩:=a;obtain⟨_,_,_,_,e,_⟩:=b;cases e
 | .tup ks,.num i,v,a,b=>by obtain⟨_,_,_,_,rfl,_⟩:=a;rcases b with ⟨t',e⟩|⟨c,e,_⟩<;>cases e
 | .tup ks,.txt y,v,a,b=>by obtain⟨_,_,_,_,rfl,_⟩:=a;obtain⟨t',e⟩:=b;cases e
 | .tup ks,.tup ls,v,a,b=>by
  obtain⟨p,o,items,n,rfl,h1,_,h3,h4⟩:=a;obtain⟨p',o',items',n',e,h1',_,h3',h4'⟩:=b;cases e;rw[h1] at h1';cases h1';rw[h3] at h3';cases h3';rw[ni.inj h4 h4']
theorem ni.inj{h:Heap}:∀{x y:List NK} {v:List Value},ni h x v->ni h y v->x=y
 | [],[],_,_,_=>rfl
 | [],k::ks,_,a,b=>by cases a;obtain⟨_,_,e,_⟩:=b;cases e
 | k::ks,[],_,a,b=>by cases b;obtain⟨_,_,e,_⟩:=a;cases e
 | k::ks,l::ls,_,a,b=>by
  obtain⟨v,r,rfl,h1,h2⟩:=a;obtain⟨v',r',e,h1',h2'⟩:=b;cases e;rw[zE.inj h1 h1',ni.inj h2 h2']
end
mutual
theorem zE.keeps{h h':Heap}{d:Addr}{o:Obj}{es ep}(ho:h.get? d=some o)(hd:o.data = .dict es ep)(hs:Heap.SameBut d h h'):∀{k:NK} {v:Value},zE h k v->zE h' k v
 | .num _,_,e=>e
 | .txt _,_,e=>e
 | .tup ks,_,e=>by
  obtain⟨a,o',items,n,rfl,h1,h2,h3,h4⟩:=e;have hne:a≠d:=by rintro rfl;rw[h1] at ho;cases ho;rw[h3] at hd;cases hd
  exact⟨a,o',items,n,rfl,(hs.2 a hne).trans h1,h2,h3,ni.keeps ho hd hs h4⟩
theorem ni.keeps{h h':Heap}{d:Addr}{o:Obj}{es ep}(ho:h.get? d=some o)(hd:o.data = .dict es ep)(hs:Heap.SameBut d h h'):∀{ks:List NK} {vs:List Value},ni h ks vs->ni h' ks vs
 | [],_,e=>e
 | k::ks,_,e=>by obtain⟨v,r,rfl,h1,h2⟩:=e;exact⟨v,r,rfl,zE.keeps ho hd hs h1,ni.keeps ho hd hs h2⟩
end
section
variable{P:Program}{w:World}
theorem MF{A:Around}{E:Value->Shared->Prop}{s:Shared}{b:Bool}{Q:Int->Shared->Prop}(h:Q (hashInt (if b then 1 else 0)) { s with toks:=s.toks+1 }):wpAny (model P w) A (pyHash (.bool b)) Q E s:=by
 have hT:s.TypeIs (.bool b) "bool":=rfl;have hr:=rawHash_range (if b then 1 else 0);unfold pyHash;have hv:[Value.bool b].any Value.onHeap=false:=rfl;refine Qqx ?_;rw[cRoomFor,if_neg (by rw[hv];exact Qw8)];refine Qq4 ?_;refine Qqx (wpAny_specialOf hT F.slot_bool_hash.lookup ?_);show wpAny _ _ (if (some (Value.builtin "int.__hash__") == some Value.none)=true then _ else _) Q E s;rw[if_neg (by rw[beq_builtin_none];exact Qw8)];refine Qqx (wpAny_specialOf hT F.slot_bool_hash.lookup ?_);show wpAny _ _ (callSpecialIfBoundUnlessNone? (.bool b) "__hash__" _ >>= _) Q E s;refine Qqx (wpAny_callSpecialIfBoundUnlessNone?_slot hT F.slot_bool_hash
  (Qz8 F.slot_bool_hash hT entry_int_hash
   (show wpAny _ _ (do ret (<-mkInt (rawHash (if b then 1 else 0)))) _ _ s from wpAny_ret_mkInt ?_) (args_int_hash _)))
 show wpAny _ _ (if (decide (-(2:Int)^63<=rawHash (if b then 1 else 0))&&decide (rawHash (if b then 1 else 0)<2^63))=true then _ else _) Q E _;rw[if_pos (by rw[Qxj hr.1,Qxj hr.2];rfl)];exact Qq4 h
mutual
theorem QK:∀(k:NK) (v:Value) (A:Around) (E:Value->Shared->Prop) (s:Shared) (Q:Int->Shared->Prop),A.units+k.dep<cLine->zE s.heap k v->Q (k.hash P w) { s with toks:=s.toks+k.draws }->wpAny (model P w) A (pyHash v) Q E s
 | .num i,v,A,E,s,Q,hu,e,h=>by
  rcases e with ⟨t,rfl⟩|⟨b,rfl,rfl⟩
  ·exact wpAny_pyHash_int h
  ·exact MF h
 | .txt x,v,A,E,s,Q,hu,e,h=>by
  obtain⟨t,rfl⟩:=e;exact wpAny_pyHash_str h
 | .tup ks,v,A,E,s,Q,hu,e,h=>by
  obtain⟨a,o,items,n,rfl,ho,hc,hd,hi⟩:=e;have hT:s.TypeIs (.ref a) "tuple":=⟨o,ho,hc⟩;have ZG:(NK.tup ks).dep=1+NK.xg ks:=by rw[NK.dep]
  rw[ZG] at hu;have hu0:A.units<cLine:=by omega
  have hin:A.in1.units+NK.xg ks<cLine:=by show A.units+1+NK.xg ks<cLine;omega
  unfold pyHash
  first|unfold pyHashByItsType|skip
  first|refine Qqx (wpAny_cRoomFor_or (.inr hu0) ?_)|skip
  refine Qqx (wpAny_specialOf hT F.slot_tuple_hash.lookup ?_);show wpAny _ _ (if (some (Value.builtin "tuple.__hash__") == some Value.none)=true then _ else _) Q E s;rw[if_neg (by rw[beq_builtin_none];exact Qw8)];refine Qqx (wpAny_specialOf hT F.slot_tuple_hash.lookup ?_);show wpAny _ _ (callSpecialIfBoundUnlessNone? (.ref a) "__hash__" _ >>= _) Q E s;refine Qqx (wpAny_callSpecialIfBoundUnlessNone?_slot hT F.slot_tuple_hash (Qz8 F.slot_tuple_hash hT F.entry_tuple_hash ?_ (F.args_tuple_hash_1 _)));show wpAny _ _ (Builtin.Tuple.tupleItemsOf (.ref a) >>= _) _ _ s;refine Qqx (wpAny_tupleItemsOf ho hd ?_);refine Qqx ?_;rw[<-Array.forIn_toList];refine FT ks items.toList A.in1 _ s _ _ #[] hin hi (λx b s' R q=>?_) ?_
  ·first
    | exact Qqx (Qz1 q (λz s2 hz=>Qq4 hz) λ_ _ z=>z)
    | exact Qqx (Qz1 q (λz s2 hz=>Qqx (Qq4 (Qq4 hz))) λ_ _ z=>z)
  ·show wpAny _ _ (retInt (Builtin.Tuple.tupleHashOf ((#[]:Array Int).toList++NK.hashes P w ks))) _ _ _;have hh:(NK.tup ks).hash P w=reduceHash (Builtin.Tuple.tupleHashOf (NK.hashes P w ks)):=by rw[NK.hash]
   have hdr:(NK.tup ks).draws=NK.oW ks+1:=by rw[NK.draws]
   rw[hh,hdr] at h;rw[show(#[]:Array Int).toList++NK.hashes P w ks=NK.hashes P w ks from rfl];refine wpAny_ret_mkInt ?_;show wpAny _ _ (if (decide (-(2:Int)^63<=Builtin.Tuple.tupleHashOf (NK.hashes P w ks))&&decide (Builtin.Tuple.tupleHashOf (NK.hashes P w ks)<2^63))=true then _ else _) Q E _;unfold reduceHash at h;by_cases hr:(decide (-(2:Int)^63<=Builtin.Tuple.tupleHashOf (NK.hashes P w ks))&&decide (Builtin.Tuple.tupleHashOf (NK.hashes P w ks)<2^63))=true
   ·rw[if_pos hr];rw[if_pos hr] at h;exact Qq4 (by simpa[Nat.add_assoc] using h)
   ·rw[if_neg hr];rw[if_neg hr] at h;exact Qqx (wpAny_rule (Qq4 (by simpa[Nat.add_assoc] using h)))
theorem FT:∀(ks:List NK) (vs:List Value) (A:Around) (E:Value->Shared->Prop) (s:Shared) (body:Value->Array Int->Sem (ForInStep (Array Int))) (Q:Array Int->Shared->Prop) (acc:Array Int),A.units+NK.xg ks<cLine->ni s.heap ks vs->
  (∀x b s' (R:ForInStep (Array Int)->Shared->Prop),wpAny (model P w) A (pyHash x) (λz s2=>R (.yield (b.push z)) s2) E s'->wpAny (model P w) A (body x b) R E s')->
  Q (acc.toList++NK.hashes P w ks).toArray { s with toks:=s.toks+NK.oW ks }->wpAny (model P w) A (forIn vs acc body) Q E s
 | [],vs,A,E,s,body,Q,acc,hu,e,hb,q=>by
  cases e;rw[Qj4];refine Qq4 ?_;have:(acc.toList++NK.hashes P w []).toArray=acc:=by rw[NK.hashes];simp
  rw[this] at q;have e0:NK.oW []=0:=by rw[NK.oW]
  rw[e0] at q;exact q
 | k::ks,vs,A,E,s,body,Q,acc,hu,e,hb,q=>by
  obtain⟨v,r,rfl,h1,h2⟩:=e;have ZG:NK.xg (k::ks)=max k.dep (NK.xg ks):=by rw[NK.xg]
  rw[ZG] at hu;rw[Qkz];refine Qqx (hb v acc s _ (QK k v A E s _ (by omega) h1 ?_));refine FT ks r A E { s with toks:=s.toks+k.draws } body Q (acc.push (k.hash P w)) (by omega) h2 hb ?_;have e1:NK.hashes P w (k::ks)=k.hash P w::NK.hashes P w ks:=by rw[NK.hashes]
  have e2:NK.oW (k::ks)=k.draws+NK.oW ks:=by rw[NK.oW]
  rw[e1,e2] at q
  simpa[Nat.add_assoc] using q
end
theorem abQ:∀(n:Nat) (x y:NK) (u v:Value) (A:Around) (s:Shared),x.dep<=n->A.units+n+1<cLine->zE s.heap x u->zE s.heap y v->SeqAt.EqAt A s u v (decide (x=y))
 | n,.num i,.num j,u,v,A,s,hn,hu,hx,hy=>by
  have e:decide (NK.num i=NK.num j)=(i == j):=by rw[Qj1];simp
  rw[e];rcases hx with ⟨t,rfl⟩|⟨b,rfl,rfl⟩
  ·rcases hy with ⟨t',rfl⟩|⟨c,rfl,rfl⟩
   ·exact SeqAt.EqAt.int_int i t j t'
   ·exact SeqAt.EqAt.int_bool i t c
  ·rcases hy with ⟨t',rfl⟩|⟨c,rfl,rfl⟩
   ·exact SeqAt.EqAt.bool_int b j t'
   ·have:((if b then (1:Int) else 0) == (if c then 1 else 0))=(b == c):=by cases b<;>cases c<;>rfl
    rw[this];exact SeqAt.EqAt.bool_bool b c
 | n,.num i,.txt z,u,v,A,s,hn,hu,hx,hy=>by
  rw[Qw3 (λe=>by cases e)];obtain⟨t,rfl⟩:=hy;rcases hx with ⟨t',rfl⟩|⟨b,rfl,rfl⟩
  ·exact SeqAt.EqAt.int_str i t' _ t
  ·exact SeqAt.EqAt.bool_str b _ t
 | n,.num i,.tup ks,u,v,A,s,hn,hu,hx,hy=>by
  rw[Qw3 (λe=>by cases e)];obtain⟨a,o,items,m,rfl,h1,h2,h3,_⟩:=hy;have p:s.heap.IsTuple a items:=⟨o,h1,h2,m,h3⟩;rcases hx with ⟨t',rfl⟩|⟨b,rfl,rfl⟩
  ·exact SeqAt.EqAt.int_tuple i t' p (by omega)
  ·exact SeqAt.EqAt.bool_tuple b p (by omega)
 | n,.txt z,.num i,u,v,A,s,hn,hu,hx,hy=>by
  rw[Qw3 (λe=>by cases e)];obtain⟨t,rfl⟩:=hx;rcases hy with ⟨t',rfl⟩|⟨b,rfl,rfl⟩
  ·exact SeqAt.EqAt.str_int _ t i t'
  ·exact SeqAt.EqAt.str_bool _ t b
 | n,.txt z,.txt z',u,v,A,s,hn,hu,hx,hy=>by
  have e:decide (NK.txt z=NK.txt z')=(z == z'):=by rw[Qj1];simp
  rw[e];obtain⟨t,rfl⟩:=hx;obtain⟨t',rfl⟩:=hy;exact SeqAt.EqAt.str_str _ t _ t'
 | n,.txt z,.tup ks,u,v,A,s,hn,hu,hx,hy=>by
  rw[Qw3 (λe=>by cases e)];obtain⟨t,rfl⟩:=hx;obtain⟨a,o,items,m,rfl,h1,h2,h3,_⟩:=hy;have p:s.heap.IsTuple a items:=⟨o,h1,h2,m,h3⟩;exact SeqAt.EqAt.str_tuple _ t p (by omega)
 | n,.tup ks,.num i,u,v,A,s,hn,hu,hx,hy=>by
  rw[Qw3 (λe=>by cases e)];obtain⟨a,o,items,m,rfl,h1,h2,h3,_⟩:=hx;have p:s.heap.IsTuple a items:=⟨o,h1,h2,m,h3⟩;rcases hy with ⟨t',rfl⟩|⟨b,rfl,rfl⟩
  ·exact SeqAt.EqAt.tuple_int i t' p (by omega)
  ·exact SeqAt.EqAt.tuple_bool b p (by omega)
 | n,.tup ks,.txt z,u,v,A,s,hn,hu,hx,hy=>by
  rw[Qw3 (λe=>by cases e)];obtain⟨a,o,items,m,rfl,h1,h2,h3,_⟩:=hx;have p:s.heap.IsTuple a items:=⟨o,h1,h2,m,h3⟩;obtain⟨t,rfl⟩:=hy;exact SeqAt.EqAt.tuple_str _ t p (by omega)
 | 0,.tup ks,.tup ls,u,v,A,s,hn,hu,hx,hy=>by
  rw[NK.dep] at hn;omega
 | n+1,.tup ks,.tup ls,u,v,A,s,hn,hu,hx,hy=>by
  have hx0:=hx;have hy0:=hy;obtain⟨a,o,items,m,rfl,h1,h2,h3,h4⟩:=hx;obtain⟨a',o',items',m',rfl,h1',h2',h3',h4'⟩:=hy;have p:s.heap.IsTuple a items:=⟨o,h1,h2,m,h3⟩;have p':s.heap.IsTuple a' items':=⟨o',h1',h2',m',h3'⟩;rw[NK.dep] at hn;by_cases haa:a=a'
  ·subst haa;rw[Qxj (zE.inj hx0 hy0)];exact SeqAt.EqAt.same _
  ·refine SeqAt.EqAt.of_refs haa ?_;have l1:=h4.length;have l2:=h4'.length;rw[Qj9] at l1 l2;have hu0:A.units<cLine:=by omega
   have:=SeqAt.RcAt.tuples (e:=λj=>decide (ks[j]? = ls[j]?)) p p' hu0 λj q1 q2=>?_
   ·have e:((List.range (min items.size items'.size)).all (λj=>decide (ks[j]? = ls[j]?))&&items.size == items'.size)=decide (NK.tup ks=NK.tup ls):=by
     rw[Qj1];simp only[Qx9,Qx1,Qjk,decide_eq_true_eq,beq_iff_eq,NK.tup.injEq];constructor
     ·rintro⟨g1,g2⟩;apply List.ext_getElem?;intro j;by_cases hj:j<min items.size items'.size
      ·exact g1 j hj
      ·rw[List.getElem?_eq_none (by omega),List.getElem?_eq_none (by omega)]
     ·rintro rfl;exact⟨λ_ _=>rfl,by omega⟩
    rw[<-e];exact this
   ·have g1:items.toList[j]? = some items[j]:=by simp
    have g2:items'.toList[j]? = some items'[j]:=by simp
    obtain⟨k,r1,r2⟩:=h4.get g1;obtain⟨l,r3,r4⟩:=h4'.get g2;have e:decide (ks[j]? = ls[j]?)=decide (k=l):=by rw[r1,r3];simp
    rw[e];exact abQ n k l _ _ A.in1 s (Qq6 (NK.yZ r1) (by omega)) (by show A.units+1+n+1<cLine;omega) r2 r4
theorem J5:∀(n:Nat) (k:NK) (v:Value) (A:Around) (E:Value->Shared->Prop) (s:Shared) (Q:Bool->Shared->Prop),k.dep<=n->zE s.heap k v->Q true s->wpAny (model P w) A (eqIsQuiet n v) Q E s
 | n,.num i,v,A,E,s,Q,hn,e,h=>by
  rcases e with ⟨t,rfl⟩|⟨b,rfl,rfl⟩
  ·rw[eqIsQuiet_byValue n rfl];exact Qq4 h
  ·rw[eqIsQuiet_byValue n rfl];exact Qq4 h
 | n,.txt x,v,A,E,s,Q,hn,e,h=>by
  obtain⟨t,rfl⟩:=e;rw[eqIsQuiet_byValue n rfl];exact Qq4 h
 | 0,.tup ks,v,A,E,s,Q,hn,e,h=>by
  rw[NK.dep] at hn;omega
 | n+1,.tup ks,v,A,E,s,Q,hn,e,h=>by
  obtain⟨a,o,items,m,rfl,ho,hc,hd,hi⟩:=e;rw[NK.dep] at hn;have hT:s.TypeIs (.ref a) "tuple":=⟨o,ho,hc⟩;unfold eqIsQuiet;refine Qqx (wpAny_specialOf hT F.slot_tuple_eq.lookup ?_);show wpAny _ _ (isInstance (.ref a) (.type "tuple") >>= _) _ _ s;refine Qqx (wpAny_isInstance hT isSubtype_tuple_tuple ?_);simp only[Bool.not_true,Bool.false_eq_true,if_false];refine Qqx (Qjj ho hd ?_);refine Qqx ?_;show wpAny _ _ (forIn items _ _) _ _ s;rw[<-Array.forIn_toList];refine wpAny_forIn_list _ (λrest r s'=>r.1=none/\s'=s/\∀v∈rest,∃k:NK,k.dep<=n/\zE s.heap k v) _ ?_ ?_ _ _ ⟨rfl,rfl,λv hv=>?_⟩
  ·rintro v rest r s' ⟨hr,rfl,hall⟩;obtain⟨k,hk1,hk2⟩:=hall v Qqj;refine Qqx (J5 n k v A E _ _ hk1 hk2 ?_);simp only[Bool.not_true,Bool.false_eq_true,if_false];exact Qq4 ⟨rfl,rfl,λu hu'=>hall u (Qqq _ hu')⟩
  ·rintro⟨r1,r2⟩ s' ⟨hr,rfl,_⟩;simp only at hr;subst hr;exact Qq4 h
  ·obtain⟨j,hj,rfl⟩:=List.mem_iff_getElem.mp hv;obtain⟨k,r1,r2⟩:=hi.get (Qwk hj);exact⟨k,Qq6 (NK.yZ r1) (by omega),r2⟩
noncomputable def pY(P:Program)(w:World):HeapKind P w NK where
 is:=λh k a=>zE h k (.ref a)/\k.dep<=8
 hash:=NK.hash P w
 draws:=NK.draws
 room:=λA=>A.units+10<cLine
 inj:=λhx hy=>hx.1.inj hy.1
 keeps:=λx ho hd hs=>⟨x.1.keeps ho hd hs,x.2⟩
 pyHash:=λhu hk h=>QK _ _ _ _ _ _ (by have:=hk.2;omega) hk.1 h
 eqBool:=λhu hx hy h=>abQ 8 _ _ _ _ _ _ hx.2 (by omega) hx.1 hy.1 P w _ _ h
 quiet:=λhk h=>J5 8 _ _ _ _ _ _ hk.2 hk.1 h
end
abbrev Key:=Sum Int Str
def yH:Key->Value->Bool
 | .inl k,v=>Value.isInt k v
 | .inr x,v=>Value.isStrOf x v
def adV(w:World):Key->Int
 | .inl k=>hashInt k
 | .inr x=>hashStr w x
theorem dW:∀{k:Key} {v:Value},yH k v=true->(∃i t,k=Sum.inl i/\v=Value.int i t)\/(∃x t,k=Sum.inr x/\v=Value.str x t)
 | .inl i,v,h=>by
  obtain⟨t,e⟩:=Value.isInt_shape (k:=i) (v:=v) h;exact .inl ⟨i,t,rfl,e⟩
 | .inr x,v,h=>by
  obtain⟨t,e⟩:=Value.isStrOf_shape (x:=x) (v:=v) h;exact .inr ⟨x,t,rfl,e⟩
theorem Mt(i:Int)(t:Tok):yH (.inl i) (.int i t)=true:=by simp[yH,Value.isInt]
theorem Ms(x:Str)(t:Tok):yH (.inr x) (.str x t)=true:=by simp[yH,Value.isStrOf]
theorem Zk(a b:Int):decide ((Sum.inl a:Key)=Sum.inl b)=(a == b):=by
 by_cases e:a=b
 ·subst e;simp
 ·have h:¬(Sum.inl a:Key)=Sum.inl b:=λq=>e (Sum.inl.inj q);rw[Qw3 h];exact(Qzw.mpr e).symm
theorem Zg(a b:Str):decide ((Sum.inr a:Key)=Sum.inr b)=decide (a=b):=by
 by_cases e:a=b
 ·subst e;simp
 ·have h:¬(Sum.inr a:Key)=Sum.inr b:=λq=>e (Sum.inr.inj q);rw[Qw3 h,Qw3 e]
theorem Zj(a:Int)(b:Str):decide ((Sum.inl a:Key)=Sum.inr b)=false:=Qw3 (λq=>nomatch q)
theorem Zh(a:Str)(b:Int):decide ((Sum.inr a:Key)=Sum.inl b)=false:=Qw3 (λq=>nomatch q)
def cI(prog:Program)(w:World):PySem.KeyKind prog w Key where
 is:=yH
 hash:=adV w
 inj:=λv a b ha hb=>by
  rcases dW ha with ⟨i,t,rfl,rfl⟩|⟨x,t,rfl,rfl⟩
  ·rcases dW hb with ⟨j,u,rfl,e⟩|⟨y,u,rfl,e⟩
   ·injection e with e1 _;rw[e1]
   ·exact nomatch e
  ·rcases dW hb with ⟨j,u,rfl,e⟩|⟨y,u,rfl,e⟩
   ·exact nomatch e
   ·injection e with e1 _;rw[e1]
 byValue:=λk v h=>by
  rcases dW h with ⟨i,t,rfl,rfl⟩|⟨x,t,rfl,rfl⟩<;>rfl
 pyHash:=λhv h=>by
  rcases dW hv with ⟨i,t,rfl,rfl⟩|⟨x,t,rfl,rfl⟩
  ·exact wpAny_pyHash_int h
  ·exact wpAny_pyHash_str h
 eqBool:=λhu hv h=>by
  rcases dW hu with ⟨i,t,rfl,rfl⟩|⟨x,t,rfl,rfl⟩
  ·rcases dW hv with ⟨j,u,rfl,rfl⟩|⟨y,u,rfl,rfl⟩
   ·rw[Zk] at h;exact wpAny_eqBool_int h
   ·rw[Zj] at h;exact SeqAt.EqAt.int_str i t y u _ _ _ _ h
  ·rcases dW hv with ⟨j,u,rfl,rfl⟩|⟨y,u,rfl,rfl⟩
   ·rw[Zh] at h;exact SeqAt.EqAt.str_int x t j u _ _ _ _ h
   ·rw[Zg] at h;exact wpAny_eqBool_str h
 «strs»:=λk x t v h=>by
  rcases dW h with ⟨i,u,rfl,e⟩|⟨y,u,rfl,e⟩
  ·exact nomatch e
  ·injection e with e1 _
   subst e1;cases v<;>rfl
theorem Ga(prog:Program)(w:World)(i:Int)(t:Tok):(cI prog w).is (.inl i) (.int i t)=true:=Mt i t
theorem FZ(prog:Program)(w:World)(x:Str)(t:Tok):(cI prog w).is (.inr x) (.str x t)=true:=Ms x t
inductive V where
 | non|bl (b:Bool)|int (i:Int)|str (x:Str)|byt (b:Array UInt8)|flt (b:UInt64)|ref (a:Addr)|ty (n:String)
 deriving DecidableEq
def RelV:V->Value->Prop
 | .non,u=>u=Value.none
 | .bl b,u=>u=Value.bool b
 | .int i,u=>∃t,u=Value.int i t
 | .str x,u=>∃t,u=Value.str x t
 | .byt b,u=>∃t,u=Value.bytes b t
 | .flt b,u=>∃t,u=Value.float b t
 | .ref a,u=>u=Value.ref a
 | .ty n,u=>u=Value.type n
abbrev Vals:List V->List Value->Prop:=Paired RelV
theorem Vals.length{xs:List V}{us:List Value}(r:Vals xs us):xs.length=us.length:=Paired.length r
theorem Vals.get:∀{xs:List V} {us:List Value} {i:Nat} {x:V},Vals xs us->xs[i]? = some x->∃u,us[i]? = some u/\RelV x u
 | _,_,_,_,.nil,e=>by simp at e
 | _,_,0,_,.cons r _,e=>by simp at e;subst e;exact⟨_,rfl,r⟩
 | _,_,i+1,x,.cons _ t,e=>by
  obtain⟨u,h1,h2⟩:=Vals.get (i:=i) (x:=x) t (by simpa using e);exact⟨u,by simpa using h1,h2⟩
theorem Vals.set{x:V}{u:Value}(r:RelV x u):∀{xs:List V} {us:List Value} (i:Nat),Vals xs us->Vals (xs.set i x) (us.set i u)
 | _,_,_,.nil=>.nil
 | _,_,0,.cons _ t=>.cons r t
 | _,_,i+1,.cons q t=>.cons q (Vals.set r i t)
theorem Vals.append:∀{xs ys:List V} {us ws:List Value},Vals xs us->Vals ys ws->Vals (xs++ys) (us++ws)
 | _,_,_,_,.nil,s=>s
 | _,_,_,_,.cons r t,s=>.cons r (Vals.append t s)
theorem Vals.take:∀{xs:List V} {us:List Value} (n:Nat),Vals xs us->Vals (xs.take n) (us.take n)
 | _,_,0,_=>.nil
 | _,_,_+1,.nil=>.nil
 | _,_,n+1,.cons r t=>.cons r (Vals.take n t)
theorem Vals.drop:∀{xs:List V} {us:List Value} (n:Nat),Vals xs us->Vals (xs.drop n) (us.drop n)
 | _,_,0,r=>r
 | _,_,_+1,.nil=>.nil
 | _,_,n+1,.cons _ t=>Vals.drop n t
def vN:Option V->Option Value->Prop
 | some v,some u=>RelV v u
 | none,none=>True
 | _,_=>False
def KV{κ:Type}:List (κ×V)->List (κ×Value)->Prop:=Paired λ(p:κ×V) (q:κ×Value)=>p.1=q.1/\RelV p.2 q.2
def kV:Key->V
 | .inl i=>.int i
 | .inr x=>.str x
inductive HO where
 /-- a list -/
 | lst (xs:List V)
 /-- a tuple (never changes) -/
 | tup (xs:List V)
 /-- a dict whose keys are ints and texts;one whose keys are tuples of ints and texts (the empty one is both) -/
 | dK (kvs:List (Key×V))|dT (kvs:List (List Key×V))|dN (kvs:List (NK×V×V))
 /-- a set of ints: its members,its size -/
 | set (S:Int->Bool) (n:Nat)
 /-- an instance of the class at C,its dict at dx,its attributes -/
 | ins (C dx:Addr) (fs:List (Str×V))
 /-- the dict of the instance at x -/
 | own (x:Addr)
 /-- the dict of an exception -/
 | xd (fs:List (Str×V))
 /-- a bound method,f of x -/
 | met (f x:Addr)
 /-- a range object lo,lo+1,.. below hi -/
 | rng (lo hi:Int)
 /-- a thing that is known to the object (the script;a dict while a loop walks it): read,never written while it is so -/
 | j5 (o:Obj) (u:HO)
 /-- a code object's table -/
 | Xa (ps:Array Value)
 /-- a code object's table: whatever it holds,the codes made at these places are known and bear these names -/
 | tab (qs:List (Pos×Str))
 /-- any other thing,by what is true of its one object (a def of one's own: acB a S n:=HO.ext λh=>..) -/
 | ext (φ:Heap->Prop)
abbrev Hp:=Addr->Option HO
def upd(H:Hp)(a:Addr)(o:HO):Hp:=λb=>if b=a then some o else H b
theorem aR{H:Hp}{a:Addr}{o:HO}:upd H a o a=some o:=by unfold upd;rw[if_pos rfl]
theorem bu{H:Hp}{a b:Addr}{o:HO}(h:b≠a):upd H a o b=H b:=by unfold upd;rw[if_neg h]
theorem Sw{H:Hp}{a:Addr}{o u:HO}:upd (upd H a o) a u=upd H a u:=by funext b;unfold upd;split<;>rfl
theorem abO{H:Hp}{a b:Addr}{o u:HO}(h:H a=some o)(h':H b=some u)(d:o≠u):a≠b:=by intro e;subst e;rw[h] at h';exact d (Qw0 h')
theorem cL{H:Hp}{a b:Addr}{o:HO}(h:H a=some o)(h':H b=none):a≠b:=by intro e;subst e;rw[h] at h';cases h'
def zY(h:Heap)(a:Addr)(items:Array Value):Prop:=∃o,h.get? a=some o/\o.cls = .type "tuple"/\(∃n,o.data = .seq items n)/\o.dict=none
theorem zY.is{h:Heap}{a:Addr}{items:Array Value}(x:zY h a items):IsTup h a items:=let ⟨o,h1,h2,h3,_⟩:=x;⟨o,h1,h2,h3⟩
theorem zY.new(h:Heap)(items:Array Value):zY (h.push { cls:=.type "tuple",data:=.seq items }) h.objs.size items:=⟨_,Qwz _ rfl,rfl,⟨_,rfl⟩,rfl⟩
section
variable(P:Program)(w:World)
def gB(H:Hp)(h:Heap)(a:Addr):HO->Prop
 | .lst xs=>xs.length<=sizeLine/\∃(its:List Value) (n:Nat),Vals xs its/\h.get? a=some { cls:=.type "list",data:=.seq its.toArray n }
 | .tup xs=>xs.length<=sizeLine/\∃its:List Value,Vals xs its/\zY h a its.toArray
 | .dK kvs=>kvs.length<=sizeLine/\(a == sysModules)=false/\∃vs,KV kvs vs/\h.DictOf (cI P w) a vs
 | .dT kvs=>kvs.length<=sizeLine/\(a == sysModules)=false/\∃xs:List (List Key×Addr×Value),
   Paired (λ(p:List Key×V) (q:List Key×Addr×Value)=>p.1=q.1/\H q.2.1=some (.tup (p.1.map kV))/\RelV p.2 q.2.2) kvs xs/\
   ∃o es ep,h.get? a=some o/\o.ExactDict/\o.data = .dict es ep/\es.toList=xs.map (entryOfKey (tupleKind (cI P w)))/\(xs.map (·.1)).Nodup
 | .dN kvs=>kvs.length<=sizeLine/\(a == sysModules)=false/\∃xs:List (NK×Addr×Value),
   Paired (λ(p:NK×V×V) (q:NK×Addr×Value)=>p.1=q.1/\p.2.1 = .ref q.2.1/\RelV p.2.2 q.2.2) kvs xs/\
   ∃o es ep,h.get? a=some o/\o.ExactDict/\o.data = .dict es ep/\es.toList=xs.map (entryOfKey (pY P w))/\(xs.map (·.1)).Nodup
 | .set S n=>h.SetOf (intKind P w) a S n
 | .ins C dx fs=>H dx=some (.own a)/\fs.length<=1000/\dx≠a/\h.get? a=some (PySem.W.instObj C dx)/\
   ∃mA,h.Ns1 dx mA/\(∀f,vN (fs.lookup f) (mA f))/\PySem.Within mA (fs.map (·.1))
 | .own _=>∃o,h.get? a=some o
 | .xd fs=>∃mA,h.Ns1 a mA/\∀f,vN (fs.lookup f) (mA f)
 | .rng lo hi=>∃t u v,h.get? a=some { cls:=.type "range",data:=.fields #[.int lo t,.int hi u,.int 1 v] }
 | .j5 o u=>h.get? a=some o/\gB H h a u
 | .Xa ps=>h.get? a=some { cls:=.none,data:=.fields ps }
 | .tab qs=>∃ps:Array Value,h.get? a=some { cls:=.none,data:=.fields ps }/\TriplesOk ps.toList/\∀q∈qs,codeAmong q.1 ps.toList=none\/∃(c:Addr) (o:Obj) (u:HO) (vs:Array Value) (t:Tok),codeAmong q.1 ps.toList=some (.ref c)/\H c=some (.j5 o u)/\o.data = .fields vs/\vs[1]? = some (.str q.2 t)
 | .met f x=>h.get? a=some (PySem.W.methodObj (.ref f) (.ref x))
 | .ext φ=>φ h/\(∃o,h.get? a=some o)/\∀h1 h2:Heap,φ h1->(∀o,h1.get? a=some o->h2.get? a=some o)->φ h2
def rY(H:Hp)(h:Heap):Prop:=∀a o,H a=some o->gB P w H h a o
end
section
variable{P:Program}{w:World}{H H':Hp}{h h':Heap}{a:Addr}{o:HO}
theorem gB.lt(x:gB P w H h a o):a<h.objs.size:=by
 cases o with
 | lst xs=>obtain⟨_,_,_,_,e⟩:=x;exact Qq7 e
 | tup xs=>obtain⟨_,_,_,p⟩:=x;exact p.is.lt
 | dK kvs=>obtain⟨_,_,_,_,o,_,_,e,_⟩:=x;exact Qq7 e
 | dT kvs=>obtain⟨_,_,_,_,o,_,_,e,_⟩:=x;exact Qq7 e
 | dN kvs=>obtain⟨_,_,_,_,o,_,_,e,_⟩:=x;exact Qq7 e
 | set S n=>obtain⟨o,_,_,_,e,_⟩:=x;exact Qq7 e
 | ins C dx fs=>obtain⟨_,_,_,e,_⟩:=x;exact Qq7 e
 | own y=>obtain⟨_,e⟩:=x;exact Qq7 e
 | xd fs=>obtain⟨_,⟨_,_,_,e,_⟩,_⟩:=x;exact Qq7 e
 | rng lo hi=>obtain⟨_,_,_,e⟩:=x;exact Qq7 e
 | j5 ob u=>obtain⟨e,_⟩:=x;exact Qq7 e
 | Xa ps=>exact Qq7 (show h.get? a=some _ from x)
 | tab qs=>obtain⟨_,e,_⟩:=x;exact Qq7 e
 | met f y=>exact Qq7 (show h.get? a=some _ from x)
 | ext φ=>obtain⟨_,⟨_,e⟩,_⟩:=x;exact Qq7 e
theorem Paired.Y7{α β:Type}{F G:α->β->Prop}:∀{l₁:List α} {l₂:List β},Paired F l₁ l₂->(∀a b,F a b->G a b)->Paired G l₁ l₂
 | _,_,.nil,_=>.nil
 | _,_,.cons r t,f=>.cons (f _ _ r) (Paired.Y7 t f)
theorem gB.stay(x:gB P w H h a o)(k:∀b u,(b=a\/H b=some (.own a))->h.get? b=some u->h'.get? b=some u)
  (ho:∀b,H b=some (.own a)->H' b=some (.own a)) (ht:∀b xs,H b=some (.tup xs)->H' b=some (.tup xs))
  (hz:∀(b:Addr) (o:Obj) (u:HO) (vs:Array Value),o.data = .fields vs->H b=some (.j5 o u)->H' b=some (.j5 o u):=by intro _ _ _ _ _ q;exact q):gB P w H' h' a o:=by
 induction o with
 | lst xs=>obtain⟨z,its,n,r,e⟩:=x;exact⟨z,its,n,r,k _ _ (.inl rfl) e⟩
 | tup xs=>obtain⟨z,its,r,ob,e,c⟩:=x;exact⟨z,its,r,ob,k _ _ (.inl rfl) e,c⟩
 | dK kvs=>obtain⟨z,y,vs,r,ob,es,ep,e,c⟩:=x;exact⟨z,y,vs,r,ob,es,ep,k _ _ (.inl rfl) e,c⟩
 | dT kvs=>
  obtain⟨z,y,xs,r,ob,es,ep,e,c⟩:=x;exact⟨z,y,xs,Paired.Y7 r λp q z=>⟨z.1,ht _ _ z.2.1,z.2.2⟩,ob,es,ep,k _ _ (.inl rfl) e,c⟩
 | dN kvs=>obtain⟨z,y,xs,r,ob,es,ep,e,c⟩:=x;exact⟨z,y,xs,r,ob,es,ep,k _ _ (.inl rfl) e,c⟩
 | set S n=>obtain⟨ob,es,ep,t,e,c⟩:=x;exact⟨ob,es,ep,t,k _ _ (.inl rfl) e,c⟩
 | ins C dx fs=>
  obtain⟨d,z,ne,e,mA,⟨od,es,ep,e2,c⟩,r⟩:=x;exact⟨ho _ d,z,ne,k _ _ (.inl rfl) e,mA,⟨od,es,ep,k _ _ (.inr d) e2,c⟩,r⟩
 | own y=>obtain⟨ob,e⟩:=x;exact⟨ob,k _ _ (.inl rfl) e⟩
 | xd fs=>obtain⟨mA,⟨od,es,ep,e,c⟩,r⟩:=x;exact⟨mA,⟨od,es,ep,k _ _ (.inl rfl) e,c⟩,r⟩
 | rng lo hi=>obtain⟨t,u,v,e⟩:=x;exact⟨t,u,v,k _ _ (.inl rfl) e⟩
 | j5 ob u ih=>obtain⟨e,q⟩:=x;exact⟨k _ _ (.inl rfl) e,ih q⟩
 | Xa ps=>
  have e:h.get? a=some { cls:=.none,data:=.fields ps }:=x;show h'.get? a=some { cls:=.none,data:=.fields ps };exact k a _ (.inl rfl) e
 | tab qs=>
  obtain⟨ps,e,t,r⟩:=x;refine⟨ps,k a _ (.inl rfl) e,t,λq hq=>?_⟩;rcases r q hq with z|⟨c,o,u,vs,t,h1,h2,h3,h4⟩
  ·exact .inl z
  ·exact .inr ⟨c,o,u,vs,t,h1,hz c o u vs h3 h2,h3,h4⟩
 | met f y=>
  have e:h.get? a=some (PySem.W.methodObj (.ref f) (.ref y)):=x;show h'.get? a=some (PySem.W.methodObj (.ref f) (.ref y));exact k a _ (.inl rfl) e
 | ext φ=>obtain⟨p,⟨o,e⟩,st⟩:=x;exact⟨st _ _ p λo q=>k _ _ (.inl rfl) q,⟨o,k _ _ (.inl rfl) e⟩,st⟩
theorem rY.lt(x:rY P w H h)(e:H a=some o):a<h.objs.size:=(x a o e).lt
theorem rY.fresh(x:rY P w H h)(e:h.objs.size<=a):H a=none:=by
 cases q:H a with
 | none=>rfl
 | some u=>exact absurd (Qwx (x.lt q) e) (Qzk _)
theorem rY.kept(x:rY P w H h)(k:∀b u,h.get? b=some u->h'.get? b=some u):rY P w H h':=λa o e=>
 (x a o e).stay (λb u _ q=>k b u q) (λ_ q=>q) λ_ _ q=>q
theorem rY.laid(x:rY P w H h)(k:∀b u,h.get? b=some u->h'.get? b=some u)(hp:h.objs.size<=a)(new:gB P w (upd H a o) h' a o):rY P w (upd H a o) h':=λb u e=>by
 have hn:=x.fresh hp;by_cases hb:b=a
 ·subst hb;rw[aR] at e;cases e;exact new
 ·rw[bu hb] at e;exact(x b u e).stay (λc v _ q=>k c v q) (λc q=>by rw[bu (cL q hn)];exact q) (λc xs q=>by rw[bu (cL q hn)];exact q) λc _ _ _ _ q=>by rw[bu (cL q hn)];exact q
end
def Rd(H:Hp)(a:Addr)(u:HO):Prop:=H a=some u\/∃o,H a=some (.j5 o u)
theorem Rd.ok{P:Program}{w:World}{H:Hp}{h:Heap}{a:Addr}{u:HO}(r:Rd H a u)(x:rY P w H h):gB P w H h a u:=by
 rcases r with r|⟨o,r⟩
 ·exact x a u r
 ·obtain⟨_,q⟩:=x a _ r;exact q
def Mut:Option HO->Prop
 | some (.lst _)=>True
 | some (.dK _)=>True
 | some (.dT _)=>True
 | some (.dN _)=>True
 | some (.set _ _)=>True
 | some (.ins _ _ _)=>True
 | some (.ext _)=>True
 | _=>False
section
variable{P:Program}{w:World}{H:Hp}{h h':Heap}{x e:Addr}{o':HO}
theorem rY.write(ok:rY P w H h)(mu:Mut (H x))(he:e=x\/H e=some (.own x))(k:∀b u,b≠e->h.get? b=some u->h'.get? b=some u)(heo:∃u,h'.get? e=some u)
  (new:gB P w (upd H x o') h' x o'):rY P w (upd H x o') h':=λb u q=>by
 have abL:∀c y,H c=some (.own y)->c≠x:=λc y r z=>by subst z;rw[r] at mu;exact mu
 have adP:∀c xs,H c=some (.tup xs)->c≠x:=λc xs r z=>by subst z;rw[r] at mu;exact mu
 by_cases hb:b=x
 ·subst hb;rw[aR] at q;cases q;exact new
 ·rw[bu hb] at q;by_cases hbe:b=e
  ·have q':H b=some (.own x):=by
    rcases he with z|z
    ·exact absurd (hbe.trans z) hb
    ·rw[hbe];exact z
   rw[q] at q';cases q';obtain⟨v,hv⟩:=heo;exact⟨v,by rw[hbe];exact hv⟩
  ·refine(ok b u q).stay (λc v hc r=>k c v ?_ r) (λc r=>by rw[bu (abL c b r)];exact r) (λc xs r=>by rw[bu (adP c xs r)];exact r) λc _ _ _ _ r=>by rw[bu (λz=>by subst z;rw[r] at mu;exact mu)];exact r
   rcases hc with rfl|hc
   ·exact hbe
   ·rintro rfl;rcases he with z|z
    ·exact abL c b hc z
    ·rw[hc] at z;cases z;exact hb rfl
end
structure Un(fs ex:List Addr)(H H':Hp)(h h':Heap):Prop where
 keep:∀b o,h.get? b=some o->H b=none->b ∉ fs->b ∉ ex->h'.get? b=some o
 slot:∀b o,h.get? b=some o->H b=none->b∈fs->b ∉ ex->∃sl,h'.get? b=some { o with slots:=sl }
 free:∀b o,h.get? b=some o->H b=none->b ∉ ex->H' b=none
 there:∀b o,h.get? b=some o->b ∉ ex->∃o',h'.get? b=some o'
 tups:∀b xs,H b=some (.tup xs)->H' b=some (.tup xs)
 vC:∀b o u,H b=some (.j5 o u)->H' b=some (.j5 o u)
 Bp:∀b ps,H b=some (.Xa ps)->∃more,H' b=some (.Xa (ps++more))
 tabs:∀b qs,H b=some (.tab qs)->H' b=some (.tab qs)
section
variable{fs fs' ex ex':List Addr}{H H1 H2:Hp}{h h1 h2 h':Heap}{a x e:Addr}{o:HO}
theorem Un.any(u:Un fs ex H H1 h h1){b:Addr}{ob:Obj}(q:h.get? b=some ob)(n:H b=none)(hx:b ∉ ex):∃sl,h1.get? b=some { ob with slots:=sl }:=by
 by_cases hb:b∈fs
 ·exact u.slot b ob q n hb hx
 ·exact⟨ob.slots,u.keep b ob q n hb hx⟩
theorem Un.kept(k:∀b u,h.get? b=some u->h'.get? b=some u):Un fs ex H H h h':=
 ⟨λb ob q _ _ _=>k b ob q,λb ob q _ _ _=>⟨ob.slots,k b ob q⟩,λ_ _ _ n _=>n,λb ob q _=>⟨ob,k b ob q⟩,λ_ _ q=>q,λ_ _ _ q=>q,λ_ ps q=>⟨#[],by rw[q];simp⟩,λ_ _ q=>q⟩
theorem Un.refl:Un fs ex H H h h:=Un.kept λ_ _ q=>q
theorem Un.laid(k:∀b u,h.get? b=some u->h'.get? b=some u)(hp:h.objs.size<=a)(hn:H a=none):Un fs ex H (upd H a o) h h' where
 keep:=λb u q _ _ _=>k b u q
 slot:=λb u q _ _ _=>⟨u.slots,k b u q⟩
 free:=λb u q n _=>by rw[bu (Qw5 (Qwx (Qq7 q) hp))];exact n
 there:=λb u q _=>⟨u,k b u q⟩
 tups:=λb xs q=>by rw[bu (cL q hn)];exact q
 vC:=λb u xs q=>by rw[bu (cL q hn)];exact q
 Bp:=λb ps q=>⟨#[],by rw[bu (cL q hn),q];simp⟩
 tabs:=λb qs q=>by rw[bu (cL q hn)];exact q
theorem Un.write(mu:Mut (H x))(he:e=x\/H e=some (.own x))(k:∀b u,b≠e->h.get? b=some u->h'.get? b=some u)(heo:∃u,h'.get? e=some u):Un fs ex H (upd H x o) h h':=by
 have hx:∀b,H b=none->b≠x:=λb n z=>by subst z;rw[n] at mu;exact mu
 have hb:∀b,H b=none->b≠e:=λb n z=>by
  subst z;rcases he with r|r
  ·exact hx b n r
  ·rw[n] at r;cases r
 have hm:∀b u,H b=some u->¬Mut (some u)->b≠x:=λb u q nm z=>by subst z;rw[q] at mu;exact nm mu
 refine⟨λb u q n _ _=>k b u (hb b n) q,λb u q n _ _=>⟨u.slots,k b u (hb b n) q⟩,λb u q n _=>by rw[bu (hx b n)];exact n,λb u q _=>?_,
  λb xs q=>by rw[bu (hm b _ q λz=>z)];exact q,λb u xs q=>by rw[bu (hm b _ q λz=>z)];exact q,λb ps q=>⟨#[],by rw[bu (hm b _ q λz=>z),q];simp⟩,λb qs q=>by rw[bu (hm b _ q λz=>z)];exact q⟩
 by_cases hbe:b=e
 ·subst hbe;exact heo
 ·exact⟨u,k b u hbe q⟩
end
def trk(h:Heap)(H:Hp):List Addr:=(List.range h.objs.size).filter λa=>(H a).isSome
def zT(h:Heap)(H:Hp):Heap:=PySem.W.hideAll h (trk h H)
theorem Mz(h:Heap)(H:Hp):(zT h H).objs.size=h.objs.size:=PySem.W.hideAll_size _ _
theorem Rb{h:Heap}{H:Hp}{b:Addr}{o:Obj}(e:h.get? b=some o)(n:H b=none):(zT h H).get? b=some o:=
 PySem.W.hideAll_get _ e λhm=>by
  have q:(H b).isSome=true:=(List.mem_filter.mp hm).2;rw[n] at q;simp at q
theorem Uo{h:Heap}{H:Hp}{b:Addr}{o:Obj}(e:(zT h H).get? b=some o):h.get? b=some o/\H b=none:=by
 have e':h.get? b=some o:=PySem.W.of_hideAll (trk h H) e;refine⟨e',?_⟩;cases q:H b with
 | none=>rfl
 | some x=>
  have hm:b∈trk h H:=List.mem_filter.mpr ⟨Qjk.mpr (Qq7 e'),by simp[q]⟩;have z:(zT h H).get? b=none:=PySem.W.hideAll_none (trk h H) hm;rw[z] at e;cases e
def Vl(g h:Heap)(L:Addr):List (Addr×Obj):=(List.range h.objs.size).filterMap λa=>if a=L\/(g.get? a).isSome=true then none else (h.get? a).map λo=>(a,o)
def rest(g h:Heap)(L d:Addr):List (Addr×Obj):=(Vl g h L).filter λp=>decide (p.1≠d)
structure Mod(K:PySem.W.Frag)(mg:Str->Option Value)(base:Heap):Prop where
 Ze:K.In base
 glob:base.Ns mainGlobals mg
 blt:∃mb,base.Ns builtinsNs mb/\∀x:Str,x ≠ "__name__"->mb x=bootBuiltins x
 nolimit:base.NoLimit
structure Cx where
 prog:Program
 w:World
 K:PySem.W.Frag
 mg:Str->Option Value
 base:Heap
 A:Around
 N:List Str
 s₀:Shared
 H₀:Hp
 env:Env
 outer:List Env
 stack:List Env
 ex:List Addr
 fn:Str->Bool
 calm:Bool
 pn:List (Addr×Obj)
 xe:Value->Shared->Prop
def frs(l:List Env):List Addr:=l.filterMap (·.frame)
abbrev Cx.fs(X:Cx):List Addr:=frs X.outer
def uz(sc:Scope)(x:Str):Prop:=sc.names.lookup x=some .local\/sc.names.lookup x=some .cell\/sc.names.lookup x=some .free
def Loc(sc:Scope)(x:Str):Prop:=sc.names.lookup x=some .local\/sc.names.lookup x=some .cell
def Look(env:Env)(h:Heap)(m:Str->Option Value)(x:Str)(u:Value):Prop:=
 (env.kindOf x=some .local/\m x=some u)\/((env.kindOf x=some .cell\/env.kindOf x=some .free)/\∃c,env.cells.lookup x=some c/\h.IsCell c (some u))
structure Cx.Ok(X:Cx):Prop where
 mod:Mod X.K X.mg X.base
 kind:X.env.scope.kind = .function
 glob:X.env.globals=mainGlobals
 blt:X.env.builtins=builtinsNs
 above:X.s₀.heap.objs.size<=X.env.locals
 inj:∀x y c,X.env.cells.lookup x=some c->X.env.cells.lookup y=some c->x=y
 has:∀x,(X.env.kindOf x=some .cell\/X.env.kindOf x=some .free)->∃c,X.env.cells.lookup x=some c
 cab:∀x c,X.fn x=true->X.env.cells.lookup x=some c->X.s₀.heap.objs.size<=c
 hd:X.calm=true->X.A.handled=none
 frames:X.A.frames=some X.stack
 fC:X.stack=X.outer\/(X.stack=X.env::X.outer/\X.env.frame=some X.env.locals)
 exf:∀b∈X.ex,b≠X.env.locals/\∀x c,X.env.cells.lookup x=some c->c≠b
 bs:∀b o,X.base.get? b=some o->X.s₀.heap.get? b=some o/\X.H₀ b=none
 RG:X.base.objs.size<=X.s₀.heap.objs.size
 QB:∀b o,X.base.get? b=some o->b ∉ X.ex
 Rk:∀b∈X.ex,b ∉ X.fs
 t7:X.s₀.heap.FunFrames X.base X.outer
 Wl:∀b∈X.fs,X.H₀ b=none
structure Inv(X:Cx)(pins:List (Addr×Obj))(σ:List (Option V))(H:Hp)(s:Shared):Prop where
 ok:X.Ok
 os:s.os=X.s₀.os
 bare:AllBare s.gens
 base:Un X.fs X.ex X.H₀ H X.s₀.heap s.heap
 loc:∃m,s.heap.Ns X.env.locals m/\∀(i:Nat) (x:Str) (v:V),X.N[i]? = some x->σ[i]? = some (some v)->uz X.env.scope x->∃u,RelV v u/\Look X.env s.heap m x u
 cell:∀x c,X.env.cells.lookup x=some c->∃v,s.heap.IsCell c v
 free:H X.env.locals=none
 qe:∀x c,X.env.cells.lookup x=some c->H c=none\/(X.fn x=false/\∃o u,H c=some (.j5 o u))
 pin:∀p∈X.pn++pins,s.heap.get? p.1=some p.2/\H p.1=none/\p.1≠X.env.locals/\p.1 ∉ X.fs/\∀v,p.2.data ≠ .cell v
 hok:rY X.prog X.w H s.heap
 len:σ.length=X.N.length
section
variable{X:Cx}{pins:List (Addr×Obj)}{σ:List (Option V)}{H H':Hp}{s:Shared}{h':Heap}
theorem Cx.Ok.adR(ok:X.Ok){b:Addr}{o:Obj}(e:X.base.get? b=some o):b ∉ X.fs:=λhb=>by
 have:=(ok.t7.mem hb).1;rw[e] at this;cases this
theorem Inv.bs(I:Inv X pins σ H s):∀b o,X.base.get? b=some o->s.heap.get? b=some o/\H b=none:=λb o e=>
 ⟨I.base.keep b o (I.ok.bs b o e).1 (I.ok.bs b o e).2 (I.ok.adR e) (I.ok.QB b o e),I.base.free b o (I.ok.bs b o e).1 (I.ok.bs b o e).2 (I.ok.QB b o e)⟩
theorem Inv.bk(I:Inv X pins σ H s):∀b o,X.base.get? b=some o->s.heap.get? b=some o:=λb o e=>(I.bs b o e).1
theorem Inv.mod(I:Inv X pins σ H s):Mod X.K X.mg X.base:=I.ok.mod
theorem Inv.Mu(I:Inv X pins σ H s):X.K.In s.heap:=I.ok.mod.Ze.keeps I.bk
theorem Inv.lt(I:Inv X pins σ H s):X.env.locals<s.heap.objs.size:=let ⟨_,hn,_⟩:=I.loc;hn.lt
theorem Inv.sz(I:Inv X pins σ H s):X.s₀.heap.objs.size<=s.heap.objs.size:=Qq6 I.ok.above (Qkj I.lt)
theorem Inv.adQ(I:Inv X pins σ H s){a:Addr}(h:s.heap.objs.size<=a):a ∉ X.fs:=λhb=>by
 obtain⟨_,o,ho,_⟩:=I.ok.t7.mem hb;exact absurd (Qwx (Qq7 ho) (Qq6 I.sz h)) (Qzk _)
theorem Inv.Wr(I:Inv X pins σ H s):∀x c,X.env.cells.lookup x=some c->c≠X.env.locals:=λx c e z=>by
 obtain⟨v,o,ho,hd⟩:=I.cell x c e;obtain⟨m,⟨o',es,ep,ho',hd',_⟩,_⟩:=I.loc;rw[z,ho'] at ho;cases ho;rw[hd'] at hd;cases hd
theorem Inv.t7(I:Inv X pins σ H s):s.heap.FunFrames X.base X.outer:=by
 have all:∀(l:List Env),(∀b∈frs l,b∈X.fs)->X.s₀.heap.FunFrames X.base l->s.heap.FunFrames X.base l:=by
  intro l
  induction l with
  | nil=>intro _ _;trivial
  | cons env r ih=>
   intro hs hl;obtain⟨hk,⟨L,o,hf,hn,ho,hd⟩,hr⟩:=hl;have hL:L∈X.fs:=hs L (by unfold frs;rw[List.filterMap_cons,hf];exact Qqj);obtain⟨sl,e⟩:=I.base.slot L o ho (I.ok.Wl L hL) hL λz=>I.ok.Rk L z hL;exact⟨hk,⟨L,_,hf,hn,e,hd⟩,ih (λb hb=>hs b (by unfold frs;rw[List.filterMap_cons,hf];exact Qqq _ hb)) hr⟩
 exact all X.outer (λ_ hb=>hb) I.ok.t7
theorem Inv.stack(I:Inv X pins σ H s):s.heap.FunFrames X.base X.stack:=by
 rcases I.ok.fC with e|⟨e,hf⟩
 ·rw[e];exact I.t7
 ·rw[e];obtain⟨m,hn,_⟩:=I.loc;refine .cons (by rw[I.ok.kind];decide) hf hn ?_ I.t7;exact Heap.get?_none_of_le (Qq6 I.ok.RG I.ok.above)
theorem Inv.Bv(I:Inv X pins σ H s):∀b∈frs X.stack,b∈X.env.locals::X.fs:=λb hb=>by
 rcases I.ok.fC with e|⟨e,hf⟩
 ·rw[e] at hb;exact Qqq _ hb
 ·rw[e] at hb;unfold frs at hb;rw[List.filterMap_cons,hf] at hb;exact hb
theorem Inv.JD(I:Inv X pins σ H s):∀b∈frs X.stack,H b=none:=λb hb=>by
 rcases Qq2.mp (I.Bv b hb) with e|hb
 ·rw[e];exact I.free
 ·obtain⟨_,o,ho,_⟩:=I.ok.t7.mem hb;exact I.base.free b o ho (I.ok.Wl b hb) λz=>I.ok.Rk b z hb
theorem Inv.step{g':Array GenState}{t':Nat}{d':Drawn}{ch:List Addr}(I:Inv X pins σ H s)
  (hch:∀b∈ch,(b∈X.ex\/X.s₀.heap.objs.size<=b)/\b≠X.env.locals/\(∀x c,X.env.cells.lookup x=some c->c≠b)/\∀p∈X.pn++pins,p.1≠b)
  (keep:∀b o,b≠X.env.locals->b ∉ X.fs->b ∉ ch->s.heap.get? b=some o->H b=none->h'.get? b=some o)
  (slot:∀b o,b≠X.env.locals->b∈X.fs->b ∉ ch->s.heap.get? b=some o->H b=none->∃sl,h'.get? b=some { o with slots:=sl }) (free:∀b o,b ∉ ch->s.heap.get? b=some o->H b=none->H' b=none)
  (there:∀b o,b ∉ ch->s.heap.get? b=some o->∃o',h'.get? b=some o')
  (tups:∀b xs,H b=some (.tup xs)->H' b=some (.tup xs)) (vC:∀b o u,H b=some (.j5 o u)->H' b=some (.j5 o u)) (Bp:∀b ps,H b=some (.Xa ps)->∃more,H' b=some (.Xa (ps++more)))
  (ns:∀m,s.heap.Ns X.env.locals m->h'.Ns X.env.locals m) (hok:rY X.prog X.w H' h') (hg:AllBare g')
  (tabs:∀(b:Addr) (qs:List (Pos×Str)),H b=some (.tab qs)->H' b=some (.tab qs):=by intro _ _ q;exact q) :
  Inv X pins σ H' { s with heap:=h',gens:=g',drawn:=d',toks:=t' }:=by
 have neL:∀b o,X.s₀.heap.get? b=some o->b≠X.env.locals:=λb o e=>Qw5 (Qwx (Qq7 e) I.ok.above);have neC:∀b o,X.s₀.heap.get? b=some o->b ∉ X.ex->b ∉ ch:=λb o e hx hb=>by
  rcases(hch b hb).1 with z|z
  ·exact hx z
  ·exact absurd (Qwx (Qq7 e) z) (Qzk _)
 have cellK:∀x c,X.env.cells.lookup x=some c->∀v,s.heap.IsCell c v->h'.IsCell c v:=λx c e v ⟨o,ho,hd⟩=>by
  have nch:c ∉ ch:=λz=>(hch c z).2.2.1 x c e rfl;rcases I.qe x c e with hn|⟨_,fo,fu,hz⟩
  ·by_cases hc:c∈X.fs
   ·obtain⟨sl,q⟩:=slot c o (I.Wr x c e) hc nch ho hn;exact⟨_,q,hd⟩
   ·exact⟨o,keep c o (I.Wr x c e) hc nch ho hn,hd⟩
  ·have e1:=(I.hok c _ hz).1;rw[ho] at e1;cases e1;exact⟨o,(hok c _ (vC c o fu hz)).1,hd⟩
 refine⟨I.ok,I.os,hg,⟨λb o e n hb hx=>?_,λb o e n hb hx=>?_,λb o e n hx=>?_,λb o e hx=>?_,λb xs e=>tups b xs (I.base.tups b xs e),λb o xs e=>vC b o xs (I.base.vC b o xs e),λb ps e=>?_,λb qs e=>tabs b qs (I.base.tabs b qs e)⟩,?_,λx c e=>?_,?_,λx c e=>?_,λp hp=>?_,hok,I.len⟩
 ·exact keep b o (neL b o e) hb (neC b o e hx) (I.base.keep b o e n hb hx) (I.base.free b o e n hx)
 ·obtain⟨sl,e1⟩:=I.base.slot b o e n hb hx;obtain⟨sl',e2⟩:=slot b _ (neL b o e) hb (neC b o e hx) e1 (I.base.free b o e n hx);exact⟨sl',e2⟩
 ·obtain⟨o',e1⟩:=I.base.there b o e hx;exact free b o' (neC b o e hx) e1 (I.base.free b o e n hx)
 ·obtain⟨o',e1⟩:=I.base.there b o e hx;exact there b o' (neC b o e hx) e1
 ·obtain⟨m1,e1⟩:=I.base.Bp b ps e;obtain⟨m2,e2⟩:=Bp b _ e1;exact⟨m1++m2,by rw[e2,Array.append_assoc]⟩
 ·obtain⟨m,hn,hl⟩:=I.loc;refine⟨m,ns m hn,λi x v e1 e2 e3=>?_⟩;obtain⟨u,r,l⟩:=hl i x v e1 e2 e3;refine⟨u,r,?_⟩;rcases l with l|⟨k,c,e,z⟩
  ·exact .inl l
  ·exact .inr ⟨k,c,e,cellK x c e _ z⟩
 ·obtain⟨v,z⟩:=I.cell x c e;exact⟨v,cellK x c e v z⟩
 ·obtain⟨m,⟨o,_,_,ho,_⟩,_⟩:=I.loc;exact free _ o (λz=>(hch _ z).2.1 rfl) ho I.free
 ·rcases I.qe x c e with hn|⟨h1,fo,fu,hz⟩
  ·obtain⟨v,o,ho,hd⟩:=I.cell x c e;exact .inl (free c o (λz=>(hch c z).2.2.1 x c e rfl) ho hn)
  ·exact .inr ⟨h1,fo,fu,vC c fo fu hz⟩
 ·obtain⟨e,n,ne,nf,d⟩:=I.pin p hp;have nch:p.1 ∉ ch:=λz=>(hch p.1 z).2.2.2 p hp rfl;exact⟨keep p.1 p.2 ne nf nch e n,free p.1 p.2 nch e n,ne,nf,d⟩
theorem Inv.un{t':Nat}(I:Inv X pins σ H s)(u:Un X.fs [] H H' s.heap h')(hok:rY X.prog X.w H' h'):Inv X pins σ H' { s with heap:=h',toks:=t' }:=by
 obtain⟨m,⟨o,es,ep,ho,r⟩,_⟩:=id I.loc;obtain⟨sl,hL⟩:=u.any ho I.free (by simp);exact I.step (g':=s.gens) (d':=s.drawn) (ch:=[]) (λ_ z=>nomatch z) (λb o _ hb _ e n=>u.keep b o e n hb (by simp)) (λb o _ hb _ e n=>u.slot b o e n hb (by simp)) (λb o _ e n=>u.free b o e n (by simp)) (λb o _ e=>u.there b o e (by simp)) u.tups u.vC u.Bp (λm' hm=>by
  obtain⟨o',es',ep',ho',r'⟩:=hm;rw[ho] at ho';cases ho';exact⟨_,es',ep',hL,r'⟩) hok I.bare u.tabs
theorem Inv.call{g':Array GenState}{t':Nat}{d':Drawn}{ch:List Addr}(I:Inv X pins σ H s)(u:Un (frs X.stack) ch H H' s.heap h')(hok:rY X.prog X.w H' h')(hg:AllBare g')
  (hch:∀b∈ch,(b∈X.ex\/X.s₀.heap.objs.size<=b)/\b≠X.env.locals/\(∀x c,X.env.cells.lookup x=some c->c≠b)/\∀p∈X.pn++pins,p.1≠b) :
  Inv X pins σ H' { s with heap:=h',gens:=g',drawn:=d',toks:=t' }:=by
 obtain⟨m,⟨o,es,ep,ho,r⟩,_⟩:=id I.loc;obtain⟨sl,hL⟩:=u.any ho I.free λz=>(hch _ z).2.1 rfl;exact I.step (ch:=ch) hch (λb o hL hb hc e n=>u.keep b o e n (λz=>(Qq2.mp (I.Bv b z)).elim hL hb) hc) (λb o _ _ hc e n=>u.any e n hc) (λb o hc e n=>u.free b o e n hc) (λb o hc e=>u.there b o e hc) u.tups u.vC u.Bp (λm' hm=>by
  obtain⟨o',es',ep',ho',r'⟩:=hm;rw[ho] at ho';cases ho';exact⟨_,es',ep',hL,r'⟩) hok hg u.tabs
theorem Inv.turned{t':Nat}{it:Addr}(I:Inv X pins σ H s)(k:∀b o,b≠it->s.heap.get? b=some o->h'.get? b=some o)(hn:H it=none)(hL:it≠X.env.locals)
  (h1:it∈X.ex\/X.s₀.heap.objs.size<=it) (h2:∀x c,X.env.cells.lookup x=some c->c≠it) (h3:∀p∈X.pn++pins,p.1≠it):Inv X pins σ H { s with heap:=h',toks:=t' }:=by
 have V9:∀b u,H b=some u->b≠it:=λb u e z=>by rw[z,hn] at e;cases e
 refine I.step (g':=s.gens) (d':=s.drawn) (ch:=[it]) (λb hb=>?_) (λb o _ _ hc e _=>k b o (λz=>hc (by simp[z])) e) (λb o _ _ hc e _=>⟨o.slots,k b o (λz=>hc (by simp[z])) e⟩) (λ_ _ _ _ n=>n)
  (λb o hc e=>⟨o,k b o (λz=>hc (by simp[z])) e⟩) (λ_ _ e=>e) (λ_ _ _ e=>e) (λb ps e=>⟨#[],by rw[e];simp⟩) (λm hm=>?_) (λb u e=>?_) I.bare
 ·have e:b=it:=by simpa using hb
  subst e;exact⟨h1,hL,h2,h3⟩
 ·obtain⟨o,es,ep,ho,r⟩:=hm;exact⟨o,es,ep,k _ o (Ne.symm hL) ho,r⟩
 ·refine(I.hok b u e).stay (λc v hc q=>k c v ?_ q) (λ_ q=>q) λ_ _ q=>q;rcases hc with z|z
  ·rw[z];exact V9 b u e
  ·exact V9 c _ z
theorem Inv.tok(I:Inv X pins σ H s)(t:Nat):Inv X pins σ H { s with toks:=t }:=I.un (h':=s.heap) (t':=t) Un.refl I.hok
theorem Inv.kept{t':Nat}(I:Inv X pins σ H s)(k:∀b u,s.heap.get? b=some u->h'.get? b=some u):Inv X pins σ H { s with heap:=h',toks:=t' }:=I.un (Un.kept k) (I.hok.kept k)
theorem Inv.laid{a:Addr}{o:HO}{t':Nat}(I:Inv X pins σ H s)(k:∀b u,s.heap.get? b=some u->h'.get? b=some u)(hp:s.heap.objs.size<=a)(new:gB X.prog X.w (upd H a o) h' a o) :
  Inv X pins σ (upd H a o) { s with heap:=h',toks:=t' }:=I.un (Un.laid k hp (I.hok.fresh hp)) (I.hok.laid k hp new)
theorem Inv.write{x e:Addr}{o:HO}{t':Nat}(I:Inv X pins σ H s)(mu:Mut (H x))(he:e=x\/H e=some (.own x))(k:∀b u,b≠e->s.heap.get? b=some u->h'.get? b=some u)(heo:∃u,h'.get? e=some u)
  (new:gB X.prog X.w (upd H x o) h' x o):Inv X pins σ (upd H x o) { s with heap:=h',toks:=t' }:=I.un (Un.write mu he k heo) (I.hok.write mu he k heo new)
theorem Inv.JZ{V0:List (Addr×Obj)}(I:Inv X pins σ H s)(h:∀p∈V0,s.heap.get? p.1=some p.2/\H p.1=none/\p.1≠X.env.locals/\p.1 ∉ X.fs/\∀v,p.2.data ≠ .cell v):Inv X V0 σ H s:=
 ⟨I.ok,I.os,I.bare,I.base,I.loc,I.cell,I.free,I.qe,λp hp=>(Qww.mp hp).elim (λz=>I.pin p (Qj6 _ z)) (h p),I.hok,I.len⟩
theorem FP{N:List Str}(hN:N.Nodup){i j:Nat}{x:Str}(a:N[i]? = some x)(b:N[j]? = some x):i=j:=by obtain⟨h1,e1⟩:=Qqv.mp a;obtain⟨h2,e2⟩:=Qqv.mp b;exact(List.getElem_inj hN).mp (e1.trans e2.symm)
theorem Ac{M:Model}{A:Around}{E:Value->Shared->Prop}{i:Nat}{x:Str}{v:V}{u:Value}{Q:Unit->Shared->Prop}(I:Inv X pins σ H s)(hN:X.N.Nodup)(hi:X.N[i]? = some x)(hx:Loc X.env.scope x)(r:RelV v u)
  (h:∀s',Inv X pins (σ.set i (some v)) H s'->(∃a,Heap.SameBut a s.heap s'.heap/\(a=X.env.locals\/X.env.cells.lookup x=some a))->Q () s') (hf:X.fn x=true\/X.env.scope.names.lookup x=some .local:=by first|exact .inl rfl|exact .inr rfl|assumption):wpAny M A (storeName X.env x u) Q E s:=by
 obtain⟨m,hn,hl⟩:=id I.loc;have hcls:(X.env.scope.kind == .class||(X.env.scope.kind == .module&&X.env.locals != X.env.globals))=false:=by rw[I.ok.kind];rfl
 have hiσ:i<σ.length:=by rw[I.len];exact(Qqv.mp hi).1
 have Wr:=I.Wr;have tracked:∀{a:Addr} {h':Heap},(∃o,s.heap.get? a=some o/\H a=none)->Heap.SameBut a s.heap h'->rY X.prog X.w H h':=λ{a h'} ha hs b ob e=>by
  obtain⟨_,_,hfree⟩:=ha;refine(I.hok b ob e).stay (λc w' hc q=>(hs.2 c ?_).trans q) (λ_ q=>q) λ_ _ q=>q;rintro rfl;rcases hc with rfl|hc
  ·rw[hfree] at e;cases e
  ·rw[hfree] at hc;cases hc
 rcases hx with hk|hk
 ·refine wpAny_storeName_local hk hn (λh' hn' hs=>?_) hcls;obtain⟨oL,_,_,hoL,_⟩:=id hn;refine h _ ⟨I.ok,I.os,I.bare,⟨λb o e n hb hx=>?_,λb o e n hb hx=>?_,I.base.free,λb o e hx=>?_,I.base.tups,I.base.vC,I.base.Bp,I.base.tabs⟩,⟨_,hn',λj y v' e1 e2 e3=>?_⟩,λy c e=>?_,I.free,I.qe,λp hp=>?_,tracked ⟨oL,hoL,I.free⟩ hs,by simpa using I.len⟩ ⟨_,hs,.inl rfl⟩
  ·exact(hs.2 b (Qw5 (Qwx (Qq7 e) I.ok.above))).trans (I.base.keep b o e n hb hx)
  ·obtain⟨sl,e1⟩:=I.base.slot b o e n hb hx;exact⟨sl,(hs.2 b (Qw5 (Qwx (Qq7 e) I.ok.above))).trans e1⟩
  ·obtain⟨o',e1⟩:=I.base.there b o e hx;exact⟨o',(hs.2 b (Qw5 (Qwx (Qq7 e) I.ok.above))).trans e1⟩
  ·by_cases hj:j=i
   ·subst hj;rw[hi] at e1;cases e1;rw[Qwv hiσ] at e2;cases e2;exact⟨u,r,.inl ⟨hk,by simp⟩⟩
   ·rw[Qq8 (Ne.symm hj)] at e2;obtain⟨u',r',q⟩:=hl j y v' e1 e2 e3;refine⟨u',r',?_⟩;rcases q with ⟨k,e⟩|⟨k,c,e,z⟩
    ·refine .inl ⟨k,?_⟩;have:y≠x:=λe=>hj (FP hN e1 (e ▸ hi));simp[this,e]
    ·exact .inr ⟨k,c,e,z.sameBut hs (Wr y c e)⟩
  ·obtain⟨w',z⟩:=I.cell y c e;exact⟨w',z.sameBut hs (Wr y c e)⟩
  ·obtain⟨e,n,ne,nf,d⟩:=I.pin p hp;exact⟨(hs.2 p.1 ne).trans e,n,ne,nf,d⟩
 ·have hfn:X.fn x=true:=by
   rcases hf with z|z
   ·exact z
   ·rw[z] at hk;cases hk
  obtain⟨c,hc⟩:=I.ok.has x (.inl hk);obtain⟨w',z⟩:=I.cell x c hc;refine wpAny_storeName_cell I.ok.kind hk hc z (λh' hc' hs=>?_);obtain⟨oc,hoc,ad6⟩:=id z;refine h { s with heap:=h' } ⟨I.ok,I.os,I.bare,⟨λb o e n hb hx=>?_,λb o e n hb hx=>?_,I.base.free,λb o e hx=>?_,I.base.tups,I.base.vC,I.base.Bp,I.base.tabs⟩,⟨m,hn.sameBut hs (Ne.symm (Wr x c hc)),λj y v' e1 e2 e3=>?_⟩,λy c' e=>?_,I.free,I.qe,λp hp=>?_,tracked ⟨oc,hoc,(I.qe x c hc).resolve_right λz=>by rw[hfn] at z;cases z.1⟩ hs,by simpa using I.len⟩ ⟨c,hs,.inr hc⟩
  ·exact(hs.2 b (Qw5 (Qwx (Qq7 e) (I.ok.cab x c hfn hc)))).trans (I.base.keep b o e n hb hx)
  ·obtain⟨sl,e1⟩:=I.base.slot b o e n hb hx;exact⟨sl,(hs.2 b (Qw5 (Qwx (Qq7 e) (I.ok.cab x c hfn hc)))).trans e1⟩
  ·obtain⟨o',e1⟩:=I.base.there b o e hx;exact⟨o',(hs.2 b (Qw5 (Qwx (Qq7 e) (I.ok.cab x c hfn hc)))).trans e1⟩
  ·by_cases hj:j=i
   ·subst hj;rw[hi] at e1;cases e1;rw[Qwv hiσ] at e2;cases e2;exact⟨u,r,.inr ⟨.inl hk,c,hc,hc'⟩⟩
   ·rw[Qq8 (Ne.symm hj)] at e2;obtain⟨u',r',q⟩:=hl j y v' e1 e2 e3;refine⟨u',r',?_⟩;rcases q with q|⟨k,c',e,z'⟩
    ·exact .inl q
    ·refine .inr ⟨k,c',e,z'.sameBut hs ?_⟩;rintro rfl;exact hj (FP hN e1 (I.ok.inj _ _ _ e hc ▸ hi))
  ·by_cases hcc:c'=c
   ·subst hcc;exact⟨_,hc'⟩
   ·obtain⟨w2,z2⟩:=I.cell y c' e;exact⟨w2,z2.sameBut hs hcc⟩
  ·obtain⟨e,n,ne,nf,d⟩:=I.pin p hp;refine⟨(hs.2 p.1 ?_).trans e,n,ne,nf,d⟩;intro q;rw[q,hoc] at e;have q':oc=p.2:=Qw0 e;exact d w' (by rw[<-q'];exact ad6)
theorem sU{M:Model}{A:Around}{E:Value->Shared->Prop}{i:Nat}{x:Str}{v:V}{u:Value}{Q:Unit->Shared->Prop}(I:Inv X pins σ H s)(hN:X.N.Nodup)(hi:X.N[i]? = some x)(hx:Loc X.env.scope x)(r:RelV v u)
  (h:∀s',Inv X pins (σ.set i (some v)) H s'->Q () s') (hf:X.fn x=true\/X.env.scope.names.lookup x=some .local:=by first|exact .inl rfl|exact .inr rfl|assumption):wpAny M A (storeName X.env x u) Q E s:=
 Ac I hN hi hx r (λs' I' _=>h s' I') hf
theorem Inv.call'{s':Shared}{ch:List Addr}(I:Inv X pins σ H s)(ho:s'.os=s.os)(u:Un (frs X.stack) ch H H' s.heap s'.heap)(hok:rY X.prog X.w H' s'.heap)(hg:AllBare s'.gens)
  (hch:∀b∈ch,(b∈X.ex\/X.s₀.heap.objs.size<=b)/\b≠X.env.locals/\(∀x c,X.env.cells.lookup x=some c->c≠b)/\∀p∈X.pn++pins,p.1≠b):Inv X pins σ H' s':=by
 obtain⟨h',g',d',t',o'⟩:=s';have e:o'=s.os:=ho;subst e;exact I.call (g':=g') (t':=t') (d':=d') u hok hg hch
end
abbrev XK:=Value->Option Addr->Hp->Prop
abbrev St:=List (Option V)
abbrev VK:=V->Hp->Prop
abbrev TE:=St->Hp->VK->Prop
abbrev TT:=St->Hp->(Bool->Hp->Prop)->Prop
abbrev TA:=St->Hp->(List V->Hp->Prop)->Prop
structure Ends where
 nx:St->Hp->Prop
 rt:VK
 bk:St->Hp->Prop:=λ_ _=>False
 ct:St->Hp->Prop:=λ_ _=>False
abbrev TS:=Ends->St->Hp->Prop
def EP(X:Cx)(pins:List (Addr×Obj))(σ:St)(Q:VK)(u:Value)(s':Shared):Prop:=∃v H',Inv X pins σ H' s'/\RelV v u/\Q v H'
def TP(X:Cx)(pins:List (Addr×Obj))(σ:St)(Q:Bool->Hp->Prop)(b:Bool)(s':Shared):Prop:=∃H',Inv X pins σ H' s'/\Q b H'
def AP(X:Cx)(pins:List (Addr×Obj))(σ:St)(Q:List V->Hp->Prop)(us:List Value)(s':Shared):Prop:=∃vs H',Inv X pins σ H' s'/\Vals vs us/\Q vs H'
def SP(X:Cx)(pins:List (Addr×Obj))(D:Ends)(f:Flow)(s':Shared):Prop:=
 match f with
 | .next=>∃σ' H',Inv X pins σ' H' s'/\D.nx σ' H'
 | .brk=>∃σ' H',Inv X pins σ' H' s'/\D.bk σ' H'
 | .cont=>∃σ' H',Inv X pins σ' H' s'/\D.ct σ' H'
 | .ret u=>∃v σ' H',Inv X pins σ' H' s'/\RelV v u/\D.rt v H'
def PE(X:Cx)(e:Expr)(t:TE):Prop:=
 ∀(pins:List (Addr×Obj)) (s:Shared) (σ:St) (H:Hp) (Q:VK),Inv X pins σ H s->t σ H Q->wpAny (model X.prog X.w) X.A (eval e X.env) (EP X pins σ Q) X.xe s
def PT(X:Cx)(e:Expr)(t:TT):Prop:=
 ∀(pins:List (Addr×Obj)) (s:Shared) (σ:St) (H:Hp) (Q:Bool->Hp->Prop),Inv X pins σ H s->t σ H Q->wpAny (model X.prog X.w) X.A (isTrue e X.env (eval e X.env)) (TP X pins σ Q) X.xe s
def PW(X:Cx)(e:Expr)(t:TT):Prop:=
 ∀(whole:Sem Value) (pins:List (Addr×Obj)) (s:Shared) (σ:St) (H:Hp) (Q:Bool->Hp->Prop),Inv X pins σ H s->t σ H Q->wpAny (model X.prog X.w) X.A (isTrue e X.env whole) (TP X pins σ Q) X.xe s
theorem PW.pt{X:Cx}{e:Expr}{t:TT}(h:PW X e t):PT X e t:=h _
def PA(X:Cx)(es:List Expr)(t:TA):Prop:=
 ∀(pos:Pos) (pins:List (Addr×Obj)) (s:Shared) (σ:St) (H:Hp) (Q:List V->Hp->Prop),Inv X pins σ H s->t σ H Q->wpAny (model X.prog X.w) X.A (spliced (backTo pos (starEach es X.env))) (AP X pins σ Q) X.xe s
def PS(X:Cx)(st:Stmt)(t:TS):Prop:=
 ∀(pins:List (Addr×Obj)) (s:Shared) (σ:St) (H:Hp) (D:Ends),Inv X pins σ H s->t D σ H->wpAny (model X.prog X.w) X.A (exec st X.env) (SP X pins D) X.xe s
def DK(X:Cx)(st:List Stmt)(t:TS):Prop:=
 ∀(pins:List (Addr×Obj)) (s:Shared) (σ:St) (H:Hp) (D:Ends),Inv X pins σ H s->t D σ H->wpAny (model X.prog X.w) X.A (execs st X.env) (SP X pins D) X.xe s
theorem fc{α:Type}{t:Sem α}{Q Q':α->Shared->Prop}{M:Model}{A:Around}{E:Value->Shared->Prop}{s:Shared}(h:wpAny M A t Q E s)(hQ:∀a s,Q a s->Q' a s):wpAny M A t Q' E s:=Qz1 h hQ λ_ _ x=>x
section
variable{X:Cx}
def SM(i:Nat):TE:=λσ H Q=>∃v,σ[i]? = some (some v)/\Q v H
def tC(v:V):TE:=λ_ H Q=>Q v H
theorem iR{i:Nat}{x:Str}{pos:Pos}(hN:X.N[i]? = some x)(hv:uz X.env.scope x)(hd:lK x:=by decide)(hcd:tW x:=by decide):PE X (.Name x pos) (SM i):=by
 intro pins s σ H Q I h;obtain⟨v,e,h⟩:=h;obtain⟨m,hn,hl⟩:=I.loc;obtain⟨u,r,l⟩:=hl i x v hN e hv;have fin:EP X pins σ Q u s:=⟨v,H,I,r,h⟩;rcases l with ⟨hk,hm⟩|⟨hk,c,hc,hcell⟩
 ·exact wpAny_Name (wpAny_loadName_local I.ok.kind hk hn hm fin) hd
 ·rcases hk with hk|hk
  ·exact wpAny_Name (wpAny_loadName_cell I.ok.kind hk hc hcell fin) hd
  ·exact wpAny_Name (wpAny_loadName_free I.ok.kind hk hc hcell fin hcd) hd
theorem Qk{i j pos}:PE X (.Constant (.int i) j pos) (tC (.int i)):=λ_ _ _ H _ I h=>wpAny_Constant_int ⟨.int i,H,I.tok _,⟨_,rfl⟩,h⟩
theorem abC{b j pos}:PE X (.Constant (.bool b) j pos) (tC (.bl b)):=λ_ _ _ H _ I h=>Constant_bool ⟨.bl b,H,I,rfl,h⟩
theorem Yi{j pos}:PE X (.Constant .none j pos) (tC .non):=λ_ _ _ H _ I h=>Constant_none ⟨.non,H,I,rfl,h⟩
theorem Ye{x j pos}:PE X (.Constant (.str x) j pos) (tC (.str x)):=λ_ _ _ H _ I h=>Calls.Constant_str ⟨.str x,H,I.tok _,⟨_,rfl⟩,h⟩
def Gl(X:Cx)(x:Str):Prop:=X.env.kindOf x=some .globalImplicit
theorem xB{E:Value->Shared->Prop}{pins:List (Addr×Obj)}{s:Shared}{σ:St}{H:Hp}{x:Str}{u:Value}{pos:Pos}{Q:Value->Shared->Prop}(I:Inv X pins σ H s)(hg:Gl X x)(hm:X.mg x=some u)(h:Q u s)
  (hd:lK x:=by decide):wpAny (model X.prog X.w) X.A (eval (.Name x pos) X.env) Q E s:=
 Calls.Name_function_global I.ok.kind hg (Calls.loadGlobal_global (by rw[I.ok.glob];exact I.mod.glob.keeps I.bk) hm h) hd
theorem yz{E:Value->Shared->Prop}{pins:List (Addr×Obj)}{s:Shared}{σ:St}{H:Hp}{x:Str}{u:Value}{pos:Pos}{Q:Value->Shared->Prop}(I:Inv X pins σ H s)(hg:Gl X x)(hm:X.mg x=none)(hv:bootBuiltins x=some u)(h:Q u s)
  (hn:x ≠ "__name__":=by decide) (hd:lK x:=by decide):wpAny (model X.prog X.w) X.A (eval (.Name x pos) X.env) Q E s:=by
 obtain⟨mb,h1,h2⟩:=I.mod.blt;exact Calls.Name_function_global I.ok.kind hg (Calls.loadGlobal_builtin (by rw[I.ok.glob];exact I.mod.glob.keeps I.bk) hm (by rw[I.ok.blt];exact h1.keeps I.bk) ((h2 x hn).trans hv) h) hd
theorem Ud{x:Str}{v:V}{u:Value}{pos:Pos}(hg:Gl X x)(hm:X.mg x=some u)(r:RelV v u)(hd:lK x:=by decide):PE X (.Name x pos) (tC v):=
 λ_ _ _ H _ I h=>xB I hg hm ⟨v,H,I,r,h⟩ hd
variable{a b:Expr}{ta tb:TE}{pos:Pos}
def tB(t:TE):TT:=λσ H Q=>t σ H λx H1=>∃c,x = .bl c/\Q c H1
theorem XR{e:Expr}{t:TE}(h:PE X e t)(he:∀whole,isTrue e X.env whole=(do let v <-whole;standAt e.pos;holding [v] (truthy v)):=by intro _;rfl):PT X e (tB t):=by intro pins s σ H Q I hw;refine isTrue_plain (fc (h pins s σ H _ I hw) λv s1 ⟨x,H1,I1,r1,q1⟩=>?_) (he _);obtain⟨d,rfl,q⟩:=q1;cases r1;exact wpAny_truthy_bool ⟨H1,I1,q⟩
variable{tA tB':TT}{rest:List Expr}
def adD(t u:TT):TT:=λσ H Q=>t σ H λc H1=>if c=true then u σ H1 Q else Q false H1
def tOr(t u:TT):TT:=λσ H Q=>t σ H λc H1=>if c=true then Q true H1 else u σ H1 Q
def adw(t:TT):TT:=λσ H Q=>t σ H λc H1=>Q (!c) H1
theorem pw_and1(ha:PT X a tA):PW X (.BoolOp .And [a] pos) tA:=by
 intro wh pins s σ H Q I h;refine isTrue_and (fc (ha pins s σ H Q I h) λc s1 e=>?_);cases c with
 | true=>exact isTrue_and_nil e
 | false=>exact e
theorem pw_or1(ha:PT X a tA):PW X (.BoolOp .Or [a] pos) tA:=by
 intro wh pins s σ H Q I h;refine isTrue_or (fc (ha pins s σ H Q I h) λc s1 e=>?_);cases c with
 | false=>exact isTrue_or_nil e
 | true=>exact e
theorem pw_and(ha:PT X a tA)(hb:PW X (.BoolOp .And (b::rest) pos) tB'):PW X (.BoolOp .And (a::b::rest) pos) (adD tA tB'):=by
 intro wh pins s σ H Q I h;refine isTrue_and (fc (ha pins s σ H _ I h) λc s1 ⟨H1,I1,q1⟩=>?_);cases c with
 | true=>exact hb wh pins s1 σ H1 Q I1 q1
 | false=>exact⟨H1,I1,q1⟩
theorem pw_or(ha:PT X a tA)(hb:PW X (.BoolOp .Or (b::rest) pos) tB'):PW X (.BoolOp .Or (a::b::rest) pos) (tOr tA tB'):=by
 intro wh pins s σ H Q I h;refine isTrue_or (fc (ha pins s σ H _ I h) λc s1 ⟨H1,I1,q1⟩=>?_);cases c with
 | true=>exact⟨H1,I1,q1⟩
 | false=>exact hb wh pins s1 σ H1 Q I1 q1
theorem XX(ha:PT X a tA):PT X (.UnaryOp .Not a pos) (adw tA):=by intro pins s σ H Q I h;exact isTrue_not (ha pins s σ H (λc H1=>Q (!c) H1) I h)
def aa0(ta tb:TE):TE:=λσ H Q=>ta σ H λx H1=>∃c,x = .bl c/\if c=true then tb σ H1 Q else Q (.bl false) H1
def adv(ta tb:TE):TE:=λσ H Q=>ta σ H λx H1=>∃c,x = .bl c/\if c=true then Q (.bl true) H1 else tb σ H1 Q
theorem Yh{op}{t:TE}(h:PE X a t):PE X (.BoolOp op [a] pos) t:=λpins s σ H Q I hw=>BoolOp_one (h pins s σ H Q I hw)
theorem Yk(ha:PE X a ta)(hb:PE X (.BoolOp .And (b::rest) pos) tb):PE X (.BoolOp .And (a::b::rest) pos) (aa0 ta tb):=by
 intro pins s σ H Q I h;refine BoolOp_and (fc (ha pins s σ H _ I h) λv s1 ⟨x,H1,I1,r1,q1⟩=>?_);obtain⟨c,rfl,q1⟩:=q1;cases r1;refine wpAny_truthy_bool ?_;cases c with
 | true=>exact hb pins s1 σ H1 Q I1 q1
 | false=>exact⟨.bl false,H1,I1,rfl,q1⟩
theorem abA(ha:PE X a ta)(hb:PE X (.BoolOp .Or (b::rest) pos) tb):PE X (.BoolOp .Or (a::b::rest) pos) (adv ta tb):=by
 intro pins s σ H Q I h;refine BoolOp_or (fc (ha pins s σ H _ I h) λv s1 ⟨x,H1,I1,r1,q1⟩=>?_);obtain⟨c,rfl,q1⟩:=q1;cases r1;refine wpAny_truthy_bool ?_;cases c with
 | false=>exact hb pins s1 σ H1 Q I1 q1
 | true=>exact⟨.bl true,H1,I1,rfl,q1⟩
def tIf(t:TT)(ta tb:TE):TE:=λσ H Q=>t σ H λc H1=>if c=true then ta σ H1 Q else tb σ H1 Q
theorem Ql{c:Expr}(hc:PT X c tA)(ha:PE X a ta)(hb:PE X b tb):PE X (.IfExp c a b pos) (tIf tA ta tb):=by
 intro pins s σ H Q I h;refine wpAny_IfExp (fc (hc pins s σ H _ I h) λd s1 ⟨H1,I1,q1⟩=>?_);cases d with
 | true=>exact ha pins s1 σ H1 Q I1 q1
 | false=>exact hb pins s1 σ H1 Q I1 q1
end
def m8(K:PySem.W.Frag)(H:Hp)(a:Addr)(xs:List V):Prop:=
 Rd H a (.lst xs)\/
  ∃(o:Obj) (its:Array Value) (n:Nat),K.lookup a=some o/\o.cls = .type "list"/\o.dict=none/\o.data = .seq its n/\its.size<=sizeLine/\Vals xs its.toList
def kI(K:PySem.W.Frag)(H:Hp)(a:Addr)(xs:List V):Prop:=
 Rd H a (.tup xs)\/
  ∃(o:Obj) (its:Array Value) (n:Nat),K.lookup a=some o/\o.cls = .type "tuple"/\o.dict=none/\o.data = .seq its n/\its.size<=sizeLine/\Vals xs its.toList
def aeC:Value->Option V
 | .none=>some .non
 | .bool b=>some (.bl b)
 | .int i _=>some (.int i)
 | .str x _=>some (.str x)
 | .bytes b _=>some (.byt b)
 | .float b _=>some (.flt b)
 | .ref a=>some (.ref a)
 | .type n=>some (.ty n)
 | _=>none
theorem RelV.abs{x:V}{u:Value}(r:RelV x u):aeC u=some x:=by
 cases x with
 | non=>cases r;rfl
 | bl _=>cases r;rfl
 | int _=>obtain⟨t,rfl⟩:=r;rfl
 | str _=>obtain⟨t,rfl⟩:=r;rfl
 | byt _=>obtain⟨t,rfl⟩:=r;rfl
 | flt _=>obtain⟨t,rfl⟩:=r;rfl
 | ref _=>cases r;rfl
 | ty _=>cases r;rfl
theorem RelV.inj{x y:V}{u:Value}(r:RelV x u)(q:RelV y u):x=y:=Qw0 (r.abs.symm.trans q.abs)
theorem Vals.inj:∀{xs ys:List V} {us:List Value},Vals xs us->Vals ys us->xs=ys
 | _,_,_,.nil,.nil=>rfl
 | _,_,_,.cons r t,.cons r' t'=>by rw[r.inj r',Vals.inj t t']
section
variable{X:Cx}{pins:List (Addr×Obj)}{σ:St}{H:Hp}{s:Shared}{a:Addr}{xs ys:List V}
theorem m8.of{K:PySem.W.Frag}(h:H a=some (.lst xs)):m8 K H a xs:=.inl (.inl h)
theorem kI.of{K:PySem.W.Frag}(h:H a=some (.tup xs)):kI K H a xs:=.inl (.inl h)
theorem Inv.list(I:Inv X pins σ H s)(h:m8 X.K H a xs):∃its:List Value,Vals xs its/\PlainL s.heap a its.toArray/\xs.length<=sizeLine:=by
 rcases h with h|⟨o,its,n,hk,hc,hd,hs,hz,r⟩
 ·obtain⟨z,its,n,r,e⟩:=h.ok I.hok;exact⟨its,r,⟨_,n,e,rfl,rfl,rfl⟩,z⟩
 ·refine⟨its.toList,r,⟨o,n,I.Mu a o hk,hc,hd,by simpa using hs⟩,?_⟩;have e:=r.length;simp only[Qj9] at e;omega
theorem Inv.tuple(I:Inv X pins σ H s)(h:kI X.K H a xs):∃its:List Value,Vals xs its/\IsTup s.heap a its.toArray/\xs.length<=sizeLine:=by
 rcases h with h|⟨o,its,n,hk,hc,hdn,hs,hz,r⟩
 ·obtain⟨z,its,r,p⟩:=h.ok I.hok;exact⟨its,r,p.is,z⟩
 ·refine⟨its.toList,r,⟨o,I.Mu a o hk,hc,n,by simpa using hs⟩,?_⟩;have e:=r.length;simp only[Qj9] at e;omega
theorem Inv.QW(I:Inv X pins σ H s)(h:m8 X.K H a xs)(h':m8 X.K H a ys):xs=ys:=by
 obtain⟨its,r,⟨o,n,e,_,_,d⟩,_⟩:=I.list h;obtain⟨its',r',⟨o',n',e',_,_,d'⟩,_⟩:=I.list h';rw[e] at e';cases e';rw[d] at d';injection d' with d1 _
 have:its=its':=by simpa using Qx5 Array.toList d1
 subst this;exact r.inj r'
theorem Inv.uH(I:Inv X pins σ H s)(h:kI X.K H a xs)(h':kI X.K H a ys):xs=ys:=by
 obtain⟨its,r,⟨o,e,_,n,d⟩,_⟩:=I.tuple h;obtain⟨its',r',⟨o',e',_,n',d'⟩,_⟩:=I.tuple h';rw[e] at e';cases e';rw[d] at d';injection d' with d1 _
 have:its=its':=by simpa using Qx5 Array.toList d1
 subst this;exact r.inj r'
end
abbrev Cx.wish(X:Cx)(E:Value->Shared->Prop):Cx:={ X with xe:=E }
abbrev Cx.Uq(X:Cx):Cx:=X.wish λ_ _=>False
theorem Cx.Ok.wish{X:Cx}(ok:X.Ok)(E:Value->Shared->Prop):(X.wish E).Ok:=
 ⟨ok.mod,ok.kind,ok.glob,ok.blt,ok.above,ok.inj,ok.has,ok.cab,ok.hd,ok.frames,ok.fC,ok.exf,ok.bs,ok.RG,ok.QB,ok.Rk,ok.t7,ok.Wl⟩
theorem Cx.Ok.pI{X:Cx}{E:Value->Shared->Prop}(ok:(X.wish E).Ok):X.Ok:=
 ⟨ok.mod,ok.kind,ok.glob,ok.blt,ok.above,ok.inj,ok.has,ok.cab,ok.hd,ok.frames,ok.fC,ok.exf,ok.bs,ok.RG,ok.QB,ok.Rk,ok.t7,ok.Wl⟩
section
variable{X:Cx}{pins:List (Addr×Obj)}{σ:St}{H:Hp}{s:Shared}{E:Value->Shared->Prop}
theorem Inv.wish(I:Inv X pins σ H s)(E:Value->Shared->Prop):Inv (X.wish E) pins σ H s:=⟨I.ok.wish E,I.os,I.bare,I.base,I.loc,I.cell,I.free,I.qe,I.pin,I.hok,I.len⟩
theorem Inv.pI(I:Inv (X.wish E) pins σ H s):Inv X pins σ H s:=⟨I.ok.pI,I.os,I.bare,I.base,I.loc,I.cell,I.free,I.qe,I.pin,I.hok,I.len⟩
theorem SP.pI{D:Ends}{f:Flow}{s':Shared}(h:SP (X.wish E) pins D f s'):SP X pins D f s':=by
 cases f with
 | next=>obtain⟨σ',H',I,q⟩:=h;exact⟨σ',H',I.pI,q⟩
 | brk=>obtain⟨σ',H',I,q⟩:=h;exact⟨σ',H',I.pI,q⟩
 | cont=>obtain⟨σ',H',I,q⟩:=h;exact⟨σ',H',I.pI,q⟩
 | ret u=>obtain⟨v,σ',H',I,r,q⟩:=h;exact⟨v,σ',H',I.pI,r,q⟩
theorem DK.Uq{st:List Stmt}{t:TS}(h:DK X.Uq st t):DK X st t:=λpins s σ H D I hw=>
 Qz1 (h pins s σ H D (I.wish _) hw) (λ_ _ q=>q.pI) λ_ _ z=>False.elim z
end
section
variable{X:Cx}{st:Stmt}{rest:List Stmt}{t u:TS}{e:Expr}{te:TE}{pos:Pos}
def aaW:TS:=λD σ H=>D.nx σ H
def adp(t u:TS):TS:=λD σ H=>t { D with nx:=u D } σ H
theorem TV:DK X [] aaW:=λ_ _ σ H _ I h=>wpAny_execs_nil ⟨σ,H,I,h⟩
theorem Qa(h1:PS X st t)(h2:DK X rest u):DK X (st::rest) (adp t u):=by
 intro pins s σ H D I h;refine wpAny_execs_cons (fc (h1 pins s σ H { D with nx:=u D } I h) λf s1 q=>?_);cases f with
 | next=>
  obtain⟨σ',H',I',q⟩:=q;exact h2 pins s1 σ' H' D I' q
 | ret v=>exact q
 | brk=>exact q
 | cont=>exact q
theorem JX(h1:PS X st t):DK X [st] t:=by
 intro pins s σ H D I h;refine wpAny_execs_cons (fc (h1 pins s σ H D I h) λf s1 q=>?_);cases f with
 | next=>exact wpAny_execs_nil q
 | ret v=>exact q
 | brk=>exact q
 | cont=>exact q
def aaZ:TS:=λD σ H=>D.ct σ H
theorem Fo:PS X (.Continue pos) aaZ:=λ_ _ σ H _ I h=>wpAny_Continue ⟨σ,H,I,h⟩
theorem Inv.quiet{pins:List (Addr×Obj)}{σ:St}{H:Hp}{s:Shared}(I:Inv X pins σ H s):interactive X.env=false:=by simp[interactive,I.ok.kind]
def aaX(te:TE):TS:=λD σ H=>te σ H λ_ H1=>D.nx σ H1
theorem TX(he:PE X e te)(hs:swapsWith e none pos.line X.env=pure false:=by rfl):PS X (.Expr e pos) (aaX te):=by intro pins s σ H D I h;exact wpAny_Expr_any (fc (he pins s σ H _ I h) λv s1 ⟨x,H1,I1,r1,q1⟩=>⟨σ,H1,I1,q1⟩) I.quiet hs
def adt(te:TE):TS:=λD σ H=>te σ H D.rt
theorem HX(he:PE X e te):PS X (.Return (some e) pos) (adt te):=by intro pins s σ H D I h;exact wpAny_Return_some (fc (he pins s σ H _ I h) λv s1 ⟨x,H1,I1,r1,q1⟩=>⟨x,σ,H1,I1,r1,q1⟩)
def adz(c:TT)(t u:TS):TS:=λD σ H=>c σ H λb H1=>if b=true then t D σ H1 else u D σ H1
theorem abw{c:Expr}{a b:List Stmt}{tc:TT}(hc:PT X c tc)(ha:DK X a t)(hb:DK X b u):PS X (.If c a b pos) (adz tc t u):=by
 intro pins s σ H D I h;refine wpAny_If (fc (hc pins s σ H _ I h) λd s1 ⟨H1,I1,q1⟩=>?_);cases d with
 | true=>exact ha pins s1 σ H1 D I1 q1
 | false=>exact hb pins s1 σ H1 D I1 q1
end
abbrev TG:=V->St->Hp->(St->Hp->Prop)->Prop
abbrev Vp:=List V->St->Hp->(St->Hp->Prop)->Prop
def PG(X:Cx)(target:Expr)(t:TG):Prop:=
 ∀(pins:List (Addr×Obj)) (s:Shared) (σ:St) (H:Hp) (v:V) (u:Value) (Q:St->Hp->Prop),Inv X pins σ H s->RelV v u->t v σ H Q->
  wpAny (model X.prog X.w) X.A (assign target X.env u) (λ_ s'=>∃σ' H',Inv X pins σ' H' s'/\Q σ' H') X.xe s
def WT(X:Cx)(ts:List Expr)(t:Vp):Prop:=
 ∀(pins:List (Addr×Obj)) (s:Shared) (σ:St) (H:Hp) (vs:List V) (us:List Value) (Q:St->Hp->Prop),Inv X pins σ H s->Vals vs us->t vs σ H Q->
  wpAny (model X.prog X.w) X.A (assignInOrder ((assignEach ts X.env).map (·.2)) us) (λ_ s'=>∃σ' H',Inv X pins σ' H' s'/\Q σ' H') X.xe s
abbrev Jq:=V->V->V->Hp->(Hp->Prop)->Prop
def acC(X:Cx)(t:Jq):Prop:=
 ∀(pins:List (Addr×Obj)) (s:Shared) (σ:St) (H:Hp) (o i v:V) (ov iv u:Value) (Q:Hp->Prop),Inv X pins σ H s->RelV o ov->RelV i iv->RelV v u->t o i v H Q->
  wpAny (model X.prog X.w) X.A (setItem ov iv u) (λ_ s'=>∃H',Inv X pins σ H' s'/\Q H') X.xe s
abbrev TIp:=V->V->Hp->VK->Prop
def PIp(X:Cx)(op:Operator)(t:TIp):Prop:=
 ∀(pins:List (Addr×Obj)) (s:Shared) (σ:St) (H:Hp) (x y:V) (v u:Value) (Q:VK),Inv X pins σ H s->RelV x v->RelV y u->t x y H Q->
  wpAny (model X.prog X.w) X.A (inplaceOp op v u) (EP X pins σ Q) X.xe s
section
variable{X:Cx}{pos:Pos}
def Gn(i:Nat):TG:=λv σ H Q=>Q (σ.set i (some v)) H
theorem Ub{i:Nat}{x:Str}(hN:X.N.Nodup)(hi:X.N[i]? = some x)(hx:Loc X.env.scope x)(hf:X.fn x=true\/X.env.scope.names.lookup x=some .local:=by first|exact .inl rfl|exact .inr rfl|assumption):PG X (.Name x pos) (Gn i):=by intro pins s σ H v u Q I r h;exact wpAny_assign_Name (sU I hN hi hx r (λs' I'=>⟨_,H,I',h⟩) hf)
def aej:Vp:=λvs σ H Q=>vs=[]/\Q σ H
def ace(t:TG)(u:Vp):Vp:=λvs σ H Q=>∃v r,vs=v::r/\t v σ H λσ' H'=>u r σ' H' Q
theorem Ua:WT X [] aej:=by intro pins s σ H vs us Q I r h;obtain⟨e,h⟩:=h;subst e;cases r;exact assignInOrder_nil ⟨σ,H,I,h⟩
theorem Qj{e:Expr}{es:List Expr}{t:TG}{u:Vp}(h1:PG X e t)(h2:WT X es u)
  (hs:(assignEach (e::es) X.env).map (·.2)=assign e X.env::(assignEach es X.env).map (·.2):=by rfl):WT X (e::es) (ace t u):=by
 intro pins s σ H vs us Q I r h;obtain⟨v,vr,e1,h⟩:=h;subst e1;cases r with
 | cons r rr=>
  rw[hs];refine assignInOrder_cons (fc (h1 pins s σ H _ _ _ I r h) λ_ s1 ⟨σ1,H1,I1,q1⟩=>?_);exact h2 pins s1 σ1 H1 _ _ Q I1 rr q1
def aef(K:PySem.W.Frag)(n:Nat)(t:Vp):TG:=λv σ H Q=>∃a xs,v = .ref a/\kI K H a xs/\xs.length=n/\t xs σ H Q
theorem Yb{es:List Expr}{k:Nat}{t:Vp}{n:Nat}(hc:X.calm=true)(h:WT X es t)
  (hn:(assignEach es X.env).length=n:=by rfl) (hst:(assignEach es X.env).findIdx? (·.1)=none:=by rfl):PG X (.Tuple es k pos) (aef X.K n t):=by
 intro pins s σ H v u Q I r hw;obtain⟨a,xs,e1,hq,hl,hw⟩:=hw;subst e1;cases r;obtain⟨its,rv,ht,hz⟩:=I.tuple hq;refine assign_Tuple_tuple (I.ok.hd hc) ht (by simp[hn,<-hl,rv.length]) hst λh' hx=>?_;have I1:Inv X pins σ H { s with heap:=h' }:=I.kept (t':=s.toks) λb o e=>hx b o (Qw5 (Qq7 e)) e;exact h pins _ σ H xs _ Q I1 (by simpa using rv) hw
def Iv(to ti:TE)(t:Jq):TG:=λv σ H Q=>to σ H λo H1=>ti σ H1 λi H2=>t o i v H2 λH3=>Q σ H3
theorem Yc{o i:Expr}{to ti:TE}{t:Jq}(ho:PE X o to)(hi:PE X i ti)(hs:acC X t)
  (ha:∀v,assign (.Subscript o i pos) X.env v=(do
   let ov <-holding [v] (eval o X.env)
   let iv <-holding [v,ov] (eval i X.env)
   standAt pos
   holding [v,ov,iv] (setItem ov iv v)
   release [v,ov,iv] []):=by intro _;rfl):PG X (.Subscript o i pos) (Iv to ti t):=by
 intro pins s σ H v u Q I r h;rw[ha];refine Qqx (Qz4 (fc (ho pins s σ H _ I h) λov s1 ⟨x,H1,I1,r1,q1⟩=>?_));refine Qqx (Qz4 (fc (hi pins s1 σ H1 _ I1 q1) λiv s2 ⟨y,H2,I2,r2,q2⟩=>?_));refine Qqx (wpAny_standAt (Qqx (Qz4 (fc (hs pins s2 σ H2 x y v ov iv u _ I2 r1 r2 r q2) λ_ s3 ⟨H3,I3,q3⟩=>?_))));exact wpAny_release ⟨σ,H3,I3,q3⟩
def SQ(te:TE)(g:TG):TS:=λD σ H=>te σ H λx H1=>g x σ H1 D.nx
theorem X5{tg e:Expr}{te:TE}{g:TG}(he:PE X e te)(hg:PG X tg g)(hs:swapsWithSole [tg] e pos.line X.env=pure false:=by rfl)(hw:swappedStores [tg] e X.env=pure none:=by rfl)
  (h1:(assignEach [tg] X.env).map (·.2)=[assign tg X.env]:=by rfl):PS X (.Assign [tg] e pos) (SQ te g):=by
 intro pins s σ H D I h;refine wpAny_Assign_stores (fc (he pins s σ H _ I h) λv s1 ⟨x,H1,I1,r1,q1⟩=>?_) hs hw;rw[h1];exact fc (hg pins s1 σ H1 x v _ I1 r1 q1) λ_ s2 q=>q
theorem Qe{i:Nat}{x:Str}{e:Expr}{te:TE}{pos':Pos}(hN:X.N.Nodup)(hi:X.N[i]? = some x)(hx:Loc X.env.scope x)(he:PE X e te)(hs:swapsWith e (some (.Name x pos')) pos.line X.env=pure false:=by rfl)(hf:X.fn x=true\/X.env.scope.names.lookup x=some .local:=by first|exact .inl rfl|exact .inr rfl|assumption) :
  PS X (.Assign [.Name x pos'] e pos) (SQ te (Gn i)):=by
 intro pins s σ H D I h;refine wpAny_Assign_Name (fc (he pins s σ H _ I h) λv s1 ⟨y,H1,I1,r1,q1⟩=>?_) hs;exact sU I1 hN hi hx r1 (λs2 I2=>⟨_,H1,I2,q1⟩) hf
def adC(i:Nat)(te:TE)(ti:TIp):TS:=λD σ H=>∃x,σ[i]? = some (some x)/\te σ H λy H1=>ti x y H1 λz H2=>D.nx (σ.set i (some z)) H2
theorem X4{i:Nat}{x:Str}{e:Expr}{te:TE}{op:Operator}{ti:TIp}{pos':Pos}(hN:X.N.Nodup)(hi:X.N[i]? = some x)(hx:Loc X.env.scope x)(he:PE X e te)(ho:PIp X op ti)(hf:X.fn x=true\/X.env.scope.names.lookup x=some .local:=by first|exact .inl rfl|exact .inr rfl|assumption) :
  PS X (.AugAssign (.Name x pos') op e pos) (adC i te ti):=by
 intro pins s σ H D I h;obtain⟨v,e1,h⟩:=h;obtain⟨m,hn,hl⟩:=I.loc;have vis:uz X.env.scope x:=by rcases hx with k|k;exact .inl k;exact .inr (.inl k)
 obtain⟨u,r,l⟩:=hl i x v hi e1 vis;refine wpAny_AugAssign_Name ?_;have go:wpAny (model X.prog X.w) X.A (eval e X.env) (λw s₂=>wpAny (model X.prog X.w) X.A (inplaceOp op u w) (λr s₃=>wpAny (model X.prog X.w) X.A (storeName X.env x r) (λ_=>SP X pins D .next) X.xe s₃) X.xe s₂) X.xe s:=by refine fc (he pins s σ H _ I h) λw s1 ⟨y,H1,I1,r1,q1⟩=>?_;refine fc (ho pins s1 σ H1 v y u w _ I1 r r1 q1) λz s2 ⟨zv,H2,I2,r2,q2⟩=>?_;exact sU I2 hN hi hx r2 (λs3 I3=>⟨_,H2,I3,q2⟩) hf
 rcases l with ⟨hk,hm⟩|⟨hk,c,hc,hcell⟩
 ·exact wpAny_loadName_local I.ok.kind hk hn hm go
 ·rcases hk with hk|hk
  ·exact wpAny_loadName_cell I.ok.kind hk hc hcell go
  ·rcases hx with k|k
   ·have:X.env.scope.names.lookup x=some .free:=hk;rw[k] at this;cases this
   ·have:X.env.scope.names.lookup x=some .free:=hk;rw[k] at this;cases this
def ipI(f:Int->Int->Int):TIp:=λx y H Q=>∃i j,x = .int i/\y = .int j/\Q (.int (f i j)) H
theorem ZC:PIp X .Add (ipI λi j=>i+j):=by intro pins s σ H x y v u Q I r1 r2 h;obtain⟨i,j,e1,e2,q⟩:=h;subst e1;subst e2;obtain⟨t,rfl⟩:=r1;obtain⟨t',rfl⟩:=r2;exact iadd_int ⟨.int _,H,I.tok _,⟨_,rfl⟩,q⟩
def Xd(c:TT)(tb:TS):TS:=λD σ H=>∃W:Nat->St->Hp->Prop,(∃m,W m σ H)/\∀m σ H,W m σ H->
 c σ H λb H1=>if b=true then ∃N:St->Hp->Prop,(∀σ' H',N σ' H'->∃m',m'<m/\W m' σ' H')/\tb { D with nx:=N,ct:=N,bk:=D.nx } σ H1 else D.nx σ H1
theorem Qc{c:Expr}{body:List Stmt}{tc:TT}{tb:TS}(hp:PassesOwn (model X.prog X.w) X.A X.env X.xe)(hc:PT X c tc)(hb:DK X body tb):PS X (.While c body [] pos) (Xd tc tb):=by
 intro pins s σ H D I h;obtain⟨W,⟨m0,w0⟩,turn⟩:=h;refine wpAny_While (codeAny_whileLoop (λn s'=>∃σ' H',Inv X pins σ' H' s'/\W n σ' H') ?_ m0 ⟨σ,H,I,w0⟩);rintro n s1 ⟨σ1,H1,I1,w1⟩;refine Qj7 hp (fc (hc pins s1 σ1 H1 _ I1 (turn n σ1 H1 w1)) λb s2 ⟨H2,I2,q2⟩=>?_);cases b with
 | true=>
  obtain⟨N,hN,q2⟩:=q2;rw[if_pos rfl];refine Qj7 hp (fc (hb pins s2 σ1 H2 _ I2 q2) λf s3 q3=>?_);cases f with
  | next=>
   obtain⟨σ3,H3,I3,n3⟩:=q3;obtain⟨m',hm,w3⟩:=hN σ3 H3 n3;exact⟨m',hm,σ3,H3,I3,w3⟩
  | cont=>
   obtain⟨σ3,H3,I3,n3⟩:=q3;obtain⟨m',hm,w3⟩:=hN σ3 H3 n3;exact⟨m',hm,σ3,H3,I3,w3⟩
  | brk=>exact q3
  | ret v=>exact q3
 | false=>
  rw[if_neg Qw8];exact wpAny_execs_nil ⟨σ1,H2,I2,q2⟩
end
structure It where
 go:Nat->Hp->Prop
 yld:Nat->Hp->V->Hp->Prop
 stop:Nat->Hp->Prop
def rZ(X:Cx)(pins:List (Addr×Obj))(H:Hp)(b:Addr):Prop:=
 H b=none/\b≠X.env.locals/\b ∉ X.fs/\(b∈X.ex\/X.s₀.heap.objs.size<=b)/\(∀x c,X.env.cells.lookup x=some c->c≠b)/\∀p∈X.pn++pins,p.1≠b
theorem Inv.Rj{X:Cx}{pins:List (Addr×Obj)}{σ:St}{H H':Hp}{s:Shared}{b:Addr}(I:Inv X pins σ H s)(hb:s.heap.objs.size<=b)(hn:H' b=none):rZ X pins H' b:=by
 refine⟨hn,Qzy (Qwx I.lt hb),I.adQ hb,.inr (Qq6 I.sz hb),λx c e z=>?_,λp hp z=>?_⟩
 ·obtain⟨v,q⟩:=I.cell x c e;exact absurd (Qwx q.lt (by rw[z];exact hb)) (Qzk _)
 ·exact absurd (Qwx (Qq7 (I.pin p hp).1) (by rw[z];exact hb)) (Qzk _)
structure Turn(P:Program)(w:World)(K:PySem.W.Frag)(tg:Expr)(J:It)(fp:List Addr)(it:Addr)(tn:Nat->Heap->Prop):Prop where
 mem:it∈fp
 obj:∀i h,tn i h->∀b∈fp,∃o,h.get? b=some o/\∀v,o.data ≠ .cell v
 keep:∀i h h',tn i h->(∀b∈fp,∀o,h.get? b=some o->h'.get? b=some o)->tn i h'
 item:∀(X:Cx),X.prog=P->X.w=w->X.K=K->X.calm=true->∀(i:Nat) (pins:List (Addr×Obj)) (s:Shared) (σ:St) (H:Hp) (E:Value->Shared->Prop),Inv X pins σ H s->(∀b∈fp,rZ X pins H b)->tn i s.heap->J.go i H->
  wpAny (model P w) X.A (pyNext (.ref it)) (λr s1=>∃u,r=some u/\
   wpAny (model P w) X.A (letOwnedTupleGo tg (.ref it) u) (λ_ s2=>∃x H',Inv X pins σ H' s2/\RelV x u/\J.yld i H x H'/\tn (i+1) s2.heap/\∀b∈fp,H' b=none) E s1) E s
 done:∀(X:Cx),X.prog=P->X.w=w->X.K=K->X.calm=true->∀(i:Nat) (pins:List (Addr×Obj)) (s:Shared) (σ:St) (H:Hp) (E:Value->Shared->Prop),Inv X pins σ H s->(∀b∈fp,rZ X pins H b)->tn i s.heap->J.stop i H->
  wpAny (model P w) X.A (pyNext (.ref it)) (λr s1=>r=none/\Inv X pins σ H s1) E s
 self:∀(A:Around) (i:Nat) (s:Shared) (Q:Value->Shared->Prop) (E:Value->Shared->Prop),tn i s.heap->Q (.ref it) s->wpAny (model P w) A (pyIter (.ref it)) Q E s
abbrev TI:=St->Hp->(It->Hp->Prop)->Prop
def PIE(X:Cx)(pins:List (Addr×Obj))(σ:St)(tg:Expr)(R:It->Hp->Prop)(itv:Value)(s2:Shared):Prop:=
 ∃(it:Addr) (fp:List Addr) (tn:Nat->Heap->Prop) (J:It) (H':Hp),itv = .ref it/\Inv X pins σ H' s2/\Turn X.prog X.w X.K tg J fp it tn/\tn 0 s2.heap/\(∀b∈fp,rZ X pins H' b)/\R J H'
def PI(X:Cx)(tg iter:Expr)(wi:TI):Prop:=
 ∀(pins:List (Addr×Obj)) (s:Shared) (σ:St) (H:Hp) (R:It->Hp->Prop),Inv X pins σ H s->wi σ H R->
  wpAny (model X.prog X.w) X.A (eval iter X.env) (λv s1=>wpAny (model X.prog X.w) X.A (pyIter v) (PIE X pins σ tg R) X.xe s1) X.xe s
theorem Gk{M : Model}{A : Around}{E : Value → Shared → Prop}{s : Shared}{tg : Expr}{it : Addr}{u : Value}{o : Obj}{n : String}{vs : Array Value}{Q : Unit → Shared → Prop}(ho : s.heap.get? it = some o)(hc : o.cls = .type n)(hd : o.data = .fields vs)
    (hn : ["enumerate", "zip", "dict_itemiterator", "dict_reverseitemiterator", "odict_iterator", "itertools.zip_longest", "itertools.pairwise"].contains n = false) (hQ : Q () s) : wpAny M A (letOwnedTupleGo tg (.ref it) u) Q E s := by
  unfold letOwnedTupleGo;cases tg <;> first
    | exact Qq4 hQ
    | (cases u <;> first
        | exact Qq4 hQ
        | (refine Qqx (wpAny_load ho ?_)
           rw [hc, hd];show wpAny M A (if (["enumerate", "zip", "dict_itemiterator", "dict_reverseitemiterator", "odict_iterator", "itertools.zip_longest", "itertools.pairwise"].contains n && vs[0]? == some (rawInt _)) = true then _ else _) Q E s;rw [if_neg (by intro h; rw [hn, Bool.false_and] at h; cases h)];exact Qq4 hQ))
def Itl(K:PySem.W.Frag)(a:Addr):It:=
 ⟨λi H=>∃xs x,m8 K H a xs/\xs[i]? = some x,λi H x H'=>H'=H/\∀xs,m8 K H a xs->xs[i]? = some x,λi H=>∃xs,m8 K H a xs/\xs.length<=i⟩
def Itt(K:PySem.W.Frag)(a:Addr):It:=
 ⟨λi H=>∃xs x,kI K H a xs/\xs[i]? = some x,λi H x H'=>H'=H/\∀xs,kI K H a xs->xs[i]? = some x,λi H=>∃xs,kI K H a xs/\xs.length<=i⟩
def Itr(lo:Int)(n:Nat):It:=⟨λi _=>i<n,λi H x H'=>H'=H/\x = .int (lo+i),λi _=>n<=i⟩
theorem K7{P:Program}{w:World}{K:PySem.W.Frag}{tg:Expr}(a it:Addr):Turn P w K tg (Itl K a) [it] it (λi h=>h.IsListIter it a i) where
 mem:=by simp
 obj:=λi h st b hb=>by
  have e:b=it:=by simpa using hb
  subst e;obtain⟨o,e,c,d⟩:=st;exact⟨o,e,λv z=>by rw[d] at z;cases z⟩
 keep:=λi h h' st k=>st.at λo e=>k it (by simp) o e
 item:=by intro X hP hw hK hc i pins s σ H E I hf st hg;subst hP hw hK;obtain⟨xs,x,hq,hx⟩:=hg;obtain⟨its,rv,p,hz⟩:=I.list hq;obtain⟨u,hu,ru⟩:=rv.get hx;obtain⟨f0,f1,f2,f3,f4,f5⟩:=hf it (by simp);refine wpAny_pyNext_list_item st p.isList (x:=u) (by simpa using hu) λh' st' sb=>?_;have I1:Inv X pins σ H { s with heap:=h' }:=I.turned (t':=s.toks) (λb o hb e=>(sb.2 b hb).trans e) f0 f1 f3 f4 f5;obtain⟨o,e,c,d⟩:=id st';exact⟨u,rfl,Gk (s:={ s with heap:=h' }) e c d (by decide) ⟨x,H,I1,ru,⟨rfl,λys hy=>by rw[I.QW hy hq];exact hx⟩,st',λb hb=>(hf b hb).1⟩⟩
 done:=by intro X hP hw hK hc i pins s σ H E I hf st hg;subst hP hw hK;obtain⟨xs,hq,hx⟩:=hg;obtain⟨its,rv,p,hz⟩:=I.list hq;obtain⟨f0,f1,f2,f3,f4,f5⟩:=hf it (by simp);have hl:=rv.length;exact wpAny_pyNext_list_end (I.ok.hd hc) st p.isList (by simp;omega) λh' eb=>⟨rfl,I.turned (t':=s.toks) (λb o hb e=>eb b o hb e) f0 f1 f3 f4 f5⟩
 self:=λ_ _ _ _ _ st h=>wpAny_pyIter_listiter st h
theorem Hl{P:Program}{w:World}{K:PySem.W.Frag}{tg:Expr}(a it:Addr):Turn P w K tg (Itt K a) [it] it (λi h=>h.IsTupleIter it a i) where
 mem:=by simp
 obj:=λi h st b hb=>by
  have e:b=it:=by simpa using hb
  subst e;obtain⟨o,e,c,d⟩:=st;exact⟨o,e,λv z=>by rw[d] at z;cases z⟩
 keep:=λi h h' st k=>st.at λo e=>k it (by simp) o e
 item:=by intro X hP hw hK hc i pins s σ H E I hf st hg;subst hP hw hK;obtain⟨xs,x,hq,hx⟩:=hg;obtain⟨its,rv,p,hz⟩:=I.tuple hq;obtain⟨u,hu,ru⟩:=rv.get hx;obtain⟨f0,f1,f2,f3,f4,f5⟩:=hf it (by simp);refine wpAny_pyNext_tuple_item st (show s.heap.IsTuple a its.toArray from p) (x:=u) (by simpa using hu) λh' st' sb=>?_;have I1:Inv X pins σ H { s with heap:=h' }:=I.turned (t':=s.toks) (λb o hb e=>(sb.2 b hb).trans e) f0 f1 f3 f4 f5;obtain⟨o,e,c,d⟩:=id st';exact⟨u,rfl,Gk (s:={ s with heap:=h' }) e c d (by decide) ⟨x,H,I1,ru,⟨rfl,λys hy=>by rw[I.uH hy hq];exact hx⟩,st',λb hb=>(hf b hb).1⟩⟩
 done:=by intro X hP hw hK hc i pins s σ H E I hf st hg;subst hP hw hK;obtain⟨xs,hq,hx⟩:=hg;obtain⟨its,rv,p,hz⟩:=I.tuple hq;obtain⟨f0,f1,f2,f3,f4,f5⟩:=hf it (by simp);have hl:=rv.length;exact wpAny_pyNext_tuple_end (I.ok.hd hc) st (show s.heap.IsTuple a its.toArray from p) (by simp;omega) λh' eb=>⟨rfl,I.turned (t':=s.toks) (λb o hb e=>eb b o hb e) f0 f1 f3 f4 f5⟩
 self:=λ_ _ _ _ _ st h=>wpAny_pyIter_tupleiter st h
theorem Hm{P:Program}{w:World}{K:PySem.W.Frag}{tg:Expr}(it:Addr)(lo:Int)(n:Nat):Turn P w K tg (Itr lo n) [it] it (λi h=>IsRangeIter h it (lo+(i:Nat)*1) ((n:Int) - (i:Nat)) 1) where
 mem:=by simp
 obj:=λi h st b hb=>by
  have e:b=it:=by simpa using hb
  subst e;exact⟨_,st,λv z=>by
   have z':Data.fields _=Data.cell v:=z;cases z'⟩
 keep:=λi h h' st k=>k it (by simp) _ st
 item:=by intro X hP hw hK hc i pins s σ H E I hf st hg;subst hP hw hK;obtain⟨f0,f1,f2,f3,f4,f5⟩:=hf it (by simp);have W:=Walks.range (prog:=X.prog) (w:=X.w) (I.ok.hd hc) it lo 1 n;refine W.item i s _ _ hg st λv h' tk hv st' kk=>?_;obtain⟨t,rfl⟩:=hv;have I1:Inv X pins σ H { s with heap:=h',toks:=tk }:=I.turned (λb o hb e=>kk b o (by simpa using hb) e) f0 f1 f3 f4 f5;refine⟨_,rfl,Gk (s:={ s with heap:=h',toks:=tk }) (n:="range_iterator") st' rfl rfl (by decide) ⟨.int (lo+i),H,I1,⟨t,?_⟩,⟨rfl,rfl⟩,st',λb hb=>(hf b hb).1⟩⟩;rw[Int.mul_one]
 done:=by intro X hP hw hK hc i pins s σ H E I hf st hg;subst hP hw hK;obtain⟨f0,f1,f2,f3,f4,f5⟩:=hf it (by simp);exact wpAny_pyNext_range_end (I.ok.hd hc) st (by have:n<=i:=hg;omega) λh' eb=>⟨rfl,I.turned (t':=s.toks) (λb o hb e=>eb b o hb e) f0 f1 f3 f4 f5⟩
 self:=λ_ _ _ _ _ st h=>wpAny_pyIter_rangeiter st h
section
variable{X:Cx}{tg:Expr}
theorem O8{pins:List (Addr×Obj)}{σ:St}{H:Hp}{s:Shared}{R:It->Hp->Prop}{E:Value->Shared->Prop}{lo hi:Int}{t u v:Tok}{tk:Nat}(I:Inv X pins σ H s)(h1 : -(2^62)<=lo)(h2:lo<2^62)(h3 : -(2^62)<=hi)(h4:hi<2^62)
  (q:R (Itr lo (hi - lo).toNat) H):wpAny (model X.prog X.w) X.A (pyIter (.ref s.heap.objs.size)) (PIE X pins σ tg R) E { s with heap:=s.heap.push { cls:=.type "range",data:=.fields #[.int lo t,.int hi u,.int 1 v] },toks:=tk }:=by
 refine wpAny_pyIter_range (IsRange.new ..) (small_one h1 h2 h3 h4) ?_;have I1:Inv X pins σ H { s with heap:=s.heap.push { cls:=.type "range",data:=.fields #[.int lo t,.int hi u,.int 1 v] },toks:=tk }:=I.kept λb o e=>Qqk _ e;refine⟨(s.heap.push { cls:=.type "range",data:=.fields #[.int lo t,.int hi u,.int 1 v] }).objs.size,[(s.heap.push { cls:=.type "range",data:=.fields #[.int lo t,.int hi u,.int 1 v] }).objs.size],_,_,H,rfl,
  I1.kept (t':=tk) λb o e=>Qqk _ e,Hm _ lo (hi - lo).toNat,?_,λb hb=>?_,q⟩
 ·have e1:lo+((0:Nat):Int)*1=lo:=by simp
  have e2:(((hi - lo).toNat:Nat):Int) - ((0:Nat):Int)=Builtin.Range.rangeSize lo hi 1:=by rw[rangeSize_one];split<;>omega
  show IsRangeIter _ _ (lo+((0:Nat):Int)*1) ((((hi - lo).toNat:Nat):Int) - ((0:Nat):Int)) 1;rw[e1,e2];exact Qwz _ rfl
 ·have e:b=(s.heap.push { cls:=.type "range",data:=.fields #[.int lo t,.int hi u,.int 1 v] }).objs.size:=by simpa using hb
  subst e;exact I1.Rj (Qq0 _) (I1.hok.fresh (Qq0 _))
def ab1(ta:TA):TI:=λσ H R=>ta σ H λvs H1=>∃j:Int,vs=[.int j]/\-(2^62)<=j/\j<2^62/\R (Itr 0 j.toNat) H1
theorem LC{a:Expr}{ta:TA}{p pos:Pos}(hg:Gl X "range")(hm:X.mg "range" = none)(ha:PA X [a] ta)(hs:starEach [a] X.env=[(false,eval a X.env)]:=by rfl):PI X tg (.Call (.Name "range" p) [a] [] pos) (ab1 ta):=by
 intro pins s σ H R I h;refine Call_ (yz I hg hm boot_range (Qjy (fc (ha pos pins s σ H _ I h) λus s1 ⟨vs,H1,I1,r1,q1⟩=>?_) hs rfl));obtain⟨j,e,q1,q2,q⟩:=q1;subst e;cases r1 with
 | cons r rr=>
  cases rr;obtain⟨t,rfl⟩:=r;exact call_range_1 (O8 I1 (by omega) (by omega) q1 q2 (by simpa using q))
def adA(wi:TI)(g:TG)(tb:TS):TS:=λD σ H=>wi σ H λJ H1=>∃W:Nat->Nat->St->Hp->Prop,(∃m,W 0 m σ H1)/\∀i m σ H,W i m σ H->
 (J.stop i H/\D.nx σ H)\/(J.go i H/\∃N:St->Hp->Prop,(∀σ' H',N σ' H'->∃m',m'<m/\W (i+1) m' σ' H')/\∀x H',J.yld i H x H'->g x σ H' λσ2 H2=>tb { D with nx:=N,ct:=N,bk:=D.nx } σ2 H2)
def ye(fp:List Addr)(h:Heap):List (Addr×Obj):=fp.filterMap λb=>(h.get? b).map λo=>(b,o)
theorem oO{fp:List Addr}{h:Heap}{b:Addr}{o:Obj}(hb:b∈fp)(e:h.get? b=some o):(b,o)∈ye fp h:=List.mem_filterMap.mpr ⟨b,hb,by rw[e];rfl⟩
theorem Mj{fp:List Addr}{h:Heap}{p:Addr×Obj}(hp:p∈ye fp h):p.1∈fp/\h.get? p.1=some p.2:=by
 obtain⟨b,hb,e⟩:=List.mem_filterMap.mp hp;cases q:h.get? b with
 | none=>rw[q] at e;cases e
 | some o=>
  rw[q] at e;have e':(b,o)=p:=Qw0 e;subst e';exact⟨hb,q⟩
theorem Inv.pinned{pins:List (Addr×Obj)}{σ:St}{H:Hp}{s:Shared}{fp:List Addr}(I:Inv X pins σ H s)(hf:∀b∈fp,rZ X pins H b)(ho:∀b∈fp,∃o,s.heap.get? b=some o/\∀v,o.data ≠ .cell v):Inv X (pins++ye fp s.heap) σ H s:=
 I.JZ λp hp=>(Qww.mp hp).elim (λz=>I.pin p (Qxq _ z)) λz=>by
  obtain⟨hb,e⟩:=Mj z;obtain⟨f0,f1,f2,_⟩:=hf p.1 hb;obtain⟨o,e',d⟩:=ho p.1 hb;rw[e] at e';cases e';exact⟨e,f0,f1,f2,d⟩
theorem Inv.sI{pins pl:List (Addr×Obj)}{σ:St}{H:Hp}{s:Shared}(I:Inv X (pins++pl) σ H s):Inv X pins σ H s:=I.JZ λp hp=>I.pin p (Qxq _ (Qj6 _ hp))
theorem X3{iter:Expr}{body:List Stmt}{wi:TI}{g:TG}{tb:TS}{pos:Pos}(hp:PassesOwn (model X.prog X.w) X.A X.env X.xe)(hc:X.calm=true)(hi:PI X tg iter wi)(hg:PG X tg g)(hb:DK X body tb)
  (hs:∀x,foldedSetIterable iter X.env x=pure x:=by intro _;rfl):PS X (.For tg iter body [] pos) (adA wi g tb):=by
 intro pins s σ H D I h;refine wpAny_For (fc (hi pins s σ H _ I h) λv s1 h1=>fc h1 λitv s2 h2=>?_) hs;obtain⟨it,fp,tn,J,H2,e,I2,T,st2,f2,W,⟨m0,w0⟩,turn⟩:=h2;subst e
 -- what stays true of the iterator's objects through the loop
 have stat:∀{H':Hp},(∀b∈fp,H' b=none)->∀b∈fp,rZ X pins H' b:=λhn b hb=>⟨hn b hb,(f2 b hb).2⟩;refine codeAny_forLoop_any (λn s'=>∃i σ' H',Inv X pins σ' H' s'/\tn i s'.heap/\(∀b∈fp,H' b=none)/\W i n σ' H') ?_ m0 ⟨0,σ,H2,I2,st2,λb hb=>(f2 b hb).1,w0⟩;rintro n s3 ⟨i,σ3,H3,I3,st3,fr3,w3⟩;rcases turn i n σ3 H3 w3 with ⟨stop,qn⟩|⟨go,N,hN,step⟩
 ·refine Qj7 hp (fc (T.done X rfl rfl rfl hc i pins s3 σ3 H3 X.xe I3 (stat fr3) st3 stop) λr s4 ⟨hr,I4⟩=>?_);subst hr;exact wpAny_execs_nil ⟨σ3,H3,I4,qn⟩
 ·refine Qj7 hp (fc (T.item X rfl rfl rfl hc i pins s3 σ3 H3 X.xe I3 (stat fr3) st3 go) λr s4 ⟨u,hr,h4⟩=>?_);subst hr;refine Qj7 hp (fc h4 λ_ s5 ⟨x,H5,I5,r5,y5,st5,fr5⟩=>?_);have I5':=I5.pinned (stat fr5) (T.obj _ _ st5);refine Qj7 hp (fc (hg _ s5 σ3 H5 x u _ I5' r5 (step x H5 y5)) λ_ s6 ⟨σ6,H6,I6,q6⟩=>?_);refine Qj7 hp (fc (hb _ s6 σ6 H6 _ I6 q6) λf s7 q7=>?_);have again:∀{σ7:St} {H7:Hp},Inv X (pins++ye fp s5.heap) σ7 H7 s7->N σ7 H7->∃m,m<n/\∃i σ' H',Inv X pins σ' H' s7/\tn i s7.heap/\(∀b∈fp,H' b=none)/\W i m σ' H':=λ{σ7 H7} I7 n7=>by
   obtain⟨m',hm,w7⟩:=hN σ7 H7 n7;refine⟨m',hm,i+1,σ7,H7,I7.sI,T.keep _ _ _ st5 λb hb o e=>(I7.pin (b,o) (Qxq _ (Qxq _ (oO hb e)))).1,λb hb=>?_,w7⟩;obtain⟨o,e,d⟩:=T.obj _ _ st5 b hb;exact(I7.pin (b,o) (Qxq _ (Qxq _ (oO hb e)))).2.1
  cases f with
  | next=>obtain⟨σ7,H7,I7,n7⟩:=q7;exact again I7 n7
  | cont=>obtain⟨σ7,H7,I7,n7⟩:=q7;exact again I7 n7
  | brk=>obtain⟨σ7,H7,I7,q7⟩:=q7;exact⟨σ7,H7,I7.sI,q7⟩
  | ret v=>obtain⟨x7,σ7,H7,I7,r7,q7⟩:=q7;exact⟨x7,σ7,H7,I7.sI,r7,q7⟩
end
abbrev R2:=V->V->Hp->VK->Prop
def m9(X:Cx)(f:Value->Value->Sem Value)(r:R2):Prop:=
 ∀(pins:List (Addr×Obj)) (s:Shared) (σ:St) (H:Hp) (x y:V) (v u:Value) (Q:VK),Inv X pins σ H s->RelV x v->RelV y u->r x y H Q->
  wpAny (model X.prog X.w) X.A (f v u) (EP X pins σ Q) X.xe s
def UnR(X:Cx)(f:Value->Sem Value)(r:V->Hp->VK->Prop):Prop:=
 ∀(pins:List (Addr×Obj)) (s:Shared) (σ:St) (H:Hp) (x:V) (v:Value) (Q:VK),Inv X pins σ H s->RelV x v->r x H Q->
  wpAny (model X.prog X.w) X.A (f v) (EP X pins σ Q) X.xe s
def jH(X:Cx)(f:Value)(r:List V->Hp->VK->Prop):Prop:=
 ∀(pins:List (Addr×Obj)) (s:Shared) (σ:St) (H:Hp) (xs:List V) (us:List Value) (Q:VK),Inv X pins σ H s->Vals xs us->r xs H Q->
  wpAny (model X.prog X.w) X.A (call f us) (EP X pins σ Q) X.xe s
def Xe(r:R2)(ta tb:TE):TE:=λσ H Q=>ta σ H λx H1=>tb σ H1 λy H2=>r x y H2 Q
def tUn(r:V->Hp->VK->Prop)(ta:TE):TE:=λσ H Q=>ta σ H λx H1=>r x H1 Q
def rI(C:Int->Int->Prop)(g:Int->Int->V):R2:=λx y H Q=>∃i j,x = .int i/\y = .int j/\C i j/\Q (g i j) H
def Nj(g:Int->Int->V):R2:=λx y H Q=>∃i j,x = .int i/\y = .int j/\Q (g i j) H
def rU(g:Int->V):V->Hp->VK->Prop:=λx H Q=>∃i,x = .int i/\Q (g i) H
section
variable{X:Cx}{a b c:Expr}{ta tb tc:TE}{pos:Pos}
theorem aab(ha:PE X a ta)(hb:PE X b tb){pins:List (Addr×Obj)}{s:Shared}{σ:St}{H:Hp}{R:V->V->Hp->Prop}(I:Inv X pins σ H s)
  (h:ta σ H λx H1=>tb σ H1 λy H2=>R x y H2) {Q:Value->Shared->Prop} {f:Value->Value->Sem Value}
  (hf:∀v u s2 x y H2,Inv X pins σ H2 s2->RelV x v->RelV y u->R x y H2->wpAny (model X.prog X.w) X.A (f v u) Q X.xe s2) :
  wpAny (model X.prog X.w) X.A (eval a X.env) (λv s₁=>wpAny (model X.prog X.w) X.A (eval b X.env) (λu s₂=>wpAny (model X.prog X.w) X.A (f v u) Q X.xe s₂) X.xe s₁) X.xe s:=by
 refine fc (ha pins s σ H _ I h) λv s1 ⟨x,H1,I1,r1,q1⟩=>?_;refine fc (hb pins s1 σ H1 _ I1 q1) λu s2 ⟨y,H2,I2,r2,q2⟩=>?_;exact hf v u s2 x y H2 I2 r1 r2 q2
theorem V2{op:Operator}{r:R2}(ho:m9 X (binaryOp op) r)(ha:PE X a ta)(hb:PE X b tb):PE X (.BinOp a op b pos) (Xe r ta tb):=by intro pins s σ H Q I h;exact wpAny_BinOp (aab ha hb I h λv u s2 x y H2 I2 rx ry q=>ho pins s2 σ H2 x y v u Q I2 rx ry q)
theorem V1{op:UnaryOp}{r:V->Hp->VK->Prop}(ho:UnR X (unaryOp op) r)(ha:PE X a ta):PE X (.UnaryOp op a pos) (tUn r ta):=by intro pins s σ H Q I h;exact UnaryOp_ (fc (ha pins s σ H _ I h) λv s1 ⟨x,H1,I1,r1,q1⟩=>ho pins s1 σ H1 x v Q I1 r1 q1)
theorem opI{f:Value->Value->Sem Value}{C:Int->Int->Prop}{g:Int->Int->Int}
  (rule:∀(i j:Int) (t u:Tok) (s:Shared) (Q:Value->Shared->Prop) (E:Value->Shared->Prop),C i j->Q (.int (g i j) s.toks) { s with toks:=s.toks+1 }->wpAny (model X.prog X.w) X.A (f (.int i t) (.int j u)) Q E s) :
  m9 X f (rI C λi j=>.int (g i j)):=by
 intro pins s σ H x y v u Q I rx ry h;obtain⟨i,j,rfl,rfl,hc,q⟩:=h;obtain⟨t,rfl⟩:=rx;obtain⟨t',rfl⟩:=ry;exact rule i j t t' s _ _ hc ⟨.int (g i j),H,I.tok _,⟨_,rfl⟩,q⟩
theorem YD{f:Value->Value->Sem Value}{g:Int->Int->Int}
  (rule:∀(i j:Int) (t u:Tok) (s:Shared) (Q:Value->Shared->Prop) (E:Value->Shared->Prop),Q (.int (g i j) s.toks) { s with toks:=s.toks+1 }->wpAny (model X.prog X.w) X.A (f (.int i t) (.int j u)) Q E s) :
  m9 X f (Nj λi j=>.int (g i j)):=by
 intro pins s σ H x y v u Q I rx ry h;obtain⟨i,j,rfl,rfl,q⟩:=h;obtain⟨t,rfl⟩:=rx;obtain⟨t',rfl⟩:=ry;exact rule i j t t' s _ _ ⟨.int (g i j),H,I.tok _,⟨_,rfl⟩,q⟩
theorem adO{f:Value->Value->Sem Value}{g:Int->Int->Bool}
  (rule:∀(i j:Int) (t u:Tok) (s:Shared) (Q:Value->Shared->Prop) (E:Value->Shared->Prop),Q (.bool (g i j)) s->wpAny (model X.prog X.w) X.A (f (.int i t) (.int j u)) Q E s) :
  m9 X f (Nj λi j=>.bl (g i j)):=by
 intro pins s σ H x y v u Q I rx ry h;obtain⟨i,j,rfl,rfl,q⟩:=h;obtain⟨t,rfl⟩:=rx;obtain⟨t',rfl⟩:=ry;exact rule i j t t' s _ _ ⟨.bl (g i j),H,I,rfl,q⟩
def acG(i j:Int):Prop:=0<j/\j<1073741824
def Vx(i j:Int):Prop:=0<=j/\j<=1000000/\i.natAbs<2^64
theorem Hk(k:Nat):(0:Int)<=2^k:=by rw[two_pow_cast];exact Int.natCast_nonneg _
theorem YC:m9 X (binaryOp .Add) (Nj λi j=>.int (i+j)):=YD λ_ _ _ _ _ _ _ q=>add_int q
theorem Ym:m9 X (binaryOp .Sub) (Nj λi j=>.int (i - j)):=YD λ_ _ _ _ _ _ _ q=>sub_int q
theorem Yr:m9 X (binaryOp .Mod) (rI (λ_ j=>0<j) λi j=>.int (i % j)):=opI λi j _ _ _ _ _ hc q=>by
 have h1:(0:Int)<j:=hc;exact mod_int' (by omega) (by rw[Int.fmod_eq_emod_of_nonneg i (by omega)];exact q)
theorem Yp:m9 X (binaryOp .Pow) (rI Vx λi j=>.int (i^j.toNat)):=opI λ_ _ _ _ _ _ _ hc q=>pow_int_small hc.1 hc.2.1 hc.2.2 q
theorem Yo:m9 X (binaryOp .LShift) (rI Vx λi j=>.int (i*2^j.toNat)):=opI λ_ _ _ _ _ _ _ hc q=>lshift_int_small hc.1 hc.2.1 hc.2.2 q
theorem Yn:m9 X (binaryOp .RShift) (rI (λ_ j=>0<=j) λi j=>.int (i / 2^j.toNat)):=opI λi j _ _ _ _ _ hc q=>
 rshift_int hc (by rw[Int.fdiv_eq_ediv_of_nonneg i (Hk _)];exact q)
theorem YB:m9 X (binaryOp .BitAnd) (Nj λi j=>.int (Builtin.bitAnd i j)):=YD λ_ _ _ _ _ _ _ q=>and_int q
theorem unI{f:Value->Sem Value}{g:Int->Int}
  (rule:∀(i:Int) (t:Tok) (s:Shared) (Q:Value->Shared->Prop) (E:Value->Shared->Prop),Q (.int (g i) s.toks) { s with toks:=s.toks+1 }->wpAny (model X.prog X.w) X.A (f (.int i t)) Q E s) :
  UnR X f (rU λi=>.int (g i)):=by
 intro pins s σ H x v Q I rx h;obtain⟨i,rfl,q⟩:=h;obtain⟨t,rfl⟩:=rx;exact rule i t s _ _ ⟨.int (g i),H,I.tok _,⟨_,rfl⟩,q⟩
theorem NT:UnR X (unaryOp .USub) (rU λi=>.int (-i)):=unI λ_ _ _ _ _ q=>neg_int q
end
theorem Z3{i j:Bool}:decide (V.bl i=V.bl j)=(i == j):=by rw[Qj1];simp
section
variable{X:Cx}{a b c:Expr}{ta tb tc:TE}{pos:Pos}
theorem vD{pins:List (Addr×Obj)}{σ:St}{H:Hp}{s:Shared}{Q:VK}{k k':Bool}(I:Inv X pins σ H s)(q:Q (.bl k) H)(e:k=k'):EP X pins σ Q (.bool k') s:=by subst e;exact⟨.bl k,H,I,rfl,q⟩
theorem abE:m9 X (compareOp .Lt) (Nj λi j=>.bl (decide (i<j))):=adO λ_ _ _ _ _ _ _ q=>lt_int q
theorem Mf:m9 X (compareOp .Lt) (λx y H Q=>∃i j,x = .str i/\y = .str j/\Q (.bl (decide (i.cps.toList<j.cps.toList))) H):=by intro pins s σ H x y v u Q I rx ry h;obtain⟨i,j,rfl,rfl,q⟩:=h;obtain⟨t,rfl⟩:=rx;obtain⟨t',rfl⟩:=ry;exact lt_str (vD I q rfl)
theorem Mh:m9 X (compareOp .In) (λx y H Q=>∃i j,x = .str i/\y = .str j/\Q (.bl (!(Builtin.Str.occurrences j i 0 j.length 1).isEmpty)) H):=by intro pins s σ H x y v u Q I rx ry h;obtain⟨i,j,rfl,rfl,q⟩:=h;obtain⟨t,rfl⟩:=rx;obtain⟨t',rfl⟩:=ry;exact in_str (vD I q rfl)
theorem Yt:m9 X (compareOp .Is) (λx y H Q=>y = .non/\Q (.bl (decide (x = .non))) H):=by
 intro pins s σ H x y v u Q I rx ry h;obtain⟨rfl,q⟩:=h;cases ry;refine is_none_gen (vD I q ?_);cases x<;>first
  | (cases rx;rfl)
  | (obtain⟨t,rfl⟩:=rx;rfl)
theorem Uj:m9 X (compareOp .IsNot) (λx y H Q=>y = .non/\Q (.bl (!decide (x = .non))) H):=by
 intro pins s σ H x y v u Q I rx ry h;obtain⟨rfl,q⟩:=h;cases ry;refine isnot_none_gen (vD I q ?_);cases x<;>first
  | (cases rx;rfl)
  | (obtain⟨t,rfl⟩:=rx;rfl)
theorem m9.or{f:Value->Value->Sem Value}{r r':R2}(h:m9 X f r)(h':m9 X f r'):m9 X f (λx y H Q=>r x y H Q\/r' x y H Q):=by
 intro pins s σ H x y v u Q I rx ry q;rcases q with q|q
 ·exact h pins s σ H x y v u Q I rx ry q
 ·exact h' pins s σ H x y v u Q I rx ry q
theorem J0{op:CmpOp}{r:R2}(ho:m9 X (compareOp op) r)(ha:PE X a ta)(hb:PE X b tb)(hm:behindInMarks op b=false):PE X (.Compare a [op] [b] pos) (Xe r ta tb):=by intro pins s σ H Q I h;exact wpAny_Compare1 (aab ha hb I h λv u s2 x y H2 I2 rx ry q=>ho pins s2 σ H2 x y v u Q I2 rx ry q) hm
def aaT(t:TE):TT:=λσ H Q=>t σ H λx H'=>∃k,x = .bl k/\Q k H'
theorem JW{op:CmpOp}{r:R2}(ho:m9 X (compareOp op) r)(ha:PE X a ta)(hb:PE X b tb)(hm:behindInMarks op b=false):PT X (.Compare a [op] [b] pos) (aaT (Xe r ta tb)):=by
 intro pins s σ H Q I h;refine wpAny_isTrue_Compare1 (fc (ha pins s σ H _ I h) λv s1 ⟨x,H1,I1,r1,q1⟩=>fc (hb pins s1 σ H1 _ I1 q1) λu s2 ⟨y,H2,I2,r2,q2⟩=>
  fc (ho pins s2 σ H2 x y v u _ I2 r1 r2 q2) λc s3 ⟨z,H3,I3,r3,k,e,q3⟩=>?_) hm
 subst e;cases r3;exact wpAny_truthy_bool ⟨H3,I3,q3⟩
theorem Zy{κ:Type}{kvs:List (κ×V)}{vs:List (κ×Value)}(r:KV kvs vs):(!vs.isEmpty) = !kvs.isEmpty:=by cases r<;>rfl
theorem Zx{xs:List V}{its:List Value}(r:Vals xs its):(!its.toArray.isEmpty) = !xs.isEmpty:=by cases r<;>simp
theorem yx:(sizeLine:Nat)<2^63:=by rw[sizeLine_eq];decide
theorem Ig:m9 X (binaryOp .Add) (λx y H Q=>∃i j,x = .str i/\y = .str j/\i.length+j.length<=sizeLine/\Q (.str (i++j)) H):=by intro pins s σ H x y v u Q I rx ry h;obtain⟨i,j,rfl,rfl,hz,q⟩:=h;obtain⟨t,rfl⟩:=rx;obtain⟨t',rfl⟩:=ry;exact add_str (λt' tk=>⟨.str (i++j),H,I.tok _,⟨_,rfl⟩,q⟩) hz
theorem vals1{x:V}{us:List Value}(r:Vals [x] us):∃u,us=[u]/\RelV x u:=by
 cases r with
 | cons r1 r2=>cases r2;exact⟨_,rfl,r1⟩
theorem vals2{x y:V}{us:List Value}(r:Vals [x,y] us):∃u w',us=[u,w']/\RelV x u/\RelV y w':=by
 cases r with
 | cons r1 r2=>
  cases r2 with
  | cons r3 r4=>cases r4;exact⟨_,_,rfl,r1,r3⟩
def acE(K:PySem.W.Frag)(x:V)(H:Hp)(n:Nat):Prop:=
 match x with
 | .str y=>y.length<=sizeLine/\n=y.length
 | .byt y=>y.size<=sizeLine/\n=y.size
 | .ref p=>(∃xs,m8 K H p xs/\n=xs.length)\/∃xs,kI K H p xs/\n=xs.length
 | _=>False
theorem RC:jH X (.builtin "len") (λxs H Q=>∃x n,xs=[x]/\acE X.K x H n/\Q (.int n) H):=by
 intro pins s σ H xs us Q I r h;obtain⟨x,n,rfl,e,q⟩:=h;obtain⟨u,rfl,rx⟩:=vals1 r;have hl:=yx;have hs:sizeLine=16777216:=sizeLine_eq;cases x with
 | str y=>
  obtain⟨t,rfl⟩:=rx;obtain⟨hy,e'⟩:y.length<=sizeLine/\n=y.length:=e;subst e';exact len_str (by omega) ⟨.int _,H,I.tok _,⟨_,rfl⟩,q⟩
 | byt y=>
  obtain⟨t,rfl⟩:=rx;obtain⟨hy,e'⟩:y.size<=sizeLine/\n=y.size:=e;subst e';exact PySem.W.len_bytes (by omega) ⟨.int _,H,I.tok _,⟨_,rfl⟩,q⟩
 | ref p=>
  cases rx;have e':(∃xs,m8 X.K H p xs/\n=xs.length)\/∃xs,kI X.K H p xs/\n=xs.length:=e;rcases e' with ⟨xs,hx,e'⟩|⟨xs,hx,e'⟩
  ·subst e';obtain⟨its,r',pl,hz⟩:=I.list hx;have hlen:=r'.length;exact Calls.call_len_list pl.isList (by simp only[Qq5];omega) ⟨.int xs.length,H,I.tok _,⟨_,by simp only[Qq5];rw[hlen]⟩,q⟩
  ·subst e';obtain⟨its,r',pl,hz⟩:=I.tuple hx;have hlen:=r'.length;exact len_tuple pl (by simp only[Qq5];omega) ⟨.int xs.length,H,I.tok _,⟨_,by simp only[Qq5];rw[hlen]⟩,q⟩
 | _=>exact(show False from e).elim
theorem GK:jH X (.builtin "divmod") (λxs H Q=>∃i j,xs=[.int i,.int j]/\acG i j/\∀p,H p=none->Q (.ref p) (upd H p (.tup [.int (i / j),.int (i % j)]))):=by intro pins s σ H xs us Q I r h;obtain⟨i,j,rfl,⟨h1,h2⟩,q⟩:=h;obtain⟨u,w',rfl,⟨t,rfl⟩,⟨t',rfl⟩⟩:=vals2 r;refine divmod_int (by omega) ?_ (.inl (PyProof.noPylong_small (by omega)));rw[Int.fdiv_eq_ediv_of_nonneg i (by omega),Int.fmod_eq_emod_of_nonneg i (by omega)];have hn:H s.heap.objs.size=none:=I.hok.fresh (Qq0 _);refine⟨.ref s.heap.objs.size,_,?_,rfl,q _ hn⟩;refine I.laid (λb o e=>Qqk _ e) (Qq0 _) ⟨by simp only[Qqy,Qjw];rw[sizeLine_eq];decide,[.int (i / j) s.toks,.int (i % j) (s.toks+1)],.cons ⟨_,rfl⟩ (.cons ⟨_,rfl⟩ .nil),?_⟩;exact⟨_,Qwz s.heap rfl,rfl,⟨0,rfl⟩,rfl⟩
end
theorem vN.some_of{v:V}{o:Option Value}(r:vN (some v) o):∃u,o=some u/\RelV v u:=by
 cases o with
 | none=>exact(show False from r).elim
 | some u=>exact⟨u,rfl,r⟩
structure eV(k:Nat)(A:Around):Prop where
 hd:A.handled=none
 dp:A.depth+3*k+5<recursionLimit
 un:A.units+16*k+200<cLine
theorem eV.mono{j k:Nat}{A:Around}(r:eV k A)(h:j<=k):eV j A:=⟨r.hd,by have:=r.dp;omega,by have:=r.un;omega⟩
theorem eV.deeper{k:Nat}{A:Around}(r:eV (k+1) A)(env:Env):eV k (A.deeper env):=
 ⟨r.hd,by have:=r.dp;show A.depth+1+3*k+5<_;omega,by have:=r.un;show A.units+3+16*k+200<_;omega⟩
theorem eV.depth{k:Nat}{A:Around}(r:eV k A):A.depth<recursionLimit:=by have:=r.dp;omega
theorem eV.units{k:Nat}{A:Around}(r:eV k A):A.units+64<cLine:=by have:=r.un;omega
def aaV:TA:=λ_ H Q=>Q [] H
def Ab(ta:TE)(tr:TA):TA:=λσ H Q=>ta σ H λx H1=>tr σ H1 λxs H2=>Q (x::xs) H2
section
variable{X:Cx}{e:Expr}{es:List Expr}{te:TE}{t:TA}{pos:Pos}
theorem yh:PA X [] aaV:=λ_ _ _ _ H Q I h=>Calls.spliced_nil ⟨[],H,I,.nil,h⟩
theorem jx(ha:PE X e te)(hr:PA X es t)(hs:starEach (e::es) X.env=(false,eval e X.env)::starEach es X.env:=by rfl):PA X (e::es) (Ab te t):=by intro pos pins s σ H Q I h;rw[hs];show wpAny _ _ (spliced ((false,eval e X.env)::backTo pos (starEach es X.env))) _ _ s;refine Calls.spliced_cons (fc (ha pins s σ H _ I h) λu s1 ⟨x,H1,I1,r1,q1⟩=>?_);exact fc (hr pos pins s1 σ H1 _ I1 q1) λus s2 ⟨xs,H2,I2,r2,q2⟩=>⟨x::xs,H2,I2,.cons r1 r2,q2⟩
def ado(t:TA):TE:=λσ H Q=>t σ H λxs H1=>xs.length<=sizeLine/\∀p,H1 p=none->Q (.ref p) (upd H1 p (.tup xs))
def adx(t:TA):TE:=λσ H Q=>t σ H λxs H1=>xs.length<=sizeLine/\∀p,H1 p=none->Q (.ref p) (upd H1 p (.lst xs))
theorem Yd{x1}(h:PA X es t):PE X (.Tuple es x1 pos) (ado t):=by intro pins s σ H Q I hq;refine wpAny_Tuple_spliced (fc (h pos pins s σ H _ I hq) λus s1 ⟨xs,H1,I1,r,z,q⟩=>⟨by rw[<-r.length];exact z,?_⟩);have hf:H1 s1.heap.objs.size=none:=I1.hok.fresh (Qq0 _);refine⟨.ref s1.heap.objs.size,upd H1 s1.heap.objs.size (.tup xs),I1.laid (t':=s1.toks) (λb u e=>Qqk _ e) (Qq0 _) ?_,rfl,q _ hf⟩;exact⟨z,us,r,zY.new _ _⟩
theorem Yj(h:PA X es t):PE X (.List es pos) (adx t):=by intro pins s σ H Q I hq;refine wpAny_List_spliced (fc (h pos pins s σ H _ I hq) λus s1 ⟨xs,H1,I1,r,z,q⟩=>⟨by rw[<-r.length];exact z,?_⟩);have hf:H1 s1.heap.objs.size=none:=I1.hok.fresh (Qq0 _);refine⟨.ref s1.heap.objs.size,upd H1 s1.heap.objs.size (.lst xs),I1.laid (t':=s1.toks) (λb u e=>Qqk _ e) (Qq0 _) ?_,rfl,q _ hf⟩;exact⟨z,us,0,r,Qwz _ rfl⟩
end
abbrev Sp:=List V->Hp->VK->XK->Prop
abbrev Nh:=List Env->Hp->Shared->XK->Value->Shared->Prop
structure GX(P:Program)(w:World)(K:PySem.W.Frag)(mg:Str->Option Value)(base:Heap)(A:Around)(outer:List Env)(s:Shared)(H:Hp):Prop where
 frames:A.frames=some outer
 mod:Mod K mg base
 bs:∀b o,base.get? b=some o->s.heap.get? b=some o/\H b=none
 RG:base.objs.size<=s.heap.objs.size
 t7:s.heap.FunFrames base outer
 Wl:∀b∈frs outer,H b=none
 hok:rY P w H s.heap
 bare:AllBare s.gens
def CE(outer:List Env)(P:Program)(w:World)(H:Hp)(s:Shared)(Q:VK)(u:Value)(s':Shared):Prop:=
 ∃v H',s'.os=s.os/\AllBare s'.gens/\Un (frs outer) [] H H' s.heap s'.heap/\rY P w H' s'.heap/\RelV v u/\Q v H'
def CR(CX:Nh)(outer:List Env)(P:Program)(w:World)(H:Hp)(s:Shared)(Q:VK)(E:XK)(r:Result)(s':Shared):Prop:=
 match r with
 | .ok (.ret u)=>CE outer P w H s Q u s'
 | .ok _=>False
 | .error e=>CX outer H s E e s'
structure j4(P:Program)(w:World)(K:PySem.W.Frag)(mg:Str->Option Value)(base:Heap)(CX:Nh)(k:Nat)(f:Addr)(fd:FuncData)(ps:List Str)(sp:Sp):Prop where
 len:∀vs H Q E,sp vs H Q E->vs.length=ps.length
 run:∀(A:Around) (outer:List Env) (s:Shared) (H:Hp) (args:Args) (us:List Value) (vs:List V) (Q:VK) (E:XK),eV k A->GX P w K mg base A outer s H->BindsTo s fd args (ps.zip us)->Vals vs us->sp vs H Q E->
  codeAny (model P w) A (.call (.ref f) args) (CR CX outer P w H s Q E) s
section
variable{X:Cx}{pins:List (Addr×Obj)}{σ:St}{H:Hp}{s s':Shared}
theorem Inv.env0(I:Inv X pins σ H s):GX X.prog X.w X.K X.mg X.base X.A X.stack s H:=
 ⟨I.ok.frames,I.ok.mod,I.bs,Qq6 I.ok.RG I.sz,I.stack,I.JD,I.hok,I.bare⟩
theorem Inv.after{Q:VK}{u:Value}(I:Inv X pins σ H s)(h:CE X.stack X.prog X.w H s Q u s'):EP X pins σ Q u s':=by obtain⟨v,H',os,bare,un,hok,r,q⟩:=h;obtain⟨hh,g,d,t,os'⟩:=s';obtain rfl:os'=s.os:=os;exact⟨v,H',I.call (h':=hh) (g':=g) (d':=d) (t':=t) (ch:=[]) un hok bare (λb z=>absurd z (by simp)),r,q⟩
end
def N8(sp:Sp)(Kz:List V)(E:XK)(t:TA):TE:=λσ H Q=>t σ H λvs H1=>sp (vs++Kz) H1 Q E
def Binds(K:PySem.W.Frag)(fd:FuncData)(ps:List Str)(ds:List Value):Prop:=
 ∀(s:Shared) (us:List Value),K.In s.heap->(us++ds).length=ps.length->BindsTo s fd ⟨us,[]⟩ (ps.zip (us++ds))
theorem Binds.all{K:PySem.W.Frag}{fd:FuncData}{ps:List Str}(h:∀us:List Value,us.length=ps.length->bindArgs fd ⟨us,[]⟩=pure (ps.zip us)):Binds K fd ps []:=λs us _ hl=>by
 rw[Qxv] at hl ⊢;exact .of_eq (h us hl)
def Passes(CX:Nh)(X:Cx)(E:XK):Prop:=∀(pins:List (Addr×Obj)) (σ:St) (H:Hp) (s:Shared) (e:Value) (s':Shared),Inv X pins σ H s->CX X.stack H s E e s'->X.xe e s'
section
variable{X:Cx}{CX:Nh}{k:Nat}{f C:Addr}{fd:FuncData}{ps:List Str}{sp:Sp}{Kz:List V}{ds:List Value}{E:XK}{x m:Str}{p pos apos:Pos}{e o:Expr}{es:List Expr}{ta:TE}{t:TA}
theorem HF{pins:List (Addr×Obj)}{σ:St}{H:Hp}{s:Shared}{Q:VK}{us:List Value}{vs:List V}(F:j4 X.prog X.w X.K X.mg X.base CX k f fd ps sp)(hr:eV k X.A)(hb:Binds X.K fd ps ds)(hd:Vals Kz ds)(hx:Passes CX X E)
  (I:Inv X pins σ H s) (r:Vals vs us) (h:sp (vs++Kz) H Q E):wpAny (model X.prog X.w) X.A (call (.ref f) us) (EP X pins σ Q) X.xe s:=by
 have r2:Vals (vs++Kz) (us++ds):=r.append hd;have hl:(us++ds).length=ps.length:=by rw[<-r2.length];exact F.len _ _ _ _ h
 refine wpAny_call (codeAny_mono (F.run X.A X.stack s H ⟨us,[]⟩ (us++ds) (vs++Kz) Q E hr I.env0 (hb s us I.Mu hl) r2 h) λr s' hq=>?_);cases r with
 | error e=>exact hx pins σ H s e s' I hq
 | ok fl=>
  cases fl with
  | ret u=>exact I.after hq
  | next=>exact False.elim hq
  | brk=>exact False.elim hq
  | cont=>exact False.elim hq
theorem Cy(F:j4 X.prog X.w X.K X.mg X.base CX k f fd ps sp)(hr:eV k X.A)(hg:Gl X x)(hm:X.mg x=some (.ref f))(hk:PySem.W.keepIn X.K (.ref f)=true)(hb:Binds X.K fd ps ds)(hd:Vals Kz ds)(hx:Passes CX X E)
  (ha:PA X (e::es) t) (hdb:lK x:=by decide) (he:starEach (e::es) X.env=(false,eval e X.env)::starEach es X.env:=by rfl) (hpl:(backTo pos (starEach es X.env)).any (·.1)=false:=by rfl) :
  PE X (.Call (.Name x p) (e::es) [] pos) (N8 sp Kz E t):=by
 intro pins s σ H Q I h;refine wpAny_Call_Name_kw (xB I hg hm ?_ hdb);refine PySem.W.callWith_K (h₀:=X.base) I.ok.mod.Ze hk (fc (ha pos pins s σ H _ I h) λus s1 ⟨vs,H1,I1,r,q⟩=>⟨I1.Mu,?_⟩) he hpl;exact HF F hr hb hd hx I1 r q
end
structure bG(N P:List Str)(sc:Scope):Prop where
 kind:sc.kind = .function
 co:sc.isCoroutine=false
 gen:sc.isGenerator=false
 nd:N.Nodup
 pre:N.take P.length=P
 par:∀x∈P,sc.names.lookup x=some .local\/sc.names.lookup x=some .cell
 Y0:∀y∈sc.names,y.2 ≠ .free
theorem Bc{kindOf:Str->Option NameKind}{x:Str}:∀{binds:List (Str×Value)} {m:Str->Option Value},(∀v,(x,v) ∉ binds)->bindL kindOf binds m x=m x
 | [],_,_=>rfl
 | (n,v)::r,m,h=>by
  unfold bindL;rw[Bc λw hw=>h w (Qqq _ hw)];split
  ·have:x≠n:=by rintro rfl;exact h v Qqj
   simp[this]
  ·rfl
theorem Be{kindOf:Str->Option NameKind}{x:Str}:∀{binds:List (Str×Value)} {m:Str->Option Value},(∀v,(x,v) ∉ binds)->bindC kindOf binds m x=m x
 | [],_,_=>rfl
 | (n,v)::r,m,h=>by
  unfold bindC;rw[Be λw hw=>h w (Qqq _ hw)];split
  ·rfl
  ·have:x≠n:=by rintro rfl;exact h v Qqj
   simp[this]
theorem Bd{kindOf:Str->Option NameKind}{x:Str}{v:Value}:∀{P:List Str} {vs:List Value} {i:Nat} {m:Str->Option Value},P.Nodup->P[i]? = some x->vs[i]? = some v->kindOf x=some .local->
  bindL kindOf (P.zip vs) m x=some v
 | [],_,_,_,_,h,_,_=>by simp at h
 | _::_,[],_,_,_,_,h,_=>by simp at h
 | p::P,w::vs,0,m,nd,h1,h2,hk=>by
  simp at h1 h2;subst h1;subst h2;show bindL kindOf ((p,w)::P.zip vs) m p=_;unfold bindL;rw[Bc λv hv=>(Qxz.mp nd).1 (List.of_mem_zip hv).1,if_pos hk];simp
 | p::P,w::vs,i+1,m,nd,h1,h2,hk=>by
  show bindL kindOf ((p,w)::P.zip vs) m x=_;unfold bindL;exact Bd (i:=i) (Qxz.mp nd).2 (by simpa using h1) (by simpa using h2) hk
theorem Bf{kindOf:Str->Option NameKind}{x:Str}{v:Value}:∀{P:List Str} {vs:List Value} {i:Nat} {m:Str->Option Value},P.Nodup->P[i]? = some x->vs[i]? = some v->kindOf x≠some .local->
  bindC kindOf (P.zip vs) m x=some v
 | [],_,_,_,_,h,_,_=>by simp at h
 | _::_,[],_,_,_,_,h,_=>by simp at h
 | p::P,w::vs,0,m,nd,h1,h2,hk=>by
  simp at h1 h2;subst h1;subst h2;show bindC kindOf ((p,w)::P.zip vs) m p=_;unfold bindC;rw[Be λv hv=>(Qxz.mp nd).1 (List.of_mem_zip hv).1,if_neg hk];simp
 | p::P,w::vs,i+1,m,nd,h1,h2,hk=>by
  show bindC kindOf ((p,w)::P.zip vs) m x=_;unfold bindC;exact Bf (i:=i) (Qxz.mp nd).2 (by simpa using h1) (by simpa using h2) hk
def start(N:List Str)(vs:List V):St:=vs.map some++List.replicate (N.length - vs.length) none
def Gz(CX:Nh)(P:Program)(w:World)(K:PySem.W.Frag)(mg:Str->Option Value)(base:Heap)(N:List Str)(qual:Str)(scope:Scope)(f:Addr)(cd:Value)(A:Around)(outer:List Env)(s:Shared)(H:Hp)(E:XK):Cx where
 prog:=P
 w:=w
 K:=K
 mg:=mg
 base:=base
 A:=A.deeper (envOfC qual scope s.heap.objs.size f cd)
 N:=N
 s₀:=s
 H₀:=H
 env:=envOfC qual scope s.heap.objs.size f cd
 outer:=outer
 stack:=envOfC qual scope s.heap.objs.size f cd::outer
 ex:=[]
 calm:=true
 fn:=λ_=>true
 pn:=[]
 xe:=λe s'=>wpAny (model P w) (A.deeper (envOfC qual scope s.heap.objs.size f cd)) (leaving (envOfC qual scope s.heap.objs.size f cd) e) (λ_ s''=>CX outer H s E e s'') (λe' s''=>CX outer H s E e' s'') s'
theorem zb{sc:Scope}{n:Nat}{x:Str}(h:sc.names.lookup x=some .cell):∃c,(cellsFrom n sc.names []).lookup x=some c:=by have q:=PySem.W.cellsFrom_some sc.names n [] (.inl h);exact Qx6.mp q
theorem Mw{CX:Nh}{P:Program}{w:World}{K:PySem.W.Frag}{mg:Str->Option Value}{base:Heap}{N ps:List Str}{qual:Str}{scope:Scope}{f:Addr}{cd:Value}{A:Around}{outer:List Env}{s s1:Shared}{H:Hp}{E:XK}{us:List Value}{vs:List V}
  (S:bG N ps scope) (hd:A.handled=none) (e0:GX P w K mg base A outer s H) (hl:vs.length=ps.length) (r:Vals vs us)
  (x:InCallC s s.heap.objs.size (bindL (envOfC qual scope s.heap.objs.size f cd).kindOf (ps.zip us) λ_=>none) (cellsFrom (s.heap.objs.size+1) scope.names []) (bindC (envOfC qual scope s.heap.objs.size f cd).kindOf (ps.zip us) λ_=>none) s1) :
  Inv (Gz CX P w K mg base N qual scope f cd A outer s H E) [] (start N vs) H s1:=by
 have hpl:ps.length<=N.length:=by have:=Qx5 List.length S.pre;rw[Qx8] at this;omega
 obtain⟨h1,tk,rfl,hk⟩:=x.done;have R0:∀b:Addr,b ∉ (Gz CX P w K mg base N qual scope f cd A outer s H E).ex:=λb z=>absurd (show b∈([]:List Addr) from z) (by simp);refine⟨⟨e0.mod,S.kind,rfl,rfl,Qq0 _,λy z c h1 h2=>?_,λy hy=>?_,λy c _ h=>?_,λ_=>hd,Around.frames_deeper e0.frames,.inr ⟨rfl,rfl⟩,λb z=>absurd z (R0 b),e0.bs,e0.RG,λb _ _=>R0 b,λb z=>absurd z (R0 b),e0.t7,e0.Wl⟩,
  rfl,e0.bare,Un.kept hk,⟨_,x.toInCall.ns,λi y v h1 h2 h3=>?_⟩,λy c h=>⟨_,x.cell y c h⟩,e0.hok.fresh (Qq0 _),λy c h=>?_,λp hp=>absurd (show p∈([]:List (Addr×Obj)) from hp) (by simp),e0.hok.kept hk,?_⟩
 ·exact name_of_addr x.apart (Qjq h1) (Qjq h2)
 ·have hy:scope.names.lookup y=some .cell\/scope.names.lookup y=some .free:=hy;rcases hy with hy|hy
  ·exact zb hy
  ·exact absurd rfl (S.Y0 _ (Qjq hy))
 ·exact Qkj (x.above y c (Qjq h))
 ·have hi:i<vs.length:=by
   unfold start at h2;by_cases hi:i<vs.length
   ·exact hi
   ·rw[Qxk (by simpa using hi)] at h2;rw[Qzz] at h2;split at h2<;>cases h2
  have ha:vs[i]? = some v:=by
   unfold start at h2;rw[Qw1 (by simpa using hi),Qw2] at h2;cases e:vs[i]? with
   | none=>rw[e] at h2;cases h2
   | some a=>rw[e] at h2;cases h2;rfl
  obtain⟨u,hu,rv⟩:=r.get ha;have hp:ps[i]? = some y:=by rw[<-S.pre,Qz0 (by omega)];exact h1
  have ndP:ps.Nodup:=by rw[<-S.pre];exact S.nd.sublist (List.take_sublist _ _)
  refine⟨u,rv,?_⟩;rcases S.par y (Qxw hp) with k|k
  ·exact .inl ⟨k,Bd ndP hp hu k⟩
  ·obtain⟨c,e⟩:=zb (n:=s.heap.objs.size+1) k;refine .inr ⟨.inl k,c,e,?_⟩;have q:=x.cell y c e;rw[Bf ndP hp hu (by show scope.names.lookup y≠_;rw[k];decide)] at q;exact q
 ·exact .inl (e0.hok.fresh (Qkj (x.above y c (Qjq h))))
 ·unfold start;show _=N.length;rw[Qqz,Qqw,Qx3];omega
theorem Wm{CX:Nh}{P:Program}{w:World}{K:PySem.W.Frag}{mg:Str->Option Value}{base:Heap}{k:Nat}{f:Addr}{name qual:Str}{params:Arguments}{body:List Stmt}{scope:Scope}{dV kV doc pm cdv ct oc:Value}{an od:Option Addr}
  {osl:Array (Option Value)} {N ps:List Str} {sp:Sp} (lk:K.lookup f=some ⟨oc,od,.func (PySem.W.fnOf name qual params body scope dV kV doc pm an cdv ct),osl⟩) (hcd:PySem.W.codeIn K cdv qual=true) (S:bG N ps scope)
  (len:∀vs H Q E,sp vs H Q E->vs.length=ps.length)
  (hbody:∀(A:Around) (outer:List Env) (s:Shared) (H:Hp) (vs:List V) (Q:VK) (E:XK),eV k (A.deeper (envOfC qual scope s.heap.objs.size f cdv))->sp vs H Q E->
   ∃t,DK (Gz CX P w K mg base N qual scope f cdv A outer s H E) body t/\t { nx:=λ_ H'=>Q .non H',rt:=Q } (start N vs) H) :
  j4 P w K mg base CX (k+1) f (PySem.W.fnOf name qual params body scope dV kV doc pm an cdv ct) ps sp:=by
 refine⟨len,λA outer s H args us vs Q E hr e0 hb r hsp=>?_⟩;have hl:=len _ _ _ _ hsp;have KX:K.In s.heap:=e0.mod.Ze.keeps λb o e=>(e0.bs b o e).1;have lim:s.heap.NoLimit:=e0.mod.nolimit.keeps λb o e=>(e0.bs b o e).1;have hkind:∀y∈ps.zip us,scope.names.lookup y.1=some .local\/(scope.names.lookup y.1=some .cell/\((cellsFrom (s.heap.objs.size+1) scope.names []).lookup y.1).isSome=true):=λ⟨n,v⟩ hy=>by
  rcases S.par n (List.of_mem_zip hy).1 with q|q
  ·exact .inl q
  ·exact .inr ⟨q,PySem.W.cellsFrom_some _ _ _ (.inl q)⟩
 refine codeAny_call_function hr.depth (KX _ _ lk) rfl S.co S.gen rfl (PySem.W.codeRec_of KX hcd) (hb _ _ _ _ ?_);refine wpAny_newFunctionEnv_cells S.kind hkind λenv he s1 x=>?_;subst he;refine⟨lim.keeps x.toInCall.keep,codeAny_func ?_⟩;obtain⟨t,ht,hq⟩:=hbody A outer s H vs Q E (hr.deeper _) hsp;have I:Inv (Gz CX P w K mg base N qual scope f cdv A outer s H E) [] (start N vs) H s1:=Mw S hr.hd e0 hl r x;refine Qz1 (ht [] s1 (start N vs) H _ I hq) (λfl s' hs=>?_) λe s' hs=>hs;have fin:∀{σ':St} {H':Hp} {v:V} {u:Value},Inv (Gz CX P w K mg base N qual scope f cdv A outer s H E) [] σ' H' s'->RelV v u->Q v H'->CE outer P w H s Q u s':=
  λ{σ' H' v u} J rv q=>⟨v,H',J.os,J.bare,J.base,J.hok,rv,q⟩
 cases fl with
 | ret u=>
  obtain⟨v,σ',H',J,rv,q⟩:=hs;exact fin J rv q
 | next=>
  obtain⟨σ',H',J,q⟩:=hs;exact fin (v:=V.non) (u:=Value.none) J rfl q
 | brk=>
  obtain⟨_,_,_,q⟩:=hs;exact False.elim q
 | cont=>
  obtain⟨_,_,_,q⟩:=hs;exact False.elim q
section
variable{X:Cx}{x:Str}{p pos:Pos}{e:Expr}{es:List Expr}{t:TA}{id T:String}{r:List V->Hp->VK->Prop}
def tCB(r:List V->Hp->VK->Prop)(t:TA):TE:=λσ H Q=>t σ H λvs H1=>r vs H1 Q
theorem Qq(hc:jH X (.builtin id) r)(hg:Gl X x)(hm:X.mg x=none)(hv:bootBuiltins x=some (.builtin id))(ha:PA X (e::es) t)(hn:x ≠ "__name__":=by decide)(hdb:lK x:=by decide)
  (he:starEach (e::es) X.env=(false,eval e X.env)::starEach es X.env:=by rfl) (hpl:(backTo pos (starEach es X.env)).any (·.1)=false:=by rfl):PE X (.Call (.Name x p) (e::es) [] pos) (tCB r t):=by
 intro pins s σ H Q I h;refine wpAny_Call_Name_kw (yz I hg hm hv ?_ hn hdb);exact PyProof.Rows.callWith_builtin1 (fc (ha pos pins s σ H _ I h) λus s1 ⟨vs,H1,I1,r1,q1⟩=>hc pins s1 σ H1 vs us Q I1 r1 q1) he hpl
theorem LK(hc:jH X (.type T) r)(hg:Gl X x)(hm:X.mg x=none)(hv:bootBuiltins x=some (.type T))(ha:PA X (e::es) t)(hn:x ≠ "__name__":=by decide)(hdb:lK x:=by decide)
  (he:starEach (e::es) X.env=(false,eval e X.env)::starEach es X.env:=by rfl) (hpl:(backTo pos (starEach es X.env)).any (·.1)=false:=by rfl):PE X (.Call (.Name x p) (e::es) [] pos) (tCB r t):=by
 intro pins s σ H Q I h;refine wpAny_Call_Name_kw (yz I hg hm hv ?_ hn hdb);exact Qjy (fc (ha pos pins s σ H _ I h) λus s1 ⟨vs,H1,I1,r1,q1⟩=>hc pins s1 σ H1 vs us Q I1 r1 q1) he hpl
end
end L2
namespace HT
open PySem PyProof.Rows
section
variable{prog:Program}{w:World}{A:Around}{E:Value->Shared->Prop}{s:Shared}
theorem Vh{t b:Addr}{vs ws:List Value}{Q:Value->Shared->Prop}(ht:IsTup s.heap t vs.toArray)(hb:IsTup s.heap b ws.toArray)(hv:vs≠[])
  (h1:ws=[]->Q (.ref t) s) (h2:ws≠[]->Q (.ref s.heap.objs.size) { s with heap:=s.heap.push { cls:=.type "tuple",data:=.seq (vs++ws).toArray } })
  (hsz:vs.length+ws.length<=sizeLine):wpAny (model prog w) A (binaryOp .Add (.ref t) (.ref b)) Q E s:=by
 obtain⟨⟨cls,dd,data,sl⟩,ho,hc,n,hd⟩:=id ht;obtain⟨⟨cls2,dd2,data2,sl2⟩,ho2,hc2,n2,hd2⟩:=id hb;simp only at hc hd hc2 hd2;subst hc hd hc2 hd2;have e:vs.toArray++ws.toArray=(vs++ws).toArray:=by simp
 by_cases hw:ws=[]
 ·exact concat_meets ⟨_,ho,rfl⟩ ⟨_,ho2,rfl⟩ noFill_tuple_add seq_tuple_add PySem.F.slot_tuple_add PySem.F.entry_tuple_add (PySem.F.args_tuple_add_2 _ _)
   (tuple_addW1 t b vs.toArray ws.toArray n n2 dd dd2 sl sl2 (by simpa using hv) (by simp[hw])) ⟨ho,ho2,h1 hw⟩
 ·refine concat_meets ⟨_,ho,rfl⟩ ⟨_,ho2,rfl⟩ noFill_tuple_add seq_tuple_add PySem.F.slot_tuple_add PySem.F.entry_tuple_add (PySem.F.args_tuple_add_2 _ _)
   (tuple_addW2 t b vs.toArray ws.toArray n n2 dd dd2 sl sl2 (by simpa using hv) (by simpa using hw) (by rw[Qq5,Qq5];exact hsz)) ⟨ho,ho2,?_⟩
  rw[e];exact h2 hw
def fU(n d:Nat):Option Int->Nat
 | none=>d
 | some v=>if v<0 then (v+(n:Int)).toNat else min v.toNat n
theorem Cg(n d:Nat)(hd:d<=n)(o:Option Int):fU n d o<=n:=by
 cases o with
 | none=>exact hd
 | some v=>
  show(if v<0 then (v+(n:Int)).toNat else min v.toNat n)<=n;by_cases hv:v<0
  ·rw[if_pos hv];omega
  ·rw[if_neg hv];exact Nat.min_le_right _ _
theorem KC(v:Int)(n d:Nat):(if v<0 then max (v+(n:Int)) 0 else min v (n:Int))=((fU n d (some v):Nat):Int):=by
 show(if v<0 then max (v+(n:Int)) 0 else min v (n:Int))=(((if v<0 then (v+(n:Int)).toNat else min v.toNat n):Nat):Int);by_cases hv:v<0
 ·simp only[if_pos hv];omega
 ·simp only[if_neg hv];omega
theorem Jo(lo hi:Option Int)(n:Nat):Builtin.Slice.sliceAdjust lo hi 1 (n:Int)=(((fU n 0 lo:Nat):Int),((fU n n hi:Nat):Int)):=by
 have h1:¬((1:Int)<0):=by omega
 unfold Builtin.Slice.sliceAdjust;simp only[h1,if_false];refine Prod.ext ?_ ?_
 ·cases lo with
  | none=>rfl
  | some v=>exact KC v n 0
 ·cases hi with
  | none=>rfl
  | some v=>exact KC v n n
theorem HY(i j:Nat):Builtin.Slice.slicePlaces (i:Int) (j:Int) 1=j - i:=by
 unfold Builtin.Slice.slicePlaces;have h1:(1:Int) > 0:=by omega
 simp only[h1,if_true,Int.ediv_one];split<;>omega
theorem xT{v:Value}{o:Option Int}{Q:Option Int->Shared->Prop}(p:IsPart v o)(h:Q o s):wpAny (model prog w) A (Builtin.Slice.slicePartIndex v) Q E s:=by
 cases p with
 | none=>exact slicePart_none h
 | int i t=>exact slicePart_int h
theorem nu{sl:Addr}{vl vu:Value}{lo hi:Option Int}{n:Nat}{Q:Int×Int×Nat->Shared->Prop}(hs:s.heap.IsSliceOf sl vl vu .none)(pl:IsPart vl lo)(pu:IsPart vu hi)
  (h:Q (((fU n 0 lo:Nat):Int),1,fU n n hi - fU n 0 lo) s):wpAny (model prog w) A (Builtin.Slice.sliceApplied (.ref sl) (pure (n:Int))) Q E s:=by
 obtain⟨os,hos,hcs,hds⟩:=id hs;unfold Builtin.Slice.sliceApplied Builtin.Slice.sliceFields;refine Qqx (Qqx (Qz7 hos hds (x:=vl) rfl (Qqx (Qz7 hos hds (x:=vu) rfl (Qqx (Qz7 hos hds (x:=.none) rfl (Qq4 ?_)))))));refine Qqx (slicePart_none ?_);show wpAny _ _ (if ((1:Int) == 0)=true then _ else _) _ _ s;rw[if_neg (by decide)];refine Qqx (xT pl (Qqx (xT pu (Qqx (Qq4 ?_)))));show wpAny _ _ (match Builtin.Slice.sliceAdjust lo hi 1 (n:Int) with|(lo,hi)=>pure (lo,(1:Int),Builtin.Slice.slicePlaces lo hi 1)) _ _ s;rw[Jo lo hi n];show wpAny _ _ (pure (((fU n 0 lo:Nat):Int),(1:Int),Builtin.Slice.slicePlaces ((fU n 0 lo:Nat):Int) ((fU n n hi:Nat):Int) 1)) _ _ s;rw[HY];exact Qq4 h
theorem Qi(xs:Array Value)(i k:Nat):((List.range k).filterMap λ(m:Nat)=>xs[((i:Int)+(m:Int)*1).toNat]?).toArray=((xs.toList.drop i).take k).toArray:=by
 have e:(λ(m:Nat)=>xs[((i:Int)+(m:Int)*1).toNat]?)=λm=>xs[i+m]?:=by
  funext m
  have:((i:Int)+(m:Int)*1).toNat=i+m:=by omega
  rw[this]
 rw[e];have:=pick_run xs i k;rw[List.filterMap_map] at this;have e2:((λx=>xs[x]?) ∘ λx=>i+x)=λm=>xs[i+m]?:=rfl;rw[e2] at this;rw[this]
theorem tZ{t sl:Addr}{items:Array Value}{vl vu:Value}{lo hi:Option Int}{Q:Value->Shared->Prop}(ht:IsTup s.heap t items)(hs:s.heap.IsSliceOf sl vl vu .none)(pl:IsPart vl lo)(pu:IsPart vu hi)
  (hw:¬(fU items.size 0 lo=0/\fU items.size items.size hi=items.size))
  (h:Q (.ref s.heap.objs.size) { s with heap:=s.heap.push { cls:=.type "tuple",data:=.seq ((items.toList.drop (fU items.size 0 lo)).take (fU items.size items.size hi - fU items.size 0 lo)).toArray } })
  (hsz:items.size<=sizeLine):wpAny (model prog w) A (getItem (.ref t) (.ref sl)) Q E s:=by
 have Kg:sizeOk (.seq ((items.toList.drop (fU items.size 0 lo)).take (fU items.size items.size hi - fU items.size 0 lo)).toArray):=by show((items.toList.drop (fU items.size 0 lo)).take (fU items.size items.size hi - fU items.size 0 lo)).toArray.size<=sizeLine;rw[Qq5,Qx8,Qzj,Qj9];omega
 have hj:fU items.size items.size hi<=items.size:=Cg _ _ (Qq0 _) hi;obtain⟨os,hos,hcs,hds⟩:=id hs;have hTs:s.TypeIs (.ref sl) "slice":=⟨os,hos,hcs⟩;unfold getItem
 try with_reducible refine Qz4 ?_
 first|refine Qqx (Qq4 ?_)|skip
 refine Qqx (wpAny_sequenceKey ht.typeIs (by decide) ?_);refine Qqx (Qz5 (name:=Str.ofString "__getitem__") ht.typeIs Qz9
  (Qz8 Qz9 ht.typeIs entry_tuple_getitem ?_ (args_tuple_getitem _ _)))
 show wpAny _ _ (Builtin.Tuple.tupleItemsOf (.ref t) >>= _) _ _ s;refine Qqx (tupleItemsOf_ ht ?_);refine Qqx (wpAny_typeOf hTs ?_);rw[if_pos (by decide)];refine Qqx (nu hs pl pu ?_);have hno:¬((((fU items.size 0 lo:Nat):Int) == 0&&(1:Int) == 1&&(fU items.size items.size hi - fU items.size 0 lo) == items.size)=true):=by intro q;rw[Qx9,Qx9] at q;have q1:((fU items.size 0 lo:Nat):Int)=0:=eq_of_beq q.1.1;have q2:fU items.size items.size hi - fU items.size 0 lo=items.size:=eq_of_beq q.2;exact hw ⟨by omega,by omega⟩
 show wpAny _ _ (if (((fU items.size 0 lo:Nat):Int) == 0&&(1:Int) == 1&&(fU items.size items.size hi - fU items.size 0 lo) == items.size)=true then _ else _) _ _ s;rw[if_neg hno,Qi]
 first
  | exact Qqx (m:=Builtin.Tuple.tupleExact _) (Qjv (Qq4 ⟨_,rfl,Qq4 h⟩) Kg)
  | exact Qqx (m:=Builtin.Tuple.tupleExact _) (Qjv (Qqx (Qq4 (Qq4 ⟨_,rfl,Qq4 h⟩))) Kg)
  | exact Qqx (Qqx (m:=Builtin.Tuple.tupleExact _) (Qjv (Qq4 (Qq4 ⟨_,rfl,Qq4 h⟩)) Kg))
  | exact Qqx (Qqx (m:=Builtin.Tuple.tupleExact _) (Qjv (Qq4 ⟨_,rfl,Qq4 h⟩) Kg))
end
end HT
namespace L2
open PySem PySem.Spec PyProof.Rows
abbrev TO:=St->Hp->(Option Int->Hp->Prop)->Prop
def PO(X:Cx)(e:Option Expr)(t:TO):Prop:=
 ∀(pins:List (Addr×Obj)) (s:Shared) (σ:St) (H:Hp) (Q:Option Int->Hp->Prop),Inv X pins σ H s->t σ H Q->
  wpAny (model X.prog X.w) X.A (evalPart e X.env) (λu s'=>∃o H',Inv X pins σ H' s'/\IsPart u o/\Q o H') X.xe s
def SN:TO:=λ_ H Q=>Q none H
def aaU(t:TE):TO:=λσ H Q=>t σ H λx H1=>∃i,x = .int i/\Q (some i) H1
section
variable{X:Cx}{e:Expr}{te:TE}{lo hi:Option Expr}{tl th:TO}{pos p2:Pos}
theorem T5:PO X none SN:=by intro pins s σ H Q I h;rw[evalPart_none];exact Qq4 ⟨none,H,I,.none,h⟩
theorem T4(h:PE X e te):PO X (some e) (aaU te):=by intro pins s σ H Q I hw;rw[evalPart_some];refine fc (h pins s σ H _ I hw) λu s1 ⟨x,H1,I1,r1,q1⟩=>?_;obtain⟨i,rfl,q⟩:=q1;obtain⟨t,rfl⟩:=r1;exact⟨some i,H1,I1,.int i t,q⟩
def KR(X:Cx)(r:V->Option Int->Option Int->Hp->VK->Prop):Prop:=
 ∀(pins:List (Addr×Obj)) (s:Shared) (σ:St) (H:Hp) (x:V) (v vl vu:Value) (lo hi:Option Int) (sl:Addr) (Q:VK),Inv X pins σ H s->RelV x v->s.heap.IsSliceOf sl vl vu .none->IsPart vl lo->IsPart vu hi->r x lo hi H Q->
  ∃T id,typeLookup (.type T) "__getitem__" = pure (some (.builtin id))/\s.TypeIs v T/\wpAny (model X.prog X.w) X.A (getItem v (.ref sl)) (EP X pins σ Q) X.xe s
theorem KR.or{r r':V->Option Int->Option Int->Hp->VK->Prop}(h:KR X r)(h':KR X r'):KR X (λx lo hi H Q=>r x lo hi H Q\/r' x lo hi H Q):=by
 intro pins s σ H x v vl vu lo hi sl Q I rx hs pl pu q;rcases q with q|q
 ·exact h pins s σ H x v vl vu lo hi sl Q I rx hs pl pu q
 ·exact h' pins s σ H x v vl vu lo hi sl Q I rx hs pl pu q
def tSl(r:V->Option Int->Option Int->Hp->VK->Prop)(te:TE)(tl th:TO):TE:=λσ H Q=>te σ H λx H1=>tl σ H1 λl H2=>th σ H2 λu H3=>r x l u H3 Q
theorem Fv{r:V->Option Int->Option Int->Hp->VK->Prop}(hr:KR X r)(he:PE X e te)(hl:PO X lo tl)(hu:PO X hi th):PE X (.Subscript e (.Slice lo hi none p2) pos) (tSl r te tl th):=by intro pins s σ H Q I h;refine Subscript_ (fc (he pins s σ H _ I h) λv s1 ⟨x,H1,I1,r1,q1⟩=>?_);refine wpAny_Slice (fc (hl pins s1 σ H1 _ I1 q1) λvl s2 ⟨l,H2,I2,pl,q2⟩=>fc (hu pins s2 σ H2 _ I2 q2) λvu s3 ⟨u,H3,I3,pu,q3⟩=>?_);rw[evalPart_none];refine Qq4 ?_;have I4:Inv X pins σ H3 { s3 with heap:=s3.heap.push { cls:=.type "slice",data:=.fields #[vl,vu,.none] } }:=I3.kept (t':=s3.toks) λb ob q=>Qqk _ q;obtain⟨T,id,hT,ht,hg⟩:=hr pins { s3 with heap:=s3.heap.push { cls:=.type "slice",data:=.fields #[vl,vu,.none] } } σ H3 x v vl vu l u s3.heap.objs.size Q I4 r1 (Heap.IsSliceOf.new ..) pl pu q3;show wpAny (model X.prog X.w) X.A (subscriptTail e (.Slice lo hi none p2) v (.ref s3.heap.objs.size)) (EP X pins σ Q) X.xe { s3 with heap:=s3.heap.push { cls:=.type "slice",data:=.fields #[vl,vu,.none] } };exact tail_any (ops:=[.ref s3.heap.objs.size,v]) ht hT hg (by with_unfolding_all rfl)
def xj(xs:List V)(lo hi:Option Int):List V:=(xs.drop (HT.fU xs.length 0 lo)).take (HT.fU xs.length xs.length hi - HT.fU xs.length 0 lo)
theorem wB(xs:List V)(lo hi:Option Int):(xj xs lo hi).length<=xs.length:=by unfold xj;rw[Qx8,Qzj];omega
def Xv(K:PySem.W.Frag):V->Option Int->Option Int->Hp->VK->Prop:=λx lo hi H Q=>∃a xs,x = .ref a/\kI K H a xs/\
 ¬(HT.fU xs.length 0 lo=0/\HT.fU xs.length xs.length hi=xs.length)/\∀p,H p=none->Q (.ref p) (upd H p (.tup (xj xs lo hi)))
theorem Hx:KR X (Xv X.K):=by
 intro pins s σ H x v vl vu lo hi sl Q I rx hs pl pu h;obtain⟨a,xs,rfl,hx,hw,q⟩:=h;cases rx;obtain⟨its,r,ht,hz⟩:=I.tuple hx;have hlen:its.toArray.size=xs.length:=by rw[Qq5];exact r.length.symm
 refine⟨"tuple",_,PyProof.Rows.slot_tuple_getitem.lookup,ht.typeIs,?_⟩;refine HT.tZ ht hs pl pu (by rw[hlen];exact hw) ?_ (by rw[hlen];exact hz);rw[hlen];refine⟨.ref s.heap.objs.size,_,I.laid (t':=s.toks) (o:=.tup (xj xs lo hi)) (λb ob q=>Qqk _ q) (Qq0 _) ?_,rfl,q _ (I.hok.fresh (Qq0 _))⟩;exact⟨Qq6 (wB xs lo hi) hz,_,(r.drop (HT.fU xs.length 0 lo)).take (HT.fU xs.length xs.length hi - HT.fU xs.length 0 lo),zY.new _ _⟩
def VN(K:PySem.W.Frag):R2:=λx y H Q=>∃a b xs ys,x = .ref a/\y = .ref b/\kI K H a xs/\kI K H b ys/\xs≠[]/\xs.length+ys.length<=sizeLine/\
 (ys=[]->Q (.ref a) H)/\(ys≠[]->∀p,H p=none->Q (.ref p) (upd H p (.tup (xs++ys))))
theorem Vals.Cz{xs:List V}{us:List Value}(r:Vals xs us):us=[]↔xs=[]:=by
 cases r with
 | nil=>simp
 | cons _ _=>simp
theorem Ul:m9 X (binaryOp .Add) (VN X.K):=by intro pins s σ H x y v u Q I rx ry h;obtain⟨a,b,xs,ys,rfl,rfl,ha,hb,hx,hz,q1,q2⟩:=h;cases rx;cases ry;obtain⟨its,r1,p1,_⟩:=I.tuple ha;obtain⟨its2,r2,p2,_⟩:=I.tuple hb;refine HT.Vh p1 p2 (λz=>hx (r1.Cz.mp z)) (λz=>⟨.ref a,H,I,rfl,q1 (r2.Cz.mp z)⟩) (λz=>?_) (by rw[<-r1.length,<-r2.length];exact hz);refine⟨.ref s.heap.objs.size,_,I.laid (t':=s.toks) (o:=.tup (xs++ys)) (λb ob q=>Qqk _ q) (Qq0 _) ?_,rfl,q2 (λw=>z (r2.Cz.mpr w)) _ (I.hok.fresh (Qq0 _))⟩;exact⟨by rw[Qqz];exact hz,_,r1.append r2,zY.new _ _⟩
end
def Wf(n:Nat)(i:Int):Option Nat:=if 0<=i then (if i<n then some i.toNat else none) else if -(n:Int)<=i then some (i+n).toNat else none
def wF{α:Type}(xs:List α)(i:Int):Option α:=(Wf xs.length i).bind λj=>xs[j]?
theorem Kd{n:Nat}{i:Int}{j:Nat}(h:Wf n i=some j):seqIndex? i n=some j/\j<n/\-(n:Int)<=i/\i<n:=by
 unfold Wf at h;by_cases h0:0<=i
 ·rw[if_pos h0] at h;by_cases h1:i<n
  ·rw[if_pos h1] at h;have e:i.toNat=j:=Qw0 h;exact⟨by rw[seqIndex_of h0 h1,e],by omega,by omega,h1⟩
  ·rw[if_neg h1] at h;cases h
 ·rw[if_neg h0] at h;by_cases h1 : -(n:Int)<=i
  ·rw[if_pos h1] at h;have e:(i+n).toNat=j:=Qw0 h;exact⟨by rw[seqIndex_neg (by omega) h1,e],by omega,h1,by omega⟩
  ·rw[if_neg h1] at h;cases h
theorem Dw{α:Type}{xs:List α}{i:Int}{v:α}(h:wF xs i=some v):∃j,seqIndex? i xs.length=some j/\xs[j]? = some v/\j<xs.length/\-(xs.length:Int)<=i/\i<xs.length:=by
 unfold wF at h;cases e:Wf xs.length i with
 | none=>rw[e] at h;cases h
 | some j=>
  rw[e] at h;obtain⟨h1,h2,h3,h4⟩:=Kd e;exact⟨j,h1,h,h2,h3,h4⟩
theorem kY{α:Type}{xs:List α}{j:Nat}{v:α}(h:xs[j]? = some v):wF xs (j:Int)=some v:=by
 have hj:j<xs.length:=(Qqv.mp h).1;have e:Wf xs.length (j:Int)=some j:=by unfold Wf;rw[if_pos (by omega),if_pos (by omega)];simp
 unfold wF;rw[e];exact h
def uA(b:Expr):Prop:=∀o i,subscripted b false o i=operate [o,i] (getItem o i)
def Vv(X:Cx)(r:R2):Prop:=
 ∀(value slice:Expr) (pins:List (Addr×Obj)) (s:Shared) (σ:St) (H:Hp) (x y:V) (v u:Value) (Q:VK),Inv X pins σ H s->RelV x v->RelV y u->r x y H Q->
  subscripted slice false v u=operate [v,u] (getItem v u)->wpAny (model X.prog X.w) X.A (subscriptTail value slice v u) (EP X pins σ Q) X.xe s
def MtR(X:Cx)(id:String)(r:V->List V->Hp->VK->Prop):Prop:=
 ∀(pins:List (Addr×Obj)) (s:Shared) (σ:St) (H:Hp) (x:V) (xs:List V) (v:Value) (us:List Value) (Q:VK),Inv X pins σ H s->RelV x v->Vals xs us->r x xs H Q->
  wpAny (model X.prog X.w) X.A (call (.builtin id) (v::us)) (EP X pins σ Q) X.xe s
section
variable{X:Cx}{a b:Expr}{ta tb:TE}{pos:Pos}
theorem Vv.or{r r':R2}(h:Vv X r)(h':Vv X r'):Vv X (λx y H Q=>r x y H Q\/r' x y H Q):=by
 intro value slice pins s σ H x y v u Q I rx ry q hs;rcases q with q|q
 ·exact h value slice pins s σ H x y v u Q I rx ry q hs
 ·exact h' value slice pins s σ H x y v u Q I rx ry q hs
theorem V3{r:R2}(hr:Vv X r)(ha:PE X a ta)(hb:PE X b tb)(hs:uA b):PE X (.Subscript a b pos) (Xe r ta tb):=by intro pins s σ H Q I h;exact Subscript_ (aab ha hb I h λv u s2 x y H2 I2 rx ry q=>hr a b pins s2 σ H2 x y v u Q I2 rx ry q (hs _ _))
def abg(K:PySem.W.Frag):R2:=λx y H Q=>∃p xs i v,x = .ref p/\y = .int i/\m8 K H p xs/\wF xs i=some v/\Q v H
def abe(K:PySem.W.Frag):R2:=λx y H Q=>∃p xs i v,x = .ref p/\y = .int i/\kI K H p xs/\wF xs i=some v/\Q v H
def abf:R2:=λx y H Q=>∃z i c,x = .str z/\y = .int i/\z.length<=sizeLine/\wF z.cps.toList i=some c/\Q (.str ⟨#[c]⟩) H
theorem Uy:Vv X (abg X.K):=by
 intro value slice pins s σ H x y v u Q I rx ry h hs;obtain⟨p,xs,i,z,rfl,rfl,hq,he,q⟩:=h;cases rx;obtain⟨t,rfl⟩:=ry;obtain⟨its,r,pl,hz⟩:=I.list hq;obtain⟨j,h1,h2,h3,h4,h5⟩:=Dw he;obtain⟨w,ew,Ov⟩:=r.get h2;have hl:=r.length;have hn:=yx;have fin:EP X pins σ Q w s:=⟨z,H,I,Ov,q⟩;by_cases h0:0<=i
 ·have hj:i.toNat=j:=by
   rw[seqIndex_of h0 h5] at h1;exact Qw0 h1
  exact item_listR pl.isList h0 (by omega) (by rw[hj];simpa using ew) fin hs
 ·have hj:(i+(its.toArray.size:Int)).toNat=j:=by
   rw[seqIndex_neg (by omega) h4] at h1;rw[Qq5,<-hl];exact Qw0 h1
  exact subscriptTail_builtinR (x:=w) pl.isList.typeIs slot_list_getitem.lookup
   (wpAny_getItem_list_neg (Q:=λr s'=>r=w/\EP X pins σ Q r s') pl.isList (by omega) (by rw[Qq5]<;>omega) (by omega) (by rw[hj];simpa using ew) ⟨rfl,fin⟩) hs
theorem Zq:Vv X (abe X.K):=by
 intro value slice pins s σ H x y v u Q I rx ry h hs;obtain⟨p,xs,i,z,rfl,rfl,hq,he,q⟩:=h;cases rx;obtain⟨t,rfl⟩:=ry;obtain⟨its,r,pl,hz⟩:=I.tuple hq;obtain⟨j,h1,h2,h3,h4,h5⟩:=Dw he;obtain⟨w,ew,Ov⟩:=r.get h2;have hl:=r.length;have hn:=yx;have fin:EP X pins σ Q w s:=⟨z,H,I,Ov,q⟩;exact subscriptTail_builtinR (x:=w) pl.typeIs slot_tuple_getitem.lookup
  (getItem_tuple (j:=j) (Q:=λr s'=>r=w/\EP X pins σ Q r s') pl (by omega) (by omega) (by rw[Qq5,<-hl];exact h1) (by simpa using ew) ⟨rfl,fin⟩) hs
theorem Zr:Vv X abf:=by
 intro value slice pins s σ H x y v u Q I rx ry h hs;obtain⟨z,i,c,rfl,rfl,hz,he,q⟩:=h;obtain⟨t,rfl⟩:=rx;obtain⟨t',rfl⟩:=ry;obtain⟨j,h1,h2,h3,h4,h5⟩:=Dw he;have hl:z.cps.toList.length=z.length:=by simp[Str.length]
 rw[hl] at h1 h4 h5;have hn:=yx;exact tail_any (typeIs_str s z t) slot_str_getitem.lookup (getItem_str (c:=c) (by
  have e1:decide (i < -(2^63:Int))=false:=Qw3 (by omega);have e2:decide (i ≥ 2^63)=false:=Qw3 (by omega);rw[e1,e2,Bool.or_false]) (by rw[h1];simpa using h2) ⟨.str ⟨#[c]⟩,H,I.tok _,⟨_,rfl⟩,q⟩) hs
def rIx(K:PySem.W.Frag):R2:=λx y H Q=>abg K x y H Q\/abe K x y H Q\/abf x y H Q
theorem Q5:Vv X (rIx X.K):=Uy.or (Zq.or Zr)
theorem Ij(its:List Value)(n j:Nat)(u:Value):Obj.mapSeq (·.setIfInBounds j u) { cls:=.type "list",data:=.seq its.toArray n } = { cls:=.type "list",data:=.seq (its.set j u).toArray n }:=by simp[Obj.mapSeq]
theorem Inv.lst{pins:List (Addr×Obj)}{σ:St}{H:Hp}{s:Shared}{p:Addr}{xs:List V}(I:Inv X pins σ H s)(h:H p=some (.lst xs)) :
  ∃(its:List Value) (n:Nat),Vals xs its/\s.heap.get? p=some { cls:=.type "list",data:=.seq its.toArray n }/\xs.length<=sizeLine:=by
 obtain⟨z,its,n,r,e⟩:=I.hok p _ h;exact⟨its,n,r,e,z⟩
theorem Inv.Y8{pins:List (Addr×Obj)}{σ:St}{H:Hp}{s:Shared}{p:Addr}{xs ys:List V}{its its':List Value}{n n':Nat}{f:Obj->Obj}(I:Inv X pins σ H s)(h:H p=some (.lst xs))
  (ho:s.heap.get? p=some { cls:=.type "list",data:=.seq its.toArray n }) (hf:f { cls:=.type "list",data:=.seq its.toArray n } = { cls:=.type "list",data:=.seq its'.toArray n' }) (r:Vals ys its') (hz:ys.length<=sizeLine) (t:Nat) :
  Inv X pins σ (upd H p (.lst ys)) { s with heap:=s.heap.update p f,toks:=t }:=by
 have e:(s.heap.update p f).get? p=some { cls:=.type "list",data:=.seq its'.toArray n' }:=by rw[Heap.get?_update_self f ho (by rw[hf]<;>rfl),hf]
 refine I.write (x:=p) (e:=p) (by rw[h];trivial) (.inl rfl) (λb u hb q=>(Heap.get?_update_other _ _ (Ne.symm hb)).trans q) ⟨_,e⟩ ?_;exact⟨hz,its',n',r,e⟩
def aa9:V->V->V->Hp->(Hp->Prop)->Prop:=λo i v H Q=>∃p xs k j,o = .ref p/\i = .int k/\H p=some (.lst xs)/\Wf xs.length k=some j/\Q (upd H p (.lst (xs.set j v)))
theorem set_list:acC X aa9:=by
 intro pins s σ H o i v ov iv u Q I ro ri rv h;obtain⟨p,xs,k,j,rfl,rfl,hp,hj,q⟩:=h;cases ro;obtain⟨t,rfl⟩:=ri;obtain⟨its,n,r,ho,hz⟩:=I.lst hp;obtain⟨h1,h2,h3,h4⟩:=Kd hj;have hl:=r.length;have hn:=yx;have I':Inv X pins σ (upd H p (.lst (xs.set j v))) { s with heap:=s.heap.update p (Obj.mapSeq (·.setIfInBounds j u)) }:=
  I.Y8 hp ho (Ij its n j u) (r.set rv j) (by rw[Qxy];exact hz) s.toks
 by_cases h0:0<=k
 ·have hk:k.toNat=j:=by
   rw[seqIndex_of h0 h4] at h1;exact Qw0 h1
  exact PySem.W.ki_setAt ho h0 (by omega) (by rw[Qq5,<-hl];exact h4) (by rw[hk];exact⟨_,I',q⟩)
 ·have hk:(k+(its.toArray.size:Int)).toNat=j:=by
   rw[seqIndex_neg (by omega) h3] at h1;rw[Qq5,<-hl];exact Qw0 h1
  exact PySem.W.ki_setBack ho (by omega) (by rw[Qq5,<-hl];exact h3) (by omega) (by rw[hk];exact⟨_,I',q⟩)
theorem By(lo hi:Option Int)(n:Nat):(sliceBounds lo hi none n).1=((HT.fU n 0 lo:Nat):Int)/\(sliceBounds lo hi none n).2.1=((HT.fU n n hi:Nat):Int)/\(sliceBounds lo hi none n).2.2=1:=by
 refine⟨?_,?_,rfl⟩
 ·cases lo with
  | none=>simp[sliceBounds,HT.fU]
  | some i=>
   simp only[sliceBounds,HT.fU,Option.getD_none,show(1:Int) > 0 by decide,if_true];by_cases h:i<0
   ·simp only[h,if_true]<;>omega
   ·simp only[h,if_false]<;>omega
 ·cases hi with
  | none=>simp[sliceBounds,HT.fU]
  | some i=>
   simp only[sliceBounds,HT.fU,Option.getD_none,show(1:Int) > 0 by decide,if_true];by_cases h:i<0
   ·simp only[h,if_true]<;>omega
   ·simp only[h,if_false]<;>omega
theorem zH(its:List Value)(lo hi:Option Int):slicePick its.toArray lo hi none=((its.drop (HT.fU its.length 0 lo)).take (HT.fU its.length its.length hi - HT.fU its.length 0 lo)).toArray:=by obtain⟨h1,h2,h3⟩:=By lo hi its.toArray.size;unfold slicePick;rw[h1,h2,h3];simp only[sliceRange_one,pick_run,Qq5]<;>rfl
def aa8(K:PySem.W.Frag):V->Option Int->Option Int->Hp->VK->Prop:=λx lo hi H Q=>∃a xs,x = .ref a/\m8 K H a xs/\∀p,H p=none->Q (.ref p) (upd H p (.lst (xj xs lo hi)))
theorem JH:KR X (aa8 X.K):=by intro pins s σ H x v vl vu lo hi sl Q I rx hs pl pu h;obtain⟨a,xs,rfl,hx,q⟩:=h;cases rx;obtain⟨its,r,ht,hz⟩:=I.list hx;have hlen:=r.length;refine⟨"list",_,slot_list_getitem.lookup,ht.isList.typeIs,?_⟩;refine wpAny_getItem_list_slice ht.isList hs pl pu .none (by simp) ?_ (by rw[Qq5]<;>omega);rw[zH,<-hlen];refine⟨.ref s.heap.objs.size,_,I.laid (t':=s.toks) (o:=.lst (xj xs lo hi)) (λb ob q=>Qqk _ q) (Qq0 _) ?_,rfl,q _ (I.hok.fresh (Qq0 _))⟩;exact⟨Qq6 (wB xs lo hi) hz,_,0,(r.drop (HT.fU xs.length 0 lo)).take (HT.fU xs.length xs.length hi - HT.fU xs.length 0 lo),Qwz _ rfl⟩
theorem jH.or{f:Value}{r r':List V->Hp->VK->Prop}(h:jH X f r)(h':jH X f r'):jH X f (λxs H Q=>r xs H Q\/r' xs H Q):=by
 intro pins s σ H xs us Q I rs q;rcases q with q|q
 ·exact h pins s σ H xs us Q I rs q
 ·exact h' pins s σ H xs us Q I rs q
theorem Dq:jH X (.type "list") (λxs H Q=>∃p ys,xs=[.ref p]/\(m8 X.K H p ys\/kI X.K H p ys)/\∀l,H l=none->Q (.ref l) (upd H l (.lst ys))):=by
 intro pins s σ H xs us Q I r h;obtain⟨p,ys,rfl,hq,q⟩:=h;obtain⟨u,rfl,rx⟩:=vals1 r;cases rx;have fin:∀(its:List Value),Vals ys its->ys.length<=sizeLine->∀(h':Heap) (c':Nat),(∀b o',s.heap.get? b=some o'->h'.get? b=some o')->
   h'.get? s.heap.objs.size=some { cls:=.type "list",dict:=none,data:=.seq its.toArray c',slots:=#[] }->EP X pins σ Q (.ref s.heap.objs.size) { s with heap:=h' }:=λits r' hz h' c' kp e=>
  ⟨.ref s.heap.objs.size,_,I.laid (t':=s.toks) kp (Qq0 _) (show gB X.prog X.w _ h' _ (.lst ys) from⟨hz,its,c',r',e⟩),rfl,q _ (I.hok.fresh (Qq0 _))⟩
 rcases hq with hq|hq
 ·obtain⟨its,r',pl,hz⟩:=I.list hq;have hlen:=r'.length;obtain⟨o,ho,hc,n,hd⟩:=pl.isList;exact call_list_seq p (.inl rfl) ho hc hd (λh' c' kp e=>fin its r' hz h' c' kp e) (by simp only[Qq5]<;>omega)
 ·obtain⟨its,r',pl,hz⟩:=I.tuple hq;have hlen:=r'.length;obtain⟨o,ho,hc,n,hd⟩:=pl;exact call_list_seq p (.inr rfl) ho hc hd (λh' c' kp e=>fin its r' hz h' c' kp e) (by simp only[Qq5]<;>omega)
theorem zW:jH X (.type "tuple") (λxs H Q=>∃p ys,xs=[.ref p]/\((m8 X.K H p ys/\∀l,H l=none->Q (.ref l) (upd H l (.tup ys)))\/(kI X.K H p ys/\Q (.ref p) H))):=by
 intro pins s σ H xs us Q I r h;obtain⟨p,ys,rfl,h⟩:=h;obtain⟨u,rfl,rx⟩:=vals1 r;cases rx;rcases h with ⟨hq,q⟩|⟨hq,q⟩
 ·obtain⟨its,r',pl,hz⟩:=I.list hq;have hlen:=r'.length;refine call_tuple_list pl.isList (λh' kp=>?_) (by simp only[Qq5]<;>omega);have I1:Inv X pins σ H { s with heap:=h' }:=I.kept (t':=s.toks) kp;have I2:Inv X pins σ (upd H h'.objs.size (.tup ys)) { s with heap:=h'.push { cls:=.type "tuple",data:=.seq its.toArray } }:=
   I1.laid (t':=s.toks) (λb o e=>Qqk _ e) (Qq0 _) (show gB X.prog X.w _ _ _ (.tup ys) from⟨hz,its,r',zY.new _ _⟩)
  exact⟨.ref h'.objs.size,_,I2,rfl,q _ (I1.hok.fresh (Qq0 _))⟩
 ·obtain⟨its,r',pl,hz⟩:=I.tuple hq;exact call_tuple_same pl ⟨.ref p,H,I,rfl,q⟩
def tyV(K:PySem.W.Frag)(T:String)(x:V)(H:Hp):Prop:=match x with
 | .str _=>T = "str"
 | .int _=>T = "int"
 | .ref p=>(T = "list"/\∃xs,m8 K H p xs)\/(T = "tuple"/\∃o,K.lookup p=some o/\o.cls = .type "tuple"/\o.dict=none)\/
   (T = "dict"/\((∃kvs,H p=some (.dK kvs))\/∃kvs,H p=some (.dT kvs)))\/(T = "set"/\∃S n,H p=some (.set S n))
 | _=>False
theorem W8{pins:List (Addr×Obj)}{σ:St}{H:Hp}{s:Shared}{T:String}{x:V}{v:Value}(I:Inv X pins σ H s)(r:RelV x v)(ty:tyV X.K T x H) :
  s.TypeIs v T/\∀a,v = .ref a->∃ob,s.heap.get? a=some ob/\ob.dict=none:=by
 cases x with
 | str z=>
  obtain⟨t,rfl⟩:=r;cases(show T = "str" from ty);exact⟨typeIs_str s z t,λ_ e=>nomatch e⟩
 | int i=>
  obtain⟨t,rfl⟩:=r;cases(show T = "int" from ty);exact⟨typeIs_int s i t,λ_ e=>nomatch e⟩
 | ref p=>
  cases r;rcases ty with ⟨rfl,xs,hq⟩|⟨rfl,o,hk,hc,hd⟩|⟨rfl,hk⟩|⟨rfl,S,n,hk⟩
  ·obtain⟨its,_,pl,_⟩:=I.list hq;refine⟨pl.isList.typeIs,λa e=>?_⟩;cases e;obtain⟨o,n,e,c,hd,_⟩:=pl;exact⟨o,e,hd⟩
  ·refine⟨⟨o,I.Mu p o hk,hc⟩,λa e=>?_⟩;cases e;exact⟨o,I.Mu _ o hk,hd⟩
  ·have z:∃o,s.heap.get? p=some o/\o.ExactDict:=by
    rcases hk with ⟨kvs,hk⟩|⟨kvs,hk⟩
    ·obtain⟨_,_,_,_,o,_,_,e,ex,_⟩:=I.hok p _ hk;exact⟨o,e,ex⟩
    ·obtain⟨_,_,_,_,o,_,_,e,ex,_⟩:=I.hok p _ hk;exact⟨o,e,ex⟩
   obtain⟨o,e,ex⟩:=z;refine⟨⟨o,e,ex.1⟩,λa e2=>?_⟩;cases e2;exact⟨o,e,ex.2.1⟩
  ·obtain⟨o,_,_,_,e,ex,_⟩:=I.hok p _ hk;refine⟨⟨o,e,ex.1⟩,λa e2=>?_⟩;cases e2;exact⟨o,e,ex.2.1⟩
 | _=>exact False.elim ty
def tBM(K:PySem.W.Frag)(T:String)(r:V->List V->Hp->VK->Prop)(to:TE)(t:TA):TE:=λσ H Q=>to σ H λx H1=>tyV K T x H1/\t σ H1 λxs H2=>r x xs H2 Q
variable{o e:Expr}{es:List Expr}{to:TE}{t:TA}{name:Str}{apos cpos:Pos}{T id:String}{r:V->List V->Hp->VK->Prop}
theorem V4(pa:PlainAttrs T)(slot:Slot T name id)(hty:typeOf (.builtin id)=pure (.type "method_descriptor"))(hm:MtR X id r)(ho:PE X o to)(ha:PA X (e::es) t)
  (hbase:attributeBase o name X.env (eval o X.env)=eval o X.env:=by rfl)
  (hfew:((backTo cpos (starEach (e::es) X.env)).all (λx=>!x.1)&&(backToKw cpos (keywordEach [] X.env)).all (λx=>x.1.isSome)
   && decide ((e::es).length+([]:List Keyword).length+(if ([]:List Keyword).isEmpty then 0 else 1)<30))=true:=by rfl)
  (hline:(apos.endLine == cpos.line)=true:=by rfl) (hs:starEach (e::es) X.env=(false,eval e X.env)::starEach es X.env:=by rfl) (hplain:(backTo cpos (starEach es X.env)).any (·.1)=false:=by rfl) :
  PE X (.Call (.Attribute o name apos) (e::es) [] cpos) (tBM X.K T r to t):=by
 intro pins s σ H Q I h;refine wpAny_Call_method_late hbase hfew hline rfl (fc (ho pins s σ H _ I h) λv s1 ⟨x,H1,I1,r1,ty,q1⟩=>?_);obtain⟨h1,h2⟩:=W8 I1 r1 ty;refine⟨T,id,pa,slot,hty,h1,h2,?_⟩;have hA:=ha cpos pins s1 σ H1 _ I1 q1;rw[hs] at hA ⊢;refine Calls.callWith_builtin (by show(false||(backTo cpos (starEach es X.env)).any (·.1))=false;rw[hplain]<;>rfl) (Calls.evalArgs_plain ?_);exact fc hA λus s2 ⟨vs,H2,I2,r2,q2⟩=>hm pins s2 σ H2 x vs v us Q I2 r1 r2 q2
end
def MtM(X:Cx)(id:String)(r:V->List V->Hp->VK->Prop):Prop:=
 ∀(pins:List (Addr×Obj)) (s:Shared) (σ:St) (H:Hp) (x:V) (xs:List V) (v:Value) (us:List Value) (Q:VK),Inv X pins σ H s->RelV x v->Vals xs us->r x xs H Q->
  wpAny (model X.prog X.w) X.A (call (.builtin id) (v::us)) (EP X pins σ Q) X.xe s
theorem Vals.one:∀{x:V} {us:List Value},Vals [x] us->∃u,us=[u]/\RelV x u
 | _,_,.cons r .nil=>⟨_,rfl,r⟩
theorem Vals.two:∀{x y:V} {us:List Value},Vals [x,y] us->∃u v,us=[u,v]/\RelV x u/\RelV y v
 | _,_,_,.cons r (.cons q .nil)=>⟨_,_,rfl,r,q⟩
section
variable{X:Cx}{pins:List (Addr×Obj)}{σ:St}{H:Hp}{s:Shared}{l b:Addr}{xs ys zs:List V}
theorem Inv.adT{its its':List Value}{n:Nat}{f:Array Value->Array Value}{t':Nat}(I:Inv X pins σ H s)(hH:H l=some (.lst xs))
  (e:s.heap.get? l=some { cls:=.type "list",data:=.seq its.toArray n }) (hf:f its.toArray=its'.toArray) (hv:Vals ys its') (hz:ys.length<=sizeLine) :
  Inv X pins σ (upd H l (.lst ys)) { s with heap:=s.heap.update l (Obj.mapSeq f),toks:=t' }:=by
 have q:=PySem.IsL.update e f;rw[hf] at q;refine I.write (x:=l) (e:=l) (by rw[hH];exact trivial) (.inl rfl) (λb' u hb hu=>(Heap.get?_update_other s.heap (Obj.mapSeq f) (Ne.symm hb)).trans hu) ⟨_,q⟩ ?_;exact⟨hz,its',_,hv,q⟩
theorem Inv.abS{its:List Value}{t':Nat}(I:Inv X pins σ H s)(hv:Vals ys its)(hz:ys.length<=sizeLine) :
  Inv X pins σ (upd H s.heap.objs.size (.lst ys)) { s with heap:=s.heap.push { cls:=.type "list",data:=.seq its.toArray },toks:=t' }:=
 I.laid (λ_ _ q=>Qqk _ q) (Qq0 _) ⟨hz,its,0,hv,Qwz _ rfl⟩
theorem Inv.fresh(I:Inv X pins σ H s):H s.heap.objs.size=none:=I.hok.fresh (Qq0 _)
theorem Inv.Y9(I:Inv X pins σ H s)(hH:H l=some (.lst xs)):xs.length<=sizeLine/\∃(its:List Value) (n:Nat),Vals xs its/\xs.length=its.length/\s.heap.get? l=some { cls:=.type "list",data:=.seq its.toArray n }:=by obtain⟨z,its,n,r,e⟩:=I.hok l _ hH;exact⟨z,its,n,r,r.length,e⟩
theorem abM{n:Nat}(h:n<=sizeLine):Builtin.List.listTooLong n=false:=by unfold Builtin.List.listTooLong;exact Qw3 (by omega)
end
section
variable{X:Cx}{prog:Program}{w:World}{A:Around}{E:Value->Shared->Prop}{s:Shared}
def Tj:V->List V->Hp->VK->Prop:=λx vs H Q=>∃l xs y,x = .ref l/\vs=[y]/\H l=some (.lst xs)/\xs.length<sizeLine/\Q .non (upd H l (.lst (xs++[y])))
theorem Am:MtM X "list.append" Tj:=by intro pins s σ H x vs v us Q I rx rv h;obtain⟨l,xs,y,rfl,rfl,hH,hz,q⟩:=h;cases rx;obtain⟨u,rfl,ru⟩:=rv.one;obtain⟨z,its,n,r,hl,e⟩:=I.Y9 hH;refine call_meets F.slot_list_append ⟨_,e,rfl⟩ F.entry_list_append (F.args_list_append_2 _ _) (PySem.list_append l its.toArray n u (by rw[Qq5];omega)) ⟨e,?_⟩;refine⟨.non,_,I.adT (its':=its++[u]) hH e (by simp) (r.append (.cons ru .nil)) ?_,rfl,q⟩;rw[Qqz,Qq9];omega
def abl:R2:=λx y H Q=>∃l b xs zs,x = .ref l/\y = .ref b/\H l=some (.lst xs)/\H b=some (.lst zs)/\xs.length+zs.length<=sizeLine/\∀p,H p=none->Q (.ref p) (upd H p (.lst (xs++zs)))
theorem Yz:m9 X (binaryOp .Add) abl:=by
 intro pins s σ H x y v u Q I rx ry h;obtain⟨l,b,xs,zs,rfl,rfl,hH,hB,hz,q⟩:=h;cases rx;cases ry;obtain⟨z,its,n,r,hl,e⟩:=I.Y9 hH;obtain⟨z2,its2,n2,r2,hl2,e2⟩:=I.Y9 hB;refine PySem.P.add_list e e2 ?_ (by rw[Qq5,Qq5];omega);have ea:its.toArray++its2.toArray=(its++its2).toArray:=by simp
 rw[ea];exact⟨.ref _,_,I.abS (t':=s.toks) (r.append r2) (by rw[Qqz];omega),rfl,q _ I.fresh⟩
set_option maxRecDepth 100000 in
end
end L2
namespace Att
open PySem PySem.W PySem.Calls PyProof.Rows
theorem xf{P:Params}{h:Heap}:∀(ns:List Int) (vs:List Value),WellAll P h vs (ns.map WData.int)->IntsAre vs ns:=by
 intro ns
 induction ns with
 | nil=>
  intro vs w;rw[List.map_nil] at w;cases w;exact .nil
 | cons n ns ih=>
  intro vs w;rw[Qq3] at w;cases w with
  | cons a b=>
   cases a;exact .cons _ _ (ih _ b)
theorem Lh{l:OpenLaw}{n:Nat}(hn:l.most=some n){P:Params}{h:Heap}{args:List WData}{vals:List Value}
  (hpre:l.row.toRowW.claim.pre args=true) (hwl:WellAll P h vals args) :
  ∃a vs ns,vals=[Value.ref a]/\args=[WData.list (ns.map WData.int)]/\h.get? a=some { cls:=.type "list",data:=.seq vs.toArray }/\IntsAre vs ns/\ns.length<=n:=by
 have hsh:WShape.hasAll [] args [.list .int]=true:=(pre_splitW hpre).1;have hc:l.pre.holds [] { args:=args }=true:=(pre_splitW hpre).2;obtain⟨d,r,rfl,h1,h2⟩:=hasAllW_cons hsh;obtain rfl:=hasAllW_nil h2;obtain⟨xs,rfl,h3⟩:=hasW_list h1;obtain⟨ns,rfl⟩:=items_int h3;have hlen:ns.length<=n:=by
  unfold OpenLaw.pre at hc;have h4:(WTm.not (.lt (.lit (.int (n:Int))) (.len (.arg 0)))).holds [] { args:=[.list (ns.map .int)] }=true:=by have h4:=(holds_andW hc).1;rw[hn] at h4;exact h4
  have h5:=condW_of h4 (w_not (w_lt w_lit (w_len_list (w_arg rfl))));rw[Qqw] at h5;refine Nat.le_of_not_lt λq=>?_;have q':(n:Int)<((ns.length:Nat):Int):=by omega
  first
   | (rw[Qxj q'] at h5;exact absurd h5 (by decide))
   | (simp at h5;omega)
 cases hwl with
 | cons w1 w2=>
  cases w2;cases w1 with
  | list ho hall=>exact⟨_,_,ns,rfl,rfl,ho,xf ns _ hall,hlen⟩
theorem Lz(l:OpenLaw)(args:List WData):l.row.toRowW.claim.post args (.bool true) args=true:=
 postW_of (r:=l.row.toRowW) (X:=(true == true))
  (show WShape.has [] (.bool true) .bool=true by first|rfl|decide|simp[WShape.has,WShape.arms,WShape.armsAll])
  (show(WTm.eq .res (.lit (.bool true))).value [] { args:=args,res:=some (.bool true),after:=args }=some (.bool (true == true)) from w_eq_bool (w_res rfl) w_lit) rfl
end Att
namespace L2
open PySem PySem.Spec PyProof.Rows
theorem z7:∀{vs:List Value} {ns:List Int},IntsAre vs ns->Vals (ns.map V.int) vs
 | _,_,.nil=>.nil
 | _,_,.cons n t h=>.cons ⟨t,rfl⟩ (z7 h)
def fO(s:Stmt):Arguments:=match s with
 | .FunctionDef _ a _ _ _ _ _ _ _ _=>a
 | _=>{ posonlyargs:=[],args:=[],vararg:=none,kwonlyargs:=[],kw_defaults:=[],kwarg:=none,defaults:=[] }
def bY(s:Stmt):List Stmt:=match s with
 | .FunctionDef _ _ b _ _ _ _ _ _ _=>b
 | _=>[]
def aJ(s:Stmt):Scope:=match s with
 | .FunctionDef _ _ _ _ _ _ sc _ _ _=>sc
 | _=>{ kind:=.function,names:=[],isGenerator:=false,isCoroutine:=false }
abbrev vO:Nh:=λ_ _ _ _ _ _=>False
abbrev E0:XK:=λ_ _ _=>False
theorem Fw{X:Cx}:Passes vO X E0:=λ_ _ _ _ _ _ _ h=>h.elim
structure Ng(K:PySem.W.Frag)(x qual:Str)(st:Stmt)(f:Addr)(fd:FuncData):Prop where
 ex:∃(oc:Value) (od:Option Addr) (kV doc pm:Value) (an:Option Addr) (cdv ct:Value) (osl:Array (Option Value)),
  fd=PySem.W.fnOf x qual (fO st) (bY st) (aJ st) .none kV doc pm an cdv ct/\K.lookup f=some ⟨oc,od,.func fd,osl⟩/\PySem.W.codeIn K cdv qual=true
 kp:PySem.W.keepIn K (.ref f)=true
section
variable{P:Program}{w:World}{K:PySem.W.Frag}{mg:Str->Option Value}{base:Heap}
theorem Ng.ok{x qual:Str}{st:Stmt}{f:Addr}{fd:FuncData}{N ps:List Str}{k:Nat}{sp:Sp}(F:Ng K x qual st f fd)(S:bG N ps (aJ st))(len:∀vs H Q E,sp vs H Q E->vs.length=ps.length)
  (hbody:∀(cdv:Value) (A:Around) (outer:List Env) (s:Shared) (H:Hp) (vs:List V) (Q:VK) (E:XK),eV k (A.deeper (envOfC qual (aJ st) s.heap.objs.size f cdv))->sp vs H Q E->
   ∃t,DK (Gz vO P w K mg base N qual (aJ st) f cdv A outer s H E).Uq (bY st) t/\t { nx:=λ_ H'=>Q .non H',rt:=Q } (start N vs) H):j4 P w K mg base vO (k+1) f fd ps sp:=by
 obtain⟨oc,od,kV,doc,pm,an,cdv,ct,osl,rfl,lk,hcd⟩:=F.ex;refine Wm lk hcd S len λA outer s H vs Q E hr hsp=>?_;obtain⟨t,h,q⟩:=hbody cdv A outer s H vs Q E hr hsp;exact⟨t,h.Uq,q⟩
theorem Ng.binds{x qual:Str}{st:Stmt}{f:Addr}{fd:FuncData}{ps:List Str}(F:Ng K x qual st f fd)
  (h:∀(kV doc pm:Value) (an:Option Addr) (cdv ct:Value) (us:List Value),us.length=ps.length->bindArgs (PySem.W.fnOf x qual (fO st) (bY st) (aJ st) .none kV doc pm an cdv ct) ⟨us,[]⟩=pure (ps.zip us)):Binds K fd ps []:=by
 obtain⟨oc,od,kV,doc,pm,an,cdv,ct,osl,rfl,lk,hcd⟩:=F.ex;exact .all (h kV doc pm an cdv ct)
theorem yN{x qual:Str}{st:Stmt}{f:Addr}{oc:Value}{od an:Option Addr}{osl:Array (Option Value)}{kV doc pm cdv ct:Value}(l:K.lookup f=some ⟨oc,od,.func (PySem.W.fnOf x qual (fO st) (bY st) (aJ st) .none kV doc pm an cdv ct),osl⟩)
  (c:PySem.W.codeIn K cdv qual=true) (k:PySem.W.keepIn K (.ref f)=true):Ng K x qual st f (PySem.W.fnOf x qual (fO st) (bY st) (aJ st) .none kV doc pm an cdv ct):=⟨⟨oc,od,kV,doc,pm,an,cdv,ct,osl,rfl,l,c⟩,k⟩
end
theorem abY{A B:Prop}(h:B):if false=true then A else B:=by rw[if_neg Qw8];exact h
theorem abX{A B:Prop}(h:A):if true=true then A else B:=by rw[if_pos rfl];exact h
def aM(H H':Hp):Prop:=∀b o,H b=some o->H' b=some o
theorem aM.refl(H:Hp):aM H H:=λ_ _ h=>h
theorem aM.trans{H H1 H2:Hp}(a:aM H H1)(b:aM H1 H2):aM H H2:=λc o h=>b c o (a c o h)
theorem aM.free{H H':Hp}(e:aM H H'){l:Addr}(h:H' l=Option.none):H l=Option.none:=by
 cases q:H l with
 | none=>rfl
 | some o=>
  rw[e l o q] at h;cases h
theorem aM.seq{K:PySem.W.Frag}{H H':Hp}{a:Addr}{xs:List V}(e:aM H H')(h:m8 K H a xs):m8 K H' a xs:=by
 rcases h with (h|⟨o,h⟩)|h
 ·exact .inl (.inl (e _ _ h))
 ·exact .inl (.inr ⟨o,e _ _ h⟩)
 ·exact .inr h
section
variable{κ:Type}[DecidableEq κ]
def qW(kvs:List (κ×V))(k:κ):Option V:=(kvs.find? λkv=>decide (kv.1=k)).map (·.2)
def putK(kvs:List (κ×V))(k:κ)(v:V):List (κ×V):=
 if (kvs.any λkv=>decide (kv.1=k))=true then kvs.map (λkv=>if kv.1=k then (kv.1,v) else kv) else kvs++[(k,v)]
theorem sE{p:κ×V}{r:List (κ×V)}{k:κ}(e:p.1=k):qW (p::r) k=some p.2:=by simp[qW,Qz6,e]
theorem sG{p:κ×V}{r:List (κ×V)}{k:κ}(e:¬p.1=k):qW (p::r) k=qW r k:=by simp[qW,Qz6,e]
theorem xK(k:κ):∀kvs:List (κ×V),(kvs.any λkv=>decide (kv.1=k))=(qW kvs k).isSome
 | []=>rfl
 | p::r=>by
  rw[List.any_cons];by_cases e:p.1=k
  ·simp only[sE e,Qxj e,Bool.true_or,Option.isSome_some]
  ·rw[sG e,Qw3 e,Bool.false_or];exact xK k r
theorem lZ(kvs:List (κ×V))(k:κ)(v:V):(putK kvs k v).length<=kvs.length+1:=by
 unfold putK;split
 ·rw[Qqw];omega
 ·rw[Qqz,Qqy,Qjw];omega
theorem vN.nR{o:Option V}{u:Option Value}(r:vN o u):o.isSome=u.isSome:=by
 cases o with
 | none=>cases u with
  | none=>rfl
  | some _=>exact(show False from r).elim
 | some _=>cases u with
  | none=>exact(show False from r).elim
  | some _=>rfl
theorem vN.getD{o:Option V}{u:Option Value}{d:V}{d':Value}(r:vN o u)(rd:RelV d d'):RelV (o.getD d) (u.getD d'):=by
 cases o with
 | none=>cases u with
  | none=>exact rd
  | some _=>exact(show False from r).elim
 | some _=>cases u with
  | none=>exact(show False from r).elim
  | some _=>exact r
theorem KV.val{kvs:List (κ×V)}{vs:List (κ×Value)}(r:KV kvs vs)(k:κ):vN (qW kvs k) (valueAt vs k):=by
 unfold KV at r
 induction r with
 | nil=>exact True.intro
 | @cons p q ps qs h t ih=>
  obtain⟨h1,h2⟩:=h;by_cases e:p.1=k
  ·have e':q.1=k:=h1.symm.trans e;have b:valueAt (q::qs) k=some q.2:=by simp[valueAt,Qz6,e']
   rw[sE e,b];exact h2
  ·have e':¬q.1=k:=λz=>e (h1.trans z);have b:valueAt (q::qs) k=valueAt qs k:=by simp[valueAt,Qz6,e']
   rw[sG e,b];exact ih
theorem KV.any{kvs:List (κ×V)}{vs:List (κ×Value)}(r:KV kvs vs)(k:κ):(kvs.any λkv=>decide (kv.1=k))=vs.any λkv=>decide (kv.1=k):=by
 unfold KV at r
 induction r with
 | nil=>rfl
 | cons h t ih=>rw[List.any_cons,List.any_cons,ih,h.1]
theorem KV.repl{kvs:List (κ×V)}{vs:List (κ×Value)}(r:KV kvs vs)(k:κ){y:V}{u:Value}(ry:RelV y u) :
  KV (kvs.map λkv=>if kv.1=k then (kv.1,y) else kv) (vs.map λkv=>if kv.1=k then (kv.1,u) else kv):=by
 unfold KV at r ⊢
 induction r with
 | nil=>exact .nil
 | @cons p q ps qs h t ih=>
  rw[Qq3,Qq3];refine .cons ?_ ih;obtain⟨h1,h2⟩:=h;by_cases e:p.1=k
  ·rw[if_pos e,if_pos (h1.symm.trans e)];exact⟨h1,ry⟩
  ·rw[if_neg e,if_neg (λz=>e (h1.trans z))];exact⟨h1,h2⟩
theorem KV.put{kvs:List (κ×V)}{vs:List (κ×Value)}(r:KV kvs vs)(k:κ){y:V}{u:Value}(ry:RelV y u):KV (putK kvs k y) (stored vs k u):=by
 unfold putK stored;rw[r.any k];by_cases e:(vs.any λkv=>decide (kv.1=k))=true
 ·rw[if_pos e,if_pos e];exact r.repl k ry
 ·rw[if_neg e,if_neg e];exact Paired.snoc r ⟨rfl,ry⟩
theorem KV.keys{kvs:List (κ×V)}{vs:List (κ×Value)}(r:KV kvs vs):kvs.map (·.1)=vs.map (·.1):=by
 unfold KV at r
 induction r with
 | nil=>rfl
 | cons h t ih=>rw[Qq3,Qq3,ih,h.1]
theorem KV.length{kvs:List (κ×V)}{vs:List (κ×Value)}(r:KV kvs vs):kvs.length=vs.length:=Paired.length r
end
theorem yI{P:Program}{w:World}{k:Key}{u:Value}(r:RelV (kV k) u):(cI P w).is k u=true:=by
 cases k with
 | inl i=>obtain⟨t,e⟩:=(show ∃t,u=Value.int i t from r);subst e;exact Ga P w i t
 | inr x=>obtain⟨t,e⟩:=(show ∃t,u=Value.str x t from r);subst e;exact FZ P w x t
theorem Ar{P:Program}{w:World}:∀{ks:List Key} {us:List Value},Vals (ks.map kV) us->ItemsAre (cI P w) ks us
 | [],_,r=>by rw[List.map_nil] at r;cases r;exact .nil
 | k::ks,_,r=>by
  rw[Qq3] at r;cases r with
  | cons h t=>exact .cons (yI h) (Ar t)
abbrev KT(H:Hp):List (List Key×V)->List (List Key×Addr×Value)->Prop:=Paired λp q=>p.1=q.1/\H q.2.1=some (.tup (p.1.map kV))/\RelV p.2 q.2.2
theorem KT.val{H:Hp}{kvs:List (List Key×V)}{xs:List (List Key×Addr×Value)}(r:KT H kvs xs)(k:List Key):vN (qW kvs k) ((atKey xs k).map (·.2)):=by
 induction r with
 | nil=>exact True.intro
 | @cons p q ps qs h t ih=>
  obtain⟨h1,_,h2⟩:=h;by_cases e:p.1=k
  ·have e':q.1=k:=h1.symm.trans e;have b:atKey (q::qs) k=some q.2:=by simp[atKey,Qz6,e']
   rw[sE e,b];exact h2
  ·have e':¬q.1=k:=λz=>e (h1.trans z);have b:atKey (q::qs) k=atKey qs k:=by simp[atKey,Qz6,e']
   rw[sG e,b];exact ih
theorem KT.repl{H:Hp}{kvs:List (List Key×V)}{xs:List (List Key×Addr×Value)}(r:KT H kvs xs)(k:List Key){y:V}{u:Value}(ry:RelV y u) :
  KT H (kvs.map λkv=>if kv.1=k then (kv.1,y) else kv) (xs.map (putAt k u)):=by
 induction r with
 | nil=>exact .nil
 | @cons p q ps qs h t ih=>
  rw[Qq3,Qq3];refine .cons ?_ ih;obtain⟨h1,h2,h3⟩:=h;unfold putAt;by_cases e:p.1=k
  ·rw[if_pos e,if_pos (h1.symm.trans e)];exact⟨h1,h2,ry⟩
  ·rw[if_neg e,if_neg (λz=>e (h1.trans z))];exact⟨h1,h2,h3⟩
theorem KT.put{H:Hp}{kvs:List (List Key×V)}{xs:List (List Key×Addr×Value)}(r:KT H kvs xs)(k:List Key){b:Addr}{y:V}{u:Value}(hb:H b=some (.tup (k.map kV)))(ry:RelV y u) :
  KT H (putK kvs k y) (storedH xs k b u):=by
 have e:(kvs.any λkv=>decide (kv.1=k))=(atKey xs k).isSome:=by rw[xK,(r.val k).nR,Qkv]
 unfold putK storedH;rw[e];by_cases q:(atKey xs k).isSome=true
 ·rw[if_pos q,if_pos q];exact r.repl k ry
 ·rw[if_neg q,if_neg q];exact Paired.snoc r ⟨rfl,hb,ry⟩
theorem KT.keeps{H H':Hp}{kvs:List (List Key×V)}{xs:List (List Key×Addr×Value)}(r:KT H kvs xs)(ht:∀b ys,H b=some (.tup ys)->H' b=some (.tup ys)):KT H' kvs xs:=
 Paired.Y7 r λ_ _ z=>⟨z.1,ht _ _ z.2.1,z.2.2⟩
section
variable{P:Program}{w:World}{H:Hp}{h:Heap}{a:Addr}
theorem VL{u:HO}(ok:rY P w H h)(e:Rd H a u):gB P w H h a u:=e.ok ok
theorem yX{kvs:List (Key×V)}(ok:rY P w H h)(e:Rd H a (.dK kvs)):kvs.length<=sizeLine/\(a == sysModules)=false/\∃vs,KV kvs vs/\h.DictOf (cI P w) a vs:=
 show gB P w H h a (.dK kvs) from VL ok e
theorem Wo{kvs:List (Key×V)}(ok:rY P w H h)(e:H a=some (.dK kvs)):kvs.length<=sizeLine/\(a == sysModules)=false/\∃vs,KV kvs vs/\h.DictOf (cI P w) a vs:=yX ok (.inl e)
theorem yG{ks:List Key}(ok:rY P w H h)(e:H a=some (.tup (ks.map kV))):(tupleKind (cI P w)).is h ks a:=by obtain⟨_,its,r,o,h1,h2,⟨n,h3⟩,_⟩:=(show gB P w H h a (.tup (ks.map kV)) from ok a _ e);exact⟨o,its.toArray,n,h1,h2,h3,by simpa using Ar r⟩
theorem Ax{kvs:List (List Key×V)}(ok:rY P w H h)(e:Rd H a (.dT kvs)):kvs.length<=sizeLine/\(a == sysModules)=false/\
  ∃xs,KT H kvs xs/\h.DictOfH (tupleKind (cI P w)) a xs:=by
 obtain⟨z,y,xs,r,o,es,ep,h1,h2,h3,h4,h5⟩:=(show gB P w H h a (.dT kvs) from VL ok e);refine⟨z,y,xs,r,o,es,ep,h1,h2,h3,h4,λx hx=>?_,h5⟩;have all:∀{l:List (List Key×V)} {m:List (List Key×Addr×Value)},KT H l m->∀x∈m,(tupleKind (cI P w)).is h x.1 x.2.1:=by
  intro l m q
  induction q with
  | nil=>intro x hx;exact nomatch hx
  | @cons p q ps qs hq t ih=>
   intro x hx;rcases Qq2.mp hx with e|hx
   ·subst e;exact yG ok (by rw[<-hq.1];exact hq.2.1)
   ·exact ih x hx
 exact all r x hx
theorem acn{kvs:List (List Key×V)}(ok:rY P w H h)(e:H a=some (.dT kvs)):kvs.length<=sizeLine/\(a == sysModules)=false/\
  ∃xs,KT H kvs xs/\h.DictOfH (tupleKind (cI P w)) a xs:=Ax ok (.inl e)
end
def G3(H:Hp)(a:Addr)(y:V)(r:Option V):Prop:=
 (∃kvs k,Rd H a (.dK kvs)/\y=kV k/\r=qW kvs k)\/∃kvs k b,Rd H a (.dT kvs)/\y = .ref b/\H b=some (.tup (k.map kV))/\r=qW kvs k
def RV(H:Hp)(a:Addr)(y v:V)(H':Hp):Prop:=
 (∃kvs k,H a=some (.dK kvs)/\y=kV k/\kvs.length<sizeLine/\H'=upd H a (.dK (putK kvs k v)))\/
 ∃kvs k b,H a=some (.dT kvs)/\y = .ref b/\H b=some (.tup (k.map kV))/\kvs.length<sizeLine/\H'=upd H a (.dT (putK kvs k v))
theorem RV.k{H:Hp}{a:Addr}{kvs:List (Key×V)}{k:Key}{v:V}(e:H a=some (.dK kvs))(hl:kvs.length<sizeLine):RV H a (kV k) v (upd H a (.dK (putK kvs k v))):=.inl ⟨kvs,k,e,rfl,hl,rfl⟩
section
variable{X:Cx}{pins:List (Addr×Obj)}{σ:St}{H:Hp}{s:Shared}{a:Addr}{y v:V}{u r:Value}{o:Option V}{A:Around}{E:Value->Shared->Prop}
theorem Inv.big(I:Inv X pins σ H s):sysModules<s.heap.objs.size:=by have h:mainGlobals<s.heap.objs.size:=(I.mod.glob.keeps I.bk).lt;exact Nat.lt_trans (by decide) h
theorem MT{Q:Value->Shared->Prop}(hu:A.units+1<cLine)(I:Inv X pins σ H s)(g:G3 H a y (some v))(ry:RelV y u)(h:∀w' s',Inv X pins σ H s'->RelV v w'->Q w' s') :
  wpAny (model X.prog X.w) A (getItem (.ref a) u) Q E s:=by
 rcases g with ⟨kvs,k,e,ey,l⟩|⟨kvs,k,b,e,ey,eb,l⟩
 ·subst ey;obtain⟨z,hd,vs,rel,dd⟩:=yX I.hok e;obtain⟨w',hw,Ov⟩:=vN.some_of (v:=v) (o:=valueAt vs k) (by rw[l];exact rel.val k);exact wpAny_getItem_of (yI ry) dd.mapOf hw (h w' _ (I.tok _) Ov)
 ·subst ey;cases(show u=Value.ref b from ry);obtain⟨z,hd,xs,rel,dd⟩:=Ax I.hok e;obtain⟨w',hw,Ov⟩:=vN.some_of (v:=v) (o:=(atKey xs k).map (·.2)) (by rw[l];exact rel.val k);obtain⟨p,hp,hp2⟩:=Qwj.mp hw;refine wpAny_getItem_heap (tupleKind_room_in1 hu) (yG I.hok eb) dd hp ?_;rw[hp2];exact h w' _ (I.tok _) Ov
theorem aen{Q:Value->Shared->Prop}(hu:A.units+1<cLine)(I:Inv X pins σ H s)(g:G3 H a y o)(ry:RelV y u)(h:∀s',Inv X pins σ H s'->Q (.bool o.isSome) s') :
  wpAny (model X.prog X.w) A (compareOp .In u (.ref a)) Q E s:=by
 rcases g with ⟨kvs,k,e,ey,l⟩|⟨kvs,k,b,e,ey,eb,l⟩
 ·subst ey;obtain⟨z,hd,vs,rel,dd⟩:=yX I.hok e;refine wpAny_in_of (yI ry) hd dd.mapOf ?_;rw[<-(rel.val k).nR,<-l];exact h _ (I.tok _)
 ·subst ey;cases(show u=Value.ref b from ry);obtain⟨z,hd,xs,rel,dd⟩:=Ax I.hok e;refine wpAny_in_heap (tupleKind_room_in1 hu) (yG I.hok eb) hd dd ?_;have q:=(rel.val k).nR;rw[Qkv] at q;rw[<-q,<-l];exact h _ (I.tok _)
theorem um{h':Heap}{t':Nat}{ob:HO}(I:Inv X pins σ H s)(mu:Mut (H a))(hs:Heap.SameBut a s.heap h')(he:∃q,h'.get? a=some q)(new:gB X.prog X.w (upd H a ob) h' a ob) :
  Inv X pins σ (upd H a ob) { s with heap:=h',toks:=t' }:=
 I.write (x:=a) (e:=a) mu (.inl rfl) (λb q hb z=>(hs.2 b hb).trans z) he new
theorem Rp{P:Program}{w:World}{H':Hp}{h':Heap}{kvs:List (Key×V)}{vs:List (Key×Value)}(z:kvs.length<=sizeLine)(hd:(a == sysModules)=false)(rel:KV kvs vs)(dd:h'.DictOf (cI P w) a vs) :
  gB P w H' h' a (.dK kvs):=⟨z,hd,vs,rel,dd⟩
theorem MP{H':Hp}{Q:Unit->Shared->Prop}(hu:A.units+1<cLine)(I:Inv X pins σ H s)(g:RV H a y v H')(ry:RelV y u)(rv:RelV v r)(h:∀s',Inv X pins σ H' s'->Q () s') :
  wpAny (model X.prog X.w) A (setItem (.ref a) u r) Q E s:=by
 rcases g with ⟨kvs,k,e,ey,l,eH⟩|⟨kvs,k,b,e,ey,eb,l,eH⟩
 ·subst ey eH;obtain⟨z,hd,vs,rel,dd⟩:=Wo I.hok e;have hz:vs.length<=sizeLine:=by rw[<-rel.length];exact z
  have hl:(putK kvs k v).length<=sizeLine:=by have:=lZ kvs k v;omega
  refine wpAny_setItem_pairs (hsz:=hz) (yI ry) dd λh' Rr hs=>h _ ?_;have he:∃q,h'.get? a=some q:=let ⟨q,_,_,hq,_⟩:=Rr;⟨q,hq⟩
  exact um I (by rw[e];exact True.intro) hs he (Rp hl hd (rel.put k rv) Rr)
 ·subst ey eH;cases(show u=Value.ref b from ry);obtain⟨z,hd,xs,rel,dd⟩:=acn I.hok e;have hz:xs.length<=sizeLine:=by rw[<-Paired.length rel];exact z
  have hl:(putK kvs k v).length<=sizeLine:=by have:=lZ kvs k v;omega
  refine wpAny_setItem_heap (hsz:=hz) (tupleKind_room_in1 hu) (yG I.hok eb) dd λh' Rr hs=>h _ ?_;obtain⟨q,es,ep,hq,h2,h3,h4,_,h5⟩:=Rr;refine um I (by rw[e];exact True.intro) hs ⟨q,hq⟩ ⟨hl,hd,_,(rel.put k eb rv).keeps λc ys ec=>?_,q,es,ep,hq,h2,h3,h4,h5⟩;rw[bu (abO ec e (λz=>nomatch z))];exact ec
end
def Vu(i:Expr):Prop:=∀ov iv,subscripted i false ov iv=operate [ov,iv] (getItem ov iv)
theorem S5{prog:Program}{w:World}{A:Around}{E:Value->Shared->Prop}{s:Shared}{env:Env}{value slice:Expr}{pos:Pos}{T id:String}{Q:Value->Shared->Prop}
  (hl:typeLookup (.type T) "__getitem__" = pure (some (.builtin id))) (hs:Vu slice)
  (h:wpAny (model prog w) A (eval value env) (λo s₁=>wpAny (model prog w) A (eval slice env) (λi s₂=>s₂.TypeIs o T/\wpAny (model prog w) A (getItem o i) Q E s₂) E s₁) E s) :
  wpAny (model prog w) A (eval (.Subscript value slice pos) env) Q E s:=by
 refine Subscript_ (Qz1 h (λo s₁ h₁=>Qz1 h₁ (λi s₂ h₂=>?_) λ_ _ x=>x) λ_ _ x=>x);obtain⟨hT,h₂⟩:=h₂;unfold subscriptTail;refine Qqx ?_;rw[getitemInPython_of_ne hT.not_modules];refine Qqx (wpAny_specialOf hT hl ?_);have fin:wpAny (model prog w) A (subscripted slice false o i) (λr s₃=>wpAny (model prog w) A (letTemporaryGo value o r >>= λ_=>pure r) Q E s₃) E s₂:=by rw[hs o i];exact wpAny_operating (Qz1 h₂ (λr s₃ h₃=>Qqx (wpAny_letTemporaryGo (Qq4 h₃))) λ_ _ x=>x)
 first
  | exact Qq4 (Qqx fin)
  | exact Qqx (Qq4 (Qqx fin))
  | exact Qqx fin
theorem Gy{X:Cx}{pins:List (Addr×Obj)}{σ:St}{H:Hp}{s:Shared}{a:Addr}{y:V}{o:Option V}(I:Inv X pins σ H s)(g:G3 H a y o):s.TypeIs (.ref a) "dict":=by
 rcases g with ⟨kvs,k,e,_,_⟩|⟨kvs,k,b,e,_,_,_⟩
 ·obtain⟨_,_,vs,_,dd⟩:=yX I.hok e;exact dd.typeIs
 ·obtain⟨_,_,xs,_,dd⟩:=Ax I.hok e;exact dd.typeIs
def aaY(td ty:TE):TE:=λσ H Q=>td σ H λx H1=>ty σ H1 λy H2=>∃a v,x = .ref a/\G3 H2 a y (some v)/\Q v H2
def aa3(td ty tv:TE):TS:=λD σ H=>tv σ H λv H1=>td σ H1 λx H2=>ty σ H2 λy H3=>∃a H4,x = .ref a/\RV H3 a y v H4/\D.nx σ H4
section
variable{X:Cx}{o i e value:Expr}{pos pos' tpos:Pos}{td ty tv:TE}
theorem Ug(hu:X.A.units+1<cLine)(ho:PE X o td)(hi:PE X i ty)(hs:Vu i):PE X (.Subscript o i pos) (aaY td ty):=by intro pins s σ H Q I h;refine S5 PySem.F.slot_dict_getitem.lookup hs (fc (ho pins s σ H _ I h) λu s1 ⟨x,H1,I1,rx,q1⟩=>fc (hi pins s1 σ H1 _ I1 q1) λiv s2 ⟨y,H2,I2,ry,a,v,ex,g,q2⟩=>?_);subst ex;obtain rfl:u=Value.ref a:=rx;exact⟨Gy I2 g,MT hu I2 g ry λw' s3 I3 Ov=>⟨v,H2,I3,Ov,q2⟩⟩
theorem TY(hu:X.A.units+1<cLine)(ho:PE X o td)(hi:PE X i ty)(hv:PE X value tv)(hs:swapsWith value (some (.Subscript o i pos')) pos.line X.env=pure false) :
  PS X (.Assign [.Subscript o i pos'] value pos) (aa3 td ty tv):=by
 intro pins s σ H D I h;refine wpAny_Assign_Subscript (fc (hv pins s σ H _ I h) λr s1 ⟨v,H1,I1,rv,q1⟩=>fc (ho pins s1 σ H1 _ I1 q1) λu s2 ⟨x,H2,I2,rx,q2⟩=>fc (hi pins s2 σ H2 _ I2 q2) λiv s3 ⟨y,H3,I3,ry,a,H4,ex,g,q3⟩=>?_) hs;subst ex;obtain rfl:u=Value.ref a:=rx;exact MP hu I3 g ry rv λs4 I4=>⟨σ,H4,I4,q3⟩
end
theorem Gx{P:Program}{w:World}{H:Hp}(h:Heap)(hb:sysModules<h.objs.size):gB P w H (h.push { cls:=.type "dict",data:=.dict #[] }) h.objs.size (.dK []):=
 ⟨Qx0 _,Qzw.mpr (Ne.symm (Qw5 hb)),[],.nil,Heap.DictOf.new h⟩
def Xf:TE:=λ_ H Q=>∀p,H p=none->Q (.ref p) (upd H p (.dK []))
section
variable{X:Cx}{pos:Pos}
theorem Qm:PE X (.Dict [] [] pos) Xf:=λpins s σ H Q I h=>
 wpAny_Dict_empty ⟨.ref s.heap.objs.size,_,I.laid (a:=s.heap.objs.size) (o:=.dK []) (t':=s.toks) (λ_ _ q=>Qqk _ q) (Qq0 _) (Gx s.heap I.big),rfl,h _ (I.hok.fresh (Qq0 _))⟩
end
def Ht:List (TE×TE)->St->Hp->(List (V×V)->Hp->Prop)->Prop
 | [],_,H,Q=>Q [] H
 | (tk,tv)::r,σ,H,Q=>tk σ H λx H1=>tv σ H1 λy H2=>Ht r σ H2 λps H3=>Q ((x,y)::ps) H3
abbrev VV:List (V×V)->List (Value×Value)->Prop:=Paired λp q=>RelV p.1 q.1/\RelV p.2 q.2
def PPs(X:Cx)(pos:Pos)(keys:List (Option Expr))(values:List Expr)(Sy:List (TE×TE)):Prop:=
 ∀(pins:List (Addr×Obj)) (s:Shared) (σ:St) (H:Hp) (Q:List (V×V)->Hp->Prop),Inv X pins σ H s->Ht Sy σ H Q->
  wpAny (model X.prog X.w) X.A (evalPairs (pairTrees keys values X.env pos)) (λvs s'=>∃ps H',Inv X pins σ H' s'/\VV ps vs/\Q ps H') X.xe s
theorem T3{X:Cx}{pos:Pos}:PPs X pos [] [] []:=λpins s σ H Q I h=>pairTrees_nil_walk ⟨[],H,I,.nil,h⟩
theorem Ft{X:Cx}{pos:Pos}{k v:Expr}{ks:List (Option Expr)}{vs:List Expr}{tk tv:TE}{Sy:List (TE×TE)}(hk:PE X k tk)(hv:PE X v tv)(hr:PPs X pos ks vs Sy) :
  PPs X pos (some k::ks) (v::vs) ((tk,tv)::Sy):=λpins s σ H Q I h=>
 pairTrees_cons_walk (fc (hk pins s σ H _ I h) λu s1 ⟨x,H1,I1,rx,q1⟩=>fc (hv pins s1 σ H1 _ I1 q1) λw2 s2 ⟨y,H2,I2,ry,q2⟩=>
  fc (hr pins s2 σ H2 _ I2 q2) λws s3 ⟨ps,H3,I3,rel,q3⟩=>⟨(x,y)::ps,H3,I3,.cons ⟨rx,ry⟩ rel,q3⟩)
def vm(kvs more:List (Key×V)):List (Key×V):=more.foldl (λacc kv=>putK acc kv.1 kv.2) kvs
theorem KV.merge:∀{more:List (Key×V)} {rs:List (Key×Value)} {kvs:List (Key×V)} {vs:List (Key×Value)},KV more rs->KV kvs vs->KV (vm kvs more) (merged vs rs):=by
 intro more rs kvs vs r;unfold KV at r
 induction r generalizing kvs vs with
 | nil=>intro q;exact q
 | @cons p q ps qs h t ih=>
  intro r0;have e:KV (putK kvs p.1 p.2) (stored vs q.1 q.2):=by have:=r0.put p.1 h.2;rw[<-h.1];exact this
  exact ih e
theorem qL:∀(more kvs:List (Key×V)),(vm kvs more).length<=kvs.length+more.length
 | [],kvs=>by show kvs.length<=kvs.length+0;omega
 | p::r,kvs=>by
  have h1:=qL r (putK kvs p.1 p.2);have h2:=lZ kvs p.1 p.2;show(vm (putK kvs p.1 p.2) r).length<=_;rw[Qqy];omega
theorem zc{P:Program}{w:World}:∀{kvs:List (Key×V)} {ws:List (Value×Value)},VV (kvs.map λkv=>(kV kv.1,kv.2)) ws->∃rs,Carries (cI P w) ws rs/\KV kvs rs
 | [],_,r=>by rw[List.map_nil] at r;cases r;exact⟨[],True.intro,.nil⟩
 | p::kvs,_,r=>by
  rw[Qq3] at r;cases r with
  | @cons a b as bs h t=>
   obtain⟨rs,c,q⟩:=zc (P:=P) (w:=w) t;obtain⟨b1,b2⟩:=b;exact⟨(p.1,b2)::rs,⟨yI h.1,rfl,c⟩,.cons ⟨rfl,h.2⟩ q⟩
def VJ(Sy:List (TE×TE)):TE:=λσ H Q=>∀p,H p=none->Ht Sy σ (upd H p (.dK [])) λps H2=>H2 p=some (.dK [])/\∃kvs:List (Key×V),ps=kvs.map (λkv=>(kV kv.1,kv.2))/\kvs.length<=15/\Q (.ref p) (upd H2 p (.dK (vm [] kvs)))
theorem Ue{X:Cx}{pos:Pos}{keys:List (Option Expr)}{values:List Expr}{Sy:List (TE×TE)}(h:PPs X pos keys values Sy)(hall:keys.all (·.isSome)=true)(hl:keys.length=values.length)(h0:keys≠[])
  (h15:keys.length<=15):PE X (.Dict keys values pos) (VJ Sy):=by
 intro pins s σ H Q I q;have hn:=I.hok.fresh (Qq0 s.heap.objs.size);have I1:=I.laid (a:=s.heap.objs.size) (o:=.dK []) (h':=s.heap.push { cls:=.type "dict",data:=.dict #[] }) (t':=s.toks) (λ_ _ q=>Qqk _ q) (Qq0 _) (Gx s.heap I.big);refine wpAny_Dict_walk (knd:=cI X.prog X.w) hall hl h0 h15 (fc (h pins _ σ _ _ I1 (q _ hn)) λws s2 ⟨ps,H2,I2,rel,e,kvs,ep,lk,q2⟩=>?_);subst ep;obtain⟨rs,c,rk⟩:=zc (P:=X.prog) (w:=X.w) rel;obtain⟨z,hd,vs0,r0,dd⟩:=Wo I2.hok e;cases r0;refine⟨rs,c,dd,λh' Rr hs=>⟨.ref s.heap.objs.size,_,?_,rfl,q2⟩⟩;have hz:(vm [] kvs).length<=sizeLine:=by have h1:=qL kvs [];rw[Qjw] at h1;rw[sizeLine_eq];omega
 have he:∃q,h'.get? s.heap.objs.size=some q:=let ⟨q,_,_,hq,_⟩:=Rr;⟨q,hq⟩
 exact um I2 (by rw[e];exact True.intro) hs he (Rp hz hd (rk.merge .nil) Rr)
structure M2(X:Cx)(o:Expr)(m:Str)(apos:Pos)(e f:Expr)(cpos:Pos):Prop where
 base:attributeBase o m X.env (eval o X.env)=eval o X.env
 few:((backTo cpos (starEach [e,f] X.env)).all (λx=>!x.1)&&(backToKw cpos (keywordEach [] X.env)).all (λx=>x.1.isSome)
  && decide (([e,f]:List Expr).length+([]:List Keyword).length+(if ([]:List Keyword).isEmpty then 0 else 1)<30))=true
 line:(apos.endLine == cpos.line)=true
 trees:backTo cpos (starEach [e,f] X.env)=[(false,eval e X.env),(false,eval f X.env)]
def IsD(H:Hp)(a:Addr):Prop:=(∃kvs,Rd H a (.dK kvs))\/∃kvs,Rd H a (.dT kvs)
theorem Zz{X:Cx}{pins:List (Addr×Obj)}{σ:St}{H:Hp}{s:Shared}{a:Addr}(I:Inv X pins σ H s)(d:IsD H a) :
  s.TypeIs (.ref a) "dict"/\(∀b,Value.ref a = .ref b->∃ob,s.heap.get? b=some ob/\ob.dict=none)/\(a == sysModules)=false:=by
 rcases d with ⟨kvs,e⟩|⟨kvs,e⟩
 ·obtain⟨_,hd,vs,_,dd⟩:=yX I.hok e;refine⟨dd.typeIs,λb q=>?_,hd⟩;cases q;obtain⟨ob,_,_,h1,h2,_⟩:=dd;exact⟨ob,h1,h2.2.1⟩
 ·obtain⟨_,hd,xs,_,dd⟩:=Ax I.hok e;refine⟨dd.typeIs,λb q=>?_,hd⟩;cases q;obtain⟨ob,_,_,h1,h2,_⟩:=dd;exact⟨ob,h1,h2.2.1⟩
section
variable{X:Cx}{pins:List (Addr×Obj)}{σ:St}{H:Hp}{s:Shared}{a:Addr}{y d:V}{u r:Value}{o:Option V}{A:Around}{E:Value->Shared->Prop}
theorem Z5{Q:Value->Shared->Prop}(hu:A.units+1<cLine)(I:Inv X pins σ H s)(g:G3 H a y o)(ry:RelV y u)(rd:RelV d r)(h:∀w' s',Inv X pins σ H s'->RelV (o.getD d) w'->Q w' s') :
  wpAny (model X.prog X.w) A (call (.builtin "dict.get") [.ref a,u,r]) Q E s:=by
 rcases g with ⟨kvs,k,e,ey,l⟩|⟨kvs,k,b,e,ey,eb,l⟩
 ·subst ey;obtain⟨z,hd,vs,rel,dd⟩:=yX I.hok e;refine call_meetsIn PySem.F.slot_dict_get dd.typeIs PySem.F.entry_dict_get (PySem.F.args_dict_get_3 _ _ _) (meets_dict_get_default (cI X.prog X.w) a (yI ry) hd r) ⟨_,dd.mapOf,h _ _ (I.tok _) ?_⟩;rw[l];exact(rel.val k).getD rd
 ·subst ey;cases(show u=Value.ref b from ry);obtain⟨z,hd,xs,rel,dd⟩:=Ax I.hok e;refine call_meetsIn PySem.F.slot_dict_get dd.typeIs PySem.F.entry_dict_get (PySem.F.args_dict_get_3 _ _ _) (meetsH_dict_get_default (tupleKind (cI X.prog X.w)) a b hd r) ⟨tupleKind_room_in1 hu,k,xs,yG I.hok eb,dd,h _ _ (I.tok _) ?_⟩;rw[l];exact(rel.val k).getD rd
end
def Xg(td ty tx:TE):TE:=λσ H Q=>td σ H λx H1=>∃a,x = .ref a/\IsD H1 a/\ty σ H1 λy H2=>tx σ H2 λz H3=>∃o,G3 H3 a y o/\Q (o.getD z) H3
section
variable{X:Cx}{o e f:Expr}{apos cpos:Pos}{td ty tx:TE}
theorem Qo(hu:X.A.units+1<cLine)(ho:PE X o td)(he:PE X e ty)(hf:PE X f tx)(m:M2 X o "get" apos e f cpos):PE X (.Call (.Attribute o "get" apos) [e,f] [] cpos) (Xg td ty tx):=by
 intro pins s σ H Q I h;refine wpAny_Call_method m.base m.few m.line PySem.F.plainAttrs_dict PySem.F.slot_dict_get PySem.F.type_dict_get (fc (ho pins s σ H _ I h) λu s1 ⟨x,H1,I1,rx,a,ex,d,q1⟩=>?_);subst ex;obtain rfl:u=Value.ref a:=rx;obtain⟨t1,t2,_⟩:=Zz I1 d;refine⟨t1,t2,?_⟩;rw[m.trees];refine Calls.callWith_builtin rfl (Calls.evalArgs_plain (Calls.spliced_cons (fc (he pins s1 σ H1 _ I1 q1) λiv s2 ⟨y,H2,I2,ry,q2⟩=>
  Calls.spliced_cons (fc (hf pins s2 σ H2 _ I2 q2) λfv s3 ⟨z,H3,I3,rz,ov,g,q3⟩=>Calls.spliced_nil ?_))))
 exact Z5 hu I3 g ry rz λw' s4 I4 Ov=>⟨_,H3,I4,Ov,q3⟩
end
def gw(env:Env):List (Str×NameKind)->List (Str×Addr)->List (Str×Addr)
 | [],acc=>acc
 | (n,k)::r,acc=>if k == .free then gw env r ((n,(env.cells.lookup n).getD 0)::acc) else gw env r acc
theorem za{env:Env}(f:Str×NameKind->List (Str×Addr)->Sem (ForInStep (List (Str×Addr))))
  (hf:∀n k cs,f (n,k) cs=if k == .free then (do let a <-cellOf env n;pure (.yield ((n,a)::cs))) else pure (.yield cs)) :
  ∀(names:List (Str×NameKind)) (acc:List (Str×Addr)),(∀n,(n,NameKind.free)∈names->∃c,env.cells.lookup n=some c)->forIn names acc f=pure (gw env names acc)
 | [],acc,_=>by rw[Qj4];rfl
 | (n,k)::r,acc,h=>by
  have ih:=za f hf r;have hr:∀n,(n,NameKind.free)∈r->∃c,env.cells.lookup n=some c:=λm hm=>h m (Qqq _ hm);rw[Qkz,hf];cases hk:k == NameKind.free with
  | true=>
   have hk':k = .free:=by simpa using hk
   obtain⟨c,hc⟩:=h n (by rw[hk'];exact Qqj);rw[if_pos rfl];unfold cellOf;rw[hc];simp only[pure_bind];rw[ih _ hr]
   conv=>rhs;unfold gw
   rw[if_pos hk,hc]
   rfl
  | false=>
   rw[if_neg (by simp)];simp only[pure_bind];rw[ih _ hr]
   conv=>rhs;unfold gw
   rw[if_neg (by simp[hk])]
theorem rT{scope:Scope}{env:Env}(h:∀n,(n,NameKind.free)∈scope.names->∃c,env.cells.lookup n=some c):closureFor scope env=pure (gw env scope.names []):=by
 simp only[closureFor];rw[za (env:=env) _ (λn k cs=>by cases hk:k == NameKind.free<;>simp[hk]) _ _ h]
 rfl
theorem uq{env:Env}:∀(names:List (Str×NameKind)) (acc:List (Str×Addr)) (x:Str) (c:Addr),(∀n,(n,NameKind.free)∈names->∃c,env.cells.lookup n=some c)->
  (∀y d,acc.lookup y=some d->env.cells.lookup y=some d)->(gw env names acc).lookup x=some c->env.cells.lookup x=some c
 | [],acc,x,c,_,ha,h=>ha x c h
 | (n,k)::r,acc,x,c,hn,ha,h=>by
  have hr:∀n,(n,NameKind.free)∈r->∃c,env.cells.lookup n=some c:=λm hm=>hn m (Qqq _ hm);unfold gw at h;split at h
  ·rename_i hk;have hk':k = .free:=by simpa using hk
   obtain⟨d,hd⟩:=hn n (by rw[hk'];exact Qqj);refine uq r _ x c hr (λy e he=>?_) h;rw[Qxx] at he;cases hy:y == n with
   | true=>
    rw[hy] at he;have e1:y=n:=by simpa using hy
    rw[e1,hd];rw[hd] at he;exact he
   | false=>
    rw[hy] at he;exact ha y e he
  ·exact uq r acc x c hr ha h
theorem vK{env:Env}:∀(names:List (Str×NameKind)) (acc:List (Str×Addr)) (x:Str),(acc.lookup x).isSome=true->((gw env names acc).lookup x).isSome=true
 | [],acc,x,h=>h
 | (n,k)::r,acc,x,h=>by
  unfold gw;split
  ·refine vK r _ x ?_;rw[Qxx];split
   ·rfl
   ·exact h
  ·exact vK r acc x h
theorem uo{env:Env}:∀(names:List (Str×NameKind)) (acc:List (Str×Addr)) (x:Str),(x,NameKind.free)∈names->((gw env names acc).lookup x).isSome=true
 | [],acc,x,h=>nomatch h
 | (n,k)::r,acc,x,h=>by
  unfold gw;rcases Qq2.mp h with e|h
  ·obtain⟨e1,e2⟩:=Prod.mk.inj e;subst e1 e2;rw[if_pos (by rfl)];refine vK r _ x ?_;rw[Qxx];simp
  ·split
   ·exact uo r _ x h
   ·exact uo r acc x h
theorem fX:∀(names:List (Str×NameKind)) (n:Nat) (acc:List (Str×Addr)),cellsFrom n names acc=cellsFrom n names []++acc
 | [],n,acc=>rfl
 | (x,k)::r,n,acc=>by
  unfold cellsFrom;split
  ·rw[fX r (n+1) ((x,n)::acc),fX r (n+1) [(x,n)],Qzq]
   rfl
  ·exact fX r n acc
theorem m5:∀(names:List (Str×NameKind)) (n:Nat) (x:Str) (c:Addr),(x,c)∈cellsFrom n names []->(x,NameKind.cell)∈names
 | [],n,x,c,h=>nomatch h
 | (y,k)::r,n,x,c,h=>by
  unfold cellsFrom at h;split at h
  ·rename_i hk;have hk':k = .cell:=by simpa using hk
   rw[fX] at h;rcases Qww.mp h with h|h
   ·exact Qqq _ (m5 r _ x c h)
   ·have e:=Qq1.mp h;cases e;rw[hk'];exact Qqj
  ·exact Qqq _ (m5 r _ x c h)
theorem oR{α:Type}:∀(l m:List (Str×α)) (x:Str),(l++m).lookup x=match l.lookup x with|some v=>some v|none=>m.lookup x
 | [],m,x=>rfl
 | (k,v)::r,m,x=>by
  rw[List.cons_append,Qxx,Qxx];cases h:x == k with
  | true=>rfl
  | false=>exact oR r m x
theorem p8{α:Type}:∀(l:List (Str×α)) (x:Str),(∀v,(x,v) ∉ l)->l.lookup x=none
 | [],x,_=>rfl
 | (k,v)::r,x,h=>by
  rw[Qxx];cases e:x == k with
  | true=>
   have e':x=k:=by simpa using e
   exact absurd (by rw[e'];exact Qqj) (h v)
  | false=>exact p8 r x λw hw=>h w (Qqq _ hw)
theorem lookup_mem{α:Type}:∀(l:List (Str×α)) (x:Str) (v:α),l.lookup x=some v->(x,v)∈l
 | [],x,v,h=>nomatch h
 | (k,w)::r,x,v,h=>by
  rw[Qxx] at h;cases e:x == k with
  | true=>
   rw[e] at h;cases h;have e':x=k:=by simpa using e
   rw[e'];exact Qqj
  | false=>
   rw[e] at h;exact Qqq _ (lookup_mem r x v h)
theorem iV{α:Type}:∀(l:List (Str×α)) (x:Str) (v:α),(l.map (·.1)).Nodup->(x,v)∈l->l.lookup x=some v
 | [],x,v,_,h=>nomatch h
 | (k,w)::r,x,v,nd,h=>by
  rw[Qxx];have nd':=Qxz.mp nd;rcases Qq2.mp h with e|h
  ·cases e;simp
  ·have hne:¬x=k:=λe=>nd'.1 (by rw[<-e];exact Qwq.mpr ⟨(x,v),h,rfl⟩);have hb:(x == k)=false:=by simpa using hne
   rw[hb];exact iV r x v nd'.2 h
theorem FQ{M:Model}{A:Around}{E:Value->Shared->Prop}{s:Shared}{scope:Scope}{globals:Addr}{cl:List (Str×Addr)}{qual:Str}{outer:Env}{Q:Env->Shared->Prop}
  (hQ:∀h',h'.Ns s.heap.objs.size (λ_=>none)->(∀b o,s.heap.get? b=some o->h'.get? b=some o)->CellsOk h' (s.heap.objs.size+1) (cellsFrom (s.heap.objs.size+1) scope.names [])->
   Q { scope,locals:=s.heap.objs.size,globals,cells:=cellsFrom (s.heap.objs.size+1) scope.names cl,qual,func:=none,code:=outer.code,frame:=outer.frame,builtins:=outer.builtins } { s with heap:=h' }) :
  wpAny M A (newFunctionEnv scope globals cl [] qual none .none (some outer)) Q E s:=by
 simp only[newFunctionEnv,Option.isSome_some,if_true];refine Qqx (wpAny_alloc ?_);refine Qqx (wpAny_layCells _ (λname kind cells=>by cases hkc:kind == NameKind.cell<;>simp[hkc]) _ _ _ _ ?_);have ok:=cellsFrom_ok scope.names (s.heap.push { cls:=.type "dict",data:=.dict #[] }) (s.heap.objs.size+1) [] ⟨λ_ _ hm=>(nomatch hm),List.Pairwise.nil⟩ (by rw[Qz3];exact Qq0 _);rw[Qz3] at ok;rw[show({ s with heap:=s.heap.push { cls:=.type "dict",data:=.dict #[] } }:Shared).heap.objs.size=s.heap.objs.size+1 from Qz3 ..];refine Qqx ?_;rw[Qj4];refine Qq4 (Qq4 (hQ _ ?_ ?_ ?_))
 ·exact(Heap.Ns.new s.heap (.type "dict")).keeps (pushCells_keeps _ _)
 ·exact λb o e=>pushCells_keeps _ _ b o (Qqk _ e)
 ·exact ok
def cxC(X:Cx)(scope:Scope)(N':List Str)(cells:List (Str×Addr))(C:Addr)(s0:Shared)(H0:Hp)(fp:List Addr):Cx:=
 { X with N:=N',s₀:=s0,H₀:=H0,env:=compEnvC scope cells C X.env,outer:=X.stack,stack:=X.stack,ex:=fp,fn:=λx=>decide (scope.names.lookup x=some .cell),pn:=[],xe:=λ_ _=>False }
theorem p7{env:Env}:∀(names:List (Str×NameKind)) (x:Str),
  (names.map λ(n,k)=>if (k == NameKind.free&&env.scope.kind == .function&&env.kindOf n == some .cell) then (n,NameKind.cell) else (n,k)).lookup x =
   (names.lookup x).map λk=>if (k == NameKind.free&&env.scope.kind == .function&&env.kindOf x == some .cell) then NameKind.cell else k
 | [],x=>rfl
 | (n,k)::r,x=>by
  show List.lookup x ((if (k == NameKind.free&&env.scope.kind == .function&&env.kindOf n == some .cell)=true then (n,NameKind.cell) else (n,k))::_)=_;cases hx:x == n with
  | true=>
   have e:x=n:=by simpa using hx
   subst e;simp only[Qxx,hx,Option.map_some];split<;>simp[Qxx]
  | false=>
   simp only[Qxx,hx];rw[<-p7 r x];split<;>simp only[Qxx,hx]
def Rw(names:List (Str×NameKind)):List Str->List Str->Bool
 | _,[]=>true
 | [],_::_=>false
 | x'::N',x::N=>((names.lookup x').isNone||(x' == x&&names.lookup x' == some .free))&&Rw names N' N
theorem GD{names:List (Str×NameKind)}:∀{N' N:List Str},Rw names N' N=true->∀(i:Nat) (x:Str),i<N.length->N'[i]? = some x->(names.lookup x).isSome=true->N[i]? = some x/\names.lookup x=some .free
 | _,[],_,i,x,h,_,_=>absurd h (Nat.not_lt_zero _)
 | [],_::_,h,_,_,_,_,_=>by cases h
 | x'::N',y::N,h,i,x,hi,e,hs=>by
  unfold Rw at h;have h1:=(Qjz.mp h).1;have h2:=(Qjz.mp h).2;cases i with
  | zero=>
   have e':x'=x:=by simpa using e
   subst e';rcases Bool.or_eq_true_iff.mp h1 with q|q
   ·cases z:names.lookup x' with
    | none=>rw[z] at hs;cases hs
    | some k=>rw[z] at q;cases q
   ·have q1:=(Qjz.mp q).1;have q2:=(Qjz.mp q).2;have e1:x'=y:=by simpa using q1
    have e2:names.lookup x'=some .free:=by simpa using q2
    exact⟨by rw[e1];rfl,e2⟩
  | succ i=>exact GD h2 i x (by simpa using hi) (by simpa using e) hs
structure lR(X:Cx)(scope:Scope)(N':List Str):Prop where
 kind:scope.kind = .function
 nd:(scope.names.map (·.1)).Nodup
 free:∀x∈scope.names,x.2 = .free->X.env.kindOf x.1=some .cell\/X.env.kindOf x.1=some .free
 chk:Rw scope.names N' X.N=true
 len:X.N.length<=N'.length
def PIf(X:Cx)(ifs:List Expr)(t:TT):Prop:=
 ∀(pins:List (Addr×Obj)) (s:Shared) (σ:St) (H:Hp) (Q:Bool->Hp->Prop),Inv X pins σ H s->t σ H Q->
  wpAny (model X.prog X.w) X.A (forIn ifs true λc r=>if r=true then do let ok <-isTrue c X.env (eval c X.env);pure (ForInStep.yield ok) else pure (ForInStep.yield r)) (TP X pins σ Q) X.xe s
theorem T8{X:Cx}:PIf X [] (λ_ H Q=>Q true H):=λpins s σ H Q I h=>by
 rw[Qj4];exact Qq4 ⟨H,I,h⟩
theorem T7{X:Cx}{c:Expr}{t:TT}(h:PT X c t):PIf X [c] t:=λpins s σ H Q I hw=>by
 rw[Qkz,if_pos rfl];refine Qqx (Qqx (fc (h pins s σ H Q I hw) λb s' q=>?_));refine Qq4 ?_;show wpAny _ _ (forIn [] b _) _ _ _;rw[Qj4];exact Qq4 q
def tK(n:Nat)(σ:St):St:=σ++List.replicate n none
def tLC(n:Nat)(wi:TI)(g:TG)(tc:TT)(te:TE):TE:=λσ H Q=>wi σ H λJ H1=>∀d,H1 d=none->∃W:Nat->Nat->St->Hp->Prop,(∃m,W 0 m (tK (n - σ.length) σ) (upd H1 d (.lst [])))/\∀i m σ' H',W i m σ' H'->
 (J.stop i H'/\Q (.ref d) H')\/(J.go i H'/\∃N:St->Hp->Prop,(∀σ2 H2,N σ2 H2->∃m',m'<m/\W (i+1) m' σ2 H2)/\∀x H2,J.yld i H' x H2->g x σ' H2 λσ3 H3=>tc σ3 H3 λb H4=>
  if b=true then te σ3 H4 λy H5=>∃ys,H5 d=some (.lst ys)/\ys.length<sizeLine/\N σ3 (upd H5 d (.lst (ys++[y]))) else N σ3 H4)
section
variable{prog:Program}{w:World}{A:Around}{R:Result->Shared->Prop}{s:Shared}
theorem Dk{elt target iter:Expr}{ifs:List Expr}{scope:Scope}{pos:Pos}{it acc:Value}{env:Env}(I:Nat->Shared->Prop)
  (turn:∀n s,I n s->wpAny (model prog w) A (pyNext it) (λr s₁=>match r with
   | none=>R (.ok .next) s₁
   | some v=>wpAny (model prog w) A (letOwnedTupleGo target it v) (λ_ s₁'=>wpAny (model prog w) A (assign target env v) (λ_ s₂=>
     wpAny (model prog w) A (forIn ifs true λc r=>if r=true then do let ok <-isTrue c env (eval c env);pure (ForInStep.yield ok) else pure (ForInStep.yield r)) (λok s₃=>
      if ok=true then wpAny (model prog w) A (eval elt env) (λx s₄=>
       wpAny (model prog w) A (call (.builtin "list.append") [acc,x]) (λ_ s₅=>∃m,m<n/\I m s₅) (λ_ _=>False) s₄) (λ_ _=>False) s₃
      else ∃m,m<n/\I m s₃) (λ_ _=>False) s₂) (λ_ _=>False) s₁') (λ_ _=>False) s₁) (λ_ _=>False) s)
  (n:Nat) (h:I n s) :
  codeAny (model prog w) A (.compLoop (.ListComp elt [⟨target,iter,ifs,0⟩] scope pos) 0 it acc env) R s:=by
 refine codeAny_loop rfl I (λn s hI=>?_) n h;show wpAny _ A ((compTurn (.ListComp elt [⟨target,iter,ifs,0⟩] scope pos) 0 it acc env).onRaise (λx=>do noteFrame x env;theTreesLotGoes x)) _ _ s;refine wpAny_noted ?_;rw[compTurn_list];refine Qqx (wpAny_standAt (Qqx (Qz1 (turn n s hI) (λr s₁ h₁=>?_) λ_ _ h'=>h'.elim)));cases r with
 | none=>exact Qq4 h₁
 | some v=>
  refine Qqx (Qz1 h₁ (λ_ s₁' h₁'=>?_) λ_ _ h'=>h'.elim);refine Qqx (Qz1 h₁' (λ_ s₂ h₂=>Qqx (Qz1 h₂ (λok s₃ h₃=>?_) λ_ _ h'=>h'.elim)) λ_ _ h'=>h'.elim);cases ok with
  | false=>exact Qq4 ⟨rfl,h₃⟩
  | true=>
   exact Qqx (Qqx (Qz1 h₃ (λx s₄ h₄=>Qqx (Qz1 h₄ (λ_ s₅ h₅=>Qq4 (Qq4 ⟨rfl,h₅⟩)) λ_ _ h'=>h'.elim)) λ_ _ h'=>h'.elim))
end
theorem Q7{X:Cx}{scope:Scope}{N':List Str}{pins:List (Addr×Obj)}{σ:St}{H:Hp}{s:Shared}{h':Heap}{fp:List Addr}(ok:lR X scope N')(I:Inv X pins σ H s)(hf:∀b∈fp,rZ X pins H b)(hlt:∀b∈fp,b<s.heap.objs.size)
  (hn:h'.Ns s.heap.objs.size (λ_=>none)) (hk:∀b o,s.heap.get? b=some o->h'.get? b=some o) (co:CellsOk h' (s.heap.objs.size+1) (cellsFrom (s.heap.objs.size+1) scope.names [])) :
  Inv (cxC X scope N' (cellsFrom (s.heap.objs.size+1) scope.names (gw X.env scope.names [])) s.heap.objs.size s H fp) [] (tK (N'.length - σ.length) σ) H { s with heap:=h' }:=by
 have hfree:∀n,(n,NameKind.free)∈scope.names->∃c,X.env.cells.lookup n=some c:=λn hm=>I.ok.has n (ok.free _ hm rfl)
 -- the cells by name
 have oX:∀x c,(cellsFrom (s.heap.objs.size+1) scope.names (gw X.env scope.names [])).lookup x=some c->
   ((x,c)∈cellsFrom (s.heap.objs.size+1) scope.names []/\(cellsFrom (s.heap.objs.size+1) scope.names []).lookup x=some c)\/((cellsFrom (s.heap.objs.size+1) scope.names []).lookup x=none/\X.env.cells.lookup x=some c):=λx c e=>by
  rw[fX,oR] at e;cases q:(cellsFrom (s.heap.objs.size+1) scope.names []).lookup x with
  | some d=>rw[q] at e;cases e;exact .inl ⟨lookup_mem _ _ _ q,rfl⟩
  | none=>rw[q] at e;exact .inr ⟨rfl,uq _ _ x c hfree (λy d h=>by simp at h) e⟩
 have yl:∀x c,(x,c)∈cellsFrom (s.heap.objs.size+1) scope.names []->s.heap.objs.size+1<=c:=λx c h=>(co.empty x c h).2;have Qs:∀x c,X.env.cells.lookup x=some c->c<s.heap.objs.size:=λx c h=>let ⟨v,q⟩:=I.cell x c h;q.lt
 have CQ:∀x,(relabel scope X.env).names.lookup x=(scope.names.lookup x).map λk=>if (k == NameKind.free&&X.env.scope.kind == .function&&X.env.kindOf x == some .cell) then NameKind.cell else k:=λx=>p7 _ _
 have Gj:∀x,(x,NameKind.cell)∈scope.names->∃c,(cellsFrom (s.heap.objs.size+1) scope.names []).lookup x=some c:=λx hx=>by
  have q:=PySem.W.cellsFrom_some scope.names (s.heap.objs.size+1) [] (.inl (iV _ _ _ ok.nd hx));exact Qx6.mp q
 have fpC:∀b∈fp,∀x c,(cellsFrom (s.heap.objs.size+1) scope.names (gw X.env scope.names [])).lookup x=some c->c≠b:=λb hb x c e=>by
  rcases oX x c e with ⟨h1,_⟩|⟨_,h2⟩
  ·have h3:=yl x c h1;have h4:=hlt b hb;rintro rfl;exact absurd (Qwx h4 (Qkw h3)) (Qzk _)
  ·exact(hf b hb).2.2.2.2.1 x c h2
 refine⟨⟨I.ok.mod,ok.kind,I.ok.glob,I.ok.blt,Qq0 _,λx y c h1 h2=>?_,λx hx=>?_,λx c hx e=>?_,I.ok.hd,I.ok.frames,.inl rfl,λb hb=>⟨Qw5 (hlt b hb),λx c e=>fpC b hb x c e⟩,I.bs,Qq6 I.ok.RG I.sz,λb o e hb=>?_,λb hb=>?_,I.stack,I.JD⟩,
  rfl,I.bare,Un.kept hk,⟨_,hn,λi x v e1 e2 e3=>?_⟩,λx c e=>?_,I.hok.fresh (Qq0 _),λx c e=>?_,λp hp=>absurd (show p∈([]:List (Addr×Obj)) from hp) (by simp),I.hok.kept hk,?_⟩
 ·-- one name a cell
  rcases oX x c h1 with ⟨p1,_⟩|⟨_,p2⟩
  ·rcases oX y c h2 with ⟨q1,_⟩|⟨_,q2⟩
   ·exact name_of_addr co.apart p1 q1
   ·exact absurd (Qwx (Qs y c q2) (Qkw (yl x c p1))) (Qzk _)
  ·rcases oX y c h2 with ⟨q1,_⟩|⟨_,q2⟩
   ·exact absurd (Qwx (Qs x c p2) (Qkw (yl y c q1))) (Qzk _)
   ·exact I.ok.inj x y c p2 q2
 ·-- each cell name has one
  show ∃c,(cellsFrom (s.heap.objs.size+1) scope.names (gw X.env scope.names [])).lookup x=some c;have hx:(relabel scope X.env).names.lookup x=some .cell\/(relabel scope X.env).names.lookup x=some .free:=hx;rw[CQ] at hx;cases q:scope.names.lookup x with
  | none=>rw[q] at hx;rcases hx with hx|hx<;>cases hx
  | some k=>
   rw[q] at hx;rw[fX,oR];cases z:(cellsFrom (s.heap.objs.size+1) scope.names []).lookup x with
   | some d=>exact⟨d,rfl⟩
   | none=>
    have hkf:k = .free:=by
     cases k with
     | free=>rfl
     | cell=>obtain⟨c,hc⟩:=Gj x (lookup_mem _ _ _ q);rw[hc] at z;cases z
     | _=>rcases hx with hx|hx<;>simp at hx
    subst hkf;exact Qx6.mp (uo _ _ x (lookup_mem _ _ _ q))
 ·-- its own cells are new
  have hx':scope.names.lookup x=some .cell:=Qw6 hx;rcases oX x c e with ⟨p1,_⟩|⟨p1,_⟩
  ·exact Qkw (yl x c p1)
  ·obtain⟨d,hd⟩:=Gj x (lookup_mem _ _ _ hx');rw[hd] at p1;cases p1
 ·rcases(hf b hb).2.2.2.1 with z|z
  ·exact I.ok.QB b o e z
  ·have h1:=Qq7 e;have h2:=I.ok.RG;exact absurd (Qwx h1 (Qq6 h2 z)) (Qzk _)
 ·intro hm;rcases Qq2.mp (I.Bv b hm) with z|z
  ·exact(hf b hb).2.1 z
  ·exact(hf b hb).2.2.1 z
 ·-- the names
  have hiσ:i<σ.length:=by
   by_cases hi:i<σ.length
   ·exact hi
   ·unfold tK at e2;rw[Qxk (by omega),Qzz] at e2;split at e2<;>cases e2
  have e2':σ[i]? = some (some v):=by
   unfold tK at e2
   rwa [Qw1 hiσ] at e2
  have vis:(scope.names.lookup x).isSome=true:=by
   have e3:(relabel scope X.env).names.lookup x=some .local\/(relabel scope X.env).names.lookup x=some .cell\/(relabel scope X.env).names.lookup x=some .free:=e3;rw[CQ] at e3;cases q:scope.names.lookup x with
   | none=>rw[q] at e3;rcases e3 with z|z|z<;>cases z
   | some k=>rfl
  obtain⟨hN,hfr⟩:=GD ok.chk i x (by rw[<-I.len];exact hiσ) e1 vis;have hm:=lookup_mem _ _ _ hfr;have hkk:=ok.free _ hm rfl;obtain⟨m,hns,hl⟩:=I.loc;obtain⟨u,ru,lk⟩:=hl i x v hN e2' (hkk.elim (λz=>.inr (.inl z)) λz=>.inr (.inr z));refine⟨u,ru,.inr ⟨?_,?_⟩⟩
  ·show(relabel scope X.env).names.lookup x=some .cell\/(relabel scope X.env).names.lookup x=some .free;rw[CQ,hfr];by_cases hc:(NameKind.free == NameKind.free&&X.env.scope.kind == .function&&X.env.kindOf x == some .cell)=true
   ·left;rw[Option.map_some,if_pos hc]
   ·right;rw[Option.map_some,if_neg hc]
  ·rcases lk with ⟨hl1,_⟩|⟨_,c,hc,hcell⟩
   ·rcases hkk with z|z<;>(rw[z] at hl1;cases hl1)
   ·refine⟨c,?_,hcell.keeps hk⟩;show(cellsFrom (s.heap.objs.size+1) scope.names (gw X.env scope.names [])).lookup x=some c;rw[fX,oR];have hno:(cellsFrom (s.heap.objs.size+1) scope.names []).lookup x=none:=p8 _ _ λd hd=>by
     have h1:=iV _ _ _ ok.nd (m5 _ _ _ _ hd);rw[hfr] at h1;cases h1
    rw[hno];obtain⟨d,hd⟩:=Qx6.mp (uo (env:=X.env) scope.names [] x hm);have h2:=uq _ _ x d hfree (λy d h=>by simp at h) hd;rw[hc] at h2;show(gw X.env scope.names []).lookup x=some c;rw[hd,h2]
 ·rcases oX x c e with ⟨p1,_⟩|⟨_,p2⟩
  ·exact⟨_,(co.empty x c p1).1⟩
  ·obtain⟨v,q⟩:=I.cell x c p2;exact⟨v,q.keeps hk⟩
 ·rcases oX x c e with ⟨p1,_⟩|⟨p0,p2⟩
  ·exact .inl (I.hok.fresh (Qkw (yl x c p1)))
  ·rcases I.qe x c p2 with z|⟨_,z⟩
   ·exact .inl z
   ·refine .inr ⟨?_,z⟩;show decide (scope.names.lookup x=some .cell)=false;refine Qw3 λq=>?_;obtain⟨d,hd⟩:=zb (n:=s.heap.objs.size+1) q;rw[p0] at hd;cases hd
 ·show(tK (N'.length - σ.length) σ).length=N'.length;unfold tK;rw[Qqz,Qx3];have h1:=ok.len;have h2:=I.len;omega
abbrev jh(X:Cx)(scope:Scope)(N':List Str)(X':Cx):Prop:=
 ∃(cells:List (Str×Addr)) (C:Addr) (s0:Shared) (H0:{ H:Hp // ∀b qs,X.H₀ b=some (.tab qs)->H b=some (.tab qs) }) (fp:List Addr),X'=cxC X scope N' cells C s0 H0.1 fp
theorem Az{X:Cx}{elt tg iter:Expr}{ifs:List Expr}{scope:Scope}{N':List Str}{pos:Pos}{g:TG}{tc:TT}{te:TE}{use:Option (Value->Sem Unit)}{QQ:Value->Shared->Prop}
  (ok:lR X scope N') (hc:X.calm=true)
  (bg:∀X',jh X scope N' X'->PG X' tg g) (bc:∀X',jh X scope N' X'->PIf X' ifs tc) (be:∀X',jh X scope N' X'->PE X' elt te)
  {pins:List (Addr×Obj)} {s2:Shared} {σ:St} {H2:Hp} {Q:VK} {it:Addr} {fp:List Addr} {tn:Nat->Heap->Prop} {J:It} (I2:Inv X pins σ H2 s2) (T:Turn X.prog X.w X.K tg J fp it tn) (st2:tn 0 s2.heap) (f2:∀b∈fp,rZ X pins H2 b)
  (q:∀d,H2 d=none->∃W:Nat->Nat->St->Hp->Prop,(∃m,W 0 m (tK (N'.length - σ.length) σ) (upd H2 d (.lst [])))/\∀i m σ' H',W i m σ' H'->
   (J.stop i H'/\Q (.ref d) H')\/(J.go i H'/\∃N:St->Hp->Prop,(∀σ2 H2,N σ2 H2->∃m',m'<m/\W (i+1) m' σ2 H2)/\∀x H2,J.yld i H' x H2->g x σ' H2 λσ3 H3=>tc σ3 H3 λb H4=>
    if b=true then te σ3 H4 λy H5=>∃ys,H5 d=some (.lst ys)/\ys.length<sizeLine/\N σ3 (upd H5 d (.lst (ys++[y]))) else N σ3 H4))
  (fin:∀d C m s' H',Inv X pins σ H' s'->Q (.ref d) H'->s'.heap.Ns C m->H' C=none->C≠X.env.locals->X.s₀.heap.objs.size<=C->(∀x c,X.env.cells.lookup x=some c->c≠C)->(∀p∈X.pn++pins,p.1≠C)->
   compPost (model X.prog X.w) X.A X.xe use QQ (.ref d) C (.ok .next) s') :
  wpAny (model X.prog X.w) X.A (newList []) (λacc s₃=>wpAny (model X.prog X.w) X.A (newFunctionEnv scope X.env.globals (gw X.env scope.names []) [] X.env.qual none .none (some X.env)) (λcenv s₄=>
   codeAny (model X.prog X.w) X.A (.compStart (.ListComp elt [⟨tg,iter,ifs,0⟩] scope pos) 0 (.ref it) acc { cenv with scope:=relabel scope X.env }) (compPost (model X.prog X.w) X.A X.xe use QQ acc cenv.locals) s₄) X.xe s₃) X.xe s2:=by
 have hd2:H2 s2.heap.objs.size=none:=I2.fresh;refine Qjv (FQ λh' hns hkeep hco=>?_)
 -- the state behind the list
 obtain⟨W,⟨m0,w0⟩,turn⟩:=q s2.heap.objs.size hd2;have I3:Inv X pins σ (upd H2 s2.heap.objs.size (.lst [])) { s2 with heap:=s2.heap.push { cls:=.type "list",data:=.seq ([]:List Value).toArray } }:=I2.abS (t':=s2.toks) .nil (Qx0 _);have Wb:∀b∈fp,b<s2.heap.objs.size:=λb hb=>by
  obtain⟨o,e,_⟩:=T.obj _ _ st2 b hb;exact Qq7 e
 have f3:∀b∈fp,rZ X pins (upd H2 s2.heap.objs.size (.lst [])) b:=λb hb=>by
  refine⟨?_,(f2 b hb).2⟩;rw[bu (Qw5 (Wb b hb))];exact(f2 b hb).1
 have lt3:∀b∈fp,b<({ s2 with heap:=s2.heap.push { cls:=.type "list",data:=.seq ([]:List Value).toArray } }:Shared).heap.objs.size:=λb hb=>by
  show b<(s2.heap.push _).objs.size;rw[Qz3];exact Nat.lt_succ_of_lt (Wb b hb)
 have st3:tn 0 h':=T.keep _ _ _ st2 λb hb o e=>hkeep b o (Qqk _ e);have I4:=Q7 (fp:=fp) ok I3 f3 lt3 hns hkeep hco;generalize hs3:({ s2 with heap:=s2.heap.push { cls:=.type "list",data:=.seq ([]:List Value).toArray } }:Shared)=s3 at *;have sz3:s3.heap.objs.size=s2.heap.objs.size+1:=by rw[<-hs3];exact Qz3 ..
 generalize hX':cxC X scope N' (cellsFrom (s3.heap.objs.size+1) scope.names (gw X.env scope.names [])) s3.heap.objs.size s3 (upd H2 s2.heap.objs.size (.lst [])) fp=X' at I4;have at':jh X scope N' X':=⟨_,_,_,⟨_,I3.base.tabs⟩,_,hX'.symm⟩;have hg:=bg X' at';have hif:=bc X' at';have he:=be X' at';have eP:X'.prog=X.prog:=by rw[<-hX'];rfl
 have eW:X'.w=X.w:=by rw[<-hX'];rfl
 have eK:X'.K=X.K:=by rw[<-hX'];rfl
 have eA:X'.A=X.A:=by rw[<-hX'];rfl
 have eC:X'.calm=true:=by rw[<-hX'];exact hc
 have eX:X'.xe=λ_ _=>False:=by rw[<-hX'];rfl
 have ePn:X'.pn=[]:=by rw[<-hX'];rfl
 have eEx:X'.ex=fp:=by rw[<-hX'];rfl
 have eL:X'.env.locals=s3.heap.objs.size:=by rw[<-hX'];rfl
 have eFs:X'.fs=frs X.stack:=by rw[<-hX'];rfl
 have ael:compEnvC scope (cellsFrom (s3.heap.objs.size+1) scope.names (gw X.env scope.names [])) s3.heap.objs.size X.env=X'.env:=by rw[<-hX'];rfl
 have eS0:X'.s₀=s3:=by rw[<-hX'];rfl
 have eH0:X'.H₀=upd H2 s2.heap.objs.size (.lst []):=by rw[<-hX'];rfl
 -- what is true of the iterator's objects in the block
 have stat:∀{H':Hp},(∀b∈fp,H' b=none)->∀b∈fp,rZ X' [] H' b:=λ{H'} hn b hb=>by
  refine⟨hn b hb,?_,?_,.inl (by rw[eEx];exact hb),λx c e=>?_,λp hp=>?_⟩
  ·rw[eL];exact Qw5 (lt3 b hb)
  ·have:=I4.ok.Rk b (by rw[eEx];exact hb);exact this
  ·exact(I4.ok.exf b (by rw[eEx];exact hb)).2 x c e
  ·rw[ePn] at hp;exact absurd hp (by simp)
 -- the outer context again
 have back:∀σ' H' s',Inv X' [] σ' H' s'->Inv X pins σ H' s':=λσ' H' s' J'=>by
  have hb:=J'.base;rw[eFs,eEx,eS0,eH0] at hb;have hos:=J'.os;rw[eS0] at hos;have hok:=J'.hok;rw[eP,eW] at hok;exact I3.call' (ch:=fp) hos hb hok J'.bare λb hbm=>⟨(f3 b hbm).2.2.2.1,(f3 b hbm).2.1,(f3 b hbm).2.2.2.2.1,(f3 b hbm).2.2.2.2.2⟩
 have loop:∀s4:Shared,s4 = { s3 with heap:=h' }->codeAny (model X.prog X.w) X.A (.compLoop (.ListComp elt [⟨tg,iter,ifs,0⟩] scope pos) 0 (.ref it) (.ref s2.heap.objs.size) X'.env) (compPost (model X.prog X.w) X.A X.xe use QQ (.ref s2.heap.objs.size) s3.heap.objs.size) s4:=by
  rintro s4 rfl;refine Dk (λn s'=>∃i σ' H',Inv X' [] σ' H' s'/\tn i s'.heap/\(∀b∈fp,H' b=none)/\W i n σ' H') ?_ m0 ⟨0,_,_,I4,st3,λb hb=>(f3 b hb).1,w0⟩;rintro n s5 ⟨i,σ5,H5,I5,st5,fr5,w5⟩;rcases turn i n σ5 H5 w5 with ⟨stop,qn⟩|⟨go,N,hN,step⟩
  ·have td:=T.done X' eP eW eK eC i [] s5 σ5 H5 (λ_ _=>False) I5 (stat fr5) st5 stop;rw[eA] at td;refine fc td λr s6 ⟨hr,I6⟩=>?_;subst hr;obtain⟨mC,hnC,_⟩:=id I6.loc;rw[eL] at hnC;have lc:X.env.locals<s3.heap.objs.size:=by
    have:=I3.lt;exact this
   refine fin _ _ mC s6 H5 (back _ _ _ I6) qn hnC ?_ (Qzy lc) I3.sz (λx c e=>?_) (λp hp=>?_)
   ·have:=I6.free;rw[eL] at this;exact this
   ·obtain⟨v,z⟩:=I3.cell x c e;exact Qw5 z.lt
   ·exact Qw5 (Qq7 (I3.pin p hp).1)
  ·have ti:=T.item X' eP eW eK eC i [] s5 σ5 H5 (λ_ _=>False) I5 (stat fr5) st5 go;rw[eA] at ti;refine fc ti λr s6 ⟨u,hr,h6⟩=>?_;subst hr;refine fc h6 λ_ s7 ⟨x,H7,I7,r7,y7,st7,fr7⟩=>?_;have I7':=I7.pinned (stat fr7) (T.obj _ _ st7);have hg':=hg _ s7 σ5 H7 x u _ I7' r7 (step x H7 y7);rw[eP,eW,eA,eX] at hg';refine fc hg' λ_ s8 ⟨σ8,H8,I8,q8⟩=>?_;have ab6:=hif _ s8 σ8 H8 _ I8 q8;rw[eP,eW,eA,eX] at ab6;refine fc ab6 λb s9 ⟨H9,I9,q9⟩=>?_;have again:∀{σz:St} {Hz:Hp} {sz:Shared},Inv X' ([]++ye fp s7.heap) σz Hz sz->N σz Hz->∃m,m<n/\∃i σ' H',Inv X' [] σ' H' sz/\tn i sz.heap/\(∀b∈fp,H' b=none)/\W i m σ' H':=λ{σz Hz sz} Iz nz=>by
    obtain⟨m',hm,wz⟩:=hN σz Hz nz;refine⟨m',hm,i+1,σz,Hz,Iz.sI,T.keep _ _ _ st7 λb hb o e=>(Iz.pin (b,o) (Qxq _ (Qxq _ (oO hb e)))).1,λb hb=>?_,wz⟩;obtain⟨o,e,d⟩:=T.obj _ _ st7 b hb;exact(Iz.pin (b,o) (Qxq _ (Qxq _ (oO hb e)))).2.1
   cases b with
   | false=>
    rw[if_neg Qw8] at q9 ⊢;exact again I9 q9
   | true=>
    rw[if_pos rfl] at q9 ⊢;have he':=he _ s9 σ8 H9 _ I9 q9;rw[eP,eW,eA,eX] at he';refine fc he' λy sa ⟨yv,Ha,Ia,ra,ys,hys,hlen,qa⟩=>?_;have ap:=Am (X:=X') _ sa σ8 Ha (.ref s2.heap.objs.size) [yv] (.ref s2.heap.objs.size) [y] (λv H'=>v = .non/\N σ8 H') Ia rfl (.cons ra .nil) ⟨_,ys,yv,rfl,rfl,hys,hlen,rfl,qa⟩;rw[eP,eW,eA,eX] at ap;refine fc ap λ_ sb ⟨vb,Hb,Ib,rb,_,nb⟩=>?_;exact again Ib nb
 show codeAny _ _ (.compStart _ 0 (.ref it) (.ref s2.heap.objs.size) (compEnvC scope (cellsFrom (s3.heap.objs.size+1) scope.names (gw X.env scope.names [])) s3.heap.objs.size X.env)) (compPost (model X.prog X.w) X.A X.xe use QQ (.ref s2.heap.objs.size) s3.heap.objs.size) _;rw[ael];exact codeAny_compStart_list (loop _ rfl) (T.self X.A 0 _ _ _ st3 (loop _ rfl))
theorem abB{X:Cx}{elt tg iter:Expr}{ifs:List Expr}{scope:Scope}{N':List Str}{pos:Pos}{wi:TI}{g:TG}{tc:TT}{te:TE}
  (ok:lR X scope N') (hc:X.calm=true) (hi:PI X tg iter wi)
  (bg:∀X',jh X scope N' X'->PG X' tg g) (bc:∀X',jh X scope N' X'->PIf X' ifs tc) (be:∀X',jh X scope N' X'->PE X' elt te)
  (hs:∀x,foldedSetIterable iter X.env x=pure x:=by intro _;rfl) :
  PE X (.ListComp elt [⟨tg,iter,ifs,0⟩] scope pos) (tLC N'.length wi g tc te):=by
 intro pins s σ H Q I h;rw[eval_ListComp];have hfree:∀n,(n,NameKind.free)∈scope.names->∃c,X.env.cells.lookup n=some c:=λn hm=>I.ok.has n (ok.free _ hm rfl);refine wpAny_comprehension_free (use:=none) rfl hs (rT hfree) ok.kind (λx hx hl=>iV _ _ _ ok.nd (by rw[<-hl];exact hx)) ?_;refine fc (hi pins s σ H _ I h) λv s1 h1=>fc h1 λitv s2 h2=>?_;obtain⟨it,fp,tn,J,H2,e,I2,T,st2,f2,q⟩:=h2;subst e;refine Az ok hc bg bc be I2 T st2 f2 q λd C m s' H' I' hq hn hC hL h0 hcell hpin=>?_;refine⟨m,hn,λh' hs'=>?_⟩;have I'':Inv X pins σ H' { s' with heap:=h',toks:=s'.toks }:=I'.turned (it:=C) (λb o hb e=>(hs'.2 b hb).trans e) hC hL (.inr h0) hcell hpin;exact⟨.ref d,H',I'',rfl,hq⟩
theorem Qd{X:Cx}{elt tg iter:Expr}{ifs:List Expr}{scope:Scope}{N':List Str}{pos spos py:Pos}{wi:TI}{g:TG}{tc:TT}{te:TE}{i:Nat}{y:Str}
  (ok:lR X scope N') (hc:X.calm=true) (hi:PI X tg iter wi)
  (bg:∀X',jh X scope N' X'->PG X' tg g) (bc:∀X',jh X scope N' X'->PIf X' ifs tc) (be:∀X',jh X scope N' X'->PE X' elt te)
  (hN:X.N.Nodup) (hy:X.N[i]? = some y) (hx:Loc X.env.scope y)
  (hsw:swapsWith (.ListComp elt [⟨tg,iter,ifs,0⟩] scope pos) (some (.Name y py)) spos.line X.env=pure true)
  (hf:X.fn y=true\/X.env.scope.names.lookup y=some .local:=by first|exact .inl rfl|exact .inr rfl|assumption)
  (hs:∀x,foldedSetIterable iter X.env x=pure x:=by intro _;rfl) :
  PS X (.Assign [.Name y py] (.ListComp elt [⟨tg,iter,ifs,0⟩] scope pos) spos) (SQ (tLC N'.length wi g tc te) (Gn i)):=by
 intro pins s σ H D I h;rw[exec_Assign_Name_used _ _ _ _ hsw];refine Qqx (wpAny_standAt (Qqx ?_));have hfree:∀n,(n,NameKind.free)∈scope.names->∃c,X.env.cells.lookup n=some c:=λn hm=>I.ok.has n (ok.free _ hm rfl);show wpAny _ X.A (do let _ <-comprehension (.ListComp elt [⟨tg,iter,ifs,0⟩] scope pos) scope X.env _ (newList []) false (eval iter X.env) (some (assign (.Name y py) X.env))) _ _ s;refine Qqx (Qz1 (wpAny_comprehension_free (use:=some (assign (.Name y py) X.env)) (Q:=λ_ s'=>SP X pins D .next s') rfl hs (rT hfree) ok.kind (λx hx hl=>iV _ _ _ ok.nd (by rw[<-hl];exact hx)) ?_) (λ_ s' hq=>Qq4 (Qq4 hq)) λ_ _ e=>e);refine fc (hi pins s σ H _ I h) λv s1 h1=>fc h1 λitv s2 h2=>?_;obtain⟨it,fp,tn,J,H2,e,I2,T,st2,f2,q⟩:=h2;subst e;refine Az (Q:=λx H1=>Gn i x σ H1 D.nx) ok hc bg bc be I2 T st2 f2 q λd C m s' H' I' hq hn hC hL h0 hcell hpin=>?_;refine wpAny_assign_Name (Ac (v:=.ref d) I' hN hy hx rfl (λs'' I'' sb=>?_) hf);obtain⟨a,hsb,ha⟩:=sb;have haC:C≠a:=by
  rcases ha with z|z
  ·rw[z];exact hL
  ·exact(hcell y a z).symm
 refine⟨m,hn.sameBut hsb haC,λh' hs'=>?_⟩;have I3:Inv X pins (σ.set i (some (.ref d))) H' { s'' with heap:=h',toks:=s''.toks }:=I''.turned (it:=C) (λb o hb e=>(hs'.2 b hb).trans e) hC hL (.inr h0) hcell hpin;exact⟨_,H',I3,hq⟩
end L2
namespace Ev
open PySem PySem.Spec PyProof.Rows L2
inductive D where
 | non
 | bl (b:Bool)
 | int (i:Int)
 | str (x:List Nat)
 | tup (xs:List D)
 | lst (xs:List D)
 | arr (xs:List D)
 | dct (kvs:List (D×D))
 | jl (kvs:List (D×D))
 | clo (st:Stmt) (ds:List D)
 deriving Inhabited
abbrev Fg:=PySem.W.Frag
def strOf(x:List Nat):Str:=⟨x.toArray⟩
def jX:D->Option Key
 | .int i=>some (.inl i)
 | .str x=>some (.inr (strOf x))
 | _=>none
mutual
def wg:D->Option NK
 | .int i=>some (.num i)
 | .bl b=>some (.num (if b then 1 else 0))
 | .str x=>some (.txt (strOf x))
 | .tup xs=>(Ml xs).map .tup
 | _=>none
def Ml:List D->Option (List NK)
 | []=>some []
 | d::ds=>match wg d,Ml ds with
  | some k,some ks=>some (k::ks)
  | _,_=>none
end
def defName(s:Stmt):Str:=match s with
 | .FunctionDef n _ _ _ _ _ _ _ _ _=>n
 | _=>""
def freeOf(s:Stmt):List Str:=(((aJ s).names.filter (·.2 == .free)).map (·.1)).reverse
def RW(F:Hp)(c:Addr)(v:V):Prop:=∃(o:Obj) (u:HO) (w:Value),F c=some (.j5 o u)/\o.data = .cell (some w)/\RelV v w
def o9(F:Hp):List (Str×Addr)->List V->Prop
 | [],vs=>vs=[]
 | (_,c)::r,vs=>∃v vs',vs=v::vs'/\RW F c v/\o9 F r vs'
def aav(F:Hp)(c:Addr)(q:Str):Prop:=∃(o:Obj) (u:HO) (vs:Array Value) (t:Tok),F c=some (.j5 o u)/\o.data = .fields vs/\vs[1]? = some (.str q t)
def aeK(F:Hp)(st:Stmt)(a:Addr)(vs:List V):Prop:=∃(u:HO) (q:Str) (cl:List (Str×Addr)) (doc pm ctv:Value) (c:Addr),
 F a=some (.j5 (PySem.W.fnMade (defName st) q (fO st) (bY st) (aJ st) cl doc pm c ctv) u)/\aav F c q/\cl.map (·.1)=freeOf st/\(cl.map (·.2)).Nodup/\o9 F cl vs
theorem aM.cells{F F':Hp}(e:aM F F'):∀{cl:List (Str×Addr)} {vs:List V},o9 F cl vs->o9 F' cl vs
 | [],_,h=>h
 | (_,c)::r,_,⟨v,vs',h0,⟨o,u,w,h1,h2⟩,h3⟩=>⟨v,vs',h0,⟨o,u,w,e _ _ h1,h2⟩,aM.cells e h3⟩
def Mark(K:Fg)(st:Stmt)(a:Addr):Prop:=∃(n:Str) (p:Pos) (oc:Value) (od:Option Addr) (fd:FuncData) (sl:Array (Option Value)),st = .Global [n] p/\PySem.W.nsIn K mainGlobals n=some (some (.ref a))/\K.lookup a=some ⟨oc,od,.func fd,sl⟩
def ab0(st:Stmt):Bool:=match st with
 | .Global _ _=>true
 | _=>false
def Clo(K:Fg)(F:Hp)(st:Stmt)(a:Addr)(vs:List V):Prop:=aeK F st a vs/\ab0 st=false\/Mark K st a
theorem aM.clo{K:Fg}{F F':Hp}{st:Stmt}{a:Addr}{vs:List V}(e:aM F F')(h:Clo K F st a vs):Clo K F' st a vs:=by
 rcases h with ⟨h,hg⟩|h
 rotate_left
 ·exact .inr h
 refine .inl ⟨?_,hg⟩;obtain⟨u,q,cl,doc,pm,ctv,c,h1,⟨o,u2,ws,t,h2,h3⟩,h4,h5,h6⟩:=h;exact⟨u,q,cl,doc,pm,ctv,c,e _ _ h1,⟨o,u2,ws,t,e _ _ h2,h3⟩,h4,h5,aM.cells e h6⟩
mutual
def Rep(K:Fg)(F:Hp):D->V->Prop
 | .non,v=>v = .non
 | .bl b,v=>v = .bl b
 | .int i,v=>v = .int i
 | .str x,v=>v = .str (strOf x)/\x.length<=sizeLine
 | .tup xs,v=>xs.length<=sizeLine/\∃a vs,v = .ref a/\kI K F a vs/\bM K F xs vs
 | .lst xs,v=>xs.length<=sizeLine/\∃a vs,v = .ref a/\F a=some (.lst vs)/\bM K F xs vs
 | .arr xs,v=>xs.length<=sizeLine/\∃a vs,v = .ref a/\m8 K F a vs/\bM K F xs vs
 | .dct kvs,v=>kvs.length<=sizeLine/\∃a ks,v = .ref a/\Rd F a (.dK ks)/\dw K F kvs ks
 | .jl kvs,v=>kvs.length<=sizeLine/\∃a ks,v = .ref a/\Rd F a (.dN ks)/\du K F kvs ks
 | .clo st ds,v=>∃a vs,v = .ref a/\Clo K F st a vs/\bM K F ds vs
def bM(K:Fg)(F:Hp):List D->List V->Prop
 | [],vs=>vs=[]
 | d::ds,vs=>∃v r,vs=v::r/\Rep K F d v/\bM K F ds r
def dw(K:Fg)(F:Hp):List (D×D)->List (Key×V)->Prop
 | [],vs=>vs=[]
 | (k,d)::ds,vs=>∃q v r,vs=(q,v)::r/\jX k=some q/\Rep K F d v/\dw K F ds r
def du(K:Fg)(F:Hp):List (D×D)->List (NK×V×V)->Prop
 | [],vs=>vs=[]
 | (k,d)::ds,vs=>∃q u v r,vs=(q,u,v)::r/\wg k=some q/\q.dep<=8/\Rep K F k u/\Rep K F d v/\du K F ds r
end
theorem aM.rd{F F':Hp}{a:Addr}{u:HO}(e:aM F F')(h:Rd F a u):Rd F' a u:=by
 rcases h with h|⟨o,h⟩
 ·exact .inl (e _ _ h)
 ·exact .inr ⟨o,e _ _ h⟩
theorem aM.tupK{K:Fg}{F F':Hp}{a:Addr}{xs:List V}(e:aM F F')(h:kI K F a xs):kI K F' a xs:=by
 rcases h with h|h
 ·exact .inl (aM.rd e h)
 ·exact .inr h
mutual
theorem Rep.mono{K:Fg}{F F':Hp}(e:aM F F'):∀(d:D) (v:V),Rep K F d v->Rep K F' d v
 | .non,_,h=>h
 | .bl _,_,h=>h
 | .int _,_,h=>h
 | .str _,_,h=>h
 | .tup xs,v,h=>by
  obtain⟨z,a,vs,rfl,h1,h2⟩:=h;exact⟨z,a,vs,rfl,aM.tupK e h1,bM.mono e xs vs h2⟩
 | .lst xs,v,h=>by
  obtain⟨z,a,vs,rfl,h1,h2⟩:=h;exact⟨z,a,vs,rfl,e _ _ h1,bM.mono e xs vs h2⟩
 | .arr xs,v,h=>by
  obtain⟨z,a,vs,rfl,h1,h2⟩:=h;exact⟨z,a,vs,rfl,e.seq h1,bM.mono e xs vs h2⟩
 | .dct kvs,v,h=>by
  obtain⟨z,a,ks,rfl,h1,h2⟩:=h;exact⟨z,a,ks,rfl,aM.rd e h1,dw.mono e kvs ks h2⟩
 | .jl kvs,v,h=>by
  obtain⟨z,a,ks,rfl,h1,h2⟩:=h;exact⟨z,a,ks,rfl,aM.rd e h1,du.mono e kvs ks h2⟩
 | .clo st ds,v,h=>by
  obtain⟨a,vs,rfl,h1,h2⟩:=h;exact⟨a,vs,rfl,aM.clo e h1,bM.mono e ds vs h2⟩
theorem bM.mono{K:Fg}{F F':Hp}(e:aM F F'):∀(ds:List D) (vs:List V),bM K F ds vs->bM K F' ds vs
 | [],_,h=>h
 | d::ds,vs,h=>by
  obtain⟨v,r,rfl,h1,h2⟩:=h;exact⟨v,r,rfl,Rep.mono e d v h1,bM.mono e ds r h2⟩
theorem dw.mono{K:Fg}{F F':Hp}(e:aM F F'):∀(ds:List (D×D)) (vs:List (Key×V)),dw K F ds vs->dw K F' ds vs
 | [],_,h=>h
 | (k,d)::ds,vs,h=>by
  obtain⟨q,v,r,rfl,h0,h1,h2⟩:=h;exact⟨q,v,r,rfl,h0,Rep.mono e d v h1,dw.mono e ds r h2⟩
theorem du.mono{K:Fg}{F F':Hp}(e:aM F F'):∀(ds:List (D×D)) (vs:List (NK×V×V)),du K F ds vs->du K F' ds vs
 | [],_,h=>h
 | (k,d)::ds,vs,h=>by
  obtain⟨q,u,v,r,rfl,h0,h3,h4,h1,h2⟩:=h;exact⟨q,u,v,r,rfl,h0,h3,Rep.mono e k u h4,Rep.mono e d v h1,du.mono e ds r h2⟩
end
theorem bM.length{K:Fg}{F:Hp}:∀{ds:List D} {vs:List V},bM K F ds vs->vs.length=ds.length
 | [],_,h=>by cases h;rfl
 | d::ds,vs,h=>by
  obtain⟨v,r,rfl,_,h2⟩:=h;rw[Qqy,Qqy,h2.length]
theorem bM.get{K:Fg}{F:Hp}:∀{ds:List D} {vs:List V} {i:Nat} {d:D},bM K F ds vs->ds[i]? = some d->∃v,vs[i]? = some v/\Rep K F d v
 | [],_,_,_,_,e=>by simp at e
 | c::ds,vs,i,d,h,e=>by
  obtain⟨v,r,rfl,h1,h2⟩:=h;cases i with
  | zero=>simp at e;subst e;exact⟨v,rfl,h1⟩
  | succ i=>obtain⟨u,e1,e2⟩:=bM.get h2 (i:=i) (by simpa using e);exact⟨u,by simpa using e1,e2⟩
theorem bM.append{K:Fg}{F:Hp}:∀{ds es:List D} {vs ws:List V},bM K F ds vs->bM K F es ws->bM K F (ds++es) (vs++ws)
 | [],es,vs,ws,h,g=>by cases h;exact g
 | d::ds,es,vs,ws,h,g=>by
  obtain⟨v,r,rfl,h1,h2⟩:=h;exact⟨v,r++ws,rfl,h1,bM.append h2 g⟩
theorem bM.drop{K:Fg}{F:Hp}:∀(n:Nat) {ds:List D} {vs:List V},bM K F ds vs->bM K F (ds.drop n) (vs.drop n)
 | 0,_,_,h=>h
 | _+1,[],_,h=>by cases h;exact rfl
 | n+1,d::ds,vs,h=>by
  obtain⟨v,r,rfl,_,h2⟩:=h;exact bM.drop n h2
theorem bM.take{K:Fg}{F:Hp}:∀(n:Nat) {ds:List D} {vs:List V},bM K F ds vs->bM K F (ds.take n) (vs.take n)
 | 0,_,_,_=>rfl
 | _+1,[],_,h=>by cases h;exact rfl
 | n+1,d::ds,vs,h=>by
  obtain⟨v,r,rfl,h1,h2⟩:=h;exact⟨v,r.take n,rfl,h1,bM.take n h2⟩
theorem bM.set{K:Fg}{F:Hp}{d:D}{v:V}(hd:Rep K F d v):∀(i:Nat) {ds:List D} {vs:List V},bM K F ds vs->bM K F (ds.set i d) (vs.set i v)
 | _,[],_,h=>by cases h;exact rfl
 | 0,c::ds,vs,h=>by
  obtain⟨u,r,rfl,_,h2⟩:=h;exact⟨v,r,rfl,hd,h2⟩
 | i+1,c::ds,vs,h=>by
  obtain⟨u,r,rfl,h1,h2⟩:=h;exact⟨u,r.set i v,rfl,h1,bM.set hd i h2⟩
theorem bM.one{K:Fg}{F:Hp}{d:D}{v:V}(h:Rep K F d v):bM K F [d] [v]:=⟨v,[],rfl,h,rfl⟩
abbrev Env:=List (Option (Bool×D))
inductive R (α:Type) where
 | ok (a:α) (env:Env)
 | stuck
abbrev Ev:=Env->R D
abbrev fZ:=Env->R Bool
abbrev dD:=Env->R (List D)
structure Cfg where
 K:Fg
 fx:Nat->Option Addr
def j0(K:Fg)(F H:Hp):D->Addr->Prop
 | .lst xs,a=>xs.length<=sizeLine/\∃vs,H a=some (.lst vs)/\bM K F xs vs
 | .dct kvs,a=>kvs.length<=sizeLine/\∃ks,H a=some (.dK ks)/\dw K F kvs ks
 | .jl kvs,a=>kvs.length<=sizeLine/\∃ks,H a=some (.dN ks)/\du K F kvs ks
 | _,_=>False
theorem j0.mono{K:Fg}{F F' H H':Hp}(e:aM F F'){d:D}{a:Addr}(k:H' a=H a)(h:j0 K F H d a):j0 K F' H' d a:=by
 cases d with
 | lst xs=>obtain⟨z,vs,h1,h2⟩:=h;exact⟨z,vs,k.trans h1,bM.mono e _ _ h2⟩
 | dct kvs=>obtain⟨z,ks,h1,h2⟩:=h;exact⟨z,ks,k.trans h1,dw.mono e _ _ h2⟩
 | jl kvs=>obtain⟨z,ks,h1,h2⟩:=h;exact⟨z,ks,k.trans h1,du.mono e _ _ h2⟩
 | _=>exact h
theorem j0.some{K:Fg}{F H:Hp}{d:D}{a:Addr}(h:j0 K F H d a):∃o,H a=some o:=by
 cases d with
 | lst xs=>obtain⟨z,vs,h1,h2⟩:=h;exact⟨_,h1⟩
 | dct kvs=>obtain⟨z,ks,h1,h2⟩:=h;exact⟨_,h1⟩
 | jl kvs=>obtain⟨z,ks,h1,h2⟩:=h;exact⟨_,h1⟩
 | _=>exact h.elim
def gU(K:Fg)(F H:Hp)(d:D)(v:V):Prop:=Rep K F d v\/∃a,v = .ref a/\j0 K F H d a
theorem gU.rep{K:Fg}{F H:Hp}{d:D}{v:V}(s:aM F H)(h:gU K F H d v):Rep K H d v:=by
 rcases h with h|⟨a,rfl,h⟩
 ·exact Rep.mono s d v h
 ·cases d with
  | lst xs=>obtain⟨z,vs,h1,h2⟩:=h;exact⟨z,a,vs,rfl,h1,bM.mono s _ _ h2⟩
  | dct kvs=>obtain⟨z,ks,h1,h2⟩:=h;exact⟨z,a,ks,rfl,.inl h1,dw.mono s _ _ h2⟩
  | jl kvs=>obtain⟨z,ks,h1,h2⟩:=h;exact⟨z,a,ks,rfl,.inl h1,du.mono s _ _ h2⟩
  | _=>exact h.elim
theorem gU.lst{K:Fg}{F H:Hp}{xs:List D}{v:V}(s:aM F H)(h:gU K F H (.lst xs) v):xs.length<=sizeLine/\∃a vs,v = .ref a/\H a=some (.lst vs)/\bM K F xs vs:=by
 rcases h with ⟨z,a,vs,rfl,h1,h2⟩|⟨a,rfl,z,vs,h1,h2⟩
 ·exact⟨z,a,vs,rfl,s _ _ h1,h2⟩
 ·exact⟨z,a,vs,rfl,h1,h2⟩
theorem gU.arr{K:Fg}{F H:Hp}{xs:List D}{v:V}(s:aM F H)(h:gU K F H (.arr xs) v):xs.length<=sizeLine/\∃a vs,v = .ref a/\m8 K H a vs/\bM K F xs vs:=by
 rcases h with ⟨z,a,vs,rfl,h1,h2⟩|⟨a,rfl,h⟩
 ·exact⟨z,a,vs,rfl,s.seq h1,h2⟩
 ·exact h.elim
theorem gU.tup{K:Fg}{F H:Hp}{xs:List D}{v:V}(s:aM F H)(h:gU K F H (.tup xs) v):xs.length<=sizeLine/\∃a vs,v = .ref a/\kI K H a vs/\kI K F a vs/\bM K F xs vs:=by
 rcases h with ⟨z,a,vs,rfl,h1,h2⟩|⟨a,rfl,h⟩
 ·exact⟨z,a,vs,rfl,aM.tupK s h1,h1,h2⟩
 ·exact h.elim
theorem gU.int{K:Fg}{F H:Hp}{i:Int}{v:V}(h:gU K F H (.int i) v):v = .int i:=by
 rcases h with h|⟨a,rfl,h⟩
 ·exact h
 ·exact h.elim
theorem gU.bl{K:Fg}{F H:Hp}{i:Bool}{v:V}(h:gU K F H (.bl i) v):v = .bl i:=by
 rcases h with h|⟨a,rfl,h⟩
 ·exact h
 ·exact h.elim
theorem gU.non{K:Fg}{F H:Hp}{v:V}(h:gU K F H .non v):v = .non:=by
 rcases h with h|⟨a,rfl,h⟩
 ·exact h
 ·exact h.elim
theorem gU.str{K:Fg}{F H:Hp}{x:List Nat}{v:V}(h:gU K F H (.str x) v):v = .str (strOf x)/\x.length<=sizeLine:=by
 rcases h with h|⟨a,rfl,h⟩
 ·exact h
 ·exact h.elim
structure Rel(C:Cfg)(Pr F:Hp)(env:Env)(σ:L2.St)(H:Hp):Prop where
 pr:aM Pr H
 fr:aM F H
 len:env.length=σ.length
 val:∀(i:Nat) (d:D),env[i]? = some (some (false,d))->∃v,σ[i]? = some (some v)/\Rep C.K F d v
 own:∀(i:Nat) (d:D),env[i]? = some (some (true,d))->∃a,σ[i]? = some (some (V.ref a))/\j0 C.K F H d a/\F a=none/\Pr a=none
 apart:∀(i j:Nat) (d e:D) (a:Addr),env[i]? = some (some (true,d))->env[j]? = some (some (true,e))->σ[i]? = some (some (V.ref a))->σ[j]? = some (some (V.ref a))->i=j
 dj:∀b o,F b=some o->Pr b=none
 fix:∀i a,C.fx i=some a->σ[i]? = some (some (V.ref a))
theorem lC{H:Hp}{a:Addr}{o:HO}(h:H a=none):aM H (upd H a o):=λb u e=>by
 rw[bu (cL e h)];exact e
theorem Rel.new{C:Cfg}{Pr F:Hp}{env:Env}{σ:L2.St}{H:Hp}{a:Addr}{o:HO}(r:Rel C Pr F env σ H)(h:H a=none):Rel C Pr (upd F a o) env σ (upd H a o)/\aM F (upd F a o):=by
 have hF:F a=none:=r.fr.free h;have s1:aM F (upd F a o):=lC hF;refine⟨⟨r.pr.trans (lC h),λb u e=>?_,r.len,λi d e1=>?_,λi d e1=>?_,r.apart,λb u e=>?_,r.fix⟩,s1⟩
 ·by_cases hb:b=a
  ·subst hb;rw[aR] at e ⊢;exact e
  ·rw[bu hb] at e ⊢;exact r.fr b u e
 ·obtain⟨v,h1,h2⟩:=r.val i d e1;exact⟨v,h1,Rep.mono s1 d v h2⟩
 ·obtain⟨b,h1,h2,h3,h4⟩:=r.own i d e1;obtain⟨u,hu⟩:=h2.some;have hb:b≠a:=cL hu h;exact⟨b,h1,h2.mono s1 (bu hb),by rw[bu hb];exact h3,h4⟩
 ·by_cases hb:b=a
  ·subst hb;exact r.pr.free h
  ·rw[bu hb] at e;exact r.dj b u e
theorem Rel.fresh{C:Cfg}{Pr F:Hp}{env:Env}{σ:L2.St}{H:Hp}{a:Addr}{o:HO}(r:Rel C Pr F env σ H)(h:H a=none):Rel C Pr F env σ (upd H a o):=by refine⟨r.pr.trans (lC h),r.fr.trans (lC h),r.len,r.val,λi d e1=>?_,r.apart,r.dj,r.fix⟩;obtain⟨b,h1,h2,h3,h4⟩:=r.own i d e1;obtain⟨u,hu⟩:=h2.some;have hb:b≠a:=cL hu h;exact⟨b,h1,h2.mono (aM.refl F) (bu hb),h3,h4⟩
theorem Rel.aside{C:Cfg}{Pr F:Hp}{env:Env}{σ:L2.St}{H:Hp}{a:Addr}{o:HO}(r:Rel C Pr F env σ H)(h:H a=none):Rel C (upd Pr a o) F env σ (upd H a o):=by
 have r':=r.fresh (o:=o) h;have hF:F a=none:=r.fr.free h;refine⟨λb u e=>?_,r'.fr,r.len,r.val,λi d e1=>?_,r.apart,λb u e=>?_,r.fix⟩
 ·by_cases hb:b=a
  ·subst hb;rw[aR] at e ⊢;exact e
  ·rw[bu hb] at e ⊢;exact r.pr b u e
 ·obtain⟨b,h1,h2,h3,h4⟩:=r'.own i d e1;obtain⟨b',h1',h2',_⟩:=r.own i d e1;rw[h1] at h1';cases h1';obtain⟨u,hu⟩:=h2'.some;have hb:b≠a:=cL hu h;exact⟨b,h1,h2,h3,by rw[bu hb];exact h4⟩
 ·have hb:b≠a:=λz=>by rw[z,hF] at e;cases e
  rw[bu hb];exact r.dj b u e
theorem Rel.turn{C:Cfg}{Pr F:Hp}{env:Env}{σ:L2.St}{H:Hp}{a:Addr}{o u:HO}(r:Rel C Pr F env σ H)(h:Pr a=some o):Rel C (upd Pr a u) F env σ (upd H a u):=by
 have hF:F a=none:=by
  cases e:F a with
  | none=>rfl
  | some w=>have:=r.dj a w e;rw[h] at this;cases this
 refine⟨λb w e=>?_,λb w e=>?_,r.len,r.val,λi d e1=>?_,r.apart,λb w e=>?_,r.fix⟩
 ·by_cases hb:b=a
  ·subst hb;rw[aR] at e ⊢;exact e
  ·rw[bu hb] at e ⊢;exact r.pr b w e
 ·have hb:b≠a:=λz=>by rw[z,hF] at e;cases e
  rw[bu hb];exact r.fr b w e
 ·obtain⟨b,h1,h2,h3,h4⟩:=r.own i d e1;have hb:b≠a:=λz=>by rw[z,h] at h4;cases h4
  exact⟨b,h1,h2.mono (aM.refl F) (bu hb),h3,by rw[bu hb];exact h4⟩
 ·have hb:b≠a:=λz=>by rw[z,hF] at e;cases e
  rw[bu hb];exact r.dj b w e
theorem Rel.less{C:Cfg}{Pr Pr' F:Hp}{env:Env}{σ:L2.St}{H:Hp}(r:Rel C Pr F env σ H)(s:aM Pr' Pr):Rel C Pr' F env σ H:=
 ⟨s.trans r.pr,r.fr,r.len,r.val,λi d e=>let ⟨b,h1,h2,h3,h4⟩:=r.own i d e;⟨b,h1,h2,h3,s.free h4⟩,r.apart,λb o e=>s.free (r.dj b o e),r.fix⟩
theorem Rel.freeze{C:Cfg}{Pr F:Hp}{env:Env}{σ:L2.St}{H:Hp}(r:Rel C Pr F env σ H){i:Nat}{d:D}(h:env[i]? = some (some (true,d))) :
  ∃(F':Hp) (v:V),Rel C Pr F' (env.set i (some (false,d))) σ H/\aM F F'/\σ[i]? = some (some v)/\Rep C.K F' d v:=by
 obtain⟨a,h1,h2,h3,h4⟩:=r.own i d h;obtain⟨o,ho⟩:=h2.some;have s1:aM F (upd F a o):=lC h3;have hi:i<env.length:=(Qqv.mp h).1;have rep:Rep C.K (upd F a o) d (.ref a):=by
  cases d with
  | lst xs=>obtain⟨z,vs,g1,g2⟩:=h2;rw[ho] at g1;cases g1;exact⟨z,a,vs,rfl,aR,bM.mono s1 _ _ g2⟩
  | dct kvs=>obtain⟨z,ks,g1,g2⟩:=h2;rw[ho] at g1;cases g1;exact⟨z,a,ks,rfl,.inl aR,dw.mono s1 _ _ g2⟩
  | jl kvs=>obtain⟨z,ks,g1,g2⟩:=h2;rw[ho] at g1;cases g1;exact⟨z,a,ks,rfl,.inl aR,du.mono s1 _ _ g2⟩
  | _=>exact h2.elim
 refine⟨upd F a o,.ref a,⟨r.pr,λb u e=>?_,by rw[Qxy];exact r.len,λj e he=>?_,λj e he=>?_,λj k e f b hj hk g1 g2=>?_,λb u e=>?_,r.fix⟩,s1,h1,rep⟩
 ·by_cases hb:b=a
  ·subst hb;rw[aR] at e;cases e;exact ho
  ·rw[bu hb] at e;exact r.fr b u e
 ·by_cases hj:j=i
  ·subst hj;rw[Qwv hi] at he;cases he;exact⟨_,h1,rep⟩
  ·rw[Qq8 (Ne.symm hj)] at he;obtain⟨v,g1,g2⟩:=r.val j e he;exact⟨v,g1,Rep.mono s1 e v g2⟩
 ·by_cases hj:j=i
  ·subst hj;rw[Qwv hi] at he;cases he
  ·rw[Qq8 (Ne.symm hj)] at he;obtain⟨b,g1,g2,g3,g4⟩:=r.own j e he;have hb:b≠a:=λz=>hj (r.apart j i e d a he h (by rw[<-z];exact g1) h1);exact⟨b,g1,g2.mono s1 rfl,by rw[bu hb];exact g3,g4⟩
 ·have nj:j≠i:=λz=>by subst z;rw[Qwv hi] at hj;cases hj
  have nk:k≠i:=λz=>by subst z;rw[Qwv hi] at hk;cases hk
  rw[Qq8 (Ne.symm nj)] at hj;rw[Qq8 (Ne.symm nk)] at hk;exact r.apart j k e f b hj hk g1 g2
 ·by_cases hb:b=a
  ·subst hb;exact h4
  ·rw[bu hb] at e;exact r.dj b u e
def tE(C:Cfg)(ev:Ev):TE:=λσ H Q=>∃(Pr F:Hp) (env env':Env) (d:D),Rel C Pr F env σ H/\ev env = .ok d env'/\
 ∀v H' F',Rel C Pr F' env' σ H'->aM F F'->Rep C.K F' d v->Q v H'
def tRd(C:Cfg)(ev:Ev):TE:=λσ H Q=>∃(Pr F:Hp) (env env':Env) (d:D),Rel C Pr F env σ H/\ev env = .ok d env'/\
 ∀v H' F',Rel C Pr F' env' σ H'->aM F F'->gU C.K F' H' d v->Q v H'
def tT(C:Cfg)(ev:fZ):TT:=λσ H Q=>∃(Pr F:Hp) (env env':Env) (b:Bool),Rel C Pr F env σ H/\ev env = .ok b env'/\
 ∀H' F',Rel C Pr F' env' σ H'->aM F F'->Q b H'
def tA(C:Cfg)(ev:dD):TA:=λσ H Q=>∃(Pr F:Hp) (env env':Env) (ds:List D),Rel C Pr F env σ H/\ev env = .ok ds env'/\
 ∀vs H' F',Rel C Pr F' env' σ H'->aM F F'->bM C.K F' ds vs->Q vs H'
def PX(X:Cx)(C:Cfg)(e:Expr)(ev:Ev):Prop:=PE X e (tE C ev)
def RN(X:Cx)(C:Cfg)(e:Expr)(ev:Ev):Prop:=PE X e (tRd C ev)
def PXT(X:Cx)(C:Cfg)(e:Expr)(ev:fZ):Prop:=PT X e (tT C ev)
def RP(X:Cx)(C:Cfg)(es:List Expr)(ev:dD):Prop:=PA X es (tA C ev)
theorem _root_.L2.PE.imp{X:Cx}{e:Expr}{t t':TE}(h:PE X e t)(i:∀σ H Q,t' σ H Q->t σ H Q):PE X e t':=λpins s σ H Q I q=>h pins s σ H Q I (i σ H Q q)
theorem _root_.L2.PT.imp{X:Cx}{e:Expr}{t t':TT}(h:PT X e t)(i:∀σ H Q,t' σ H Q->t σ H Q):PT X e t':=λpins s σ H Q I q=>h pins s σ H Q I (i σ H Q q)
theorem _root_.L2.PW.imp{X:Cx}{e:Expr}{t t':TT}(h:PW X e t)(i:∀σ H Q,t' σ H Q->t σ H Q):PW X e t':=λwhole pins s σ H Q I q=>h whole pins s σ H Q I (i σ H Q q)
theorem _root_.L2.PA.imp{X:Cx}{e:List Expr}{t t':TA}(h:PA X e t)(i:∀σ H Q,t' σ H Q->t σ H Q):PA X e t':=λpos pins s σ H Q I q=>h pos pins s σ H Q I (i σ H Q q)
theorem _root_.L2.PS.imp{X:Cx}{e:Stmt}{t t':TS}(h:PS X e t)(i:∀D σ H,t' D σ H->t D σ H):PS X e t':=λpins s σ H D I q=>h pins s σ H D I (i D σ H q)
theorem _root_.L2.DK.imp{X:Cx}{e:List Stmt}{t t':TS}(h:DK X e t)(i:∀D σ H,t' D σ H->t D σ H):DK X e t':=λpins s σ H D I q=>h pins s σ H D I (i D σ H q)
def bindR{α β:Type}(x:R α)(f:α->Env->R β):R β:=match x with
 | .ok a env=>f a env
 | .stuck=>.stuck
def ig{α:Type}(o:Option α)(env:Env):R α:=match o with
 | some a=>.ok a env
 | none=>.stuck
theorem aU{α β:Type}{x:R α}{f:α->Env->R β}{b:β}{env':Env}(h:bindR x f = .ok b env'):∃a aK,x = .ok a aK/\f a aK = .ok b env':=by
 cases x with
 | ok a aK=>exact⟨a,aK,rfl,h⟩
 | stuck=>cases h
theorem fG{α:Type}{o:Option α}{env env':Env}{a:α}(h:ig o env = .ok a env'):o=some a/\env'=env:=by
 cases o with
 | some b=>cases h;exact⟨rfl,rfl⟩
 | none=>cases h
section
variable{X:Cx}{C:Cfg}{pos:Pos}
def aO(i:Nat):Ev:=λenv=>match env[i]? with
 | some (some (false,d))=>.ok d env
 | some (some (true,d))=>.ok d (env.set i (some (false,d)))
 | _=>.stuck
theorem Xz(i:Nat){x:Str}(hN:X.N[i]? = some x)(hv:uz X.env.scope x)(hd:lK x:=by decide)(hcd:tW x:=by decide):PX X C (.Name x pos) (aO i):=by
 refine(iR hN hv hd hcd).imp λσ H Q h=>?_;obtain⟨Pr,F,env,env',d,r,e,q⟩:=h;unfold aO at e;split at e
 ·rename_i d' hd';cases e;obtain⟨v,h1,h2⟩:=r.val i d hd';exact⟨v,h1,q v H F r (aM.refl F) h2⟩
 ·rename_i d' hd';cases e;obtain⟨F',v,r',s',h1,h2⟩:=r.freeze hd';exact⟨v,h1,q v H F' r' s' h2⟩
 ·cases e
theorem PX.b{e:Expr}{ev:Ev}(h:PX X C e ev):RN X C e ev:=PE.imp h λσ H Q hq=>by
 obtain⟨Pr,F,env,env',d,r,e,q⟩:=hq;exact⟨Pr,F,env,env',d,r,e,λv H' F' r' s' p'=>q v H' F' r' s' (.inl p')⟩
def bw(i:Nat):Ev:=λenv=>match env[i]? with
 | some (some (_,d))=>.ok d env
 | _=>.stuck
theorem Rel.rd{Pr F:Hp}{env:Env}{σ:L2.St}{H:Hp}(r:Rel C Pr F env σ H){i:Nat}{o:Bool}{d:D}(h:env[i]? = some (some (o,d))):∃v,σ[i]? = some (some v)/\gU C.K F H d v:=by
 cases o with
 | true=>obtain⟨a,h1,h2,_⟩:=r.own i d h;exact⟨_,h1,.inr ⟨a,rfl,h2⟩⟩
 | false=>obtain⟨v,h1,h2⟩:=r.val i d h;exact⟨v,h1,.inl h2⟩
theorem TF(i:Nat){x:Str}(hN:X.N[i]? = some x)(hv:uz X.env.scope x)(hd:lK x:=by decide)(hcd:tW x:=by decide):RN X C (.Name x pos) (bw i):=by
 refine(iR hN hv hd hcd).imp λσ H Q h=>?_;obtain⟨Pr,F,env,env',d,r,e,q⟩:=h;unfold bw at e;split at e
 ·rename_i o' d' hd';cases e;obtain⟨v,h1,h2⟩:=r.rd hd';exact⟨v,h1,q v H F r (aM.refl F) h2⟩
 ·cases e
def jG(d:D):Ev:=λenv=>.ok d env
theorem XJ{i:Int}{j:Nat}:PX X C (.Constant (.int i) j pos) (jG (.int i)):=Qk.imp λσ H Q h=>by
 obtain⟨Pr,F,env,env',d,r,e,q⟩:=h;cases e;exact q _ _ F r (aM.refl F) rfl
theorem abu{b:Bool}{j:Nat}:PX X C (.Constant (.bool b) j pos) (jG (.bl b)):=abC.imp λσ H Q h=>by
 obtain⟨Pr,F,env,env',d,r,e,q⟩:=h;cases e;exact q _ _ F r (aM.refl F) rfl
theorem XF{j:Nat}:PX X C (.Constant .none j pos) (jG .non):=Yi.imp λσ H Q h=>by
 obtain⟨Pr,F,env,env',d,r,e,q⟩:=h;cases e;exact q _ _ F r (aM.refl F) rfl
def ak:dD:=λenv=>.ok [] env
def aa(a:Ev)(r:dD):dD:=λenv=>bindR (a env) λd aK=>bindR (r aK) λds dU=>.ok (d::ds) dU
theorem JR:RP X C [] ak:=yh.imp λσ H Q h=>by
 obtain⟨Pr,F,env,env',d,r,e,q⟩:=h;cases e;exact q _ _ F r (aM.refl F) rfl
theorem Fj{e:Expr}{es:List Expr}{a:Ev}{r:dD}(ha:PX X C e a)(hr:RP X C es r)(hs:starEach (e::es) X.env=(false,eval e X.env)::starEach es X.env:=by rfl):RP X C (e::es) (aa a r):=
 (jx ha hr hs).imp λσ H Q h=>by
  obtain⟨Pr,F,env,env',ds,rl,e,q⟩:=h;obtain⟨d1,aK,e1,e2⟩:=aU e;obtain⟨ds2,dU,e3,e4⟩:=aU e2;cases e4;refine⟨Pr,F,env,aK,d1,rl,e1,λv H1 F1 r1 s1 p1=>?_⟩;refine⟨Pr,F1,aK,env',ds2,r1,e3,λvs H2 F2 r2 s2 p2=>?_⟩;exact q _ H2 F2 r2 (s1.trans s2) ⟨v,vs,rfl,Rep.mono s2 d1 v p1,p2⟩
def bN(r:dD):Ev:=λenv=>bindR (r env) λds aK=>if ds.length<=sizeLine then .ok (.tup ds) aK else .stuck
def cG(r:dD):Ev:=λenv=>bindR (r env) λds aK=>if ds.length<=sizeLine then .ok (.lst ds) aK else .stuck
def aQ(g:D->D->Option D)(a b:Ev):Ev:=λenv=>bindR (a env) λx aK=>bindR (b aK) λy dU=>ig (g x y) dU
def U4(g:D->Option D)(a:Ev):Ev:=λenv=>bindR (a env) λx aK=>ig (g x) aK
def pG(C:Cfg)(r:R2)(g:D->D->Option D):Prop:=∀(Pr F:Hp) (env:Env) (σ:L2.St) (H:Hp) (x y d:D) (vx vy:V) (Q:VK),Rel C Pr F env σ H->gU C.K F H x vx->gU C.K F H y vy->g x y=some d->
 (∀v H' F',Rel C Pr F' env σ H'->aM F F'->Rep C.K F' d v->Q v H')->r vx vy H Q
def UnD(C:Cfg)(r:V->Hp->VK->Prop)(g:D->Option D):Prop:=∀(Pr F:Hp) (env:Env) (σ:L2.St) (H:Hp) (x d:D) (vx:V) (Q:VK),Rel C Pr F env σ H->gU C.K F H x vx->g x=some d->
 (∀v H' F',Rel C Pr F' env σ H'->aM F F'->Rep C.K F' d v->Q v H')->r vx H Q
theorem Ds{r:R2}{g:D->D->Option D}{a b:Ev}(o:pG C r g)(σ:L2.St)(H:Hp)(Q:VK)(h:tE C (aQ g a b) σ H Q):Xe r (tE C a) (tRd C b) σ H Q:=by obtain⟨Pr,F,env,env',d,rl,e,q⟩:=h;obtain⟨x,aK,e1,e2⟩:=aU e;obtain⟨y,dU,e3,e4⟩:=aU e2;obtain⟨e5,rfl⟩:=fG e4;refine⟨Pr,F,env,aK,x,rl,e1,λvx H1 F1 r1 s1 p1=>⟨Pr,F1,aK,env',y,r1,e3,λvy H2 F2 r2 s2 p2=>?_⟩⟩;exact o Pr F2 env' σ H2 x y d vx vy Q r2 (.inl (Rep.mono s2 x vx p1)) p2 e5 λv H3 F3 r3 s3 p3=>q v H3 F3 r3 ((s1.trans s2).trans s3) p3
def aB(g:D->D->Option D)(i:Nat)(b:Ev):Ev:=λenv=>match env[i]? with
 | some (some (_,_))=>bindR (b env) λy dU=>(match dU[i]? with
  | some (some (_,x))=>ig (g x y) dU
  | _=>.stuck)
 | _=>.stuck
theorem uv{r:R2}{g:D->D->Option D}{i:Nat}{b:Ev}(o:pG C r g)(σ:L2.St)(H:Hp)(Q:VK)(h:tE C (aB g i b) σ H Q):Xe r (SM i) (tRd C b) σ H Q:=by
 obtain⟨Pr,F,env,env',d,rl,e,q⟩:=h;unfold aB at e;split at e
 ·rename_i o0 d0 h0;obtain⟨v,hv,_⟩:=rl.rd h0;obtain⟨y,dU,e1,e2⟩:=aU e;split at e2
  ·rename_i o2 x h2;obtain⟨e5,rfl⟩:=fG e2;refine⟨v,hv,Pr,F,env,env',y,rl,e1,λvy H2 F2 r2 s2 p2=>?_⟩;obtain⟨v',hv',p⟩:=r2.rd h2;rw[hv] at hv';cases hv';exact o Pr F2 env' σ H2 x y d v vy Q r2 p p2 e5 λv H3 F3 r3 s3 p3=>q v H3 F3 r3 (s2.trans s3) p3
  ·cases e2
 ·cases e
theorem abq{op:Operator}{r:R2}{g:D->D->Option D}{x y:Expr}{a b:Ev}(ho:m9 X (binaryOp op) r)(o:pG C r g)(ha:PX X C x a)(hb:RN X C y b):PX X C (.BinOp x op y pos) (aQ g a b):=
 (V2 ho ha hb).imp (Ds o)
theorem XD{op:Operator}{r:R2}{g:D->D->Option D}{y:Expr}{b:Ev}{px:Pos}(i:Nat){x:Str}(hN:X.N[i]? = some x)(hv:uz X.env.scope x)(ho:m9 X (binaryOp op) r)(o:pG C r g)(hb:RN X C y b)
  (hd:lK x:=by decide) (hcd:tW x:=by decide):PX X C (.BinOp (.Name x px) op y pos) (aB g i b):=
 (V2 ho (iR hN hv hd hcd) hb).imp (uv o)
theorem XN{op:CmpOp}{r:R2}{g:D->D->Option D}{x y:Expr}{a b:Ev}(ho:m9 X (compareOp op) r)(o:pG C r g)(ha:PX X C x a)(hb:RN X C y b)(hm:behindInMarks op y=false):PX X C (.Compare x [op] [y] pos) (aQ g a b):=
 (J0 ho ha hb hm).imp (Ds o)
theorem abo{op:UnaryOp}{r:V->Hp->VK->Prop}{g:D->Option D}{x:Expr}{a:Ev}(ho:UnR X (unaryOp op) r)(o:UnD C r g)(ha:PX X C x a):PX X C (.UnaryOp op x pos) (U4 g a):=
 (V1 ho ha).imp λσ H Q h=>by
  obtain⟨Pr,F,env,env',d,rl,e,q⟩:=h;obtain⟨x,aK,e1,e2⟩:=aU e;obtain⟨e3,rfl⟩:=fG e2;exact⟨Pr,F,env,env',x,rl,e1,λvx H1 F1 r1 s1 p1=>o Pr F1 env' σ H1 x d vx Q r1 (.inl p1) e3 λv H3 F3 r3 s3 p3=>q v H3 F3 r3 (s1.trans s3) p3⟩
def eF(a:Ev):fZ:=λenv=>bindR (a env) λd aK=>match d with
 | .bl b=>.ok b aK
 | _=>.stuck
theorem Oa{a:Ev}{σ:L2.St}{H:Hp}{Q:Bool->Hp->Prop}(h:tT C (eF a) σ H Q):tE C a σ H λx H'=>∃k,x = .bl k/\Q k H':=by
 obtain⟨Pr,F,env,env',b,rl,e,q⟩:=h;obtain⟨d,aK,e1,e2⟩:=aU e;refine⟨Pr,F,env,aK,d,rl,e1,λv H1 F1 r1 s1 p1=>?_⟩;cases d with
 | bl c=>cases e2;exact⟨_,p1,q H1 F1 r1 s1⟩
 | _=>cases e2
theorem Tn{op:CmpOp}{r:R2}{g:D->D->Option D}{x y:Expr}{a b:Ev}(ho:m9 X (compareOp op) r)(o:pG C r g)(ha:PX X C x a)(hb:RN X C y b)(hm:behindInMarks op y=false):PXT X C (.Compare x [op] [y] pos) (eF (aQ g a b)):=
 (JW ho ha hb hm).imp λσ H Q h=>by
  have h1:=Oa h;exact Ds o σ H _ h1
def rO(a:fZ):fZ:=λenv=>bindR (a env) λb aK=>.ok (!b) aK
def ie(a b:fZ):fZ:=λenv=>bindR (a env) λc aK=>if c=true then b aK else .ok false aK
def wk(a b:fZ):fZ:=λenv=>bindR (a env) λc aK=>if c=true then .ok true aK else b aK
def PXW(X:Cx)(C:Cfg)(e:Expr)(ev:fZ):Prop:=PW X e (tT C ev)
theorem PXW.pt{e:Expr}{a:fZ}(h:PXW X C e a):PXT X C e a:=PW.pt h
def Kw(a b:Ev):Ev:=λenv=>bindR (a env) λc aK=>match c with
 | .bl true=>b aK
 | .bl false=>.ok (.bl false) aK
 | _=>.stuck
def oV(a b:Ev):Ev:=λenv=>bindR (a env) λc aK=>match c with
 | .bl true=>.ok (.bl true) aK
 | .bl false=>b aK
 | _=>.stuck
def acg(t:fZ)(a b:Ev):Ev:=λenv=>bindR (t env) λc aK=>if c=true then a aK else b aK
end
def xF(f:D->D->Option Bool):List D->List D->Option Bool
 | [],[]=>some true
 | x::xs,y::ys=>match f x y,xF f xs ys with
  | some a,some b=>some (a&&b)
  | _,_=>none
 | [],_::_=>some false
 | _::_,[]=>some false
def bh:Nat->D->D->Option Bool
 | 0,_,_=>none
 | n+1,.tup xs,.tup ys=>xF (bh n) xs ys
 | n+1,.lst xs,.lst ys=>xF (bh n) xs ys
 | _+1,.dct _,_=>none
 | _+1,.jl _,_=>none
 | _+1,.clo _ _,_=>none
 | _+1,_,.dct _=>none
 | _+1,_,.jl _=>none
 | _+1,_,.clo _ _=>none
 | _+1,.arr _,_=>none
 | _+1,_,.arr _=>none
 | _+1,.non,.non=>some true
 | _+1,.bl a,.bl b=>some (a == b)
 | _+1,.bl a,.int b=>some ((if a then 1 else 0) == b)
 | _+1,.int a,.bl b=>some (a == (if b then 1 else 0))
 | _+1,.int a,.int b=>some (a == b)
 | _+1,.str a,.str b=>some (a == b)
 | _+1,_,_=>some false
mutual
def Sh(h:Heap):D->Value->Prop
 | .non,u=>u = .none
 | .bl b,u=>u = .bool b
 | .int i,u=>∃t,u = .int i t
 | .str x,u=>∃t,u = .str (strOf x) t
 | .tup xs,u=>∃a its,u = .ref a/\IsTup h a its.toArray/\Bj h xs its
 | .lst xs,u=>∃a its,u = .ref a/\PlainL h a its.toArray/\Bj h xs its
 | .arr xs,u=>∃a its,u = .ref a/\PlainL h a its.toArray/\Bj h xs its
 | .dct _,u=>∃a o,u = .ref a/\h.get? a=some o/\o.ExactDict
 | .jl _,u=>∃a o,u = .ref a/\h.get? a=some o/\o.ExactDict
 | .clo _ _,u=>∃a,u = .ref a
def Bj(h:Heap):List D->List Value->Prop
 | [],us=>us=[]
 | d::ds,us=>∃u r,us=u::r/\Sh h d u/\Bj h ds r
end
theorem Bj.length{h:Heap}:∀{ds:List D} {us:List Value},Bj h ds us->us.length=ds.length
 | [],_,e=>by cases e;rfl
 | d::ds,us,e=>by obtain⟨u,r,rfl,_,h2⟩:=e;rw[Qqy,Qqy,h2.length]
section
variable{X:Cx}{pins:List (Addr×Obj)}{σ:L2.St}{H:Hp}{s:Shared}
mutual
theorem Rep.sh(I:Inv X pins σ H s):∀(d:D) (v:V) (u:Value),Rep X.K H d v->RelV v u->Sh s.heap d u
 | .non,_,_,h,r=>by cases h;exact r
 | .bl _,_,_,h,r=>by cases h;exact r
 | .int _,_,_,h,r=>by cases h;exact r
 | .str _,_,_,h,r=>by obtain⟨h,_⟩:=h;cases h;exact r
 | .tup xs,v,u,h,r=>by
  obtain⟨z,a,vs,rfl,h1,h2⟩:=h;cases r;obtain⟨its,rv,p,_⟩:=I.tuple h1;exact⟨a,its,rfl,p,bM.sh I xs vs its h2 rv⟩
 | .lst xs,v,u,h,r=>by
  obtain⟨z,a,vs,rfl,h1,h2⟩:=h;cases r;obtain⟨its,rv,p,_⟩:=I.list (m8.of h1);exact⟨a,its,rfl,p,bM.sh I xs vs its h2 rv⟩
 | .arr xs,v,u,h,r=>by
  obtain⟨z,a,vs,rfl,h1,h2⟩:=h;cases r;obtain⟨its,rv,p,_⟩:=I.list h1;exact⟨a,its,rfl,p,bM.sh I xs vs its h2 rv⟩
 | .dct kvs,v,u,h,r=>by
  obtain⟨z,a,ks,rfl,h1,h2⟩:=h;cases r;obtain⟨_,_,vs,_,o,_,_,e,ex,_⟩:=h1.ok I.hok;exact⟨a,o,rfl,e,ex⟩
 | .jl kvs,v,u,h,r=>by
  obtain⟨z,a,ks,rfl,h1,h2⟩:=h;cases r;obtain⟨_,_,vs,_,o,_,_,e,ex,_⟩:=h1.ok I.hok;exact⟨a,o,rfl,e,ex⟩
 | .clo st ds,v,u,h,r=>by
  obtain⟨a,vs,rfl,h1,h2⟩:=h;cases r;exact⟨a,rfl⟩
theorem bM.sh(I:Inv X pins σ H s):∀(ds:List D) (vs:List V) (us:List Value),bM X.K H ds vs->Vals vs us->Bj s.heap ds us
 | [],_,_,h,r=>by cases h;cases r;exact rfl
 | d::ds,vs,us,h,r=>by
  obtain⟨v,rr,rfl,h1,h2⟩:=h;cases r with
  | cons q qs=>exact⟨_,_,rfl,Rep.sh I d v _ h1 q,bM.sh I ds rr _ h2 qs⟩
end
end
theorem JB{h:Heap}{a:Addr}{xs ys:Array Value}(p:IsTup h a xs)(q:IsTup h a ys):xs=ys:=by obtain⟨o,e,_,n,d⟩:=p;obtain⟨o',e',_,n',d'⟩:=q;rw[e] at e';cases e';rw[d] at d';cases d';rfl
theorem J7{h:Heap}{a:Addr}{xs ys:Array Value}(p:PlainL h a xs)(q:PlainL h a ys):xs=ys:=by obtain⟨o,e,_,n,d⟩:=p.isList;obtain⟨o',e',_,n',d'⟩:=q.isList;rw[e] at e';cases e';rw[d] at d';cases d';rfl
theorem xn{h:Heap}{a:Addr}{xs ys:Array Value}(p:IsTup h a xs)(q:PlainL h a ys):False:=by obtain⟨o,e,c,n,d⟩:=p;obtain⟨o',e',c',n',d'⟩:=q.isList;rw[e] at e';cases e';rw[c] at c';simp at c'
theorem yV{h:Heap}:∀(n:Nat) (d e:D) (u:Value) (b:Bool),Sh h d u->Sh h e u->bh n d e=some b->b=true
 | 0,_,_,_,_,_,_,hb=>by simp[bh] at hb
 | n+1,d,e,u,b,hd,he,hb=>by
  have all:∀(xs ys:List D) (us:List Value) (b:Bool),Bj h xs us->Bj h ys us->xF (bh n) xs ys=some b->b=true:=by
   intro xs
   induction xs with
   | nil=>
    intro ys us b h1 h2 hb;cases h1;cases ys with
    | nil=>simp[xF] at hb;exact hb
    | cons y ys=>obtain⟨u,r,q,_⟩:=h2;cases q
   | cons x xs ih=>
    intro ys us b h1 h2 hb;obtain⟨u,r,rfl,h3,h4⟩:=h1;cases ys with
    | nil=>cases h2
    | cons y ys=>
     obtain⟨u',r',q,h5,h6⟩:=h2;cases q;unfold xF at hb;cases q1:bh n x y with
     | none=>rw[q1] at hb;simp at hb
     | some c=>
      cases q2:xF (bh n) xs ys with
      | none=>rw[q1,q2] at hb;simp at hb
      | some c'=>
       rw[q1,q2] at hb;have e1:=yV n x y u c h3 h5 q1;have e2:=ih ys r c' h4 h6 q2;subst e1 e2;simp at hb;exact hb
  cases d with
  | non=>cases hd;cases e<;>simp[Sh] at he;simp[bh] at hb;exact hb
  | bl c=>cases hd;cases e<;>simp[Sh] at he;subst he;simp[bh] at hb;exact hb
  | int i=>obtain⟨t,rfl⟩:=hd;cases e<;>simp[Sh] at he;subst he;simp[bh] at hb;exact hb
  | str x=>
   obtain⟨t,rfl⟩:=hd;cases e with
   | str y=>
    obtain⟨t',q⟩:=he;injection q with q1 _
    unfold strOf at q1;injection q1 with q2
    have q3:=Qx5 Array.toList q2;simp at q3;subst q3;simp[bh] at hb;exact hb
   | _=>simp[Sh] at he
  | tup xs=>
   obtain⟨a,its,rfl,p,hs⟩:=hd;cases e with
   | tup ys=>
    obtain⟨a',its',q,p',hs'⟩:=he;cases q;have e2:its=its':=by simpa using JB p p'
    subst e2;exact all xs ys its b hs hs' (by simpa only[bh] using hb)
   | lst ys=>
    obtain⟨a',its',q,p',hs'⟩:=he;cases q;exact(xn p p').elim
   | dct kvs=>simp[bh] at hb
   | jl kvs=>simp[bh] at hb
   | clo _ _=>simp[bh] at hb
   | arr kvs=>simp[bh] at hb
   | _=>simp[Sh] at he
  | lst xs=>
   obtain⟨a,its,rfl,p,hs⟩:=hd;cases e with
   | lst ys=>
    obtain⟨a',its',q,p',hs'⟩:=he;cases q;have e2:its=its':=by simpa using J7 p p'
    subst e2;exact all xs ys its b hs hs' (by simpa only[bh] using hb)
   | tup ys=>
    obtain⟨a',its',q,p',hs'⟩:=he;cases q;exact(xn p' p).elim
   | dct kvs=>simp[bh] at hb
   | jl kvs=>simp[bh] at hb
   | clo _ _=>simp[bh] at hb
   | arr kvs=>simp[bh] at hb
   | _=>simp[Sh] at he
  | dct kvs=>cases e<;>simp[bh] at hb
  | jl kvs=>cases e<;>simp[bh] at hb
  | clo _ _=>cases e<;>simp[bh] at hb
  | arr kvs=>cases e<;>simp[bh] at hb
theorem Ky{h:Heap}:∀(n:Nat) (d d' e:D) (u:Value) (b b':Bool),Sh h d u->Sh h d' u->bh n d e=some b->bh n d' e=some b'->b=b'
 | 0,_,_,_,_,_,_,_,_,hb,_=>by simp[bh] at hb
 | n+1,d,d',e,u,b,b',hd,hd',hb,hb'=>by
  have all:∀(xs xs' ys:List D) (us:List Value) (b b':Bool),Bj h xs us->Bj h xs' us->xF (bh n) xs ys=some b->xF (bh n) xs' ys=some b'->b=b':=by
   intro xs
   induction xs with
   | nil=>
    intro xs' ys us b b' h1 h2 hb hb';cases h1;cases xs' with
    | nil=>rw[hb] at hb';exact Qw0 hb'
    | cons y ys=>obtain⟨u,r,q,_⟩:=h2;cases q
   | cons x xs ih=>
    intro xs' ys us b b' h1 h2 hb hb';obtain⟨u,r,rfl,h3,h4⟩:=h1;cases xs' with
    | nil=>cases h2
    | cons x' xs'=>
     obtain⟨u',r',q,h5,h6⟩:=h2;cases q;cases ys with
     | nil=>simp[xF] at hb hb';rw[hb,hb']
     | cons y ys=>
      unfold xF at hb hb';cases q1:bh n x y with
      | none=>rw[q1] at hb;simp at hb
      | some c=>
       cases q2:xF (bh n) xs ys with
       | none=>rw[q1,q2] at hb;simp at hb
       | some c2=>
        cases q3:bh n x' y with
        | none=>rw[q3] at hb';simp at hb'
        | some c3=>
         cases q4:xF (bh n) xs' ys with
         | none=>rw[q3,q4] at hb';simp at hb'
         | some c4=>
          rw[q1,q2] at hb;rw[q3,q4] at hb';have e1:=Ky n x x' y u c c3 h3 h5 q1 q3;have e2:=ih xs' ys r c2 c4 h4 h6 q2 q4;subst e1 e2;simp at hb hb';rw[<-hb,<-hb']
  cases d with
  | non=>cases hd;cases d'<;>simp[Sh] at hd';rw[hb] at hb';exact Qw0 hb'
  | bl c=>cases hd;cases d'<;>simp[Sh] at hd';subst hd';rw[hb] at hb';exact Qw0 hb'
  | int i=>obtain⟨t,rfl⟩:=hd;cases d'<;>simp[Sh] at hd';subst hd';rw[hb] at hb';exact Qw0 hb'
  | str x=>
   obtain⟨t,rfl⟩:=hd;cases d' with
   | str y=>
    obtain⟨t',q⟩:=hd';injection q with q1 _
    unfold strOf at q1;injection q1 with q2
    have q3:=Qx5 Array.toList q2;simp at q3;subst q3;rw[hb] at hb';exact Qw0 hb'
   | _=>simp[Sh] at hd'
  | tup xs=>
   obtain⟨a,its,rfl,p,hs⟩:=hd;cases d' with
   | tup xs'=>
    obtain⟨a',its',q,p',hs'⟩:=hd';cases q;have e2:its=its':=by simpa using JB p p'
    subst e2;cases e with
    | tup ys=>exact all xs xs' ys its b b' hs hs' (by simpa only[bh] using hb) (by simpa only[bh] using hb')
    | _=>first|(simp[bh] at hb;done)|(simp only[bh,Qw9] at hb hb';rw[<-hb,<-hb'])
   | lst ys=>
    obtain⟨a',its',q,p',hs'⟩:=hd';cases q;exact(xn p p').elim
   | dct kvs=>cases e<;>simp[bh] at hb'
   | jl kvs=>cases e<;>simp[bh] at hb'
   | clo _ _=>cases e<;>simp[bh] at hb'
   | arr kvs=>cases e<;>simp[bh] at hb'
   | _=>simp[Sh] at hd'
  | lst xs=>
   obtain⟨a,its,rfl,p,hs⟩:=hd;cases d' with
   | lst xs'=>
    obtain⟨a',its',q,p',hs'⟩:=hd';cases q;have e2:its=its':=by simpa using J7 p p'
    subst e2;cases e with
    | lst ys=>exact all xs xs' ys its b b' hs hs' (by simpa only[bh] using hb) (by simpa only[bh] using hb')
    | _=>first|(simp[bh] at hb;done)|(simp only[bh,Qw9] at hb hb';rw[<-hb,<-hb'])
   | tup ys=>
    obtain⟨a',its',q,p',hs'⟩:=hd';cases q;exact(xn p' p).elim
   | dct kvs=>cases e<;>simp[bh] at hb'
   | jl kvs=>cases e<;>simp[bh] at hb'
   | clo _ _=>cases e<;>simp[bh] at hb'
   | arr kvs=>cases e<;>simp[bh] at hb'
   | _=>simp[Sh] at hd'
  | dct kvs=>cases e<;>simp[bh] at hb
  | jl kvs=>cases e<;>simp[bh] at hb
  | clo _ _=>cases e<;>simp[bh] at hb
  | arr kvs=>cases e<;>simp[bh] at hb
theorem uL(x y:List Nat):(strOf x == strOf y)=(x == y):=by
 rw[Qj1];simp only[beq_iff_eq];constructor
 ·intro e;unfold strOf at e;injection e with e
  simpa using Qx5 Array.toList e
 ·intro e;rw[e]
theorem xE:∀{f:D->D->Option Bool} {xs ys:List D},xs.length≠ys.length->∀b,xF f xs ys=some b->b=false
 | f,[],[],h,b,e=>absurd rfl h
 | f,[],_::_,_,b,e=>by simp[xF] at e;exact e
 | f,_::_,[],_,b,e=>by simp[xF] at e;exact e
 | f,x::xs,y::ys,h,b,e=>by
  unfold xF at e;cases h1:f x y with
  | none=>rw[h1] at e;simp at e
  | some c=>
   cases h2:xF f xs ys with
   | none=>rw[h1,h2] at e;simp at e
   | some d=>
    rw[h1,h2] at e;have:=xE (f:=f) (xs:=xs) (ys:=ys) (by simpa using h) d h2;subst this;simp at e;exact e
theorem rR:∀{f:D->D->Option Bool} (xs ys:List D) (b:Bool),xF f xs ys=some b->∃e:Nat->Bool,(∀(j:Nat) (x y:D),xs[j]? = some x->ys[j]? = some y->f x y=some (e j))/\b=((List.range (min xs.length ys.length)).all e&&xs.length == ys.length)
 | f,[],ys,b,h=>by
  refine⟨λ_=>true,λj x y hx=>by simp at hx,?_⟩;cases ys with
  | nil=>simp[xF] at h;simp[h.symm]
  | cons y ys=>simp[xF] at h;simp[h.symm]
 | f,x::xs,[],b,h=>by
  refine⟨λ_=>true,λj x y _ hy=>by simp at hy,?_⟩;simp[xF] at h;simp[h.symm]
 | f,x::xs,y::ys,b,h=>by
  unfold xF at h;cases h1:f x y with
  | none=>rw[h1] at h;simp at h
  | some c=>
   cases h2:xF f xs ys with
   | none=>rw[h1,h2] at h;simp at h
   | some d=>
    rw[h1,h2] at h;obtain⟨e,he,hd⟩:=rR xs ys d h2;refine⟨λj=>match j with|0=>c|j+1=>e j,λj x' y' hx hy=>?_,?_⟩
    ·cases j with
     | zero=>simp at hx hy;subst hx hy;exact h1
     | succ j=>exact he j x' y' (by simpa using hx) (by simpa using hy)
    ·have hb:b=(c&&d):=by simpa using h.symm
     have hm:min (x::xs).length (y::ys).length=min xs.length ys.length+1:=by simp only[Qqy];omega
     rw[hb,hd,hm,List.range_succ_eq_map,List.all_cons,List.all_map,Bool.and_assoc];have hl:((x::xs).length == (y::ys).length)=(xs.length == ys.length):=by simp
     rw[hl]
     rfl
theorem lV{h:Heap}:∀{ds:List D} {us:List Value} {j:Nat} {u:Value},Bj h ds us->us[j]? = some u->∃d,ds[j]? = some d/\Sh h d u
 | [],_,_,_,e,g=>by cases e;simp at g
 | d::ds,us,j,u,e,g=>by
  obtain⟨v,r,rfl,h1,h2⟩:=e;cases j with
  | zero=>simp at g;subst g;exact⟨d,rfl,h1⟩
  | succ j=>obtain⟨c,e1,e2⟩:=lV h2 (j:=j) (by simpa using g);exact⟨c,by simpa using e1,e2⟩
theorem Di:∀(n:Nat) (d e:D) (u v:Value) (b:Bool) (A:Around) (s:Shared),Sh s.heap d u->Sh s.heap e v->bh n d e=some b->A.units+n<cLine->SeqAt.EqAt A s u v b
 | 0,_,_,_,_,_,_,_,_,_,h,_=>by simp[bh] at h
 | n+1,d,e,u,v,b,A,s,hd,he,h,hu=>by
  have hu0:A.units<cLine:=by omega
  have hin:A.in1.units+n<cLine:=by show A.units+1+n<cLine;omega
  cases d with
  | non=>
   cases hd;cases e with
   | non=>cases he;simp[bh] at h;subst h;exact SeqAt.EqAt.same _
   | bl c=>cases he;simp[bh] at h;subst h;exact SeqAt.EqAt.none_bool c
   | int i=>obtain⟨t,rfl⟩:=he;simp[bh] at h;subst h;exact SeqAt.EqAt.none_int i t
   | str x=>obtain⟨t,rfl⟩:=he;simp[bh] at h;subst h;exact SeqAt.EqAt.none_str _ t
   | tup ys=>obtain⟨a,its,rfl,p,_⟩:=he;simp[bh] at h;subst h;exact SeqAt.EqAt.none_tuple p hu0
   | lst ys=>obtain⟨a,its,rfl,p,_⟩:=he;simp[bh] at h;subst h;exact SeqAt.EqAt.none_list p.isList hu0
   | dct kvs=>simp[bh] at h
   | jl kvs=>simp[bh] at h
   | clo _ _=>simp[bh] at h
   | arr kvs=>simp[bh] at h
  | bl c=>
   cases hd;cases e with
   | non=>cases he;simp[bh] at h;subst h;exact SeqAt.EqAt.bool_none c
   | bl c'=>cases he;simp only[bh,Qw9] at h;subst h;exact SeqAt.EqAt.bool_bool c c'
   | int i=>obtain⟨t,rfl⟩:=he;simp only[bh,Qw9] at h;subst h;exact SeqAt.EqAt.bool_int c i t
   | str x=>obtain⟨t,rfl⟩:=he;simp[bh] at h;subst h;exact SeqAt.EqAt.bool_str c _ t
   | tup ys=>obtain⟨a,its,rfl,p,_⟩:=he;simp[bh] at h;subst h;exact SeqAt.EqAt.bool_tuple c p hu0
   | lst ys=>obtain⟨a,its,rfl,p,_⟩:=he;simp[bh] at h;subst h;exact SeqAt.EqAt.bool_list c p.isList hu0
   | dct kvs=>simp[bh] at h
   | jl kvs=>simp[bh] at h
   | clo _ _=>simp[bh] at h
   | arr kvs=>simp[bh] at h
  | int i=>
   obtain⟨t',rfl⟩:=hd;cases e with
   | non=>cases he;simp[bh] at h;subst h;exact SeqAt.EqAt.int_none i t'
   | bl c'=>cases he;simp only[bh,Qw9] at h;subst h;exact SeqAt.EqAt.int_bool i t' c'
   | int j=>obtain⟨t,rfl⟩:=he;simp only[bh,Qw9] at h;subst h;exact SeqAt.EqAt.int_int i t' j t
   | str x=>obtain⟨t,rfl⟩:=he;simp[bh] at h;subst h;exact SeqAt.EqAt.int_str i t' _ t
   | tup ys=>obtain⟨a,its,rfl,p,_⟩:=he;simp[bh] at h;subst h;exact SeqAt.EqAt.int_tuple i t' p hu0
   | lst ys=>obtain⟨a,its,rfl,p,_⟩:=he;simp[bh] at h;subst h;exact SeqAt.EqAt.int_list i t' p.isList hu0
   | dct kvs=>simp[bh] at h
   | jl kvs=>simp[bh] at h
   | clo _ _=>simp[bh] at h
   | arr kvs=>simp[bh] at h
  | str x=>
   obtain⟨t',rfl⟩:=hd;cases e with
   | non=>cases he;simp[bh] at h;subst h;exact SeqAt.EqAt.str_none _ t'
   | bl c'=>cases he;simp[bh] at h;subst h;exact SeqAt.EqAt.str_bool _ t' c'
   | int j=>obtain⟨t,rfl⟩:=he;simp[bh] at h;subst h;exact SeqAt.EqAt.str_int _ t' j t
   | str y=>obtain⟨t,rfl⟩:=he;simp only[bh,Qw9] at h;subst h;rw[<-uL];exact SeqAt.EqAt.str_str _ t' _ t
   | tup ys=>obtain⟨a,its,rfl,p,_⟩:=he;simp[bh] at h;subst h;exact SeqAt.EqAt.str_tuple _ t' p hu0
   | lst ys=>obtain⟨a,its,rfl,p,_⟩:=he;simp[bh] at h;subst h;exact SeqAt.EqAt.str_list _ t' p.isList hu0
   | dct kvs=>simp[bh] at h
   | jl kvs=>simp[bh] at h
   | clo _ _=>simp[bh] at h
   | arr kvs=>simp[bh] at h
  | tup xs=>
   obtain⟨a,its,rfl,p,hs⟩:=hd;cases e with
   | non=>cases he;simp[bh] at h;subst h;exact SeqAt.EqAt.tuple_none p hu0
   | bl c'=>cases he;simp[bh] at h;subst h;exact SeqAt.EqAt.tuple_bool c' p hu0
   | int j=>obtain⟨t,rfl⟩:=he;simp[bh] at h;subst h;exact SeqAt.EqAt.tuple_int j t p hu0
   | str y=>obtain⟨t,rfl⟩:=he;simp[bh] at h;subst h;exact SeqAt.EqAt.tuple_str _ t p hu0
   | tup ys=>
    obtain⟨a',its',rfl,p',hs'⟩:=he;by_cases haa:a=a'
    ·subst haa;have:=yV (n+1) (.tup xs) (.tup ys) (.ref a) b ⟨a,its,rfl,p,hs⟩ ⟨a,its',rfl,p',hs'⟩ h;subst this;exact SeqAt.EqAt.same _
    ·simp only[bh] at h;obtain⟨f,hf,hb⟩:=rR xs ys b h;have l1:=hs.length;have l2:=hs'.length;refine SeqAt.EqAt.of_refs haa ?_;have:=SeqAt.RcAt.tuples (e:=f) p p' hu0 λj h1 h2=>?_
     ·rw[hb];simp only[Qq5] at this;rw[l1,l2] at this;exact this
     ·have g1:its[j]? = some its.toArray[j]:=by simp at h1 ⊢
      have g2:its'[j]? = some its'.toArray[j]:=by simp at h2 ⊢
      obtain⟨x,q1,q2⟩:=lV hs g1;obtain⟨y,q3,q4⟩:=lV hs' g2;exact Di n x y _ _ _ A.in1 s q2 q4 (hf j x y q1 q3) hin
   | lst ys=>obtain⟨a',its',rfl,p',_⟩:=he;simp[bh] at h;subst h;exact SeqAt.EqAt.tuple_list p p'.isList hu0
   | dct kvs=>simp[bh] at h
   | jl kvs=>simp[bh] at h
   | clo _ _=>simp[bh] at h
   | arr kvs=>simp[bh] at h
  | lst xs=>
   obtain⟨a,its,rfl,p,hs⟩:=hd;cases e with
   | non=>cases he;simp[bh] at h;subst h;exact SeqAt.EqAt.list_none p.isList hu0
   | bl c'=>cases he;simp[bh] at h;subst h;exact SeqAt.EqAt.list_bool c' p.isList hu0
   | int j=>obtain⟨t,rfl⟩:=he;simp[bh] at h;subst h;exact SeqAt.EqAt.list_int j t p.isList hu0
   | str y=>obtain⟨t,rfl⟩:=he;simp[bh] at h;subst h;exact SeqAt.EqAt.list_str _ t p.isList hu0
   | lst ys=>
    obtain⟨a',its',rfl,p',hs'⟩:=he;have l1:=hs.length;have l2:=hs'.length;by_cases haa:a=a'
    ·subst haa;have:=yV (n+1) (.lst xs) (.lst ys) (.ref a) b ⟨a,its,rfl,p,hs⟩ ⟨a,its',rfl,p',hs'⟩ h;subst this;exact SeqAt.EqAt.same _
    ·simp only[bh] at h;refine SeqAt.EqAt.of_refs haa ?_;by_cases hl:xs.length=ys.length
     ·obtain⟨f,hf,hb⟩:=rR xs ys b h;have:=SeqAt.RcAt.lists (e:=f) p.isList p'.isList (by simp only[Qq5];omega) hu0 λj h1 h2=>?_
      ·rw[hb,<-hl,Nat.min_self,beq_self_eq_true,Bool.and_true,<-l1];simp only[Qq5] at this;exact this
      ·have g1:its[j]? = some its.toArray[j]:=by simp at h1 ⊢
       have g2:its'[j]? = some its'.toArray[j]:=by simp at h2 ⊢
       obtain⟨x,q1,q2⟩:=lV hs g1;obtain⟨y,q3,q4⟩:=lV hs' g2;exact Di n x y _ _ _ A.in1 s q2 q4 (hf j x y q1 q3) hin
     ·have:=xE hl b h;subst this;exact SeqAt.RcAt.lists_lengths p.isList p'.isList (by simp only[Qq5];rw[l1,l2];simpa using hl) hu0
   | tup ys=>obtain⟨a',its',rfl,p',_⟩:=he;simp[bh] at h;subst h;exact SeqAt.EqAt.list_tuple p.isList p' hu0
   | dct kvs=>simp[bh] at h
   | jl kvs=>simp[bh] at h
   | clo _ _=>simp[bh] at h
   | arr kvs=>simp[bh] at h
  | dct kvs=>cases e<;>simp[bh] at h
  | jl kvs=>cases e<;>simp[bh] at h
  | clo _ _=>cases e<;>simp[bh] at h
  | arr kvs=>cases e<;>simp[bh] at h
theorem tX(n:Nat)(its its':List Value)(xs ys:List D)(f:Nat->Bool)(A:Around)(s:Shared)(hs:Bj s.heap xs its)(hs':Bj s.heap ys its')(hf:∀(j:Nat) (x y:D),xs[j]? = some x->ys[j]? = some y->bh n x y=some (f j))(hin:A.in1.units+n<cLine)
  (j:Nat) (h1:j<its.toArray.size) (h2:j<its'.toArray.size):SeqAt.EqAt A.in1 s its.toArray[j] its'.toArray[j] (f j):=by
 have g1:its[j]? = some its.toArray[j]:=by simp at h1 ⊢
 have g2:its'[j]? = some its'.toArray[j]:=by simp at h2 ⊢
 obtain⟨x,q1,q2⟩:=lV hs g1;obtain⟨y,q3,q4⟩:=lV hs' g2;exact Di n x y _ _ _ A.in1 s q2 q4 (hf j x y q1 q3) hin
theorem aa6(n:Nat)(d e:D)(u v:Value)(b:Bool)(A:Around)(s:Shared)(hd:Sh s.heap d u)(he:Sh s.heap e v)(h:bh (n+1) d e=some b)(hu:A.units+(n+1)<cLine):SeqAt.RcAt A s u v b:=by
 have hu0:A.units<cLine:=by omega
 have hin:A.in1.units+n<cLine:=by show A.units+1+n<cLine;omega
 cases d with
 | non=>
  cases hd;cases e with
  | non=>
   cases he;simp[bh] at h;subst h;exact SeqAt.RcAt.none_none
  | bl c'=>
   cases he;simp[bh] at h;subst h;exact SeqAt.RcAt.none_bool c'
  | int j=>
   obtain⟨t,rfl⟩:=he;simp[bh] at h;subst h;exact SeqAt.RcAt.none_int j t
  | str y=>
   obtain⟨t,rfl⟩:=he;simp[bh] at h;subst h;exact SeqAt.RcAt.none_str _ t
  | tup ys=>
   obtain⟨a',its',rfl,p',hs'⟩:=he;simp[bh] at h;subst h;exact SeqAt.RcAt.none_tuple p' hu0
  | lst ys=>
   obtain⟨a',its',rfl,p',hs'⟩:=he;simp[bh] at h;subst h;exact SeqAt.RcAt.none_list p'.isList hu0
  | arr kvs=>
   simp[bh] at h
  | dct kvs=>
   simp[bh] at h
  | jl kvs=>
   simp[bh] at h
  | clo _ _=>
   simp[bh] at h
 | bl c=>
  cases hd;cases e with
  | non=>
   cases he;simp[bh] at h;subst h;exact SeqAt.RcAt.bool_none c
  | bl c'=>
   cases he;simp only[bh,Qw9] at h;subst h;exact SeqAt.RcAt.bool_bool c c'
  | int j=>
   obtain⟨t,rfl⟩:=he;simp only[bh,Qw9] at h;subst h;exact SeqAt.RcAt.bool_int c j t
  | str y=>
   obtain⟨t,rfl⟩:=he;simp[bh] at h;subst h;exact SeqAt.RcAt.bool_str c _ t
  | tup ys=>
   obtain⟨a',its',rfl,p',hs'⟩:=he;simp[bh] at h;subst h;exact SeqAt.RcAt.bool_tuple c p' hu0
  | lst ys=>
   obtain⟨a',its',rfl,p',hs'⟩:=he;simp[bh] at h;subst h;exact SeqAt.RcAt.bool_list c p'.isList hu0
  | arr kvs=>
   simp[bh] at h
  | dct kvs=>
   simp[bh] at h
  | jl kvs=>
   simp[bh] at h
  | clo _ _=>
   simp[bh] at h
 | int i=>
  obtain⟨t',rfl⟩:=hd;cases e with
  | non=>
   cases he;simp[bh] at h;subst h;exact SeqAt.RcAt.int_none i t'
  | bl c'=>
   cases he;simp only[bh,Qw9] at h;subst h;exact SeqAt.RcAt.int_bool i t' c'
  | int j=>
   obtain⟨t,rfl⟩:=he;simp only[bh,Qw9] at h;subst h;exact SeqAt.RcAt.int_int i t' j t
  | str y=>
   obtain⟨t,rfl⟩:=he;simp[bh] at h;subst h;exact SeqAt.RcAt.int_str i t' _ t
  | tup ys=>
   obtain⟨a',its',rfl,p',hs'⟩:=he;simp[bh] at h;subst h;exact SeqAt.RcAt.int_tuple i t' p' hu0
  | lst ys=>
   obtain⟨a',its',rfl,p',hs'⟩:=he;simp[bh] at h;subst h;exact SeqAt.RcAt.int_list i t' p'.isList hu0
  | arr kvs=>
   simp[bh] at h
  | dct kvs=>
   simp[bh] at h
  | jl kvs=>
   simp[bh] at h
  | clo _ _=>
   simp[bh] at h
 | str x=>
  obtain⟨t',rfl⟩:=hd;cases e with
  | non=>
   cases he;simp[bh] at h;subst h;exact SeqAt.RcAt.str_none _ t'
  | bl c'=>
   cases he;simp[bh] at h;subst h;exact SeqAt.RcAt.str_bool _ t' c'
  | int j=>
   obtain⟨t,rfl⟩:=he;simp[bh] at h;subst h;exact SeqAt.RcAt.str_int _ t' j t
  | str y=>
   obtain⟨t,rfl⟩:=he;simp only[bh,Qw9] at h;subst h;rw[<-uL];exact SeqAt.RcAt.str_str _ t' _ t
  | tup ys=>
   obtain⟨a',its',rfl,p',hs'⟩:=he;simp[bh] at h;subst h;exact SeqAt.RcAt.str_tuple _ t' p' hu0
  | lst ys=>
   obtain⟨a',its',rfl,p',hs'⟩:=he;simp[bh] at h;subst h;exact SeqAt.RcAt.str_list _ t' p'.isList hu0
  | arr kvs=>
   simp[bh] at h
  | dct kvs=>
   simp[bh] at h
  | jl kvs=>
   simp[bh] at h
  | clo _ _=>
   simp[bh] at h
 | tup xs=>
  obtain⟨a,its,rfl,p,hs⟩:=hd;cases e with
  | non=>
   cases he;simp[bh] at h;subst h;exact SeqAt.RcAt.tuple_none p hu0
  | bl c'=>
   cases he;simp[bh] at h;subst h;exact SeqAt.RcAt.tuple_bool c' p hu0
  | int j=>
   obtain⟨t,rfl⟩:=he;simp[bh] at h;subst h;exact SeqAt.RcAt.tuple_int j t p hu0
  | str y=>
   obtain⟨t,rfl⟩:=he;simp[bh] at h;subst h;exact SeqAt.RcAt.tuple_str _ t p hu0
  | tup ys=>
   obtain⟨a',its',rfl,p',hs'⟩:=he;simp only[bh] at h;have l1:=hs.length;have l2:=hs'.length;obtain⟨f,hf,hb⟩:=rR xs ys b h;have:=SeqAt.RcAt.tuples (e:=f) p p' hu0 λj h1 h2=>?_
   ·rw[hb];simp only[Qq5] at this;rw[l1,l2] at this;exact this
   ·exact tX n its its' xs ys f A s hs hs' hf hin j h1 h2
  | lst ys=>
   obtain⟨a',its',rfl,p',hs'⟩:=he;simp[bh] at h;subst h;exact SeqAt.RcAt.tuple_list p p'.isList hu0
  | arr kvs=>
   simp[bh] at h
  | dct kvs=>
   simp[bh] at h
  | jl kvs=>
   simp[bh] at h
  | clo _ _=>
   simp[bh] at h
 | lst xs=>
  obtain⟨a,its,rfl,p,hs⟩:=hd;cases e with
  | non=>
   cases he;simp[bh] at h;subst h;exact SeqAt.RcAt.list_none p.isList hu0
  | bl c'=>
   cases he;simp[bh] at h;subst h;exact SeqAt.RcAt.list_bool c' p.isList hu0
  | int j=>
   obtain⟨t,rfl⟩:=he;simp[bh] at h;subst h;exact SeqAt.RcAt.list_int j t p.isList hu0
  | str y=>
   obtain⟨t,rfl⟩:=he;simp[bh] at h;subst h;exact SeqAt.RcAt.list_str _ t p.isList hu0
  | tup ys=>
   obtain⟨a',its',rfl,p',hs'⟩:=he;simp[bh] at h;subst h;exact SeqAt.RcAt.list_tuple p.isList p' hu0
  | lst ys=>
   obtain⟨a',its',rfl,p',hs'⟩:=he;simp only[bh] at h;have l1:=hs.length;have l2:=hs'.length;by_cases hl:xs.length=ys.length
   ·obtain⟨f,hf,hb⟩:=rR xs ys b h;have:=SeqAt.RcAt.lists (e:=f) p.isList p'.isList (by simp only[Qq5];omega) hu0 λj h1 h2=>?_
    ·rw[hb,<-hl,Nat.min_self,beq_self_eq_true,Bool.and_true,<-l1];simp only[Qq5] at this;exact this
    ·exact tX n its its' xs ys f A s hs hs' hf hin j h1 h2
   ·have:=xE hl b h;subst this;exact SeqAt.RcAt.lists_lengths p.isList p'.isList (by simp only[Qq5];rw[l1,l2];simpa using hl) hu0
  | arr kvs=>
   simp[bh] at h
  | dct kvs=>
   simp[bh] at h
  | jl kvs=>
   simp[bh] at h
  | clo _ _=>
   simp[bh] at h
 | arr kvs=>
  cases e<;>simp[bh] at h
 | dct kvs=>
  cases e<;>simp[bh] at h
 | jl kvs=>
  cases e<;>simp[bh] at h
 | clo _ _=>
  cases e<;>simp[bh] at h
theorem Ti(n:Nat)(d e:D)(u v:Value)(b:Bool)(A:Around)(s:Shared)(hd:Sh s.heap d u)(he:Sh s.heap e v)(h:bh (n+1) d e=some b)(hu:A.units+(n+1)<cLine):SeqAt.RcNeAt A s u v (!b):=by
 have hu0:A.units<cLine:=by omega
 have hin:A.in1.units+n<cLine:=by show A.units+1+n<cLine;omega
 cases d with
 | non=>
  cases hd;cases e with
  | non=>
   cases he;simp[bh] at h;subst h;exact SeqAt.RcNeAt.none_none
  | bl c'=>
   cases he;simp[bh] at h;subst h;exact SeqAt.RcNeAt.none_bool c'
  | int j=>
   obtain⟨t,rfl⟩:=he;simp[bh] at h;subst h;exact SeqAt.RcNeAt.none_int j t
  | str y=>
   obtain⟨t,rfl⟩:=he;simp[bh] at h;subst h;exact SeqAt.RcNeAt.none_str _ t
  | tup ys=>
   obtain⟨a',its',rfl,p',hs'⟩:=he;simp[bh] at h;subst h;exact SeqAt.RcNeAt.none_tuple p' hu0
  | lst ys=>
   obtain⟨a',its',rfl,p',hs'⟩:=he;simp[bh] at h;subst h;exact SeqAt.RcNeAt.none_list p'.isList hu0
  | arr kvs=>
   simp[bh] at h
  | dct kvs=>
   simp[bh] at h
  | jl kvs=>
   simp[bh] at h
  | clo _ _=>
   simp[bh] at h
 | bl c=>
  cases hd;cases e with
  | non=>
   cases he;simp[bh] at h;subst h;exact SeqAt.RcNeAt.bool_none c
  | bl c'=>
   cases he;simp only[bh,Qw9] at h;subst h;exact SeqAt.RcNeAt.bool_bool c c'
  | int j=>
   obtain⟨t,rfl⟩:=he;simp only[bh,Qw9] at h;subst h;exact SeqAt.RcNeAt.bool_int c j t
  | str y=>
   obtain⟨t,rfl⟩:=he;simp[bh] at h;subst h;exact SeqAt.RcNeAt.bool_str c _ t
  | tup ys=>
   obtain⟨a',its',rfl,p',hs'⟩:=he;simp[bh] at h;subst h;exact SeqAt.RcNeAt.bool_tuple c p' hu0
  | lst ys=>
   obtain⟨a',its',rfl,p',hs'⟩:=he;simp[bh] at h;subst h;exact SeqAt.RcNeAt.bool_list c p'.isList hu0
  | arr kvs=>
   simp[bh] at h
  | dct kvs=>
   simp[bh] at h
  | jl kvs=>
   simp[bh] at h
  | clo _ _=>
   simp[bh] at h
 | int i=>
  obtain⟨t',rfl⟩:=hd;cases e with
  | non=>
   cases he;simp[bh] at h;subst h;exact SeqAt.RcNeAt.int_none i t'
  | bl c'=>
   cases he;simp only[bh,Qw9] at h;subst h;exact SeqAt.RcNeAt.int_bool i t' c'
  | int j=>
   obtain⟨t,rfl⟩:=he;simp only[bh,Qw9] at h;subst h;exact SeqAt.RcNeAt.int_int i t' j t
  | str y=>
   obtain⟨t,rfl⟩:=he;simp[bh] at h;subst h;exact SeqAt.RcNeAt.int_str i t' _ t
  | tup ys=>
   obtain⟨a',its',rfl,p',hs'⟩:=he;simp[bh] at h;subst h;exact SeqAt.RcNeAt.int_tuple i t' p' hu0
  | lst ys=>
   obtain⟨a',its',rfl,p',hs'⟩:=he;simp[bh] at h;subst h;exact SeqAt.RcNeAt.int_list i t' p'.isList hu0
  | arr kvs=>
   simp[bh] at h
  | dct kvs=>
   simp[bh] at h
  | jl kvs=>
   simp[bh] at h
  | clo _ _=>
   simp[bh] at h
 | str x=>
  obtain⟨t',rfl⟩:=hd;cases e with
  | non=>
   cases he;simp[bh] at h;subst h;exact SeqAt.RcNeAt.str_none _ t'
  | bl c'=>
   cases he;simp[bh] at h;subst h;exact SeqAt.RcNeAt.str_bool _ t' c'
  | int j=>
   obtain⟨t,rfl⟩:=he;simp[bh] at h;subst h;exact SeqAt.RcNeAt.str_int _ t' j t
  | str y=>
   obtain⟨t,rfl⟩:=he;simp only[bh,Qw9] at h;subst h;rw[<-uL];exact SeqAt.RcNeAt.str_str _ t' _ t
  | tup ys=>
   obtain⟨a',its',rfl,p',hs'⟩:=he;simp[bh] at h;subst h;exact SeqAt.RcNeAt.str_tuple _ t' p' hu0
  | lst ys=>
   obtain⟨a',its',rfl,p',hs'⟩:=he;simp[bh] at h;subst h;exact SeqAt.RcNeAt.str_list _ t' p'.isList hu0
  | arr kvs=>
   simp[bh] at h
  | dct kvs=>
   simp[bh] at h
  | jl kvs=>
   simp[bh] at h
  | clo _ _=>
   simp[bh] at h
 | tup xs=>
  obtain⟨a,its,rfl,p,hs⟩:=hd;cases e with
  | non=>
   cases he;simp[bh] at h;subst h;exact SeqAt.RcNeAt.tuple_none p hu0
  | bl c'=>
   cases he;simp[bh] at h;subst h;exact SeqAt.RcNeAt.tuple_bool c' p hu0
  | int j=>
   obtain⟨t,rfl⟩:=he;simp[bh] at h;subst h;exact SeqAt.RcNeAt.tuple_int j t p hu0
  | str y=>
   obtain⟨t,rfl⟩:=he;simp[bh] at h;subst h;exact SeqAt.RcNeAt.tuple_str _ t p hu0
  | tup ys=>
   obtain⟨a',its',rfl,p',hs'⟩:=he;simp only[bh] at h;have l1:=hs.length;have l2:=hs'.length;obtain⟨f,hf,hb⟩:=rR xs ys b h;have:=SeqAt.RcNeAt.tuples (e:=f) p p' hu0 λj h1 h2=>?_
   ·rw[hb];simp only[Qq5] at this;rw[l1,l2] at this;exact this
   ·exact tX n its its' xs ys f A s hs hs' hf hin j h1 h2
  | lst ys=>
   obtain⟨a',its',rfl,p',hs'⟩:=he;simp[bh] at h;subst h;exact SeqAt.RcNeAt.tuple_list p p'.isList hu0
  | arr kvs=>
   simp[bh] at h
  | dct kvs=>
   simp[bh] at h
  | jl kvs=>
   simp[bh] at h
  | clo _ _=>
   simp[bh] at h
 | lst xs=>
  obtain⟨a,its,rfl,p,hs⟩:=hd;cases e with
  | non=>
   cases he;simp[bh] at h;subst h;exact SeqAt.RcNeAt.list_none p.isList hu0
  | bl c'=>
   cases he;simp[bh] at h;subst h;exact SeqAt.RcNeAt.list_bool c' p.isList hu0
  | int j=>
   obtain⟨t,rfl⟩:=he;simp[bh] at h;subst h;exact SeqAt.RcNeAt.list_int j t p.isList hu0
  | str y=>
   obtain⟨t,rfl⟩:=he;simp[bh] at h;subst h;exact SeqAt.RcNeAt.list_str _ t p.isList hu0
  | tup ys=>
   obtain⟨a',its',rfl,p',hs'⟩:=he;simp[bh] at h;subst h;exact SeqAt.RcNeAt.list_tuple p.isList p' hu0
  | lst ys=>
   obtain⟨a',its',rfl,p',hs'⟩:=he;simp only[bh] at h;have l1:=hs.length;have l2:=hs'.length;by_cases hl:xs.length=ys.length
   ·obtain⟨f,hf,hb⟩:=rR xs ys b h;have:=SeqAt.RcNeAt.lists (e:=f) p.isList p'.isList (by simp only[Qq5];omega) hu0 λj h1 h2=>?_
    ·rw[hb,<-hl,Nat.min_self,beq_self_eq_true,Bool.and_true,<-l1];simp only[Qq5] at this;exact this
    ·exact tX n its its' xs ys f A s hs hs' hf hin j h1 h2
   ·have:=xE hl b h;subst this;exact SeqAt.RcNeAt.lists_lengths p.isList p'.isList (by simp only[Qq5];rw[l1,l2];simpa using hl) hu0
  | arr kvs=>
   simp[bh] at h
  | dct kvs=>
   simp[bh] at h
  | jl kvs=>
   simp[bh] at h
  | clo _ _=>
   simp[bh] at h
 | arr kvs=>
  cases e<;>simp[bh] at h
 | dct kvs=>
  cases e<;>simp[bh] at h
 | jl kvs=>
  cases e<;>simp[bh] at h
 | clo _ _=>
  cases e<;>simp[bh] at h
section
variable{X:Cx}{C:Cfg}
def abk(K:Fg):R2:=λx y H Q=>∃dx dy b,Rep K H dx x/\Rep K H dy y/\bh 60 dx dy=some b/\Q (.bl b) H
def aba(K:Fg):R2:=λx y H Q=>∃dx dy b,Rep K H dx x/\Rep K H dy y/\bh 60 dx dy=some b/\Q (.bl (!b)) H
theorem Yy(hu:X.A.units+60<cLine):m9 X (compareOp .Eq) (abk X.K):=by intro pins s σ H x y v u Q I rx ry h;obtain⟨dx,dy,b,h1,h2,h3,q⟩:=h;exact aa6 59 dx dy v u b X.A s (Rep.sh I dx x v h1 rx) (Rep.sh I dy y u h2 ry) h3 hu X.prog X.w X.xe _ ⟨.bl b,H,I,rfl,q⟩
theorem Yq(hu:X.A.units+60<cLine):m9 X (compareOp .NotEq) (aba X.K):=by intro pins s σ H x y v u Q I rx ry h;obtain⟨dx,dy,b,h1,h2,h3,q⟩:=h;exact Ti 59 dx dy v u b X.A s (Rep.sh I dx x v h1 rx) (Rep.sh I dy y u h2 ry) h3 hu X.prog X.w X.xe _ ⟨.bl (!b),H,I,rfl,q⟩
def qz(x y:D):Option D:=(bh 60 x y).map .bl
def IK(x y:D):Option D:=(bh 60 x y).map λb=>.bl (!b)
theorem abK:pG C (abk C.K) qz:=by
 intro Pr F env σ H x y d vx vy Q r hx hy h q;unfold qz at h;cases e:bh 60 x y with
 | none=>rw[e] at h;cases h
 | some b=>
  rw[e] at h;cases h;exact⟨x,y,b,hx.rep r.fr,hy.rep r.fr,e,q _ H F r (aM.refl F) rfl⟩
theorem abG:pG C (aba C.K) IK:=by
 intro Pr F env σ H x y d vx vy Q r hx hy h q;unfold IK at h;cases e:bh 60 x y with
 | none=>rw[e] at h;cases h
 | some b=>
  rw[e] at h;cases h;exact⟨x,y,b,hx.rep r.fr,hy.rep r.fr,e,q _ H F r (aM.refl F) rfl⟩
def My(x:D):List D->Option Bool
 | []=>some false
 | y::ys=>match bh 59 y x,My x ys with
  | some a,some b=>some (a||b)
  | _,_=>none
theorem Kf(x:D):∀(ys:List D) (b:Bool),My x ys=some b->(∀y∈ys,∃c,bh 59 y x=some c)/\(b=true ↔ ∃y∈ys,bh 59 y x=some true)
 | [],b,h=>by simp[My] at h;subst h;simp
 | y::ys,b,h=>by
  unfold My at h;cases h1:bh 59 y x with
  | none=>rw[h1] at h;simp at h
  | some c=>
   cases h2:My x ys with
   | none=>rw[h1,h2] at h;simp at h
   | some d=>
    rw[h1,h2] at h;obtain⟨i1,i2⟩:=Kf x ys d h2;have hb:b=(c||d):=by simpa using h.symm
    refine⟨λz hz=>?_,?_⟩
    ·rcases Qq2.mp hz with rfl|hz
     ·exact⟨c,h1⟩
     ·exact i1 z hz
    ·rw[hb,Bool.or_eq_true];constructor
     ·rintro(hc|hd)
      ·exact⟨y,Qqj,by rw[h1,hc]⟩
      ·obtain⟨z,hz,e⟩:=i2.mp hd;exact⟨z,Qqq _ hz,e⟩
     ·rintro⟨z,hz,e⟩;rcases Qq2.mp hz with rfl|hz
      ·rw[h1] at e;left;simpa using e
      ·right;exact i2.mpr ⟨z,hz,e⟩
open Classical in
noncomputable def Jl(h:Heap)(x:D)(u:Value):Bool:=decide (∃y,Sh h y u/\bh 59 y x=some true)
open Classical in
theorem Dy{h:Heap}{x y:D}{u:Value}{c:Bool}(hy:Sh h y u)(e:bh 59 y x=some c):Jl h x u=c:=by
 unfold Jl;cases c with
 | true=>exact Qxj ⟨y,hy,e⟩
 | false=>
  refine Qw3 ?_;rintro⟨z,hz,e'⟩;have:=Ky 59 z y x u true false hz hy e' e;cases this
theorem Ip{s:Shared}{A:Around}{x:D}{v:Value}{ys:List D}{us:List Value}{b:Bool}(hx:Sh s.heap x v)(hs:Bj s.heap ys us)(h:My x ys=some b)(hu:A.units+59<cLine) :
  (∀w,w∈us.toArray->SeqAt.EqAt A s w v (Jl s.heap x w))/\us.toArray.any (Jl s.heap x)=b:=by
 obtain⟨h1,h2⟩:=Kf x ys b h;have item:∀w∈us,∃y∈ys,Sh s.heap y w:=λw hw=>by
  obtain⟨j,hj,e⟩:=List.mem_iff_getElem.mp hw;obtain⟨d,e1,e2⟩:=lV hs (show us[j]? = some w by rw[Qwk hj,e]);exact⟨d,Qxw e1,e2⟩
 have back:∀{ys:List D} {us:List Value},Bj s.heap ys us->∀y∈ys,∃w∈us,Sh s.heap y w:=by
  intro ys
  induction ys with
  | nil=>intro us _ y hy;cases hy
  | cons z zs ih=>
   intro us hs y hy;obtain⟨w,r,rfl,g1,g2⟩:=hs;rcases Qq2.mp hy with rfl|hy
   ·exact⟨w,Qqj,g1⟩
   ·obtain⟨w',m,g⟩:=ih g2 y hy;exact⟨w',Qqq _ m,g⟩
 refine⟨λw hw=>?_,?_⟩
 ·obtain⟨y,hy,sy⟩:=item w (by simpa using hw);obtain⟨c,hc⟩:=h1 y hy;rw[Dy sy hc];exact Di 59 y x w v c A s sy hx hc hu
 ·rw[List.any_toArray,Qj1,h2,List.any_eq_true];constructor
  ·rintro⟨w,hw,e⟩;obtain⟨y,hy,sy⟩:=item w hw;obtain⟨c,hc⟩:=h1 y hy;rw[Dy sy hc] at e;subst e;exact⟨y,hy,hc⟩
  ·rintro⟨y,hy,e⟩;obtain⟨w,hw,sy⟩:=back hs y hy;exact⟨w,hw,Dy sy e⟩
def Oj:D->Option (List D)
 | .tup xs=>some xs
 | .lst xs=>some xs
 | .arr xs=>some xs
 | _=>none
def Xw(K:Fg)(neg:Bool):R2:=λx y H Q=>∃dx dy ys b,Rep K H dx x/\Rep K H dy y/\Oj dy=some ys/\My dx ys=some b/\Q (.bl (if neg then !b else b)) H
theorem Yw(hu:X.A.units+61<cLine):m9 X (compareOp .In) (Xw X.K false):=by
 intro pins s σ H x y v u Q I rx ry h;obtain⟨dx,dy,ys,b,h1,h2,h3,h4,q⟩:=h;have hx:=Rep.sh I dx x v h1 rx;have hy:=Rep.sh I dy y u h2 ry;have hin:X.A.in1.units+59<cLine:=by show X.A.units+1+59<cLine;omega
 cases dy with
 | tup zs=>
  cases h3;obtain⟨a,its,rfl,p,hs⟩:=hy;obtain⟨g1,g2⟩:=Ip (A:=X.A.in1) hx hs h4 hin;refine SeqAt.in_tupleAt (Jl s.heap dx) p g1 ⟨.bl _,H,I,rfl,?_⟩;rw[g2];exact q
 | lst zs=>
  cases h3;obtain⟨a,its,rfl,p,hs⟩:=hy;obtain⟨g1,g2⟩:=Ip (A:=X.A.in1) hx hs h4 hin;refine SeqAt.in_listAt (Jl s.heap dx) p.isList g1 ⟨.bl _,H,I,rfl,?_⟩;rw[g2];exact q
 | arr zs=>
  cases h3;obtain⟨a,its,rfl,p,hs⟩:=hy;obtain⟨g1,g2⟩:=Ip (A:=X.A.in1) hx hs h4 hin;refine SeqAt.in_listAt (Jl s.heap dx) p.isList g1 ⟨.bl _,H,I,rfl,?_⟩;rw[g2];exact q
 | _=>cases h3
end
theorem pG.or{C:Cfg}{r r':R2}{g g':D->D->Option D}(h:pG C r g)(h':pG C r' g'):pG C (λx y H Q=>r x y H Q\/r' x y H Q) (λx y=>(g x y).or (g' x y)):=by
 intro Pr F env σ H x y d vx vy Q rl hx hy e q;have e:(g x y).or (g' x y)=some d:=e;cases e1:g x y with
 | some c=>
  rw[e1] at e;cases e;exact .inl (h Pr F env σ H x y d vx vy Q rl hx hy e1 q)
 | none=>
  rw[e1] at e;exact .inr (h' Pr F env σ H x y d vx vy Q rl hx hy e q)
section
variable{X:Cx}{C:Cfg}
def ZS(x y:D):Option D:=match Oj y with
 | some ys=>(My x ys).map .bl
 | none=>none
theorem YT:pG C (Xw C.K false) ZS:=by
 intro Pr F env σ H x y d vx vy Q r hx hy h q;unfold ZS at h;cases e1:Oj y with
 | none=>rw[e1] at h;cases h
 | some ys=>
  rw[e1] at h;cases e:My x ys with
  | none=>simp only[e,Option.map_none] at h;cases h
  | some b=>
   simp only[e,Option.map_some] at h;cases h;exact⟨x,y,ys,b,hx.rep r.fr,hy.rep r.fr,e1,e,q _ H F r (aM.refl F) rfl⟩
def ZR(x y:D):Option D:=match x,y with
 | .str [c],.str z=>some (.bl (decide (c∈z)))
 | _,_=>none
abbrev abh:R2:=λx y H Q=>∃i j,x = .str i/\y = .str j/\Q (.bl (!(Builtin.Str.occurrences j i 0 j.length 1).isEmpty)) H
theorem one_sign(c:Nat)(z:List Nat):(!(Builtin.Str.occurrences (strOf z) (strOf [c]) 0 (strOf z).length 1).isEmpty)=decide (c∈z):=by
 have:=StrLaws.found_one (strOf z) c;unfold strOf at this ⊢
 simpa using this
theorem YS:pG C abh ZR:=by
 intro Pr F env σ H x y d vx vy Q r hx hy h q;unfold ZR at h;split at h
 ·rename_i c z;cases h;obtain⟨rfl,_⟩:=hx.str;obtain⟨rfl,_⟩:=hy.str;refine⟨_,_,rfl,rfl,?_⟩;rw[one_sign];exact q _ H F r (aM.refl F) rfl
 ·cases h
def Wj(x y:D):Option D:=(ZS x y).or (ZR x y)
abbrev abj(K:Fg):R2:=λx y H Q=>Xw K false x y H Q\/abh x y H Q
theorem Yx(hu:X.A.units+61<cLine):m9 X (compareOp .In) (abj X.K):=(Yw hu).or Mh
theorem abJ:pG C (abj C.K) Wj:=YT.or YS
def isPlain(x:V):Prop:=x = .non\/∃b,x = .bl b
theorem Yu:m9 X (compareOp .Is) (λx y H Q=>isPlain y/\Q (.bl (decide (x=y))) H):=by
 intro pins s σ H x y v u Q I rx ry h;obtain⟨hp,q⟩:=h;rcases hp with rfl|⟨b,rfl⟩
 ·exact Yt pins s σ H x .non v u Q I rx ry ⟨rfl,q⟩
 ·cases ry;refine wpAny_is_plain ?_ (vD I q ?_)
  ·cases x<;>first|(cases rx;rfl)|(obtain⟨t,rfl⟩:=rx;rfl)
  ·cases x with
   | bl c=>cases rx;cases b<;>cases c<;>rfl
   | _=>first|(cases rx;rfl)|(obtain⟨t,rfl⟩:=rx;rfl)
theorem Mg:m9 X (compareOp .IsNot) (λx y H Q=>isPlain y/\Q (.bl (!decide (x=y))) H):=by
 intro pins s σ H x y v u Q I rx ry h;obtain⟨hp,q⟩:=h;rcases hp with rfl|⟨b,rfl⟩
 ·exact Uj pins s σ H x .non v u Q I rx ry ⟨rfl,q⟩
 ·cases ry;refine wpAny_isNot_plain ?_ (vD I q ?_)
  ·cases x<;>first|(cases rx;rfl)|(obtain⟨t,rfl⟩:=rx;rfl)
  ·cases x with
   | bl c=>cases rx;cases b<;>cases c<;>rfl
   | _=>first|(cases rx;rfl)|(obtain⟨t,rfl⟩:=rx;rfl)
def isD:D->D->Option Bool
 | .non,.non=>some true
 | .bl a,.bl b=>some (a == b)
 | _,.non=>some false
 | _,.bl _=>some false
 | _,_=>none
def IV(x y:D):Option D:=(isD x y).map .bl
def vA(x y:D):Option D:=(isD x y).map λb=>.bl (!b)
theorem Wg{F H:Hp}{x y:D}{vx vy:V}{b:Bool}(hx:gU C.K F H x vx)(hy:gU C.K F H y vy)(h:isD x y=some b):isPlain vy/\decide (vx=vy)=b:=by
 have adM:∀a,¬(V.ref a=V.non):=λa e=>by cases e
 cases y with
 | non=>
  obtain rfl:=hy.non;refine⟨.inl rfl,?_⟩;cases x with
  | non=>obtain rfl:=hx.non;simp[isD] at h;simp[h]
  | bl c=>obtain rfl:=hx.bl;simp[isD] at h;simp[h]
  | int i=>obtain rfl:=hx.int;simp[isD] at h;simp[h]
  | str z=>obtain⟨rfl,_⟩:=hx.str;simp[isD] at h;simp[h]
  | tup xs=>rcases hx with ⟨_,a,_,rfl,_⟩|⟨a,rfl,_⟩<;>(simp[isD] at h;simp[h])
  | lst xs=>rcases hx with ⟨_,a,_,rfl,_⟩|⟨a,rfl,_⟩<;>(simp[isD] at h;simp[h])
  | arr xs=>rcases hx with ⟨_,a,_,rfl,_⟩|⟨a,rfl,_⟩<;>(simp[isD] at h;simp[h])
  | dct xs=>rcases hx with ⟨_,a,_,rfl,_⟩|⟨a,rfl,_⟩<;>(simp[isD] at h;simp[h])
  | jl xs=>rcases hx with ⟨_,a,_,rfl,_⟩|⟨a,rfl,_⟩<;>(simp[isD] at h;simp[h])
  | clo st xs=>rcases hx with ⟨a,_,rfl,_⟩|⟨a,rfl,_⟩<;>(simp[isD] at h;simp[h])
 | bl k=>
  obtain rfl:=hy.bl;refine⟨.inr ⟨k,rfl⟩,?_⟩;cases x with
  | non=>obtain rfl:=hx.non;simp[isD] at h;simp[h]
  | bl c=>obtain rfl:=hx.bl;simp only[isD,Qw9] at h;rw[<-h,Z3]
  | int i=>obtain rfl:=hx.int;simp[isD] at h;simp[h]
  | str z=>obtain⟨rfl,_⟩:=hx.str;simp[isD] at h;simp[h]
  | tup xs=>rcases hx with ⟨_,a,_,rfl,_⟩|⟨a,rfl,_⟩<;>(simp[isD] at h;simp[h])
  | lst xs=>rcases hx with ⟨_,a,_,rfl,_⟩|⟨a,rfl,_⟩<;>(simp[isD] at h;simp[h])
  | arr xs=>rcases hx with ⟨_,a,_,rfl,_⟩|⟨a,rfl,_⟩<;>(simp[isD] at h;simp[h])
  | dct xs=>rcases hx with ⟨_,a,_,rfl,_⟩|⟨a,rfl,_⟩<;>(simp[isD] at h;simp[h])
  | jl xs=>rcases hx with ⟨_,a,_,rfl,_⟩|⟨a,rfl,_⟩<;>(simp[isD] at h;simp[h])
  | clo st xs=>rcases hx with ⟨a,_,rfl,_⟩|⟨a,rfl,_⟩<;>(simp[isD] at h;simp[h])
 | _=>cases x<;>simp[isD] at h
theorem abI:pG C (λx y H Q=>isPlain y/\Q (.bl (decide (x=y))) H) IV:=by
 intro Pr F env σ H x y d vx vy Q r hx hy h q;unfold IV at h;cases e:isD x y with
 | none=>rw[e] at h;cases h
 | some b=>
  rw[e] at h;cases h;obtain⟨h1,h2⟩:=Wg hx hy e;exact⟨h1,by rw[h2];exact q _ H F r (aM.refl F) rfl⟩
theorem Qv:pG C (λx y H Q=>isPlain y/\Q (.bl (!decide (x=y))) H) vA:=by
 intro Pr F env σ H x y d vx vy Q r hx hy h q;unfold vA at h;cases e:isD x y with
 | none=>rw[e] at h;cases h
 | some b=>
  rw[e] at h;cases h;obtain⟨h1,h2⟩:=Wg hx hy e;exact⟨h1,by rw[h2];exact q _ H F r (aM.refl F) rfl⟩
def gI(c:Int->Int->Bool)(f:Int->Int->D)(x y:D):Option D:=match x,y with
 | .int i,.int j=>if c i j=true then some (f i j) else none
 | _,_=>none
theorem Qy{Cd:Int->Int->Prop}{c:Int->Int->Bool}{f:Int->Int->D}{g:Int->Int->V}(hc:∀i j,c i j=true->Cd i j)(hf:∀i j F,Rep C.K F (f i j) (g i j)):pG C (rI Cd g) (gI c f):=by
 intro Pr F env σ H x y d vx vy Q r hx hy h q;unfold gI at h;split at h
 ·rename_i i j;split at h
  ·rename_i hcc;cases h;obtain rfl:=hx.int;obtain rfl:=hy.int;exact⟨i,j,rfl,rfl,hc i j hcc,q _ H F r (aM.refl F) (hf i j F)⟩
  ·cases h
 ·cases h
theorem Qx{f:Int->Int->D}{g:Int->Int->V}(hf:∀i j F,Rep C.K F (f i j) (g i j)):pG C (Nj g) (gI (λ_ _=>true) f):=by
 intro Pr F env σ H x y d vx vy Q r hx hy h q;unfold gI at h;split at h
 ·rename_i i j;rw[if_pos rfl] at h;cases h;obtain rfl:=hx.int;obtain rfl:=hy.int;exact⟨i,j,rfl,rfl,q _ H F r (aM.refl F) (hf i j F)⟩
 ·cases h
def jR(i j:Int):Bool:=decide (Builtin.Int.intBits i+Builtin.Int.intBits j<=134217728)
theorem Uk:m9 X (binaryOp .Mult) (rI (λi j=>jR i j=true) λi j=>.int (i*j)):=
 opI λi j _ _ _ _ _ hc q=>mul_int q (mulOk_of_bits (Qq0 _) (Qq0 _) (Qw6 hc))
def rN:D->D->Option D:=gI jR λi j=>.int (i*j)
def Iv:D->D->Option D:=gI (λ_ _=>true) λi j=>.int (i - j)
def ZP:D->D->Option D:=gI (λ_ j=>decide (0<j)) λi j=>.int (i % j)
def Iw:D->D->Option D:=gI (λi j=>decide (0<=j/\j<=1000000/\i.natAbs<2^64)) λi j=>.int (i^j.toNat)
def MJ:D->D->Option D:=gI (λi j=>decide (0<=j/\j<=1000000/\i.natAbs<2^64)) λi j=>.int (i*2^j.toNat)
def zU:D->D->Option D:=gI (λ_ j=>decide (0<=j)) λi j=>.int (i / 2^j.toNat)
def CW:D->D->Option D:=gI (λ_ _=>true) λi j=>.int (Builtin.bitAnd i j)
theorem YK:pG C (rI (λi j=>jR i j=true) λi j=>.int (i*j)) rN:=Qy (λ_ _ h=>h) λ_ _ _=>rfl
theorem YF:pG C (Nj λi j=>.int (i - j)) Iv:=Qx λ_ _ _=>rfl
theorem YL:pG C (rI (λ_ j=>0<j) λi j=>.int (i % j)) ZP:=Qy (λ_ _ h=>Qw6 h) λ_ _ _=>rfl
theorem YJ:pG C (rI Vx λi j=>.int (i^j.toNat)) Iw:=Qy (λi j h=>(show 0<=j/\j<=1000000/\i.natAbs<2^64 from Qw6 h)) λ_ _ _=>rfl
theorem YH:pG C (rI Vx λi j=>.int (i*2^j.toNat)) MJ:=Qy (λi j h=>(show 0<=j/\j<=1000000/\i.natAbs<2^64 from Qw6 h)) λ_ _ _=>rfl
theorem YG:pG C (rI (λ_ j=>0<=j) λi j=>.int (i / 2^j.toNat)) zU:=Qy (λ_ _ h=>Qw6 h) λ_ _ _=>rfl
theorem YX:pG C (Nj λi j=>.int (Builtin.bitAnd i j)) CW:=Qx λ_ _ _=>rfl
abbrev abb:R2:=λx y H Q=>∃i j,x = .str i/\y = .str j/\Q (.bl (decide (i.cps.toList<j.cps.toList))) H
def acd:D->D->Option D:=gI (λ_ _=>true) λi j=>.bl (decide (i<j))
def ZQ(x y:D):Option D:=match x,y with
 | .str a,.str b=>some (.bl (decide (a<b)))
 | _,_=>none
def Wi(x y:D):Option D:=(acd x y).or (ZQ x y)
theorem YM:pG C abb ZQ:=by
 intro Pr F env σ H x y d vx vy Q r hx hy h q;unfold ZQ at h;split at h
 ·cases h;obtain⟨rfl,_⟩:=hx.str;obtain⟨rfl,_⟩:=hy.str;exact⟨_,_,rfl,rfl,q _ H F r (aM.refl F) (by show V.bl _=V.bl _;congr)⟩
 ·cases h
abbrev abd:R2:=λx y H Q=>Nj (λi j=>.bl (decide (i<j))) x y H Q\/abb x y H Q
theorem Ys:m9 X (compareOp .Lt) abd:=abE.or Mf
theorem YQ:pG C (Nj λi j=>.bl (decide (i<j))) acd:=Qx λ_ _ _=>rfl
theorem abH:pG C abd Wi:=YQ.or YM
def Pj(K:Fg):R2:=λx y H Q=>∃a b ys,x = .ref a/\y = .ref b/\kI K H a []/\kI K H b ys/\Q (.ref b) H
theorem Qu:m9 X (binaryOp .Add) (Pj X.K):=by
 intro pins s σ H x y v u Q I rx ry h;obtain⟨a,b,ys,rfl,rfl,ha,hb,q⟩:=h;cases rx;cases ry;obtain⟨its,r1,p1,_⟩:=I.tuple ha;obtain⟨its2,r2,p2,_⟩:=I.tuple hb;cases r1;obtain⟨⟨cls,dd,data,sl⟩,ho,hc,n,hd⟩:=id p1;obtain⟨⟨cls2,dd2,data2,sl2⟩,ho2,hc2,n2,hd2⟩:=id p2;simp only at hc hd hc2 hd2;subst hc hd hc2 hd2;exact concat_meets ⟨_,ho,rfl⟩ ⟨_,ho2,rfl⟩ noFill_tuple_add seq_tuple_add PySem.F.slot_tuple_add PySem.F.entry_tuple_add (PySem.F.args_tuple_add_2 _ _)
  (tuple_addW0 a b ([]:List Value).toArray its2.toArray n n2 dd dd2 sl sl2 (by simp)) ⟨ho,ho2,⟨.ref b,H,I,rfl,q⟩⟩
abbrev abm:R2:=λx y H Q=>∃i j,x = .str i/\y = .str j/\i.length+j.length<=sizeLine/\Q (.str (i++j)) H
abbrev abn(K:Fg):R2:=λx y H Q=>Nj (λi j=>.int (i+j)) x y H Q\/abm x y H Q\/abl x y H Q\/VN K x y H Q\/Pj K x y H Q
theorem Um:m9 X (binaryOp .Add) (abn X.K):=YC.or (Ig.or (Yz.or (Ul.or Qu)))
def cW(x y:D):Option D:=match x,y with
 | .int i,.int j=>some (.int (i+j))
 | .str a,.str b=>if a.length+b.length<=sizeLine then some (.str (a++b)) else none
 | .lst a,.lst b=>if a.length+b.length<=sizeLine then some (.lst (a++b)) else none
 | .tup a,.tup b=>if a.length+b.length<=sizeLine then some (.tup (a++b)) else none
 | _,_=>none
theorem Bu(a b:List Nat):strOf a++strOf b=strOf (a++b):=by show(⟨(strOf a).cps++(strOf b).cps⟩:Str)=_;unfold strOf;simp
theorem fB(a:List Nat):(strOf a).length=a.length:=by show a.toArray.size=a.length;simp
theorem YZ:pG C (abn C.K) cW:=by
 intro Pr F env σ H x y d vx vy Q r hx hy h q;unfold cW at h;split at h
 ·cases h;obtain rfl:=hx.int;obtain rfl:=hy.int;exact .inl ⟨_,_,rfl,rfl,q _ H F r (aM.refl F) rfl⟩
 ·split at h
  ·rename_i hz;cases h;obtain⟨rfl,_⟩:=hx.str;obtain⟨rfl,_⟩:=hy.str;refine .inr (.inl ⟨_,_,rfl,rfl,by rw[fB,fB];exact hz,?_⟩);rw[Bu];exact q _ H F r (aM.refl F) ⟨rfl,by rw[Qqz];exact hz⟩
  ·cases h
 ·split at h
  ·rename_i hz;cases h;obtain⟨_,a,vs,rfl,h1,h2⟩:=hx.lst r.fr;obtain⟨_,b,ws,rfl,h3,h4⟩:=hy.lst r.fr;refine .inr (.inr (.inl ⟨a,b,vs,ws,rfl,rfl,h1,h3,by rw[h2.length,h4.length];exact hz,λp hp=>?_⟩));obtain⟨r2,s2⟩:=r.new (o:=.lst (vs++ws)) hp;exact q _ _ _ r2 s2 ⟨by rw[Qqz];exact hz,p,_,rfl,aR,bM.mono s2 _ _ (h2.append h4)⟩
  ·cases h
 ·split at h
  ·rename_i hz;cases h;obtain⟨z1,a,vs,rfl,h1,f1,h2⟩:=hx.tup r.fr;obtain⟨z2,b,ws,rfl,h3,f3,h4⟩:=hy.tup r.fr;by_cases hv:vs=[]
   ·subst hv;have e1:_=0:=h2.length.symm;have e2:=Qjx e1;subst e2;refine .inr (.inr (.inr (.inr ⟨a,b,ws,rfl,rfl,h1,h3,?_⟩)));exact q _ H F r (aM.refl F) ⟨z2,b,ws,rfl,f3,h4⟩
   ·refine .inr (.inr (.inr (.inl ⟨a,b,vs,ws,rfl,rfl,h1,h3,hv,by rw[h2.length,h4.length];exact hz,λhw=>?_,λhw p hp=>?_⟩)))
    ·subst hw;have e1:_=0:=h4.length.symm;have e2:=Qjx e1;subst e2;rw[Qxv] at q;exact q _ H F r (aM.refl F) ⟨z1,a,vs,rfl,f1,h2⟩
    ·obtain⟨r2,s2⟩:=r.new (o:=.tup (vs++ws)) hp;exact q _ _ _ r2 s2 ⟨by rw[Qqz];exact hz,p,_,rfl,kI.of aR,bM.mono s2 _ _ (h2.append h4)⟩
  ·cases h
 ·cases h
def G4(K:Fg)(F H:Hp):List D->List V->Prop
 | [],vs=>vs=[]
 | d::ds,vs=>∃v r,vs=v::r/\gU K F H d v/\G4 K F H ds r
def tAB(C:Cfg)(ev:dD):TA:=λσ H Q=>∃(Pr F:Hp) (env env':Env) (ds:List D),Rel C Pr F env σ H/\ev env = .ok ds env'/\
 ∀vs H' F',Rel C Pr F' env' σ H'->aM F F'->G4 C.K F' H' ds vs->Q vs H'
def Vt(X:Cx)(C:Cfg)(es:List Expr)(ev:dD):Prop:=PA X es (tAB C ev)
def CallD(C:Cfg)(r:List V->Hp->VK->Prop)(g:List D->Option D):Prop:=∀(Pr F:Hp) (env:Env) (σ:L2.St) (H:Hp) (ds:List D) (d:D) (vs:List V) (Q:VK),Rel C Pr F env σ H->G4 C.K F H ds vs->g ds=some d->
 (∀v H' F',Rel C Pr F' env σ H'->aM F F'->Rep C.K F' d v->Q v H')->r vs H Q
def au(g:List D->Option D)(a:dD):Ev:=λenv=>bindR (a env) λds aK=>ig (g ds) aK
theorem KH{r:List V->Hp->VK->Prop}{g:List D->Option D}{a:dD}(o:CallD C r g)(σ:L2.St)(H:Hp)(Q:VK)(h:tE C (au g a) σ H Q):tCB r (tAB C a) σ H Q:=by obtain⟨Pr,F,env,env',d,rl,e,q⟩:=h;obtain⟨ds,aK,e1,e2⟩:=aU e;obtain⟨e3,rfl⟩:=fG e2;exact⟨Pr,F,env,env',ds,rl,e1,λvs H1 F1 r1 s1 p1=>o Pr F1 env' σ H1 ds d vs Q r1 p1 e3 λv H2 F2 r2 s2 p2=>q v H2 F2 r2 (s1.trans s2) p2⟩
theorem tH{x:Str}{p pos:Pos}{e:Expr}{es:List Expr}{id:String}{r:List V->Hp->VK->Prop}{g:List D->Option D}{a:dD}(hc:jH X (.builtin id) r)(o:CallD C r g)(hg:Gl X x)(hm:X.mg x=none)(hv:bootBuiltins x=some (.builtin id))(ha:Vt X C (e::es) a)
  (hn:x ≠ "__name__":=by decide) (hdb:lK x:=by decide) (he:starEach (e::es) X.env=(false,eval e X.env)::starEach es X.env:=by rfl) (hpl:(backTo pos (starEach es X.env)).any (·.1)=false:=by rfl) :
  PX X C (.Call (.Name x p) (e::es) [] pos) (au g a):=(Qq hc hg hm hv ha hn hdb he hpl).imp (KH o)
theorem qy{x:Str}{p pos:Pos}{e:Expr}{es:List Expr}{T:String}{r:List V->Hp->VK->Prop}{g:List D->Option D}{a:dD}(hc:jH X (.type T) r)(o:CallD C r g)(hg:Gl X x)(hm:X.mg x=none)(hv:bootBuiltins x=some (.type T))(ha:Vt X C (e::es) a)
  (hn:x ≠ "__name__":=by decide) (hdb:lK x:=by decide) (he:starEach (e::es) X.env=(false,eval e X.env)::starEach es X.env:=by rfl) (hpl:(backTo pos (starEach es X.env)).any (·.1)=false:=by rfl) :
  PX X C (.Call (.Name x p) (e::es) [] pos) (au g a):=(LK hc hg hm hv ha hn hdb he hpl).imp (KH o)
theorem lM{K:Fg}{F H:Hp}{d:D}{vs:List V}(h:G4 K F H [d] vs):∃v,vs=[v]/\gU K F H d v:=by obtain⟨v,r,rfl,h1,h2⟩:=h;cases h2;exact⟨v,rfl,h1⟩
theorem aaa{K:Fg}{F H:Hp}{d e:D}{vs:List V}(h:G4 K F H [d,e] vs):∃v w,vs=[v,w]/\gU K F H d v/\gU K F H e w:=by obtain⟨v,r,rfl,h1,h2⟩:=h;obtain⟨w,rfl,h3⟩:=lM h2;exact⟨v,w,rfl,h1,h3⟩
def jN:List D->Option D
 | [.str x]=>some (.int x.length)
 | [.tup xs]=>some (.int xs.length)
 | [.lst xs]=>some (.int xs.length)
 | [.arr xs]=>some (.int xs.length)
 | _=>none
theorem Z8:CallD C (λxs H Q=>∃x n,xs=[x]/\acE C.K x H n/\Q (.int n) H) jN:=by
 intro Pr F env σ H ds d vs Q r hs h q;unfold jN at h;split at h
 ·cases h;obtain⟨v,rfl,hv⟩:=lM hs;obtain⟨rfl,hz⟩:=hv.str;exact⟨_,_,rfl,⟨by rw[fB];exact hz,(fB _).symm⟩,q _ H F r (aM.refl F) rfl⟩
 ·cases h;obtain⟨v,rfl,hv⟩:=lM hs;obtain⟨_,a,ws,rfl,h1,_,h2⟩:=hv.tup r.fr;exact⟨_,_,rfl,.inr ⟨ws,h1,h2.length.symm⟩,q _ H F r (aM.refl F) rfl⟩
 ·cases h;obtain⟨v,rfl,hv⟩:=lM hs;obtain⟨_,a,ws,rfl,h1,h2⟩:=hv.lst r.fr;exact⟨_,_,rfl,.inl ⟨ws,m8.of h1,h2.length.symm⟩,q _ H F r (aM.refl F) rfl⟩
 ·cases h;obtain⟨v,rfl,hv⟩:=lM hs;obtain⟨_,a,ws,rfl,h1,h2⟩:=hv.arr r.fr;exact⟨_,_,rfl,.inl ⟨ws,h1,h2.length.symm⟩,q _ H F r (aM.refl F) rfl⟩
 ·cases h
def cV:List D->Option D
 | [.tup xs]=>some (.tup xs)
 | [.lst xs]=>some (.tup xs)
 | _=>none
abbrev O9(K:Fg):List V->Hp->VK->Prop:=λxs H Q=>∃p ys,xs=[.ref p]/\((m8 K H p ys/\∀l,H l=none->Q (.ref l) (upd H l (.tup ys)))\/(kI K H p ys/\Q (.ref p) H))
theorem Ry:CallD C (O9 C.K) cV:=by
 intro Pr F env σ H ds d vs Q r hs h q;unfold cV at h;split at h
 ·cases h;obtain⟨v,rfl,hv⟩:=lM hs;obtain⟨z,a,ws,rfl,h1,f1,h2⟩:=hv.tup r.fr;exact⟨a,ws,rfl,.inr ⟨h1,q _ H F r (aM.refl F) ⟨z,a,ws,rfl,f1,h2⟩⟩⟩
 ·cases h;obtain⟨v,rfl,hv⟩:=lM hs;obtain⟨z,a,ws,rfl,h1,h2⟩:=hv.lst r.fr;refine⟨a,ws,rfl,.inl ⟨m8.of h1,λl hl=>?_⟩⟩;obtain⟨r2,s2⟩:=r.new (o:=.tup ws) hl;exact q _ _ _ r2 s2 ⟨z,l,ws,rfl,kI.of aR,bM.mono s2 _ _ h2⟩
 ·cases h
def signs(x:List Nat):List D:=x.map λc=>.str [c]
abbrev Pa:List V->Hp->VK->Prop:=λxs H Q=>∃z,xs=[.str z]/\z.length<=sizeLine/\∀l,H l=none->Q (.ref l) (upd H l (.lst (z.cps.toList.map λc=>V.str ⟨#[c]⟩)))
theorem Jg(hh:X.calm=true):jH X (.type "list") Pa:=by
 intro pins s σ H xs us Q I r h;obtain⟨z,rfl,hz,q⟩:=h;obtain⟨u,rfl,⟨t,rfl⟩⟩:=vals1 r;refine call_list_str (I.ok.hd hh) z t (λh' tk acc' c' kp e hacc=>?_) hz;refine⟨.ref s.heap.objs.size,_,I.laid kp (Qq0 _) (show gB X.prog X.w _ h' _ (.lst (z.cps.toList.map λc=>V.str ⟨#[c]⟩)) from⟨?_,acc'.toList,c',?_,by simpa using e⟩),rfl,q _ (I.hok.fresh (Qq0 _))⟩
 ·simpa[Str.length] using hz
 ·obtain⟨hsz,hit⟩:=hacc;have go:∀(cs:List Nat) (vs:List Value),vs.length=cs.length->(∀(j:Nat) (v:Value),vs[j]? = some v->∃(c:Nat) (u:Tok),cs[j]? = some c/\v=Value.str ⟨#[c]⟩ u)->Vals (cs.map λc=>V.str ⟨#[c]⟩) vs:=by
   intro cs
   induction cs with
   | nil=>intro vs hl _;rw[Qjx hl];exact .nil
   | cons c cs ih=>
    intro vs hl hv;cases vs with
    | nil=>simp at hl
    | cons v vs=>
     obtain⟨c',u,e1,e2⟩:=hv 0 v rfl;simp at e1;subst e1 e2;exact .cons ⟨u,rfl⟩ (ih vs (by simpa using hl) λj w hw=>by simpa using hv (j+1) w (by simpa using hw))
  refine go _ _ (by simpa using hsz) λj v hv=>?_;obtain⟨c,u,e1,e2⟩:=hit j v (by simpa using hv);exact⟨c,u,by simpa using e1,e2⟩
def Av:List D->Option D
 | [.tup xs]=>some (.lst xs)
 | [.lst xs]=>some (.lst xs)
 | [.str x]=>some (.lst (signs x))
 | _=>none
abbrev Pb(K:Fg):List V->Hp->VK->Prop:=λxs H Q=>(∃p ys,xs=[.ref p]/\(m8 K H p ys\/kI K H p ys)/\∀l,H l=none->Q (.ref l) (upd H l (.lst ys)))\/Pa xs H Q
theorem Jh(hh:X.calm=true):jH X (.type "list") (Pb X.K):=Dq.or (Jg hh)
theorem xZ{K:Fg}{F:Hp}:∀x:List Nat,bM K F (signs x) (x.map λc=>V.str ⟨#[c]⟩)
 | []=>rfl
 | c::x=>⟨_,_,rfl,⟨rfl,by rw[sizeLine_eq];simp⟩,xZ x⟩
theorem Vf:CallD C (Pb C.K) Av:=by
 intro Pr F env σ H ds d vs Q r hs h q;unfold Av at h;split at h
 ·cases h;obtain⟨v,rfl,hv⟩:=lM hs;obtain⟨z,a,ws,rfl,h1,f1,h2⟩:=hv.tup r.fr;refine .inl ⟨a,ws,rfl,.inr h1,λl hl=>?_⟩;obtain⟨r2,s2⟩:=r.new (o:=.lst ws) hl;exact q _ _ _ r2 s2 ⟨z,l,ws,rfl,aR,bM.mono s2 _ _ h2⟩
 ·cases h;obtain⟨v,rfl,hv⟩:=lM hs;obtain⟨z,a,ws,rfl,h1,h2⟩:=hv.lst r.fr;refine .inl ⟨a,ws,rfl,.inl (m8.of h1),λl hl=>?_⟩;obtain⟨r2,s2⟩:=r.new (o:=.lst ws) hl;exact q _ _ _ r2 s2 ⟨z,l,ws,rfl,aR,bM.mono s2 _ _ h2⟩
 ·rename_i x;cases h;obtain⟨v,rfl,hv⟩:=lM hs;obtain⟨rfl,hz⟩:=hv.str;refine .inr ⟨_,rfl,by rw[fB];exact hz,λl hl=>?_⟩;obtain⟨r2,s2⟩:=r.new (o:=.lst ((strOf x).cps.toList.map λc=>V.str ⟨#[c]⟩)) hl;refine q _ _ _ r2 s2 ⟨by simpa[signs] using hz,l,_,rfl,aR,?_⟩;have e:(strOf x).cps.toList=x:=by simp[strOf]
  rw[e];exact xZ x
 ·cases h
def t6:List D->Option D
 | [.int i,.int j]=>if 0<j/\j<1073741824 then some (.tup [.int (i / j),.int (i % j)]) else none
 | _=>none
theorem M5:CallD C (λxs H Q=>∃i j,xs=[.int i,.int j]/\acG i j/\∀p,H p=none->Q (.ref p) (upd H p (.tup [.int (i / j),.int (i % j)]))) t6:=by
 intro Pr F env σ H ds d vs Q r hs h q;unfold t6 at h;split at h
 ·split at h
  ·rename_i hj;cases h;obtain⟨v,w,rfl,hv,hw⟩:=aaa hs;obtain rfl:=hv.int;obtain rfl:=hw.int;refine⟨_,_,rfl,hj,λp hp=>?_⟩;obtain⟨r2,s2⟩:=r.new (o:=.tup [.int _,.int _]) hp;exact q _ _ _ r2 s2 ⟨by rw[sizeLine_eq];simp,p,_,rfl,kI.of aR,⟨_,_,rfl,rfl,_,_,rfl,rfl,rfl⟩⟩
  ·cases h
 ·cases h
def qj:List D->Option (List Bool)
 | []=>some []
 | .bl b::r=>(qj r).map (b :: ·)
 | _=>none
theorem Fd{K:Fg}{F:Hp}:∀{ds:List D} {bs:List Bool} {vs:List V},qj ds=some bs->bM K F ds vs->vs=bs.map V.bl
 | [],bs,vs,h,hr=>by simp[qj] at h;subst h;cases hr;rfl
 | d::ds,bs,vs,h,hr=>by
  obtain⟨v,r,rfl,h1,h2⟩:=hr;cases d with
  | bl b=>
   simp only[qj] at h;cases e:qj ds with
   | none=>rw[e] at h;cases h
   | some cs=>
    rw[e] at h;cases h;cases h1;rw[Fd e h2]
    rfl
  | _=>simp[qj] at h
theorem DX:∀{bs:List Bool} {us:List Value},Vals (bs.map V.bl) us->us=bs.map Value.bool
 | [],_,.nil=>rfl
 | b::bs,_,.cons r t=>by
  cases r;rw[DX t]
  rfl
theorem zX(bs:List Bool):(List.range bs.length).all (λi=>bs.getD i true)=bs.all id:=by
 induction bs with
 | nil=>rfl
 | cons b bs ih=>
  rw[Qqy,List.range_succ_eq_map,List.all_cons,List.all_map,List.all_cons];simp only[List.getD_cons_zero,id]
  congr 1
theorem M8(hc:X.calm=true):jH X (.builtin "all") (λxs H Q=>∃(p:Addr) (bs:List Bool),xs=[.ref p]/\m8 X.K H p (bs.map V.bl)/\Q (.bl (bs.all id)) H):=by
 intro pins s σ H xs us Q I r h;obtain⟨p,bs,rfl,hq,q⟩:=h;obtain⟨u,rfl,rx⟩:=vals1 r;cases rx;obtain⟨its,rv,pl,_⟩:=I.list hq;have e:=DX rv;subst e;refine call_all_walk (wpAny_pyIter_list pl.isList ?_);have hlt:p<s.heap.objs.size:=by obtain⟨o,e,_⟩:=pl.isList;exact Qq7 e
 refine⟨s.heap.objs.size,_,_,_,_,_,λi=>bs.getD i true,rfl,Walks.list (A:=X.A.in1) (show X.A.in1.handled=none from I.ok.hd hc) s.heap.objs.size p (Qw5 hlt) (bs.map Value.bool).toArray,⟨⟨_,Qwz _ rfl,rfl,rfl⟩,by obtain⟨o,e,rr⟩:=pl.isList;exact⟨o,Qqk _ e,rr⟩⟩,?_,λh' tk hk=>?_⟩
 ·intro i v s' Q' E' hv hq';have hv:(bs.map Value.bool).toArray[i]? = some v:=hv;rw[List.getElem?_toArray,Qw2] at hv;cases hb:bs[i]? with
  | none=>rw[hb] at hv;cases hv
  | some b=>
   rw[hb] at hv;cases hv;refine wpAny_truthy_bool ?_;have this:bs.getD i true=b:=by simp[Qw4,hb]
   have hq':Q' (bs.getD i true) s':=hq'
   rwa [this] at hq'
 ·have I1:Inv X pins σ H { s with heap:=h',toks:=tk }:=I.kept λb o e=>hk b o (by simp;exact Qw5 (Qq7 e)) (Qqk _ e);refine⟨.bl _,H,I1,rfl,?_⟩;have e2:(bs.map Value.bool).toArray.size=bs.length:=by simp
  rw[e2,zX];exact q
def Ja:List D->Option D
 | [.lst ds]=>(qj ds).map λbs=>.bl (bs.all id)
 | _=>none
theorem Z9:CallD C (λxs H Q=>∃(p:Addr) (bs:List Bool),xs=[.ref p]/\m8 C.K H p (bs.map V.bl)/\Q (.bl (bs.all id)) H) Ja:=by
 intro Pr F env σ H ds d vs Q r hs h q;unfold Ja at h;split at h
 ·rename_i es;cases e:qj es with
  | none=>rw[e] at h;cases h
  | some bs=>
   rw[e] at h;cases h;obtain⟨v,rfl,hv⟩:=lM hs;obtain⟨z,a,ws,rfl,h1,h2⟩:=hv.lst r.fr;have e2:=Fd e h2;subst e2;exact⟨a,bs,rfl,m8.of h1,q _ H F r (aM.refl F) rfl⟩
 ·cases h
def jj:List D->Option (List (List Nat))
 | []=>some []
 | .str x::r=>(jj r).map (x :: ·)
 | _=>none
def yJ(sep:List Nat):List (List Nat)->List Nat
 | []=>[]
 | x::r=>r.foldl (λacc y=>acc++sep++y) x
theorem Q0(sep:List Nat)(xs:List (List Nat)):Txt.join (strOf sep) (xs.map strOf)=strOf (yJ sep xs):=by
 unfold Txt.join;unfold Builtin.Str.glued;cases xs with
 | nil=>rfl
 | cons x r=>
  show(⟨(r.map strOf).foldl (λacc p=>acc++(strOf sep).cps++p.cps) (strOf x).cps⟩:Str)=strOf (r.foldl (λacc y=>acc++sep++y) x);have go:∀(r:List (List Nat)) (x:List Nat),(r.map strOf).foldl (λacc p=>acc++(strOf sep).cps++p.cps) (strOf x).cps=(strOf (r.foldl (λacc y=>acc++sep++y) x)).cps:=by
   intro r
   induction r with
   | nil=>intro x;rfl
   | cons y r ih=>
    intro x;rw[Qq3,List.foldl_cons,List.foldl_cons];rw[<-ih (x++sep++y)]
    congr 1
    simp[strOf]
  rw[go]
theorem uU{K:Fg}{F:Hp}:∀{ds:List D} {xs:List (List Nat)} {vs:List V},jj ds=some xs->bM K F ds vs->vs=xs.map λx=>V.str (strOf x)
 | [],bs,vs,h,hr=>by simp[jj] at h;subst h;cases hr;rfl
 | d::ds,bs,vs,h,hr=>by
  obtain⟨v,r,rfl,h1,h2⟩:=hr;cases d with
  | str b=>
   simp only[jj] at h;cases e:jj ds with
   | none=>rw[e] at h;cases h
   | some cs=>
    rw[e] at h;cases h;cases h1.1;rw[uU e h2]
    rfl
  | _=>simp[jj] at h
theorem uF:∀{xs:List (List Nat)} {us:List Value},Vals (xs.map λx=>V.str (strOf x)) us->StrsAre us (xs.map strOf)
 | [],_,.nil=>.nil
 | x::xs,_,.cons r t=>by
  obtain⟨k,rfl⟩:=r;exact .cons _ k (uF t)
def joinFits(sep:List Nat)(xs:List (List Nat)):Bool:=decide ((xs.map List.length).sum+xs.length*sep.length<=16777216)
def rJoin(K:Fg):V->List V->Hp->VK->Prop:=λx vs H Q=>∃sep xs p,x = .str (strOf sep)/\vs=[.ref p]/\m8 K H p (xs.map λx=>V.str (strOf x))/\joinFits sep xs=true/\Q (.str (strOf (yJ sep xs))) H
theorem Ut:MtR X "str.join" (rJoin X.K):=by
 intro pins s σ H x vs v us Q I rx rv h;obtain⟨sep,xs,p,rfl,rfl,hq,hf,q⟩:=h;obtain⟨t,rfl⟩:=rx;obtain⟨u,rfl,ru⟩:=vals1 rv;cases ru;obtain⟨its,r,pl,_⟩:=I.list hq;have hs:=uF r;refine join_list pl.isList (by simpa using hs) ?_ λt' k=>?_
 ·have hf':=Qw6 hf;have e:((xs.map strOf).map (·.length))=xs.map List.length:=by
   rw[Qx7];apply Qj8;intro z _;exact fB z
  rw[e,fB,Qqw];exact hf'
 ·rw[Q0];exact⟨.str _,H,I.tok k,⟨t',rfl⟩,q⟩
theorem Eo(sep:List Nat):∀(r:List (List Nat)) (x:List Nat),(r.foldl (λacc y=>acc++sep++y) x).length=x.length+(r.map List.length).sum+r.length*sep.length
 | [],x=>by simp
 | y::r,x=>by
  rw[List.foldl_cons,Eo sep r,Qqz,Qqz,Qq3,List.sum_cons,Qqy,Nat.add_mul];omega
theorem Q3{sep:List Nat}{xs:List (List Nat)}(h:joinFits sep xs=true):(yJ sep xs).length<=sizeLine:=by
 have h':=Qw6 h;rw[sizeLine_eq];cases xs with
 | nil=>simp[yJ]
 | cons x r=>
  show(r.foldl (λacc y=>acc++sep++y) x).length<=_;rw[Eo];rw[Qq3,List.sum_cons,Qqy,Nat.add_mul] at h';omega
def my(x y:D):Option D:=match x,y with
 | .str sep,.lst ds=>(match jj ds with
  | some xs=>if joinFits sep xs=true then some (.str (yJ sep xs)) else none
  | none=>none)
 | _,_=>none
theorem TJ{o e:Expr}{a b:Ev}{apos cpos:Pos}(hK:X.K=C.K)(ho:PX X C o a)(he:RN X C e b)(hbase:attributeBase o "join" X.env (eval o X.env)=eval o X.env:=by rfl)
  (hs:Lj e X.env:=by rfl)
  (hfew:((backTo cpos (starEach [e] X.env)).all (λx=>!x.1)&&(backToKw cpos (keywordEach [] X.env)).all (λx=>x.1.isSome)
   && decide ([e].length+([]:List Keyword).length+(if ([]:List Keyword).isEmpty then 0 else 1)<30))=true:=by rfl)
  (hline:(apos.endLine == cpos.line)=true:=by rfl) (hplain:(backTo cpos (starEach [] X.env)).any (·.1)=false:=by rfl) :
  PX X C (.Call (.Attribute o "join" apos) [e] [] cpos) (aQ my a b):=by
 refine(V4 PySem.F.plainAttrs_str PySem.F.slot_str_join PySem.F.type_str_join Ut ho (jx he yh hs) hbase hfew hline hs hplain).imp λσ H Q h=>?_;obtain⟨Pr,F,env,env',d,rl,e0,q⟩:=h;obtain⟨x,aK,e1,e2⟩:=aU e0;obtain⟨y,dU,e3,e4⟩:=aU e2;obtain⟨e5,rfl⟩:=fG e4;unfold my at e5;split at e5
 ·rename_i sep ds;split at e5
  ·rename_i xs hxs;split at e5
   ·rename_i hf;cases e5;refine⟨Pr,F,env,aK,_,rl,e1,λvx H1 F1 r1 s1 p1=>?_⟩;obtain⟨rfl,_⟩:=p1;refine⟨rfl,Pr,F1,aK,env',_,r1,e3,λvy H2 F2 r2 s2 p2=>?_⟩;obtain⟨z,l,ws,rfl,h1,h2⟩:=p2.lst r2.fr;have e6:=uU hxs h2;subst e6;exact⟨sep,xs,l,rfl,rfl,m8.of h1,hf,q _ H2 F2 r2 (s1.trans s2) ⟨rfl,Q3 hf⟩⟩
   ·cases e5
  ·cases e5
 ·cases e5
end
theorem Rel.put{C:Cfg}{Pr F:Hp}{env:Env}{σ:L2.St}{H:Hp}(r:Rel C Pr F env σ H){i:Nat}{d:D}{v:V}(hfx:C.fx i=none)(p:Rep C.K F d v):Rel C Pr F (env.set i (some (false,d))) (σ.set i (some v)) H:=by
 refine⟨r.pr,r.fr,by rw[Qxy,Qxy];exact r.len,λj e he=>?_,λj e he=>?_,λj k e f b hj hk g1 g2=>?_,r.dj,λj a hj=>?_⟩
 ·by_cases hji:j=i
  ·subst hji;have hl:j<env.length:=by
    have:=(Qqv.mp he).1
    rwa [Qxy] at this
   rw[Qwv hl] at he;cases he;exact⟨v,Qwv (by rw[<-r.len];exact hl),p⟩
  ·rw[Qq8 (Ne.symm hji)] at he ⊢;exact r.val j e he
 ·by_cases hji:j=i
  ·subst hji;have hl:j<env.length:=by
    have:=(Qqv.mp he).1
    rwa [Qxy] at this
   rw[Qwv hl] at he;cases he
  ·rw[Qq8 (Ne.symm hji)] at he ⊢;exact r.own j e he
 ·have nn:∀(j:Nat) (e:D),(env.set i (some (false,d)))[j]? = some (some (true,e))->j≠i:=λj e he z=>by
   subst z;have hl:j<env.length:=by
    have:=(Qqv.mp he).1
    rwa [Qxy] at this
   rw[Qwv hl] at he;cases he
  have nj:=nn j e hj;have nk:=nn k f hk;rw[Qq8 (Ne.symm nj)] at hj g1;rw[Qq8 (Ne.symm nk)] at hk g2;exact r.apart j k e f b hj hk g1 g2
 ·have hji:j≠i:=λz=>by rw[z,hfx] at hj;cases hj
  rw[Qq8 (Ne.symm hji)];exact r.fix j a hj
structure RQ(K:Fg)(Pr F:Hp)(env:Env)(σ:L2.St)(H:Hp)(d:D)(a:Addr):Prop where
 own:j0 K F H d a
 nF:F a=none
 nP:Pr a=none
 ap:∀(j:Nat) (e:D),env[j]? = some (some (true,e))->σ[j]? = some (some (V.ref a))->False
theorem RQ.of{C:Cfg}{Pr F:Hp}{env:Env}{σ:L2.St}{H:Hp}{a:Addr}{o:HO}{d:D}(r:Rel C Pr F env σ H)(h:H a=none)(ho:j0 C.K F (upd H a o) d a):RQ C.K Pr F env σ (upd H a o) d a:=
 ⟨ho,r.fr.free h,r.pr.free h,λj e he hs=>by
  obtain⟨b,h1,h2,_⟩:=r.own j e he;rw[hs] at h1;cases h1;obtain⟨u,hu⟩:=h2.some;rw[h] at hu;cases hu⟩
theorem Rel.PN{C:Cfg}{Pr F:Hp}{env:Env}{σ:L2.St}{H:Hp}(r:Rel C Pr F env σ H){i:Nat}{d:D}{a:Addr}(hfx:C.fx i=none)(n:RQ C.K Pr F env σ H d a):Rel C Pr F (env.set i (some (true,d))) (σ.set i (some (.ref a))) H:=by
 have same:∀(j:Nat) (x:Bool×D),(env.set i (some (true,d)))[j]? = some (some x)->j=i->x=(true,d)/\j<env.length:=λj x he z=>by
  subst z;have hl:j<env.length:=by
   have:=(Qqv.mp he).1
   rwa [Qxy] at this
  rw[Qwv hl] at he;cases he;exact⟨rfl,hl⟩
 refine⟨r.pr,r.fr,by rw[Qxy,Qxy];exact r.len,λj e he=>?_,λj e he=>?_,λj k e f b hj hk g1 g2=>?_,r.dj,λj a hj=>?_⟩
 ·by_cases hji:j=i
  ·have:=(same j _ he hji).1;cases this
  ·rw[Qq8 (Ne.symm hji)] at he ⊢;exact r.val j e he
 ·by_cases hji:j=i
  ·obtain⟨z,hl⟩:=same j _ he hji;cases z;subst hji;exact⟨a,Qwv (by rw[<-r.len];exact hl),n.own,n.nF,n.nP⟩
  ·rw[Qq8 (Ne.symm hji)] at he ⊢;exact r.own j e he
 ·by_cases nj:j=i
  ·by_cases nk:k=i
   ·rw[nj,nk]
   ·obtain⟨z,hl⟩:=same j _ hj nj;subst nj;rw[Qwv (by rw[<-r.len];exact hl)] at g1;cases g1;rw[Qq8 (Ne.symm nk)] at hk g2;exact(n.ap k f hk g2).elim
  ·rw[Qq8 (Ne.symm nj)] at hj g1;by_cases nk:k=i
   ·obtain⟨z,hl⟩:=same k _ hk nk;subst nk;rw[Qwv (by rw[<-r.len];exact hl)] at g2;cases g2;exact(n.ap j e hj g1).elim
   ·rw[Qq8 (Ne.symm nk)] at hk g2;exact r.apart j k e f b hj hk g1 g2
 ·have hji:j≠i:=λz=>by rw[z,hfx] at hj;cases hj
  rw[Qq8 (Ne.symm hji)];exact r.fix j a hj
theorem Rel.keep{C:Cfg}{Pr F:Hp}{env:Env}{σ:L2.St}{H:Hp}{d:D}{a:Addr}(r:Rel C Pr F env σ H)(n:RQ C.K Pr F env σ H d a):∃F',Rel C Pr F' env σ H/\aM F F'/\Rep C.K F' d (.ref a):=by
 obtain⟨o,ho⟩:=n.own.some;have s1:aM F (upd F a o):=lC n.nF;have rep:Rep C.K (upd F a o) d (.ref a):=by
  have h2:=n.own;cases d with
  | lst xs=>obtain⟨z,vs,g1,g2⟩:=h2;rw[ho] at g1;cases g1;exact⟨z,a,vs,rfl,aR,bM.mono s1 _ _ g2⟩
  | dct kvs=>obtain⟨z,ks,g1,g2⟩:=h2;rw[ho] at g1;cases g1;exact⟨z,a,ks,rfl,.inl aR,dw.mono s1 _ _ g2⟩
  | jl kvs=>obtain⟨z,ks,g1,g2⟩:=h2;rw[ho] at g1;cases g1;exact⟨z,a,ks,rfl,.inl aR,du.mono s1 _ _ g2⟩
  | _=>exact h2.elim
 refine⟨upd F a o,⟨r.pr,λb u e=>?_,r.len,λj e he=>?_,λj e he=>?_,r.apart,λb u e=>?_,r.fix⟩,s1,rep⟩
 ·by_cases hb:b=a
  ·subst hb;rw[aR] at e;cases e;exact ho
  ·rw[bu hb] at e;exact r.fr b u e
 ·obtain⟨v,g1,g2⟩:=r.val j e he;exact⟨v,g1,Rep.mono s1 e v g2⟩
 ·obtain⟨b,g1,g2,g3,g4⟩:=r.own j e he;have hb:b≠a:=λz=>by subst z;exact n.ap j e he g1
  exact⟨b,g1,g2.mono s1 rfl,by rw[bu hb];exact g3,g4⟩
 ·by_cases hb:b=a
  ·subst hb;exact n.nP
  ·rw[bu hb] at e;exact r.dj b u e
theorem Rel.write{C:Cfg}{Pr F:Hp}{env:Env}{σ:L2.St}{H:Hp}{i:Nat}{d d':D}{a:Addr}{u:HO}(r:Rel C Pr F env σ H)(h:env[i]? = some (some (true,d)))(hs:σ[i]? = some (some (V.ref a)))(ho:j0 C.K F (upd H a u) d' a) :
  Rel C Pr F (env.set i (some (true,d'))) σ (upd H a u):=by
 obtain⟨a',h1,h2,h3,h4⟩:=r.own i d h;rw[hs] at h1;cases h1;have hi:i<env.length:=(Qqv.mp h).1;have ne:∀(j:Nat) (e:D) (b:Addr),j≠i->env[j]? = some (some (true,e))->σ[j]? = some (some (V.ref b))->b≠a:=λj e b hj he g z=>hj (r.apart j i e d a he h (by rw[<-z];exact g) hs);refine⟨λb w e=>?_,λb w e=>?_,by rw[Qxy];exact r.len,λj e he=>?_,λj e he=>?_,λj k e f b hj hk g1 g2=>?_,r.dj,r.fix⟩
 ·have hb:b≠a:=λz=>by rw[z,h4] at e;cases e
  rw[bu hb];exact r.pr b w e
 ·have hb:b≠a:=λz=>by rw[z,h3] at e;cases e
  rw[bu hb];exact r.fr b w e
 ·by_cases hj:j=i
  ·subst hj;rw[Qwv hi] at he;cases he
  ·rw[Qq8 (Ne.symm hj)] at he;exact r.val j e he
 ·by_cases hj:j=i
  ·subst hj;rw[Qwv hi] at he;cases he;exact⟨a,hs,ho,h3,h4⟩
  ·rw[Qq8 (Ne.symm hj)] at he;obtain⟨b,g1,g2,g3,g4⟩:=r.own j e he;exact⟨b,g1,g2.mono (aM.refl F) (bu (ne j e b hj he g1)),g3,g4⟩
 ·have un:∀(j:Nat) (e:D),(env.set i (some (true,d')))[j]? = some (some (true,e))->∃e',env[j]? = some (some (true,e')):=λj e he=>by
   by_cases hj:j=i
   ·subst hj;exact⟨d,h⟩
   ·rw[Qq8 (Ne.symm hj)] at he;exact⟨e,he⟩
  obtain⟨e',hj'⟩:=un j e hj;obtain⟨f',hk'⟩:=un k f hk;exact r.apart j k e' f' b hj' hk' g1 g2
def tN(C:Cfg)(ev:Ev):TE:=λσ H Q=>∃(Pr F:Hp) (env env':Env) (d:D),Rel C Pr F env σ H/\ev env = .ok d env'/\
 ∀a H' F',Rel C Pr F' env' σ H'->aM F F'->RQ C.K Pr F' env' σ H' d a->Q (.ref a) H'
def R6(X:Cx)(C:Cfg)(e:Expr)(ev:Ev):Prop:=PE X e (tN C ev)
section
variable{X:Cx}{C:Cfg}{pos:Pos}
theorem R6.px{e:Expr}{ev:Ev}(h:R6 X C e ev):PX X C e ev:=PE.imp h λσ H Q hq=>by
 obtain⟨Pr,F,env,env',d,r,e,q⟩:=hq;refine⟨Pr,F,env,env',d,r,e,λa H' F' r' s' n'=>?_⟩;obtain⟨F2,r2,s2,p2⟩:=r'.keep n';exact q _ _ F2 r2 (s'.trans s2) p2
theorem JQ{es:List Expr}{r:dD}(h:RP X C es r):R6 X C (.List es pos) (cG r):=(Yj h).imp λσ H Q hq=>by
 obtain⟨Pr,F,env,env',d,rl,e,q⟩:=hq;obtain⟨ds,aK,e1,e2⟩:=aU e;split at e2
 ·rename_i hz;cases e2;refine⟨Pr,F,env,env',ds,rl,e1,λvs H1 F1 r1 s1 p1=>⟨by rw[p1.length];exact hz,λp hp=>?_⟩⟩;exact q _ _ F1 (r1.fresh hp) s1 (RQ.of r1 hp ⟨hz,vs,aR,p1⟩)
 ·cases e2
abbrev GV:=D->Env->Option Env
abbrev R8:=List D->Env->Option Env
def tG(C:Cfg)(lo:Nat)(gv:GV):TG:=λv σ H Q=>∃(Pr F:Hp) (env env':Env) (d:D),Rel C Pr F env σ H/\Rep C.K F d v/\gv d env=some env'/\
 ∀σ' H' F',Rel C Pr F' env' σ' H'->aM F F'->σ'.take lo=σ.take lo->Q σ' H'
def tGs(C:Cfg)(lo:Nat)(gv:R8):Vp:=λvs σ H Q=>∃(Pr F:Hp) (env env':Env) (ds:List D),Rel C Pr F env σ H/\bM C.K F ds vs/\gv ds env=some env'/\
 ∀σ' H' F',Rel C Pr F' env' σ' H'->aM F F'->σ'.take lo=σ.take lo->Q σ' H'
def Vs(X:Cx)(C:Cfg)(lo:Nat)(e:Expr)(gv:GV):Prop:=PG X e (tG C lo gv)
def aar(X:Cx)(C:Cfg)(lo:Nat)(es:List Expr)(gv:R8):Prop:=WT X es (tGs C lo gv)
theorem _root_.L2.PG.imp{X:Cx}{e:Expr}{t t':TG}(h:PG X e t)(i:∀v σ H Q,t' v σ H Q->t v σ H Q):PG X e t':=λpins s σ H v u Q I r q=>h pins s σ H v u Q I r (i v σ H Q q)
theorem _root_.L2.WT.imp{X:Cx}{e:List Expr}{t t':Vp}(h:WT X e t)(i:∀v σ H Q,t' v σ H Q->t v σ H Q):WT X e t':=λpins s σ H v u Q I r q=>h pins s σ H v u Q I r (i v σ H Q q)
def aj(i:Nat):GV:=λd env=>some (env.set i (some (false,d)))
theorem PK{lo i:Nat}{x:Str}(hN:X.N.Nodup)(hi:X.N[i]? = some x)(hx:Loc X.env.scope x)(hlo:lo<=i)(hfx:C.fx i=none)(hf:X.fn x=true\/X.env.scope.names.lookup x=some .local:=by first|exact .inl rfl|exact .inr rfl|assumption):Vs X C lo (.Name x pos) (aj i):=
 (Ub hN hi hx hf).imp λv σ H Q h=>by
  obtain⟨Pr,F,env,env',d,r,p,e,q⟩:=h;cases e;exact q _ _ F (r.put hfx p) (aM.refl F) (by rw[List.take_set_of_le hlo])
def cA:R8:=λds env=>if ds.isEmpty then some env else none
def aG(g:GV)(gs:R8):R8:=λds env=>match ds with
 | d::r=>(g d env).bind λe1=>gs r e1
 | []=>none
theorem PJ{lo:Nat}:aar X C lo [] cA:=Ua.imp λv σ H Q h=>by
 obtain⟨Pr,F,env,env',ds,r,p,e,q⟩:=h;cases ds with
 | nil=>cases e;cases p;exact⟨rfl,q _ _ F r (aM.refl F) rfl⟩
 | cons d ds=>cases e
def cj(n:Nat)(gs:R8):GV:=λd env=>match d with
 | .tup ds=>if ds.length=n then gs ds env else none
 | _=>none
theorem Tz{lo:Nat}{es:List Expr}{k:Nat}{gs:R8}{n:Nat}(hc:X.calm=true)(hK:X.K=C.K)(h:aar X C lo es gs)
  (hn:(assignEach es X.env).length=n:=by rfl) (hst:(assignEach es X.env).findIdx? (·.1)=none:=by rfl):Vs X C lo (.Tuple es k pos) (cj n gs):=(Yb hc h hn hst).imp λv σ H Q h=>by
 obtain⟨Pr,F,env,env',d,r,p,e,q⟩:=h;cases d with
 | tup ds=>
  obtain⟨z,a,vs,rfl,h1,h2⟩:=p;unfold cj at e;simp only at e;split at e
  ·rename_i hl;rw[hK];exact⟨a,vs,rfl,aM.tupK r.fr h1,by rw[h2.length];exact hl,Pr,F,env,env',ds,r,h2,e,q⟩
  ·cases e
 | _=>cases e
def UG(i:Nat)(ix:Ev):GV:=λd env=>match env[i]? with
 | some (some (_,_))=>(match ix env with
  | .ok (.int k) aK=>(match aK[i]? with
   | some (some (true,.lst xs))=>(Wf xs.length k).map λj=>aK.set i (some (true,.lst (xs.set j d)))
   | _=>none)
  | _=>none)
 | _=>none
theorem Xy{lo i:Nat}{x:Str}{ix:Expr}{ev:Ev}{px:Pos}(hN:X.N[i]? = some x)(hv:uz X.env.scope x)(h:PX X C ix ev)
  (ha:∀v,assign (.Subscript (.Name x px) ix pos) X.env v=(do
   let ov <-holding [v] (eval (.Name x px) X.env)
   let iv <-holding [v,ov] (eval ix X.env)
   standAt pos
   holding [v,ov,iv] (setItem ov iv v)
   release [v,ov,iv] []):=by intro _;rfl)
  (hd:lK x:=by decide) (hcd:tW x:=by decide):Vs X C lo (.Subscript (.Name x px) ix pos) (UG i ev):=
 (Yc (iR hN hv hd hcd) h set_list ha).imp λv σ H Q hq=>by
  obtain⟨Pr,F,env,env',d,r,p,e,q⟩:=hq;unfold UG at e;split at e
  ·rename_i o0 d0 h0;obtain⟨v0,hv0,_⟩:=r.rd h0;split at e
   ·rename_i k aK e1;split at e
    ·rename_i xs h2;obtain⟨j,hj,e3⟩:=Qwj.mp e;subst e3;refine⟨v0,hv0,Pr,F,env,aK,.int k,r,e1,λvi H1 F1 r1 s1 p1=>?_⟩;cases p1;obtain⟨a,g1,⟨z,vs,g2,g3⟩,g4,g5⟩:=r1.own i _ h2;rw[hv0] at g1;cases g1;refine⟨a,vs,k,j,rfl,rfl,g2,by rw[g3.length];exact hj,?_⟩;refine q σ _ F1 (r1.write h2 hv0 ⟨by rw[Qxy];exact z,vs.set j v,aR,bM.set (Rep.mono s1 d v p) j g3⟩) s1 rfl
    ·cases e
   ·cases e
  ·cases e
end
inductive Out where
 | nx (env:Env)
 | rt (o:Bool) (d:D) (env:Env)
 | bk (env:Env)
 | ct (env:Env)
 | stuck
abbrev cu:=Env->Out
def Fin(C:Cfg)(Pr F:Hp)(D:Ends):Out->Prop
 | .nx env'=>∀σ' H' F',Rel C Pr F' env' σ' H'->aM F F'->D.nx σ' H'
 | .rt false d env'=>∀v σ' H' F',Rel C Pr F' env' σ' H'->aM F F'->Rep C.K F' d v->D.rt v H'
 | .rt true d env'=>∀a σ' H' F',Rel C Pr F' env' σ' H'->aM F F'->RQ C.K Pr F' env' σ' H' d a->D.rt (.ref a) H'
 | .bk env'=>∀σ' H' F',Rel C Pr F' env' σ' H'->aM F F'->D.bk σ' H'
 | .ct env'=>∀σ' H' F',Rel C Pr F' env' σ' H'->aM F F'->D.ct σ' H'
 | .stuck=>False
theorem Fin.mono{C:Cfg}{Pr F F1:Hp}{D:Ends}(s:aM F F1):∀{o:Out},Fin C Pr F D o->Fin C Pr F1 D o
 | .nx _,h=>λσ' H' F' r t=>h σ' H' F' r (s.trans t)
 | .rt false _ _,h=>λv σ' H' F' r t=>h v σ' H' F' r (s.trans t)
 | .rt true _ _,h=>λv σ' H' F' r t=>h v σ' H' F' r (s.trans t)
 | .bk _,h=>λσ' H' F' r t=>h σ' H' F' r (s.trans t)
 | .ct _,h=>λσ' H' F' r t=>h σ' H' F' r (s.trans t)
 | .stuck,h=>h
def tS(C:Cfg)(ev:cu):TS:=λD σ H=>∃(Pr F:Hp) (env:Env),Rel C Pr F env σ H/\Fin C Pr F D (ev env)
def R5(X:Cx)(C:Cfg)(st:Stmt)(ev:cu):Prop:=PS X st (tS C ev)
def qK(X:Cx)(C:Cfg)(st:List Stmt)(ev:cu):Prop:=DK X st (tS C ev)
def iG{α:Type}(x:R α)(f:α->Env->Out):Out:=match x with
 | .ok a env=>f a env
 | .stuck=>.stuck
theorem dg{C:Cfg}{Pr F:Hp}{D:Ends}{α:Type}{x:R α}{f:α->Env->Out}(h:Fin C Pr F D (iG x f)):∃a aK,x = .ok a aK/\Fin C Pr F D (f a aK):=by
 cases x with
 | ok a aK=>exact⟨a,aK,rfl,h⟩
 | stuck=>exact h.elim
section
variable{X:Cx}{C:Cfg}{pos:Pos}
def cC:cu:=λenv=>.nx env
def aC(a b:cu):cu:=λenv=>match a env with
 | .nx e=>b e
 | .rt o d e=>.rt o d e
 | .bk e=>.bk e
 | .ct e=>.ct e
 | .stuck=>.stuck
theorem Pq:qK X C [] cC:=TV.imp λD σ H h=>by
 obtain⟨Pr,F,env,r,f⟩:=h;exact f σ H F r (aM.refl F)
theorem Cp:R5 X C (.Continue pos) (λenv=>.ct env):=Fo.imp λD σ H h=>by
 obtain⟨Pr,F,env,r,f⟩:=h;exact f σ H F r (aM.refl F)
def fD(t:fZ)(a b:cu):cu:=λenv=>iG (t env) λc aK=>if c=true then a aK else b aK
def bC(a:Ev):cu:=λenv=>iG (a env) λd aK=>.rt false d aK
def xP(a:Ev):cu:=λenv=>iG (a env) λd aK=>.rt true d aK
def QX(o:Option Env):Out:=match o with
 | some e=>.nx e
 | none=>.stuck
def aP(a:Ev)(g:GV):cu:=λenv=>iG (a env) λd aK=>QX (g d aK)
theorem aac{a:Ev}{g:GV}{D:Ends}{σ:L2.St}{H:Hp}(h:tS C (aP a g) D σ H):SQ (tE C a) (tG C 0 g) D σ H:=by
 obtain⟨Pr,F,env,r,f⟩:=h;obtain⟨d,aK,e1,f1⟩:=dg f;refine⟨Pr,F,env,aK,d,r,e1,λv H1 F1 r1 s1 p1=>?_⟩;cases e2:g d aK with
 | none=>rw[e2] at f1;exact f1.elim
 | some dU=>rw[e2] at f1;exact⟨Pr,F1,aK,dU,d,r1,p1,e2,λσ2 H2 F2 r2 s2 _=>f1 σ2 H2 F2 r2 (s1.trans s2)⟩
theorem Tp{i:Nat}{x:Str}{e:Expr}{a:Ev}{pos':Pos}(hN:X.N.Nodup)(hi:X.N[i]? = some x)(hx:Loc X.env.scope x)(hfx:C.fx i=none)(he:PX X C e a)(hs:swapsWith e (some (.Name x pos')) pos.line X.env=pure false:=by rfl)(hf:X.fn x=true\/X.env.scope.names.lookup x=some .local:=by first|exact .inl rfl|exact .inr rfl|assumption) :
  R5 X C (.Assign [.Name x pos'] e pos) (aP a (aj i)):=(Qe hN hi hx he hs hf).imp λD σ H h=>by
 obtain⟨Pr,F,env,r,f⟩:=h;obtain⟨d,aK,e1,f1⟩:=dg f;exact⟨Pr,F,env,aK,d,r,e1,λv H1 F1 r1 s1 p1=>f1 _ H1 F1 (r1.put hfx p1) s1⟩
def dF(i:Nat)(a:Ev):cu:=λenv=>iG (a env) λd aK=>.nx (aK.set i (some (true,d)))
theorem Tq{i:Nat}{x:Str}{e:Expr}{a:Ev}{pos':Pos}(hN:X.N.Nodup)(hi:X.N[i]? = some x)(hx:Loc X.env.scope x)(hfx:C.fx i=none)(he:R6 X C e a)(hs:swapsWith e (some (.Name x pos')) pos.line X.env=pure false:=by rfl)(hf:X.fn x=true\/X.env.scope.names.lookup x=some .local:=by first|exact .inl rfl|exact .inr rfl|assumption) :
  R5 X C (.Assign [.Name x pos'] e pos) (dF i a):=(Qe hN hi hx he hs hf).imp λD σ H h=>by
 obtain⟨Pr,F,env,r,f⟩:=h;obtain⟨d,aK,e1,f1⟩:=dg f;exact⟨Pr,F,env,aK,d,r,e1,λv H1 F1 r1 s1 p1=>f1 _ H1 F1 (r1.PN hfx p1) s1⟩
def eN(i:Nat)(a:Ev):cu:=λenv=>match env[i]? with
 | some (some (true,.lst _))=>iG (a env) λd aK=>(match aK[i]? with
  | some (some (true,.lst xs))=>if xs.length<sizeLine then .nx (aK.set i (some (true,.lst (xs++[d])))) else .stuck
  | _=>.stuck)
 | _=>.stuck
theorem Tt{i:Nat}{x:Str}{e:Expr}{a:Ev}{px apos cpos:Pos}(hN:X.N[i]? = some x)(hv:uz X.env.scope x)(he:PX X C e a)(hK:X.K=C.K)
  (hs:swapsWith (.Call (.Attribute (.Name x px) "append" apos) [e] [] cpos) none pos.line X.env=pure false:=by rfl)
  (hfew:((backTo cpos (starEach [e] X.env)).all (λx=>!x.1)&&(backToKw cpos (keywordEach [] X.env)).all (λx=>x.1.isSome)
   && decide (([e]:List Expr).length+([]:List Keyword).length+(if ([]:List Keyword).isEmpty then 0 else 1)<30))=true:=by rfl)
  (hbase:attributeBase (.Name x px) "append" X.env (eval (.Name x px) X.env)=eval (.Name x px) X.env:=by rfl)
  (hline:(apos.endLine == cpos.line)=true:=by rfl) (hst:Lj e X.env:=by rfl) (hplain:(backTo cpos (starEach [] X.env)).any (·.1)=false:=by rfl)
  (hd:lK x:=by decide) (hcd:tW x:=by decide):R5 X C (.Expr (.Call (.Attribute (.Name x px) "append" apos) [e] [] cpos) pos) (eN i a):=by
 refine PS.imp (TX (V4 PySem.F.plainAttrs_list PySem.F.slot_list_append PySem.F.type_list_append Am (iR hN hv hd hcd) (jx he yh hst) hbase hfew hline hst hplain) hs) λD σ H h=>?_;obtain⟨Pr,F,env,r,f⟩:=h;unfold eN at f;split at f
 ·rename_i xs0 h0;obtain⟨d,aK,e1,f1⟩:=dg f;obtain⟨a0,hv0,⟨z0,vs0,g0,_⟩,_⟩:=r.own i _ h0;refine⟨_,hv0,.inl ⟨rfl,vs0,m8.of g0⟩,Pr,F,env,aK,d,r,e1,λv H1 F1 r1 s1 p1=>?_⟩;split at f1
  ·rename_i xs h1;split at f1
   ·rename_i hz;obtain⟨a,g1,⟨z,vs,g2,g3⟩,g4,g5⟩:=r1.own i _ h1;rw[hv0] at g1;cases g1;refine⟨a0,vs,v,rfl,rfl,g2,by rw[g3.length];exact hz,?_⟩;exact f1 σ _ F1 (r1.write h1 hv0 ⟨by rw[Qqz];exact hz,vs++[v],aR,g3.append (bM.one p1)⟩) s1
   ·exact f1.elim
  ·exact f1.elim
 ·exact f.elim
def qu(K:Fg)(F:Hp)(ds:List D)(J:It):Prop:=∀(i:Nat) (H:Hp),aM F H->(ds[i]? = none->i=ds.length->J.stop i H)/\∀d,ds[i]? = some d->J.go i H/\∀x H',J.yld i H x H'->
 (H'=H/\Rep K F d x)\/∃p vs es,H p=none/\H'=upd H p (.tup vs)/\x = .ref p/\d = .tup es/\es.length<=sizeLine/\bM K F es vs
def tI(C:Cfg)(ev:dD):TI:=λσ H R=>∃(Pr F:Hp) (env env':Env) (ds:List D),Rel C Pr F env σ H/\ev env = .ok ds env'/\
 ∀J H' F',Rel C Pr F' env' σ H'->aM F F'->qu C.K F' ds J->R J H'
def WR(X:Cx)(C:Cfg)(tg iter:Expr)(ev:dD):Prop:=PI X tg iter (tI C ev)
theorem _root_.L2.PI.imp{X:Cx}{tg e:Expr}{t t':TI}(h:PI X tg e t)(i:∀σ H R,t' σ H R->t σ H R):PI X tg e t':=λpins s σ H R I q=>h pins s σ H R I (i σ H R q)
theorem qu.item{Pr F F1:Hp}{env:Env}{σ:L2.St}{H:Hp}{ds:List D}{J:It}{i:Nat}{d:D}{x:V}{H':Hp}(r:Rel C Pr F1 env σ H)(s:aM F F1)(y:qu C.K F ds J)(hd:ds[i]? = some d)(hy:J.yld i H x H') :
  ∃F2,Rel C Pr F2 env σ H'/\aM F1 F2/\Rep C.K F2 d x:=by
 rcases((y i H (s.trans r.fr)).2 d hd).2 x H' hy with ⟨rfl,p⟩|⟨p,vs,es,hp,rfl,rfl,rfl,hz,q⟩
 ·exact⟨F1,r,aM.refl F1,Rep.mono s _ _ p⟩
 ·obtain⟨r2,s2⟩:=r.new (o:=.tup vs) hp;exact⟨_,r2,s2,hz,p,vs,rfl,kI.of aR,bM.mono (s.trans s2) _ _ q⟩
def iY(g:GV)(b:cu):List D->cu
 | [],env=>.nx env
 | d::ds,env=>(match g d env with
  | none=>.stuck
  | some e1=>(match b e1 with
   | .nx e2=>iY g b ds e2
   | .ct e2=>iY g b ds e2
   | .bk e2=>.nx e2
   | .rt o d e2=>.rt o d e2
   | .stuck=>.stuck))
def iu(it:dD)(g:GV)(b:cu):cu:=λenv=>iG (it env) λds aK=>iY g b ds aK
theorem Tr{tg iter:Expr}{body:List Stmt}{it:dD}{g:GV}{b:cu}(hp:PassesOwn (model X.prog X.w) X.A X.env X.xe)(hc:X.calm=true)(hi:WR X C tg iter it)(hg:Vs X C 0 tg g)(hb:qK X C body b)
  (hs:∀x,foldedSetIterable iter X.env x=pure x:=by intro _;rfl):R5 X C (.For tg iter body [] pos) (iu it g b):=(X3 hp hc hi hg hb hs).imp λD σ H h=>by
 obtain⟨Pr,F,env,r,f⟩:=h;obtain⟨ds,aK,e1,f1⟩:=dg f;refine⟨Pr,F,env,aK,ds,r,e1,λJ H1 F1 r1 s1 y1=>?_⟩;refine⟨λi m σ' H'=>m=ds.length - i/\i<=ds.length/\∃F' env',Rel C Pr F' env' σ' H'/\aM F1 F'/\Fin C Pr F' D (iY g b (ds.drop i) env'),⟨ds.length,rfl,Qx0 _,F1,aK,r1,aM.refl _,f1.mono s1⟩,?_⟩;rintro i m σ' H' ⟨rfl,hi,F',env',r',s',f'⟩;by_cases hl:i<ds.length
 ·have hd:ds[i]? = some ds[i]:=Qwk hl;have hdr:ds.drop i=ds[i]::ds.drop (i+1):=Qj5 hl;have yy:=y1 i H' (s'.trans r'.fr);refine .inr ⟨(yy.2 _ hd).1,λσ2 H2=>∃F' env',Rel C Pr F' env' σ2 H2/\aM F1 F'/\Fin C Pr F' D (iY g b (ds.drop (i+1)) env'),λσ2 H2 h2=>⟨ds.length - (i+1),by omega,rfl,hl,h2⟩,λx H2 hy=>?_⟩;obtain⟨F2,r2,s2,p2⟩:=qu.item r' s' y1 hd hy;rw[hdr] at f';have f2:=f'.mono s2;unfold iY at f2;cases eg:g ds[i] env' with
  | none=>rw[eg] at f2;exact f2.elim
  | some e2=>
   rw[eg] at f2;refine⟨Pr,F2,env',e2,ds[i],r2,p2,eg,λσ3 H3 F3 r3 s3 _=>⟨Pr,F3,e2,r3,?_⟩⟩;simp only at f2;have s13:aM F1 F3:=(s'.trans s2).trans s3;cases eb:b e2 with
   | nx e3=>rw[eb] at f2;exact λσ4 H4 F4 r4 s4=>⟨F4,e3,r4,s13.trans s4,f2.mono (s3.trans s4)⟩
   | ct e3=>rw[eb] at f2;exact λσ4 H4 F4 r4 s4=>⟨F4,e3,r4,s13.trans s4,f2.mono (s3.trans s4)⟩
   | bk e3=>rw[eb] at f2;exact λσ4 H4 F4 r4 s4=>f2 σ4 H4 F4 r4 (s3.trans s4)
   | rt o d e3=>rw[eb] at f2;cases o<;>exact λv σ4 H4 F4 r4 s4 p4=>f2 v σ4 H4 F4 r4 (s3.trans s4) p4
   | stuck=>rw[eb] at f2;exact f2.elim
 ·have e:i=ds.length:=by omega
  subst e;rw[List.drop_length] at f';exact .inl ⟨(y1 _ H' (s'.trans r'.fr)).1 (List.getElem?_eq_none (Qq0 _)) rfl,f' σ' H' F' r' (aM.refl F')⟩
def gF(t:fZ)(b:cu):Nat->cu
 | 0,_=>.stuck
 | n+1,env=>iG (t env) λc e1=>if c=true then (match b e1 with
   | .nx e2=>gF t b n e2
   | .ct e2=>gF t b n e2
   | .bk e2=>.nx e2
   | .rt o d e2=>.rt o d e2
   | .stuck=>.stuck) else .nx e1
theorem Ln{c:Expr}{body:List Stmt}{t:fZ}{b:cu}(n:Nat)(hp:PassesOwn (model X.prog X.w) X.A X.env X.xe)(hc:PXT X C c t)(hb:qK X C body b):R5 X C (.While c body [] pos) (gF t b n):=(Qc hp hc hb).imp λD σ H h=>by
 obtain⟨Pr,F,env,r,f⟩:=h;refine⟨λm σ' H'=>∃F' env',Rel C Pr F' env' σ' H'/\aM F F'/\Fin C Pr F' D (gF t b m env'),⟨n,F,env,r,aM.refl _,f⟩,?_⟩;rintro m σ' H' ⟨F',env',r',s',f'⟩;cases m with
 | zero=>exact f'.elim
 | succ m=>
  unfold gF at f';obtain⟨k,e1,e2,f1⟩:=dg f';refine⟨Pr,F',env',e1,k,r',e2,λH1 F1 r1 s1=>?_⟩;have f2:=f1.mono s1;show if k=true then _ else _
  split at f2
  ·rename_i hk;rw[if_pos hk];refine⟨λσ2 H2=>∃F' env',Rel C Pr F' env' σ2 H2/\aM F F'/\Fin C Pr F' D (gF t b m env'),λσ2 H2 h2=>⟨m,Nat.lt_succ_self _,h2⟩,Pr,F1,e1,r1,?_⟩;have s13:aM F F1:=s'.trans s1;cases eb:b e1 with
   | nx e3=>rw[eb] at f2;exact λσ4 H4 F4 r4 s4=>⟨F4,e3,r4,s13.trans s4,f2.mono s4⟩
   | ct e3=>rw[eb] at f2;exact λσ4 H4 F4 r4 s4=>⟨F4,e3,r4,s13.trans s4,f2.mono s4⟩
   | bk e3=>rw[eb] at f2;exact λσ4 H4 F4 r4 s4=>f2 σ4 H4 F4 r4 s4
   | rt o d e3=>rw[eb] at f2;cases o<;>exact λv σ4 H4 F4 r4 s4 p4=>f2 v σ4 H4 F4 r4 s4 p4
   | stuck=>rw[eb] at f2;exact f2.elim
  ·rename_i hk;rw[if_neg hk];exact f2 σ' H1 F1 r1 (aM.refl F1)
end
end Ev
namespace L2
open PySem PySem.Spec PyProof.Rows
def Its(z:Str):It:=⟨λi _=>i<z.cps.size,λi H x H'=>H'=H/\∃c,z.cps[i]? = some c/\x = .str ⟨#[c]⟩,λi _=>z.cps.size<=i⟩
theorem K6{P:Program}{w:World}{K:PySem.W.Frag}{tg:Expr}(it:Addr)(z:Str)(t:Tok):Turn P w K tg (Its z) [it] it (λi h=>h.IsStrIter it "str_ascii_iterator" z t i/\i<=z.cps.size) where
 mem:=by simp
 obj:=λi h st b hb=>by
  have e:b=it:=by simpa using hb
  subst e;obtain⟨⟨o,ho,hc,hd⟩,_⟩:=st;exact⟨o,ho,λv z=>by rw[hd] at z;cases z⟩
 keep:=λi h h' st k=>let ⟨⟨o,ho,r⟩,l⟩:=st;⟨⟨o,k it (by simp) o ho,r⟩,l⟩
 item:=by intro X hP hw hK hc i pins s σ H E I hf st hg;subst hP hw hK;obtain⟨f0,f1,f2,f3,f4,f5⟩:=hf it (by simp);have hg':i<z.cps.size:=hg;refine wpAny_pyNext_ascii_item st.1 (c:=z.cps[i]) (by simp[hg']) λh' hit' hs'=>?_;have I1:Inv X pins σ H { s with heap:=h',toks:=s.toks+1 }:=I.turned (λb o hb e=>hs'.extBut b o hb e) f0 f1 f3 f4 f5;obtain⟨o,ho,hcl,hda⟩:=hit';refine⟨_,rfl,Gk (s:={ s with heap:=h',toks:=s.toks+1 }) (n:="str_ascii_iterator") ho hcl hda (by decide) ⟨.str ⟨#[z.cps[i]]⟩,H,I1,⟨_,rfl⟩,⟨rfl,_,by simp[hg'],rfl⟩,⟨⟨o,ho,hcl,hda⟩,hg'⟩,λb hb=>(hf b hb).1⟩⟩
 done:=by intro X hP hw hK hc i pins s σ H E I hf st hg;subst hP hw hK;obtain⟨f0,f1,f2,f3,f4,f5⟩:=hf it (by simp);have hg':z.cps.size<=i:=hg;exact wpAny_pyNext_ascii_end (I.ok.hd hc) st.1 (by simp;omega) λh' eb=>⟨rfl,I.turned (t':=s.toks) (λb o hb e=>eb b o hb e) f0 f1 f3 f4 f5⟩
 self:=λ_ _ _ _ _ st h=>wpAny_pyIter_striter_ascii st.1 h
theorem K5{P:Program}{w:World}{K:PySem.W.Frag}{tg:Expr}(it:Addr)(z:Str)(t:Tok):Turn P w K tg (Its z) [it] it (λi h=>h.IsStrIter it "str_iterator" z t i/\i<=z.cps.size) where
 mem:=by simp
 obj:=λi h st b hb=>by
  have e:b=it:=by simpa using hb
  subst e;obtain⟨⟨o,ho,hc,hd⟩,_⟩:=st;exact⟨o,ho,λv z=>by rw[hd] at z;cases z⟩
 keep:=λi h h' st k=>let ⟨⟨o,ho,r⟩,l⟩:=st;⟨⟨o,k it (by simp) o ho,r⟩,l⟩
 item:=by intro X hP hw hK hc i pins s σ H E I hf st hg;subst hP hw hK;obtain⟨f0,f1,f2,f3,f4,f5⟩:=hf it (by simp);have hg':i<z.cps.size:=hg;refine wpAny_pyNext_wide_item st.1 (c:=z.cps[i]) (by simp[hg']) λh' hit' hs'=>?_;have I1:Inv X pins σ H { s with heap:=h',toks:=s.toks+1 }:=I.turned (λb o hb e=>hs'.extBut b o hb e) f0 f1 f3 f4 f5;obtain⟨o,ho,hcl,hda⟩:=hit';refine⟨_,rfl,Gk (s:={ s with heap:=h',toks:=s.toks+1 }) (n:="str_iterator") ho hcl hda (by decide) ⟨.str ⟨#[z.cps[i]]⟩,H,I1,⟨_,rfl⟩,⟨rfl,_,by simp[hg'],rfl⟩,⟨⟨o,ho,hcl,hda⟩,hg'⟩,λb hb=>(hf b hb).1⟩⟩
 done:=by intro X hP hw hK hc i pins s σ H E I hf st hg;subst hP hw hK;obtain⟨f0,f1,f2,f3,f4,f5⟩:=hf it (by simp);have hg':z.cps.size<=i:=hg;exact wpAny_pyNext_wide_end (I.ok.hd hc) st.1 (by simp;omega) λh' eb=>⟨rfl,I.turned (t':=s.toks) (λb o hb e=>eb b o hb e) f0 f1 f3 f4 f5⟩
 self:=λ_ _ _ _ _ st h=>wpAny_pyIter_striter_wide st.1 h
section
variable{X:Cx}{tg:Expr}
def ad0(K:PySem.W.Frag)(tl:TE):TI:=λσ H R=>tl σ H λx H1=>(∃a,x = .ref a/\(∃xs,m8 K H1 a xs)/\R (Itl K a) H1)\/(∃a,x = .ref a/\(∃xs,kI K H1 a xs)/\R (Itt K a) H1)\/∃z,x = .str z/\R (Its z) H1
theorem X8{l:Expr}{tl:TE}(hl:PE X l tl):PI X tg l (ad0 X.K tl):=by
 intro pins s σ H R I h;refine fc (hl pins s σ H _ I h) λv s1 ⟨x,H1,I1,r1,q1⟩=>?_;have own:∀b ∈ [s1.heap.objs.size],rZ X pins H1 b:=λb hb=>by
  have e:b=s1.heap.objs.size:=by simpa using hb
  subst e;exact I1.Rj (Qq0 _) (I1.hok.fresh (Qq0 _))
 rcases q1 with ⟨a,e,⟨xs,hq⟩,q⟩|⟨a,e,⟨xs,hq⟩,q⟩|⟨z,e,q⟩
 ·subst e;cases r1;obtain⟨its,rv,p,hz⟩:=I1.list hq;refine wpAny_pyIter_list p.isList ?_;exact⟨s1.heap.objs.size,[s1.heap.objs.size],_,_,H1,rfl,I1.kept (t':=s1.toks) λb o e=>Qqk _ e,K7 a _,⟨_,Qwz _ rfl,rfl,rfl⟩,own,q⟩
 ·subst e;cases r1;obtain⟨its,rv,p,hz⟩:=I1.tuple hq;refine wpAny_pyIter_tuple (show s1.heap.IsTuple a its.toArray from p) ?_;exact⟨s1.heap.objs.size,[s1.heap.objs.size],_,_,H1,rfl,I1.kept (t':=s1.toks) λb o e=>Qqk _ e,Hl a _,⟨_,Qwz _ rfl,rfl,rfl⟩,own,q⟩
 ·subst e;obtain⟨t,rfl⟩:=r1;cases ha:z.cps.all (·< 128)
  ·exact wpAny_pyIter_wide ha ⟨s1.heap.objs.size,[s1.heap.objs.size],_,_,H1,rfl,I1.kept (t':=s1.toks) λb o e=>Qqk _ e,K5 _ z t,⟨⟨_,Qwz _ rfl,rfl,rfl⟩,Qx0 _⟩,own,q⟩
  ·exact wpAny_pyIter_ascii ha ⟨s1.heap.objs.size,[s1.heap.objs.size],_,_,H1,rfl,I1.kept (t':=s1.toks) λb o e=>Qqk _ e,K6 _ z t,⟨⟨_,Qwz _ rfl,rfl,rfl⟩,Qx0 _⟩,own,q⟩
end
end L2
namespace Ev
open PySem PySem.Spec PyProof.Rows L2
section
variable{X:Cx}{C:Cfg}{pos:Pos}{tg:Expr}
def ou(x:List Nat):List D:=x.map λc=>.str [c]
theorem G7{F:Hp}{a:Addr}{vs:List V}{ds:List D}(h:kI C.K F a vs)(p:bM C.K F ds vs):qu C.K F ds (Itt C.K a):=λi H s=>by
 refine⟨λ_ e=>⟨vs,aM.tupK s h,by rw[p.length,e];exact Qq0 _⟩,λd hd=>?_⟩;obtain⟨v,h1,h2⟩:=p.get hd;refine⟨⟨vs,v,aM.tupK s h,h1⟩,λx H' hy=>.inl ⟨hy.1,?_⟩⟩;have:=hy.2 vs (aM.tupK s h);rw[h1] at this;cases this;exact h2
theorem G8{F:Hp}{x:List Nat}:qu C.K F (ou x) (Its (strOf x)):=λi H s=>by
 refine⟨λ_ e=>?_,λd hd=>?_⟩
 ·show x.toArray.size<=i;rw[e];simp[ou]
 ·unfold ou at hd;rw[Qw2] at hd;obtain⟨c,hc,rfl⟩:=Qwj.mp hd;refine⟨?_,λv H' hy=>.inl ⟨hy.1,?_⟩⟩
  ·show i<x.toArray.size;have:=(Qqv.mp hc).1
   simpa using this
  ·obtain⟨c',h1,rfl⟩:=hy.2;have h2:x[i]? = some c':=by simpa[strOf] using h1
   rw[hc] at h2;cases h2;exact⟨rfl,by show 1<=sizeLine;decide⟩
def itD:D->Option (List D)
 | .lst xs=>some xs
 | .arr xs=>some xs
 | .tup xs=>some xs
 | .str x=>some (ou x)
 | _=>none
def il(a:Ev):dD:=λenv=>bindR (a env) λd aK=>ig (itD d) aK
theorem Tw{l:Expr}{a:Ev}(hK:X.K=C.K)(h:PX X C l a):WR X C tg l (il a):=(X8 h).imp λσ H R hq=>by
 obtain⟨Pr,F,env,env',ds,r,e,q⟩:=hq;obtain⟨d,aK,e1,e2⟩:=aU e;obtain⟨e3,rfl⟩:=fG e2;refine⟨Pr,F,env,env',d,r,e1,λv H1 F1 r1 s1 p1=>?_⟩;rw[hK];cases d with
 | lst xs=>
  cases e3;obtain⟨z,a,vs,rfl,g1,g2⟩:=p1;refine .inl ⟨a,rfl,⟨vs,m8.of (r1.fr _ _ g1)⟩,q _ H1 F1 r1 s1 λi H s=>?_⟩;refine⟨λ_ e=>⟨vs,m8.of (s _ _ g1),by rw[g2.length,e];exact Qq0 _⟩,λd hd=>?_⟩;obtain⟨v,h1,h2⟩:=g2.get hd;refine⟨⟨vs,v,m8.of (s _ _ g1),h1⟩,λx H' hy=>.inl ⟨hy.1,?_⟩⟩;have:=hy.2 vs (m8.of (s _ _ g1));rw[h1] at this;cases this;exact h2
 | arr xs=>
  cases e3;obtain⟨z,a,vs,rfl,g1,g2⟩:=p1;refine .inl ⟨a,rfl,⟨vs,r1.fr.seq g1⟩,q _ H1 F1 r1 s1 λi H s=>?_⟩;refine⟨λ_ e=>⟨vs,s.seq g1,by rw[g2.length,e];exact Qq0 _⟩,λd hd=>?_⟩;obtain⟨v,h1,h2⟩:=g2.get hd;refine⟨⟨vs,v,s.seq g1,h1⟩,λx H' hy=>.inl ⟨hy.1,?_⟩⟩;have:=hy.2 vs (s.seq g1);rw[h1] at this;cases this;exact h2
 | tup xs=>
  cases e3;obtain⟨z,a,vs,rfl,g1,g2⟩:=p1;exact .inr (.inl ⟨a,rfl,⟨vs,aM.tupK r1.fr g1⟩,q _ H1 F1 r1 s1 (G7 g1 g2)⟩)
 | str x=>
  cases e3;obtain⟨rfl,z⟩:=p1;exact .inr (.inr ⟨_,rfl,q _ H1 F1 r1 s1 G8⟩)
 | _=>cases e3
def lB(lo c:Int)(n:Nat):List D:=(List.range n).map λ(i:Nat)=>.int (lo+i*c)
theorem xO(lo c:Int)(n:Nat):(lB lo c n).length=n:=by simp[lB]
theorem Hv{lo c:Int}{n i:Nat}{d:D}(h:(lB lo c n)[i]? = some d):i<n/\d = .int (lo+i*c):=by
 have hi:i<n:=by
  have:=(Qqv.mp h).1
  rwa [xO] at this
 refine⟨hi,?_⟩;unfold lB at h;rw[Qw2,List.getElem?_range hi] at h;cases h;rfl
theorem G9{F:Hp}{lo:Int}{n:Nat}:qu C.K F (lB lo 1 n) (Itr lo n):=λi H s=>by
 refine⟨λ_ e=>by show n<=i;rw[e,xO];exact Qq0 _,λd hd=>?_⟩;obtain⟨hi,rfl⟩:=Hv hd;refine⟨hi,λx H' hy=>.inl ⟨hy.1,?_⟩⟩;show x = .int _;rw[Int.mul_one];exact hy.2
def lW(j:Int):Bool:=decide (-(2^62)<=j)&&decide (j<2^62)
theorem HJ{j:Int}(h:lW j=true) : -(2^62)<=j/\j<2^62:=by unfold lW at h;rw[Qx9] at h;exact⟨Qw6 h.1,Qw6 h.2⟩
def HN:List D->Option (List D)
 | [.int j]=>if lW j=true then some (lB 0 1 j.toNat) else none
 | [.int i,.int j]=>if lW i=true/\lW j=true then some (lB i 1 (j - i).toNat) else none
 | [.int i,.int j,.int c]=>if c≠0/\c.natAbs<1073741824/\Builtin.Range.small i j c=true then some (lB i c (Builtin.Range.rangeSize i j c).toNat) else none
 | _=>none
def km(a:dD):dD:=λenv=>bindR (a env) λds aK=>ig (HN ds) aK
theorem bM.adY{F:Hp}{i:Int}{vs:List V}(h:bM C.K F [.int i] vs):vs=[.int i]:=by obtain⟨v,r,rfl,h1,h2⟩:=h;cases h1;cases h2;rfl
theorem HS{a:Expr}{ea:dD}{p pos:Pos}(hg:Gl X "range")(hm:X.mg "range" = none)(ha:RP X C [a] ea)(hl:∀env ds env',ea env = .ok ds env'->ds.length=1)(hs:starEach [a] X.env=[(false,eval a X.env)]:=by rfl):WR X C tg (.Call (.Name "range" p) [a] [] pos) (km ea):=
 (LC hg hm ha hs).imp λσ H R hq=>by
  obtain⟨Pr,F,env,env',ds,r,e,q⟩:=hq;obtain⟨as,aK,e1,e2⟩:=aU e;obtain⟨e3,rfl⟩:=fG e2;refine⟨Pr,F,env,env',as,r,e1,λvs H1 F1 r1 s1 p1=>?_⟩;have:=hl _ _ _ e1;unfold HN at e3;split at e3
  ·split at e3
   ·rename_i hf;cases e3;have hb:=HJ hf;exact⟨_,p1.adY,hb.1,hb.2,q _ H1 F1 r1 s1 G9⟩
   ·cases e3
  ·simp at this
  ·simp at this
  ·cases e3
theorem MK(env:Env)(ds:List D)(env':Env)(h:ak env = .ok ds env'):ds.length=0:=by cases h;rfl
theorem Jd{a:Ev}{r:dD}{n:Nat}(hr:∀env ds env',r env = .ok ds env'->ds.length=n)(env:Env)(ds:List D)(env':Env)(h:aa a r env = .ok ds env'):ds.length=n+1:=by obtain⟨d,aK,e1,e2⟩:=aU h;obtain⟨ds2,dU,e3,e4⟩:=aU e2;cases e4;rw[Qqy,hr _ _ _ e3]
theorem bM.wF{F:Hp}{K:Fg}{ds:List D}{vs:List V}{k:Int}{d:D}(h:bM K F ds vs)(e:L2.wF ds k=some d):∃v,L2.wF vs k=some v/\Rep K F d v:=by unfold L2.wF at e ⊢;rw[h.length];obtain⟨j,h1,h2⟩:=Qzx.mp e;obtain⟨v,h3,h4⟩:=h.get h2;exact⟨v,by rw[h1];exact h3,h4⟩
def fJ:D->D->Option D
 | .lst xs,.int k=>wF xs k
 | .arr xs,.int k=>wF xs k
 | .tup xs,.int k=>wF xs k
 | .str x,.int k=>(wF x k).map λc=>.str [c]
 | _,_=>none
theorem V8:pG C (rIx C.K) fJ:=by
 intro Pr F env σ H x y d vx vy Q r px py e q;unfold fJ at e;split at e
 ·obtain⟨z,a,vs,rfl,h1,h2⟩:=px.lst r.fr;cases py.int;obtain⟨v,e1,p1⟩:=h2.wF e;exact .inl ⟨a,vs,_,v,rfl,rfl,m8.of h1,e1,q _ _ F r (aM.refl F) p1⟩
 ·obtain⟨z,a,vs,rfl,h1,h2⟩:=px.arr r.fr;cases py.int;obtain⟨v,e1,p1⟩:=h2.wF e;exact .inl ⟨a,vs,_,v,rfl,rfl,h1,e1,q _ _ F r (aM.refl F) p1⟩
 ·obtain⟨z,a,vs,rfl,h1,_,h2⟩:=px.tup r.fr;cases py.int;obtain⟨v,e1,p1⟩:=h2.wF e;exact .inr (.inl ⟨a,vs,_,v,rfl,rfl,h1,e1,q _ _ F r (aM.refl F) p1⟩)
 ·obtain⟨rfl,z⟩:=px.str;cases py.int;obtain⟨c,e1,rfl⟩:=Qwj.mp e;exact .inr (.inr ⟨_,_,c,rfl,rfl,by simpa[strOf,Str.length] using z,by simpa[strOf] using e1,q _ _ F r (aM.refl F) ⟨rfl,by show 1<=sizeLine;decide⟩⟩)
 ·cases e
theorem abr{x y:Expr}{a b:Ev}(hK:X.K=C.K)(ha:PX X C x a)(hb:RN X C y b)(hs:uA y:=by intro _ _;rfl):PX X C (.Subscript x y pos) (aQ fJ a b):=by have h:=(V3 (pos:=pos) Q5 ha hb hs);rw[hK] at h;exact h.imp (Ds V8)
theorem XH{y:Expr}{b:Ev}{px:Pos}(i:Nat){x:Str}(hK:X.K=C.K)(hN:X.N[i]? = some x)(hv:uz X.env.scope x)(hb:RN X C y b)(hs:uA y:=by intro _ _;rfl)
  (hd:lK x:=by decide) (hcd:tW x:=by decide):PX X C (.Subscript (.Name x px) y pos) (aB fJ i b):=by
 have h:=(V3 (pos:=pos) Q5 (iR (pos:=px) hN hv hd hcd) hb hs);rw[hK] at h;exact h.imp (uv V8)
def cutD{α:Type}(xs:List α)(lo hi:Option Int):List α:=(xs.drop (HT.fU xs.length 0 lo)).take (HT.fU xs.length xs.length hi - HT.fU xs.length 0 lo)
theorem qi{α:Type}(xs:List α)(lo hi:Option Int):(cutD xs lo hi).length<=xs.length:=by unfold cutD;rw[Qx8,Qzj];omega
theorem bM.cut{F:Hp}{K:Fg}{ds:List D}{vs:List V}(h:bM K F ds vs)(lo hi:Option Int):bM K F (cutD ds lo hi) (xj vs lo hi):=by unfold cutD xj;rw[h.length];exact bM.take _ (bM.drop _ h)
abbrev R9:=Env->R (Option Int)
def tP(C:Cfg)(ev:R9):TO:=λσ H Q=>∃(Pr F:Hp) (env env':Env) (o:Option Int),Rel C Pr F env σ H/\ev env = .ok o env'/\∀H' F',Rel C Pr F' env' σ H'->aM F F'->Q o H'
def PXP(X:Cx)(C:Cfg)(e:Option Expr)(ev:R9):Prop:=PO X e (tP C ev)
theorem _root_.L2.PO.imp{X:Cx}{e:Option Expr}{t t':TO}(h:PO X e t)(i:∀σ H Q,t' σ H Q->t σ H Q):PO X e t':=λpins s σ H Q I q=>h pins s σ H Q I (i σ H Q q)
def wu:R9:=λenv=>.ok none env
def Dc(a:Ev):R9:=λenv=>bindR (a env) λd aK=>match d with
 | .int i=>.ok (some i) aK
 | _=>.stuck
theorem Px:PXP X C none wu:=T5.imp λσ H Q h=>by
 obtain⟨Pr,F,env,env',d,r,e,q⟩:=h;cases e;exact q H F r (aM.refl F)
def gSl:D->Option Int->Option Int->Option D
 | .lst xs,lo,hi=>some (.lst (cutD xs lo hi))
 | .arr xs,lo,hi=>some (.lst (cutD xs lo hi))
 | .tup xs,lo,hi=>if HT.fU xs.length 0 lo=0/\HT.fU xs.length xs.length hi=xs.length then none else some (.tup (cutD xs lo hi))
 | _,_,_=>none
def vG(a:Ev)(lo hi:R9):Ev:=λenv=>bindR (a env) λd aK=>bindR (lo aK) λl dU=>bindR (hi dU) λu Dj=>ig (gSl d l u) Dj
theorem Og{Pr F:Hp}{env:Env}{σ:L2.St}{H:Hp}{x d:D}{v:V}{lo hi:Option Int}{Q:VK}(r:Rel C Pr F env σ H)(p:gU C.K F H x v)(e:gSl x lo hi=some d)(q:∀v H' F',Rel C Pr F' env σ H'->aM F F'->Rep C.K F' d v->Q v H') :
  aa8 C.K v lo hi H Q\/Xv C.K v lo hi H Q:=by
 unfold gSl at e;split at e
 ·cases e;obtain⟨z,a,vs,rfl,h1,h2⟩:=p.lst r.fr;refine .inl ⟨a,vs,rfl,m8.of h1,λb hb=>?_⟩;obtain⟨r2,s2⟩:=r.new (o:=.lst (xj vs lo hi)) hb;exact q _ _ _ r2 s2 ⟨Qq6 (qi _ _ _) z,b,_,rfl,aR,bM.mono s2 _ _ (h2.cut lo hi)⟩
 ·cases e;obtain⟨z,a,vs,rfl,h1,h2⟩:=p.arr r.fr;refine .inl ⟨a,vs,rfl,h1,λb hb=>?_⟩;obtain⟨r2,s2⟩:=r.new (o:=.lst (xj vs lo hi)) hb;exact q _ _ _ r2 s2 ⟨Qq6 (qi _ _ _) z,b,_,rfl,aR,bM.mono s2 _ _ (h2.cut lo hi)⟩
 ·obtain⟨z,a,vs,rfl,h1,_,h2⟩:=p.tup r.fr;split at e
  ·cases e
  ·rename_i hn;cases e;refine .inr ⟨a,vs,rfl,h1,by rw[h2.length];exact hn,λb hb=>?_⟩;obtain⟨r2,s2⟩:=r.new (o:=.tup (xj vs lo hi)) hb;exact q _ _ _ r2 s2 ⟨Qq6 (qi _ _ _) z,b,_,rfl,kI.of aR,bM.mono s2 _ _ (h2.cut lo hi)⟩
 ·cases e
theorem abp{x:Expr}{lo hi:Option Expr}{a:Ev}{el eh:R9}{p2:Pos}(hK:X.K=C.K)(ha:PX X C x a)(hl:PXP X C lo el)(hh:PXP X C hi eh):PX X C (.Subscript x (.Slice lo hi none p2) pos) (vG a el eh):=by have h:=Fv (pos:=pos) (p2:=p2) (KR.or JH Hx) ha hl hh;rw[hK] at h;refine h.imp λσ H Q hq=>?_;obtain⟨Pr,F,env,env',d,r,e,q⟩:=hq;obtain⟨x,aK,e1,e2⟩:=aU e;obtain⟨l,dU,e3,e4⟩:=aU e2;obtain⟨u,Dj,e5,e6⟩:=aU e4;obtain⟨e7,rfl⟩:=fG e6;refine⟨Pr,F,env,aK,x,r,e1,λv H1 F1 r1 s1 p1=>⟨Pr,F1,aK,dU,l,r1,e3,λH2 F2 r2 s2=>⟨Pr,F2,dU,env',u,r2,e5,λH3 F3 r3 s3=>?_⟩⟩⟩;exact Og r3 (.inl (Rep.mono (s2.trans s3) _ _ p1)) e7 λv H' F' r' s' p'=>q v H' F' r' (((s1.trans s2).trans s3).trans s') p'
def dM(kvs:List (D×D))(q:Key):Option D:=match kvs with
 | []=>none
 | (k,d)::r=>if jX k=some q then some d else dM r q
def qG(kvs:List (D×D))(q:Key)(d:D):List (D×D):=match kvs with
 | []=>[]
 | (k,e)::r=>(if jX k=some q then (k,d) else (k,e))::qG r q d
def putD(kvs:List (D×D))(k:D)(q:Key)(d:D):List (D×D):=if (dM kvs q).isSome then qG kvs q d else kvs++[(k,d)]
theorem dw.length{K:Fg}{F:Hp}:∀{ds:List (D×D)} {vs:List (Key×V)},dw K F ds vs->vs.length=ds.length
 | [],_,h=>by cases h;rfl
 | (k,d)::ds,vs,h=>by
  obtain⟨q,v,r,rfl,_,_,h2⟩:=h;rw[Qqy,Qqy,h2.length]
theorem dw.val{K:Fg}{F:Hp}(q:Key):∀{ds:List (D×D)} {vs:List (Key×V)},dw K F ds vs->(dM ds q=none/\qW vs q=none)\/∃d v,dM ds q=some d/\qW vs q=some v/\Rep K F d v
 | [],_,h=>by cases h;exact .inl ⟨rfl,rfl⟩
 | (k,d)::ds,vs,h=>by
  obtain⟨q',v,r,rfl,hk,h1,h2⟩:=h;unfold dM;by_cases e:q'=q
  ·subst e;rw[if_pos hk];exact .inr ⟨d,v,rfl,sE rfl,h1⟩
  ·rw[if_neg (λz=>e (Qw0 (hk.symm.trans z))),sG (p:=(q',v)) e];exact dw.val q h2
theorem dw.set{K:Fg}{F:Hp}(q:Key){d:D}{v:V}(hd:Rep K F d v):∀{ds:List (D×D)} {vs:List (Key×V)},dw K F ds vs->dw K F (qG ds q d) (vs.map λkv=>if kv.1=q then (kv.1,v) else kv)
 | [],_,h=>by cases h;exact rfl
 | (k,e)::ds,vs,h=>by
  obtain⟨q',u,r,rfl,hk,h1,h2⟩:=h;unfold qG;by_cases e':q'=q
  ·subst e';rw[if_pos hk];refine⟨q',v,_,?_,hk,hd,dw.set q' hd h2⟩;rw[Qq3,if_pos rfl]
  ·rw[if_neg (λz=>e' (Qw0 (hk.symm.trans z)))];refine⟨q',u,_,?_,hk,h1,dw.set q hd h2⟩;rw[Qq3,if_neg e']
theorem dw.append{K:Fg}{F:Hp}:∀{ds es:List (D×D)} {vs ws:List (Key×V)},dw K F ds vs->dw K F es ws->dw K F (ds++es) (vs++ws)
 | [],es,vs,ws,h,g=>by cases h;exact g
 | (k,d)::ds,es,vs,ws,h,g=>by
  obtain⟨q,v,r,rfl,h0,h1,h2⟩:=h;exact⟨q,v,r++ws,rfl,h0,h1,dw.append h2 g⟩
theorem Es(q:Key)(d:D):∀kvs:List (D×D),(qG kvs q d).length=kvs.length
 | []=>rfl
 | (k,e)::r=>by unfold qG;rw[Qqy,Qqy,Es q d r]
theorem Fl(kvs:List (D×D))(k:D)(q:Key)(d:D):(putD kvs k q d).length<=kvs.length+1:=by
 unfold putD;split
 ·rw[Es];omega
 ·rw[Qqz];exact Qq0 _
theorem dw.put{K:Fg}{F:Hp}{ds:List (D×D)}{vs:List (Key×V)}{k:D}{q:Key}{d:D}{v:V}(h:dw K F ds vs)(hk:jX k=some q)(hd:Rep K F d v):dw K F (putD ds k q d) (putK vs q v):=by
 unfold putD putK;rw[xK];rcases h.val q with ⟨e1,e2⟩|⟨d',v',e1,e2,_⟩
 ·rw[e1,e2];exact h.append ⟨q,v,[],rfl,hk,hd,rfl⟩
 ·rw[e1,e2];exact dw.set q hd h
theorem CV{K:Fg}{F:Hp}{k:D}{q:Key}{v:V}(h:jX k=some q)(p:Rep K F k v):v=kV q:=by
 cases k with
 | int i=>cases h;exact p
 | str x=>cases h;exact p.1
 | _=>cases h
theorem Io{K:Fg}{F H:Hp}{k:D}{q:Key}{v:V}(h:jX k=some q)(p:gU K F H k v):v=kV q:=by
 cases k with
 | int i=>cases h;exact p.int
 | str x=>cases h;exact p.str.1
 | _=>cases h
theorem gU.dct{K:Fg}{F H:Hp}{kvs:List (D×D)}{v:V}(s:aM F H)(h:gU K F H (.dct kvs) v):kvs.length<=sizeLine/\∃a ks,v = .ref a/\Rd H a (.dK ks)/\dw K F kvs ks:=by
 rcases h with ⟨z,a,vs,rfl,h1,h2⟩|⟨a,rfl,z,vs,h1,h2⟩
 ·exact⟨z,a,vs,rfl,aM.rd s h1,h2⟩
 ·exact⟨z,a,vs,rfl,.inl h1,h2⟩
def VM:R2:=λx y H Q=>∃a v,x = .ref a/\G3 H a y (some v)/\Q v H
def eO:D->D->Option D
 | .dct kvs,k=>(jX k).bind λq=>dM kvs q
 | _,_=>none
theorem Up:pG C VM eO:=by
 intro Pr F env σ H x y d vx vy Q r px py e q;unfold eO at e;split at e
 ·obtain⟨z,a,ks,rfl,h1,h2⟩:=px.dct r.fr;obtain⟨k,hk,hv⟩:=Qzx.mp e;cases Io hk py;rcases h2.val k with ⟨e1,_⟩|⟨d',v',e1,e2,p2⟩
  ·rw[e1] at hv;cases hv
  ·rw[e1] at hv;cases hv;exact⟨a,v',rfl,.inl ⟨ks,k,h1,rfl,e2.symm⟩,q _ _ F r (aM.refl F) p2⟩
 ·cases e
theorem PL{y:Expr}{b:Ev}{px:Pos}(i:Nat){x:Str}(hu:X.A.units+1<cLine)(hN:X.N[i]? = some x)(hv:uz X.env.scope x)(hb:RN X C y b)(hs:Vu y:=by intro _ _;rfl)
  (hd:lK x:=by decide) (hcd:tW x:=by decide):PX X C (.Subscript (.Name x px) y pos) (aB eO i b):=by
 have h:PE X (.Subscript (.Name x px) y pos) (Xe VM _ _):=Ug (pos:=pos) hu (iR (pos:=px) hN hv hd hcd) hb hs;exact h.imp (uv Up)
def Dh:Ev:=λenv=>.ok (.dct []) env
theorem Py:R6 X C (.Dict [] [] pos) Dh:=Qm.imp λσ H Q hq=>by
 obtain⟨Pr,F,env,env',d,r,e,q⟩:=hq;cases e;exact λp hp=>q _ _ F (r.fresh hp) (aM.refl F) (RQ.of r hp ⟨Qx0 _,[],aR,rfl⟩)
def qX(i:Nat)(k a:Ev):cu:=λenv=>iG (a env) λd aK=>match aK[i]? with
 | some (some (_,_))=>iG (k aK) λkd dU=>(match dU[i]?,jX kd with
  | some (some (true,.dct kvs)),some q=>if kvs.length<sizeLine then .nx (dU.set i (some (true,.dct (putD kvs kd q d)))) else .stuck
  | _,_=>.stuck)
 | _=>.stuck
theorem Pu{i:Nat}{x:Str}{k e:Expr}{ek a:Ev}{px pos':Pos}(hu:X.A.units+1<cLine)(hN:X.N[i]? = some x)(hv:uz X.env.scope x)(hk:PX X C k ek)(he:PX X C e a)
  (hs:swapsWith e (some (.Subscript (.Name x px) k pos')) pos.line X.env=pure false:=by rfl)
  (hd:lK x:=by decide) (hcd:tW x:=by decide):R5 X C (.Assign [.Subscript (.Name x px) k pos'] e pos) (qX i ek a):=
 (TY hu (iR hN hv hd hcd) hk he hs).imp λD σ H h=>by
  obtain⟨Pr,F,env,r,f⟩:=h;obtain⟨d,aK,e1,f1⟩:=dg f;refine⟨Pr,F,env,aK,d,r,e1,λv H1 F1 r1 s1 p1=>?_⟩;split at f1
  ·rename_i o0 d0 h0;obtain⟨v0,hv0,_⟩:=r1.rd h0;obtain⟨kd,dU,e2,f2⟩:=dg f1;refine⟨v0,hv0,Pr,F1,aK,dU,kd,r1,e2,λvk H2 F2 r2 s2 p2=>?_⟩;split at f2
   ·rename_i kvs q h2 hq;split at f2
    ·rename_i hz;obtain⟨b,g1,⟨z,ks,g2,g3⟩,g4,g5⟩:=r2.own i _ h2;rw[hv0] at g1;cases g1;have hz':ks.length<sizeLine:=by rw[g3.length];exact hz
     cases CV hq p2;refine⟨b,_,rfl,RV.k g2 hz',?_⟩;refine f2 σ _ F2 (r2.write h2 hv0 ⟨Qq6 (Fl _ _ _ _) hz,_,aR,g3.put hq (Rep.mono s2 _ _ p1)⟩) (s1.trans s2)
    ·exact f2.elim
   ·exact f2.elim
  ·exact f1.elim
def Mx(x:List Nat):List (List Nat)->List (List Nat)
 | []=>[x]
 | y::r=>if y<x then y::Mx x r else x::y::r
def iU:List (List Nat)->List (List Nat)
 | []=>[]
 | x::r=>Mx x (iU r)
theorem vz(x:List Nat):∀l,(Mx x l).Perm (x::l)
 | []=>.refl _
 | y::r=>by
  unfold Mx;split
  ·exact((vz x r).cons y).trans (.swap x y r)
  ·exact .refl _
theorem iw:∀l,(iU l).Perm l
 | []=>.refl _
 | x::r=>(vz x (iU r)).trans ((iw r).cons x)
theorem wj(x:List Nat):∀l,l.Pairwise (λa b=>a<=b)->(Mx x l).Pairwise (λa b=>a<=b)
 | [],_=>List.pairwise_singleton _ _
 | y::r,h=>by
  unfold Mx;have h1:=Qkx.mp h;split
  ·rename_i hyx;refine Qkx.mpr ⟨λz hz=>?_,wj x r h1.2⟩;rcases Qq2.mp ((vz x r).mem_iff.mp hz) with rfl|hz
   ·exact List.le_of_lt hyx
   ·exact h1.1 z hz
  ·rename_i hyx;have hxy:x<=y:=List.not_lt.mp hyx;refine Qkx.mpr ⟨λz hz=>?_,h⟩;rcases Qq2.mp hz with rfl|hz
   ·exact hxy
   ·exact List.le_trans hxy (h1.1 z hz)
theorem sW:∀l,(iU l).Pairwise (λa b=>a<=b)
 | []=>.nil
 | x::r=>wj x _ (sW r)
theorem Ah:∀(p:Str) (l:List Str),risingS p l=true->(p::l).Pairwise (λa b=>a.cps.toList<=b.cps.toList)
 | p,[],_=>List.pairwise_singleton _ _
 | p,x::r,h=>by
  have h':(!Spec.ltCps x.cps.toList p.cps.toList&&risingS x r)=true:=h;rw[Qx9,PyProof.Rows.ltCps_eq] at h';have hxp:¬x.cps.toList<p.cps.toList:=by
   have:=h'.1
   simpa using this
  have ih:=Ah x r h'.2;refine Qkx.mpr ⟨λz hz=>?_,ih⟩;have hpx:p.cps.toList<=x.cps.toList:=List.not_lt.mp hxp;rcases Qq2.mp hz with rfl|hz
  ·exact hpx
  ·exact List.le_trans hpx ((Qkx.mp ih).1 z hz)
theorem Le:∀(l:List Str),sortedS l=true->l.Pairwise (λa b=>a.cps.toList<=b.cps.toList)
 | [],_=>.nil
 | x::r,h=>Ah x r h
theorem Lb(s:Str):strOf s.cps.toList=s:=by obtain⟨c⟩:=s;simp[strOf]
theorem Bw{xs:List (List Nat)}{ss ss':List Str}(e:ss=xs.map strOf)(hp:ss'.Perm ss)(hs:sortedS ss'=true):ss'=(iU xs).map strOf:=by
 subst e;have h1:(ss'.map λs=>s.cps.toList).Perm xs:=by
  have:=hp.map (λs:Str=>s.cps.toList);rw[Qx7] at this;have e2:xs.map ((λs:Str=>s.cps.toList) ∘ strOf)=xs:=by rw[Qj8 (g:=id) (λx _=>by simp[strOf])];simp
  rwa [e2] at this
 have h2:(ss'.map λs=>s.cps.toList)=iU xs:=by refine List.Perm.eq_of_pairwise (le:=λa b=>a<=b) (λa b _ _=>List.le_antisymm) ?_ (sW xs) (h1.trans (iw xs).symm);exact List.pairwise_map.mpr (Le ss' hs)
 rw[<-h2,Qx7];have e3:∀l:List Str,l.map (strOf ∘ λs=>s.cps.toList)=l:=λl=>by
  induction l with
  | nil=>rfl
  | cons a r ih=>rw[Qq3,ih];show strOf a.cps.toList::r=a::r;rw[Lb]
 exact(e3 ss').symm
theorem su:∀{us:List Value} {ss:List Str},StrsAre us ss->Vals (ss.map V.str) us
 | _,_,.nil=>.nil
 | _,_,.cons y t h=>.cons ⟨t,rfl⟩ (su h)
theorem tu{K:Fg}{F:Hp}:∀(xs:List (List Nat)),(∀x∈xs,x.length<=sizeLine)->bM K F (xs.map D.str) (xs.map λz=>V.str (strOf z))
 | [],_=>rfl
 | x::xs,h=>⟨_,_,rfl,⟨rfl,h x (Qqj ..)⟩,tu xs λy hy=>h y (Qqq _ hy)⟩
def Ck(K:Fg):List V->Hp->VK->Prop:=λxs H Q=>∃p zs,xs=[.ref p]/\(m8 K H p (zs.map λz=>V.str (strOf z))\/∃ks,Rd H p (.dK ks)/\ks.map (·.1)=zs.map λz=>Sum.inr (strOf z))/\zs.length<64/\∀l,H l=none->Q (.ref l) (upd H l (.lst ((iU zs).map λz=>V.str (strOf z))))
theorem Ep{pins:List (Addr×Obj)}{s:Shared}{σ:L2.St}{H:Hp}{Q:VK}{zs:List (List Nat)}{out:Array Value}{ss':List Str}{a:Addr}{e:Nat}{h':Heap}{tk:Nat}(I:Inv X pins σ H s)(hz:zs.length<64)(q:∀l,H l=none->Q (.ref l) (upd H l (.lst ((iU zs).map λz=>V.str (strOf z)))))
  (a1:StrsAre out.toList ss') (a2:ss'.Perm (zs.map strOf)) (a3:sortedS ss'=true) (hk:∀b o,s.heap.get? b=some o->h'.get? b=some o) (ha:s.heap.objs.size<=a) (ho:h'.get? a=some (seqObj "list" out e)):EP X pins σ Q (.ref a) { s with heap:=h',toks:=tk }:=by
 have e1:=Bw rfl a2 a3;subst e1;have rv:=su a1;rw[Qx7] at rv;have hl:((iU zs).map λz=>V.str (strOf z)).length<=sizeLine:=by rw[Qqw,(iw zs).length_eq];exact Qq6 (Qkj hz) (by decide)
 exact⟨.ref a,_,I.laid (t':=tk) hk ha (show gB X.prog X.w _ h' a (.lst ((iU zs).map λz=>V.str (strOf z))) from⟨hl,out.toList,e,rv,by simpa[seqObj] using ho⟩),rfl,q a (I.hok.fresh ha)⟩
theorem GJ(hc:X.calm=true):jH X (.builtin "sorted") (Ck X.K):=by
 intro pins s σ H xs us Q I r h;obtain⟨p,zs,rfl,hq,hz,q⟩:=h;obtain⟨u,rfl,rx⟩:=vals1 r;cases rx;rcases hq with hq|⟨ks,hq,hks⟩
 ·obtain⟨its,r',pl,hzz⟩:=I.list hq;have hS:StrsAre its (zs.map strOf):=uF r';refine sorted_strs pl.isList hS (by rw[<-r'.length,Qqw];exact hz) λout ss' a1 a2 a3=>?_;obtain⟨e,he⟩:=sortedAll_at s.heap its out;exact Ep (tk:=s.toks) I hz q a1 a2 a3 (λb o e=>sortedAll_old e) (Nat.le_succ _) he
 ·obtain⟨hz2,hsys,vs,rkv,hD⟩:=yX I.hok hq;obtain⟨ep,hat⟩:=hD.dictAt;have hlen:vs.length=zs.length:=by
   have e1:=rkv.length;have e2:=Qx5 List.length hks;rw[Qqw,Qqw] at e2;omega
  refine Calls.call_function_entry kind_sorted plain_sorted entry_sorted (args_sorted1 _) ?_;unfold Builtin.«sorted»;refine Qqx (m:=checkCount "sorted" 1 1 _) (Qq4 ?_);refine Qqx (PySem.W.kdu_collect (A:=X.A.in1) (PySem.W.kdl_dict (knd:=cI X.prog X.w) (kvs:=vs) (ep:=ep) hsys) (I.ok.hd hc) hat (by rw[hlen];exact Qq6 (Qkj hz) (by decide)) λh' tk acc hk hacc=>?_);have hl:acc.toList.length=vs.length:=by rw[Qj9];exact hacc.1
  have hS:StrsAre acc.toList (zs.map strOf):=by
   have keys:∀j:Nat,j<vs.length->∃v t,acc.toList[j]? = some v/\v=Value.str (strOf (zs.getD j [])) t:=λj hj=>by
    have hja:j<acc.size:=by rw[hacc.1];exact hj
    have e1:acc[j]? = some acc[j]:=by simp[hja]
    obtain⟨k,x,hx,hkx⟩:=hacc.2 j _ e1;have e2:(vs.map (·.1))[j]? = some k:=by rw[Qw2,hx];rfl
    rw[<-rkv.keys,hks,Qw2] at e2;obtain⟨z,hzj,rfl⟩:=Qwj.mp e2;rcases dW (k:=Sum.inr (strOf z)) (v:=acc[j]) hkx with ⟨i,t,z1,_⟩|⟨y,t,z1,z2⟩
    ·cases z1
    ·cases z1;exact⟨_,t,by rw[Array.getElem?_toList];exact e1,by rw[z2,Qw4,hzj];rfl⟩
   have build:∀(us:List Value) (ys:List (List Nat)),us.length=ys.length->(∀j:Nat,j<us.length->∃v t,us[j]? = some v/\v=Value.str (strOf (ys.getD j [])) t)->StrsAre us (ys.map strOf):=λus=>by
    induction us with
    | nil=>intro ys hl _;cases ys with
     | nil=>exact .nil
     | cons _ _=>cases hl
    | cons u us ih=>intro ys hl hk;cases ys with
     | nil=>cases hl
     | cons y ys=>
      obtain⟨v,t,e1,e2⟩:=hk 0 (Nat.succ_pos _);cases e1;rw[e2];exact .cons _ t (ih ys (by simpa using hl) λj hj=>by
       obtain⟨v,t,e1,e2⟩:=hk (j+1) (by simpa using hj);exact⟨v,t,by simpa using e1,by simpa using e2⟩)
   exact build _ _ (by rw[hl,hlen]) λj hj=>keys j (by rw[<-hl];exact hj)
  refine Qqx (wpAny_newList ?_ (by rw[hl,hlen];exact Qq6 (Qkj hz) (by decide)));have hoL:(h'.push (seqObj "list" acc.toList.toArray 0)).get? h'.objs.size=some (seqObj "list" acc.toList.toArray 0):=Qwz _ rfl;show wpAny _ _ _ _ _ { s with heap:=h'.push (seqObj "list" acc.toList.toArray 0),toks:=tk };refine Qqx (Qz4 (Qz8 slot_list_sort ⟨_,hoL,rfl⟩ entry_list_sort (list_sort_treeK strKind_oneLt hoL hS.keysOf (λv₁ v₂ rest e=>keyKind_strs (by rw[<-e];exact hS)) (by rw[hl,hlen];exact hz) λst' b1 b2=>⟨_,rfl,?_⟩) (args_list_sort _)));obtain⟨ss',a1,a2,a3⟩:=sorted_out_str hS b1 b2;obtain⟨e,he⟩:=sortedHeap_at (out:=(arrOf st').map (·.2)) hoL;refine Qq4 ⟨_,rfl,?_⟩;have I1:L2.Inv X pins σ H { s with heap:=h',toks:=tk }:=I.kept hk;refine Ep (s:={ s with heap:=h',toks:=tk }) (tk:=tk) I1 hz q a1 a2 a3 (λb o e=>?_) (Qq0 _) he;have lt':=Qq7 e;rw[sortedHeap_old (Qw5 lt') (by rw[size_push'];exact Nat.lt_succ_of_lt lt')];exact Qqk _ e
def iH:List D->Option D
 | [.lst ds]=>(jj ds).bind λzs=>if zs.length<64/\(∀z∈zs,z.length<=sizeLine) then some (.lst ((iU zs).map .str)) else none
 | [.dct kvs]=>(jj (kvs.map (·.1))).bind λzs=>if zs.length<64/\(∀z∈zs,z.length<=sizeLine) then some (.lst ((iU zs).map .str)) else none
 | _=>none
theorem dw.keys{K:Fg}{F:Hp}:∀{kvs:List (D×D)} {ks:List (Key×V)} {zs:List (List Nat)},dw K F kvs ks->jj (kvs.map (·.1))=some zs->ks.map (·.1)=zs.map λz=>Sum.inr (strOf z)
 | [],ks,zs,h,e=>by cases h;simp[jj] at e;subst e;rfl
 | (k,d)::kvs,ks,zs,h,e=>by
  obtain⟨q,v,r,rfl,h0,h1,h2⟩:=h;cases k with
  | str x=>
   cases h0;have e':(jj (kvs.map (·.1))).map (x :: ·)=some zs:=by simpa[jj] using e
   obtain⟨zs',e1,rfl⟩:=Qwj.mp e';rw[Qq3,Qq3,dw.keys h2 e1]
  | _=>simp[jj] at e
theorem Hw{Pr F:Hp}{env:Env}{σ:L2.St}{H:Hp}{l:Addr}{zs:List (List Nat)}(r:Rel C Pr F env σ H)(hl:H l=none)(hz:zs.length<64/\∀z∈zs,z.length<=sizeLine) :
  j0 C.K F (upd H l (.lst ((iU zs).map λz=>V.str (strOf z)))) (.lst ((iU zs).map .str)) l:=by
 refine⟨by rw[Qqw,(iw zs).length_eq];exact Qq6 (Qkj hz.1) (by decide),_,aR,tu _ λz h=>hz.2 z ((iw zs).mem_iff.mp h)⟩
theorem M4:CallD C (Ck C.K) iH:=by
 intro Pr F env σ H ds d vs Q r p e q;have fin:∀(zs:List (List Nat)) (l:Addr),(zs.length<64/\∀z∈zs,z.length<=sizeLine)->d = .lst ((iU zs).map .str)->H l=none->Q (.ref l) (upd H l (.lst ((iU zs).map λz=>V.str (strOf z)))):=λzs l hz hd hl=>by
  subst hd;obtain⟨F2,r2,s2,p2⟩:=(r.fresh (o:=.lst ((iU zs).map λz=>V.str (strOf z))) hl).keep (RQ.of r hl (Hw r hl hz));exact q _ _ F2 r2 s2 p2
 unfold iH at e;split at e
 ·obtain⟨v,w,rfl,p1,p2⟩:=p;cases p2;obtain⟨zs,e1,e2⟩:=Qzx.mp e;split at e2
  ·rename_i hz;cases e2;obtain⟨z,a,ws,rfl,h1,h2⟩:=p1.lst r.fr;have e6:=uU e1 h2;subst e6;exact⟨a,zs,rfl,.inl (m8.of h1),hz.1,λl hl=>fin zs l hz rfl hl⟩
  ·cases e2
 ·obtain⟨v,w,rfl,p1,p2⟩:=p;cases p2;obtain⟨zs,e1,e2⟩:=Qzx.mp e;split at e2
  ·rename_i hz;cases e2;obtain⟨z,a,ks,rfl,h1,h2⟩:=p1.dct r.fr;exact⟨a,zs,rfl,.inr ⟨ks,h1,h2.keys e1⟩,hz.1,λl hl=>fin zs l hz rfl hl⟩
  ·cases e2
 ·cases e
theorem Lx{p:Pos}{e:Expr}{a:dD}(hK:X.K=C.K)(hc:X.calm=true)(hg:Gl X "sorted")(hm:X.mg "sorted" = none)(ha:Vt X C [e] a)(he:Lj e X.env:=by rfl)(hpl:(backTo pos (starEach [] X.env)).any (·.1)=false:=by rfl) :
  PX X C (.Call (.Name "sorted" p) [e] [] pos) (au iH a):=
 tH (X:=X) (r:=Ck C.K) (by rw[<-hK];exact GJ hc) M4 hg hm PyProof.Rows.boot_sorted ha (by decide) (by decide) he hpl
end
theorem Rel.pad{C:Cfg}{Pr F:Hp}{env:Env}{σ:L2.St}{H:Hp}(m:Nat)(r:Rel C Pr F env σ H):Rel C Pr F (env++List.replicate m none) (tK m σ) H:=by
 have un:∀(j:Nat) (x:Bool×D),(env++List.replicate m none)[j]? = some (some x)->env[j]? = some (some x):=λj x he=>by
  by_cases hj:j<env.length
  ·rwa [Qw1 hj] at he
  ·rw[Qxk (by omega),Qzz] at he;split at he<;>cases he
 have up:∀(j:Nat) (v:V),σ[j]? = some (some v)->(tK m σ)[j]? = some (some v):=λj v h=>by
  unfold tK;rw[Qw1 (Qqv.mp h).1];exact h
 have dn:∀(j:Nat) (v:V),(tK m σ)[j]? = some (some v)->σ[j]? = some (some v):=λj v he=>by
  unfold tK at he;by_cases hj:j<σ.length
  ·rwa [Qw1 hj] at he
  ·rw[Qxk (by omega),Qzz] at he;split at he<;>cases he
 refine⟨r.pr,r.fr,by unfold tK;rw[Qqz,Qqz,Qx3,Qx3,r.len],λj e he=>?_,λj e he=>?_,λj k e f b hj hk g1 g2=>r.apart j k e f b (un _ _ hj) (un _ _ hk) (dn _ _ g1) (dn _ _ g2),r.dj,λj a h=>up _ _ (r.fix j a h)⟩
 ·obtain⟨v,h1,h2⟩:=r.val j e (un _ _ he);exact⟨v,up _ _ h1,h2⟩
 ·obtain⟨a,h1,h2⟩:=r.own j e (un _ _ he);exact⟨a,up _ _ h1,h2⟩
theorem Rel.cut{C:Cfg}{Pr F:Hp}{env:Env}{σ σ0:L2.St}{H:Hp}(r:Rel C Pr F env σ H)(h:σ.take σ0.length=σ0)(fix:∀i a,C.fx i=some a->σ0[i]? = some (some (V.ref a))):Rel C Pr F (env.take σ0.length) σ0 H:=by
 have hl:σ0.length<=σ.length:=by have:=Qx5 List.length h;rw[Qx8] at this;omega
 have un:∀(j:Nat) (x:Bool×D),(env.take σ0.length)[j]? = some (some x)->env[j]? = some (some x)/\j<σ0.length:=λj x he=>by
  have hj:j<σ0.length:=by have:=(Qqv.mp he).1;rw[Qx8] at this;omega
  rw[Qz0 hj] at he;exact⟨he,hj⟩
 have dn:∀(j:Nat),j<σ0.length->σ[j]? = σ0[j]?:=λj hj=>by
  have:=Qz0 (l:=σ) hj;rw[h] at this;exact this.symm
 refine⟨r.pr,r.fr,by rw[Qx8,r.len];omega,λj e he=>?_,λj e he=>?_,λj k e f b hj hk g1 g2=>r.apart j k e f b (un _ _ hj).1 (un _ _ hk).1 (by rw[dn _ (un _ _ hj).2];exact g1) (by rw[dn _ (un _ _ hk).2];exact g2),r.dj,fix⟩
 ·obtain⟨e1,e2⟩:=un _ _ he;rw[<-dn j e2];exact r.val j e e1
 ·obtain⟨e1,e2⟩:=un _ _ he;rw[<-dn j e2];exact r.own j e e1
def Ik(g:GV)(c:fZ)(e:Ev):List D->Env->R (List D)
 | [],env=>.ok [] env
 | d::ds,env=>(match g d env with
  | none=>.stuck
  | some e1=>bindR (c e1) λb e2=>if b=true then bindR (e e2) λy e3=>bindR (Ik g c e ds e3) λys e4=>.ok (y::ys) e4 else Ik g c e ds e2)
def gC(lo n:Nat)(it:dD)(g:GV)(c:fZ)(e:Ev):Ev:=λenv=>bindR (it env) λds aK=>if aK.length=lo then bindR (Ik g c e ds (aK++List.replicate (n - lo) none)) λys dU=>(if ys.length<=sizeLine then .ok (.lst ys) (dU.take lo) else .stuck) else .stuck
def Nf(X:Cx)(C:Cfg)(ifs:List Expr)(ev:fZ):Prop:=PIf X ifs (tT C ev)
def dC:fZ:=λenv=>.ok true env
theorem PB{X:Cx}{C:Cfg}:Nf X C [] dC:=λpins s σ H Q I h=>by
 obtain⟨Pr,F,env,env',b,r,e,q⟩:=h;cases e;exact T8 pins s σ H Q I (q H F r (aM.refl F))
theorem Wd{C:Cfg}{lo n:Nat}{it:dD}{g:GV}{c:fZ}{e:Ev}{σ:L2.St}{H:Hp}{Q:VK}(h:tN C (gC lo n it g c e) σ H Q):tLC n (tI C it) (tG C lo g) (tT C c) (tE C e) σ H Q:=by
 obtain⟨Pr,F,env,env',d,r,ev,q⟩:=h;obtain⟨ds,aK,e1,e2⟩:=aU ev;split at e2
 ·rename_i hlo;obtain⟨ys,dU,e3,e4⟩:=aU e2;split at e4
  ·rename_i hz;cases e4;refine⟨Pr,F,env,aK,ds,r,e1,λJ H1 F1 r1 s1 y1 a ha=>?_⟩;have hσ:σ.length=lo:=r1.len.symm.trans hlo;have hPa:Pr a=none:=r1.pr.free ha;refine⟨λi m σ' H'=>m=ds.length - i/\i<=ds.length/\∃F' Gu acc ws rest,Rel C (upd Pr a (.lst ws)) F' Gu σ' H'/\aM F1 F'/\bM C.K F' acc ws/\σ'.take lo=σ/\Ik g c e (ds.drop i) Gu = .ok rest dU/\acc++rest=ys,
    ⟨ds.length,rfl,Qx0 _,F1,aK++List.replicate (n - lo) none,[],[],ys,?_,aM.refl _,rfl,?_,e3,rfl⟩,?_⟩
   ·rw[hσ];exact(r1.aside (o:=.lst []) ha).pad _
   ·unfold tK;rw[<-hσ,List.take_left]
   rintro i m σ' H' ⟨rfl,hi,F',Gu,acc,ws,rest,r',s',p',t',l',hacc⟩;have hFa:F' a=none:=by
    cases ez:F' a with
    | none=>rfl
    | some w=>have:=r'.dj a w ez;rw[aR] at this;cases this
   by_cases hl:i<ds.length
   ·have hd:ds[i]? = some ds[i]:=Qwk hl;have hdr:ds.drop i=ds[i]::ds.drop (i+1):=Qj5 hl;have yy:=y1 i H' (s'.trans r'.fr);refine .inr ⟨(yy.2 _ hd).1,λσ2 H2=>∃F' Gu acc ws rest,Rel C (upd Pr a (.lst ws)) F' Gu σ2 H2/\aM F1 F'/\bM C.K F' acc ws/\σ2.take lo=σ/\Ik g c e (ds.drop (i+1)) Gu = .ok rest dU/\acc++rest=ys,
     λσ2 H2 h2=>⟨ds.length - (i+1),by omega,rfl,hl,h2⟩,λx H2 hy=>?_⟩
    obtain⟨F2,r2,s2,p2⟩:=qu.item r' s' y1 hd hy;rw[hdr] at l';unfold Ik at l';cases eg:g ds[i] Gu with
    | none=>rw[eg] at l';cases l'
    | some e5=>
     rw[eg] at l';obtain⟨b,e6,c1,l2⟩:=aU l';refine⟨_,F2,Gu,e5,ds[i],r2,p2,eg,λσ3 H3 F3 r3 s3 t3=>⟨_,F3,e5,e6,b,r3,c1,λH4 F4 r4 s4=>?_⟩⟩;have t3':σ3.take lo=σ:=t3.trans t';have s24:aM F' F4:=(s2.trans s3).trans s4;cases b with
     | false=>
      show if false=true then _ else _
      rw[if_neg Qw8];rw[if_neg Qw8] at l2;exact⟨F4,e6,acc,ws,rest,r4,s'.trans s24,bM.mono s24 _ _ p',t3',l2,hacc⟩
     | true=>
      show if true=true then _ else _
      rw[if_pos rfl];rw[if_pos rfl] at l2;obtain⟨y,e7,c2,l3⟩:=aU l2;obtain⟨ys2,e8,c3,l4⟩:=aU l3;cases l4;refine⟨_,F4,e6,e7,y,r4,c2,λv H5 F5 r5 s5 p5=>?_⟩;have hlen:acc.length+(ys2.length+1)=ys.length:=by rw[<-hacc,Qqz,Qqy]
      refine⟨ws,r5.pr _ _ aR,by rw[p'.length];omega,F5,e7,acc++[y],ws++[v],ys2,?_,s'.trans (s24.trans s5),(bM.mono (s24.trans s5) _ _ p').append (bM.one p5),t3',c3,by rw[Qzq];exact hacc⟩;have r6:=r5.turn (u:=.lst (ws++[v])) aR
      rwa [Sw] at r6
   ·have ei:i=ds.length:=by omega
    subst ei;rw[List.drop_length] at l';cases l';rw[Qxv] at hacc;subst hacc;refine .inl ⟨(y1 _ H' (s'.trans r'.fr)).1 (List.getElem?_eq_none (Qq0 _)) rfl,?_⟩;have sP:aM Pr (upd Pr a (.lst ws)):=lC hPa;have r7:Rel C Pr F' (dU.take lo) σ H':=by
     have:=(r'.less sP).cut (σ0:=σ) (by rw[hσ];exact t') r1.fix
     rwa [hσ] at this
    refine q a H' F' r7 (s1.trans s') ⟨⟨hz,ws,r'.pr _ _ aR,p'⟩,hFa,hPa,λj e he hs=>?_⟩;have hj:j<σ.length:=(Qqv.mp hs).1;have he':dU[j]? = some (some (true,e)):=by rw[Qz0 (by rw[<-hσ];exact hj)] at he;exact he
    obtain⟨b,g1,_,_,g4⟩:=r'.own j e he';have:σ'[j]? = some (some (V.ref a)):=by rw[<-t',Qz0 (by rw[<-hσ];exact hj)] at hs;exact hs
    rw[this] at g1;cases g1;rw[aR] at g4;cases g4
  ·cases e4
 ·cases e2
section
variable{X:Cx}{C:Cfg}{pos:Pos}
theorem Xx{elt tg iter:Expr}{ifs:List Expr}{scope:Scope}(N':List Str){it:dD}{g:GV}{c:fZ}{e:Ev}(lo:Nat)(ok:lR X scope N')(hc:X.calm=true)(hi:WR X C tg iter it)
  (bg:∀X',jh X scope N' X'->Vs X' C lo tg g) (bc:∀X',jh X scope N' X'->Nf X' C ifs c) (be:∀X',jh X scope N' X'->PX X' C elt e)
  (hs:∀x,foldedSetIterable iter X.env x=pure x:=by intro _;rfl):R6 X C (.ListComp elt [⟨tg,iter,ifs,0⟩] scope pos) (gC lo N'.length it g c e):=
 (abB ok hc hi bg bc be hs).imp λσ H Q h=>Wd h
theorem Lp{elt tg iter:Expr}{ifs:List Expr}{scope:Scope}(N':List Str){spos py:Pos}{it:dD}{g:GV}{c:fZ}{e:Ev}(lo:Nat){i:Nat}{y:Str}(ok:lR X scope N')(hc:X.calm=true)(hi:WR X C tg iter it)
  (bg:∀X',jh X scope N' X'->Vs X' C lo tg g) (bc:∀X',jh X scope N' X'->Nf X' C ifs c) (be:∀X',jh X scope N' X'->PX X' C elt e)
  (hN:X.N.Nodup) (hy:X.N[i]? = some y) (hx:Loc X.env.scope y) (hfx:C.fx i=none)
  (hsw:swapsWith (.ListComp elt [⟨tg,iter,ifs,0⟩] scope pos) (some (.Name y py)) spos.line X.env=pure true)
  (hf:X.fn y=true\/X.env.scope.names.lookup y=some .local:=by first|exact .inl rfl|exact .inr rfl|assumption)
  (hs:∀x,foldedSetIterable iter X.env x=pure x:=by intro _;rfl):R5 X C (.Assign [.Name y py] (.ListComp elt [⟨tg,iter,ifs,0⟩] scope pos) spos) (dF i (gC lo N'.length it g c e)):=
 (Qd ok hc hi bg bc be hN hy hx hsw hf hs).imp λD σ H h=>by
  obtain⟨Pr,F,env,r,f⟩:=h;obtain⟨d,aK,e1,f1⟩:=dg f;have:tN C (gC lo N'.length it g c e) σ H λv H1=>Gn i v σ H1 D.nx:=⟨Pr,F,env,aK,d,r,e1,λv H1 F1 r1 s1 p1=>f1 _ H1 F1 (r1.PN hfx p1) s1⟩;exact Wd this
end
def jU(K:Fg)(n:Nat)(f:List D->Option D):Sp:=λvs H Q _=>∃(F:Hp) (ds:List D) (d:D),ds.length=n/\aM F H/\bM K F ds vs/\f ds=some d/\
 ∀v H' F',aM H H'->aM F' H'->aM F F'->(∀b o,F' b=some o->F b=some o\/H b=none)->Rep K F' d v->Q v H'
def Xi(K:Fg)(n:Nat)(f:List D->Option D):Sp:=λvs H Q _=>∃(F:Hp) (ds:List D) (d:D),ds.length=n/\aM F H/\bM K F ds vs/\f ds=some d/\
 ∀a H' F',aM H H'->aM F' H'->aM F F'->(∀b o,F' b=some o->F b=some o\/H b=none)->j0 K F' H' d a->F' a=none->H a=none->Q (.ref a) H'
def xR(K:Fg)(n:Nat)(f:List D->Option (D×D)):Sp:=λvs H Q _=>∃(F:Hp) (a:Addr) (r:List V) (x:D) (ds:List D) (d x':D),vs = .ref a::r/\ds.length+1=n/\aM F H/\F a=none/\j0 K F H x a/\bM K F ds r/\f (x::ds)=some (d,x')/\
 ∀v H' F',(∀b o,b≠a->H b=some o->H' b=some o)->aM F' H'->aM F F'->(∀b o,F' b=some o->F b=some o\/H b=none)->j0 K F' H' x' a->Rep K F' d v->Q v H'
theorem Rel.after{C:Cfg}{Pr F F':Hp}{env:Env}{σ:L2.St}{H H':Hp}(r:Rel C Pr F env σ H)(s:aM H H')(sF:aM F' H')(sF':aM F F')(nw:∀b o,F' b=some o->F b=some o\/H b=none):Rel C Pr F' env σ H':=by
 refine⟨r.pr.trans s,sF,r.len,λj e he=>?_,λj e he=>?_,r.apart,λb o e=>?_,r.fix⟩
 ·obtain⟨v,h1,h2⟩:=r.val j e he;exact⟨v,h1,Rep.mono sF' _ _ h2⟩
 ·obtain⟨a,h1,h2,h3,h4⟩:=r.own j e he;obtain⟨o,ho⟩:=h2.some;refine⟨a,h1,h2.mono sF' (by rw[ho,s _ _ ho]),?_,h4⟩;cases e:F' a with
  | none=>rfl
  | some u=>
   rcases nw a u e with z|z
   ·rw[h3] at z;cases z
   ·rw[ho] at z;cases z
 ·rcases nw b o e with z|z
  ·exact r.dj b o z
  ·exact r.pr.free z
theorem Rel.Vm{C:Cfg}{Pr F F':Hp}{env:Env}{σ:L2.St}{H H':Hp}{i:Nat}{a:Addr}{d d':D}(r:Rel C Pr F env σ H)(h:env[i]? = some (some (true,d)))(hs:σ[i]? = some (some (V.ref a)))(s:∀b o,b≠a->H b=some o->H' b=some o)(sF:aM F' H')(sF':aM F F')(nw:∀b o,F' b=some o->F b=some o\/H b=none)(ho:j0 C.K F' H' d' a):Rel C Pr F' (env.set i (some (true,d'))) σ H':=by
 obtain⟨a',h1,h2,h3,h4⟩:=r.own i d h;rw[hs] at h1;cases h1;have hi:i<env.length:=(Qqv.mp h).1;obtain⟨oa,hoa⟩:=h2.some;have ne:∀(j:Nat) (e:D) (b:Addr),j≠i->env[j]? = some (some (true,e))->σ[j]? = some (some (V.ref b))->b≠a:=λj e b hj he g z=>hj (r.apart j i e d a he h (by rw[<-z];exact g) hs);have nF:∀b u,F b=none->H b=some u->F' b=none:=λb u e1 e2=>by
  cases e:F' b with
  | none=>rfl
  | some w=>
   rcases nw b w e with z|z
   ·rw[e1] at z;cases z
   ·rw[e2] at z;cases z
 refine⟨λb w e=>?_,sF,by rw[Qxy];exact r.len,λj e he=>?_,λj e he=>?_,λj k e f b hj hk g1 g2=>?_,λb o e=>?_,r.fix⟩
 ·have hb:b≠a:=λz=>by rw[z,h4] at e;cases e
  exact s b w hb (r.pr b w e)
 ·by_cases hj:j=i
  ·subst hj;rw[Qwv hi] at he;cases he
  ·rw[Qq8 (Ne.symm hj)] at he;obtain⟨v,g1,g2⟩:=r.val j e he;exact⟨v,g1,Rep.mono sF' _ _ g2⟩
 ·by_cases hj:j=i
  ·subst hj;rw[Qwv hi] at he;cases he;exact⟨a,hs,ho,nF a oa h3 hoa,h4⟩
  ·rw[Qq8 (Ne.symm hj)] at he;obtain⟨b,g1,g2,g3,g4⟩:=r.own j e he;obtain⟨ob,hob⟩:=g2.some;exact⟨b,g1,g2.mono sF' (by rw[hob,s b ob (ne j e b hj he g1) hob]),nF b ob g3 hob,g4⟩
 ·have un:∀(j:Nat) (e:D),(env.set i (some (true,d')))[j]? = some (some (true,e))->∃e',env[j]? = some (some (true,e')):=λj e he=>by
   by_cases hj:j=i
   ·subst hj;exact⟨d,h⟩
   ·rw[Qq8 (Ne.symm hj)] at he;exact⟨e,he⟩
  obtain⟨e',hj'⟩:=un j e hj;obtain⟨f',hk'⟩:=un k f hk;exact r.apart j k e' f' b hj' hk' g1 g2
 ·rcases nw b o e with z|z
  ·exact r.dj b o z
  ·exact r.pr.free z
section
variable{X:Cx}{C:Cfg}{pos p:Pos}{k n:Nat}{f:Addr}{fd:FuncData}{ps:List Str}{x:Str}{e:Expr}{es:List Expr}
theorem rQ{g:List D->Option D}{a:dD}{env env':Env}{d:D}(h:au g a env = .ok d env'):∃ds,a env = .ok ds env'/\g ds=some d:=by obtain⟨ds,aK,e1,e2⟩:=aU h;obtain⟨e3,rfl⟩:=fG e2;exact⟨ds,e1,e3⟩
theorem XC{g:List D->Option D}{a:dD}(G:j4 X.prog X.w X.K X.mg X.base vO k f fd ps (jU C.K n g))(hr:eV k X.A)(hg:Gl X x)(hm:X.mg x=some (.ref f))(hk:PySem.W.keepIn X.K (.ref f)=true)(hb:Binds X.K fd ps [])
  (ha:RP X C (e::es) a) (hn:∀env ds env',a env = .ok ds env'->ds.length=n) (hdb:lK x:=by decide) (he:starEach (e::es) X.env=(false,eval e X.env)::starEach es X.env:=by rfl) (hpl:(backTo pos (starEach es X.env)).any (·.1)=false:=by rfl) :
  PX X C (.Call (.Name x p) (e::es) [] pos) (au g a):=(Cy G hr hg hm hk hb .nil Fw ha hdb he hpl).imp λσ H Q hq=>by
 obtain⟨Pr,F,env,env',d,r,e,q⟩:=hq;obtain⟨ds,e1,e2⟩:=rQ e;refine⟨Pr,F,env,env',ds,r,e1,λvs H1 F1 r1 s1 p1=>?_⟩;show jU C.K n g (vs++[]) H1 Q E0;rw[Qxv];exact⟨F1,ds,d,hn _ _ _ e1,r1.fr,p1,e2,λv H2 F2 t1 t2 t3 t4 p2=>q v H2 F2 (r1.after t1 t2 t3 t4) (s1.trans t3) p2⟩
theorem Tu{g:List D->Option D}{a:dD}(G:j4 X.prog X.w X.K X.mg X.base vO k f fd ps (Xi C.K n g))(hr:eV k X.A)(hg:Gl X x)(hm:X.mg x=some (.ref f))(hk:PySem.W.keepIn X.K (.ref f)=true)(hb:Binds X.K fd ps [])
  (ha:RP X C (e::es) a) (hn:∀env ds env',a env = .ok ds env'->ds.length=n) (hdb:lK x:=by decide) (he:starEach (e::es) X.env=(false,eval e X.env)::starEach es X.env:=by rfl) (hpl:(backTo pos (starEach es X.env)).any (·.1)=false:=by rfl) :
  R6 X C (.Call (.Name x p) (e::es) [] pos) (au g a):=(Cy G hr hg hm hk hb .nil Fw ha hdb he hpl).imp λσ H Q hq=>by
 obtain⟨Pr,F,env,env',d,r,e,q⟩:=hq;obtain⟨ds,e1,e2⟩:=rQ e;refine⟨Pr,F,env,env',ds,r,e1,λvs H1 F1 r1 s1 p1=>?_⟩;show Xi C.K n g (vs++[]) H1 Q E0;rw[Qxv];refine⟨F1,ds,d,hn _ _ _ e1,r1.fr,p1,e2,λb H2 F2 t1 t2 t3 t4 ho hF hH=>q b H2 F2 (r1.after t1 t2 t3 t4) (s1.trans t3) ⟨ho,hF,r1.pr.free hH,λj e he hs=>?_⟩⟩;obtain⟨c,h1,h2,_⟩:=r1.own j e he;rw[hs] at h1;cases h1;obtain⟨u,hu⟩:=h2.some;rw[hH] at hu;cases hu
def f9(f:List D->Option (D×D))(i:Nat)(a:dD):Ev:=λenv=>match env[i]? with
 | some (some (true,_))=>bindR (a env) λds aK=>(match aK[i]? with
  | some (some (true,x))=>(match f (x::ds) with
   | some (d,x')=>.ok d (aK.set i (some (true,x')))
   | none=>.stuck)
  | _=>.stuck)
 | _=>.stuck
theorem abt{g:List D->Option (D×D)}{a:dD}{i:Nat}{y:Str}{py:Pos}(hN:X.N[i]? = some y)(hv:uz X.env.scope y)(G:j4 X.prog X.w X.K X.mg X.base vO k f fd ps (xR C.K n g))(hr:eV k X.A)(hg:Gl X x)(hm:X.mg x=some (.ref f))(hk:PySem.W.keepIn X.K (.ref f)=true)(hb:Binds X.K fd ps [])
  (ha:RP X C es a) (hn:∀env ds env',a env = .ok ds env'->ds.length+1=n) (hdb:lK x:=by decide) (he:starEach (.Name y py::es) X.env=(false,eval (.Name y py) X.env)::starEach es X.env:=by rfl) (hpl:(backTo pos (starEach es X.env)).any (·.1)=false:=by rfl)
  (hd:lK y:=by decide) (hcd:tW y:=by decide) :
  PX X C (.Call (.Name x p) (.Name y py::es) [] pos) (f9 g i a):=(Cy G hr hg hm hk hb .nil Fw (jx (iR hN hv hd hcd) ha he) hdb he hpl).imp λσ H Q hq=>by
 obtain⟨Pr,F,env,env',d,r,e,q⟩:=hq;unfold f9 at e;split at e
 ·rename_i d0 h0;obtain⟨ds,aK,e1,e2⟩:=aU e;split at e2
  ·rename_i z hz;split at e2
   ·rename_i d1 z' hg;cases e2;obtain⟨a0,hs0,_⟩:=r.own i _ h0;refine⟨_,hs0,Pr,F,env,aK,ds,r,e1,λvs H1 F1 r1 s1 p1=>?_⟩;obtain⟨a1,hs1,ho1,hF1,hP1⟩:=r1.own i _ hz;rw[hs0] at hs1;cases hs1;show xR C.K n g (_::vs++[]) H1 Q E0;rw[Qxv];exact⟨F1,a0,vs,z,ds,d,z',rfl,hn _ _ _ e1,r1.fr,hF1,ho1,p1,hg,λv H2 F2 t1 t2 t3 t4 t5 p2=>q v H2 F2 (r1.Vm hz hs0 t1 t2 t3 t4 t5) (s1.trans t3) p2⟩
   ·cases e2
  ·cases e2
 ·cases e
end
def envOf(n:Nat)(ds:List D):Env:=ds.map (λd=>some (false,d))++List.replicate (n - ds.length) none
def yW(n:Nat)(x:D)(ds:List D):Env:=some (true,x)::(ds.map (λd=>some (false,d))++List.replicate (n - (ds.length+1)) none)
def cH(n:Nat)(ev:cu)(ds:List D):Option D:=match ev (envOf n ds) with
 | .rt false d _=>some d
 | .nx _=>some .non
 | _=>none
def runN(n:Nat)(ev:cu)(ds:List D):Option D:=match ev (envOf n ds) with
 | .rt true d _=>some d
 | _=>none
def lH(n:Nat)(ev:cu)(ds:List D):Option (D×D):=match ds with
 | []=>none
 | x::r=>(match ev (yW n x r) with
  | .rt false d env=>(match env[0]? with
   | some (some (true,x'))=>some (d,x')
   | _=>none)
  | .nx env=>(match env[0]? with
   | some (some (true,x'))=>some (.non,x')
   | _=>none)
  | _=>none)
def C0(K:Fg):Cfg:=⟨K,λ_=>none⟩
def C1(K:Fg)(a:Addr):Cfg:=⟨K,λi=>if i=0 then some a else none⟩
def zQ(H F:Hp):Hp:=λb=>if (F b).isSome then none else H b
theorem FW{H F:Hp}{b:Addr}{o:HO}(h:zQ H F b=some o):H b=some o/\F b=none:=by
 unfold zQ at h;split at h
 ·cases h
 ·rename_i z;exact⟨h,by cases e:F b with|none=>rfl|some w=>rw[e] at z;exact absurd rfl z⟩
theorem yu{H F:Hp}{b:Addr}(h:zQ H F b=none):H b=none\/∃o,F b=some o:=by
 unfold zQ at h;split at h
 ·rename_i z;exact .inr (Qx6.mp z)
 ·exact .inl h
theorem qx{K:Fg}{F H:Hp}{ds:List D}{vs:List V}{N:List Str}(s:aM F H)(p:bM K F ds vs):Rel (C0 K) (zQ H F) F (envOf N.length ds) (start N vs) H:=by
 have un:∀(j:Nat) (x:Bool×D),(envOf N.length ds)[j]? = some (some x)->∃d,x=(false,d)/\ds[j]? = some d:=λj x he=>by
  unfold envOf at he;by_cases hj:j<(ds.map λd=>some (false,d)).length
  ·rw[Qw1 hj,Qw2] at he;obtain⟨d,h1,h2⟩:=Qwj.mp he;cases h2;exact⟨d,rfl,h1⟩
  ·rw[Qxk (by omega),Qzz] at he;split at he<;>cases he
 refine⟨λb o e=>(FW e).1,s,?_,λj d he=>?_,λj d he=>?_,λj k d e a hj hk=>?_,λb o e=>?_,λi a h=>by cases h⟩
 ·unfold envOf L2.start;rw[Qqz,Qqz,Qqw,Qqw,Qx3,Qx3,p.length]
 ·obtain⟨d',z,hd⟩:=un j _ he;cases z;obtain⟨v,h1,h2⟩:=p.get hd;refine⟨v,?_,h2⟩;unfold L2.start;rw[Qw1 (by rw[Qqw];exact(Qqv.mp h1).1),Qw2,h1]
  rfl
 ·obtain⟨d',z,_⟩:=un j _ he;cases z
 ·obtain⟨d',z,_⟩:=un j _ hj;cases z
 ·unfold zQ;rw[e];rfl
theorem aM.rG{H F F' H':Hp}(s1:aM (zQ H F) H')(s2:aM F F')(s3:aM F' H')(sF:aM F H):aM H H':=λb o e=>by
 cases z:F b with
 | none=>exact s1 b o (by unfold zQ;rw[z];exact e)
 | some w=>
  have:=sF b w z;rw[e] at this;cases this;exact s3 b o (s2 b o z)
theorem rJ{H F F':Hp}(s2:aM F F')(dj:∀b o,F' b=some o->zQ H F b=none)(b:Addr)(o:HO)(h:F' b=some o):F b=some o\/H b=none:=by
 rcases yu (dj b o h) with z|⟨w,z⟩
 ·exact .inr z
 ·have:=s2 b w z;rw[h] at this;cases this;exact .inl z
section
variable{P:Program}{w:World}{K:Fg}{mg:Str->Option Value}{base:Heap}{x qual:Str}{st:Stmt}{f:Addr}{fd:FuncData}{N ps:List Str}{k:Nat}{ev:cu}
abbrev bx(P:Program)(w:World)(K:Fg)(mg:Str->Option Value)(base:Heap)(N:List Str)(qual:Str)(st:Stmt)(f:Addr)(cdv:Value)(A:Around)(outer:List PySem.Env)(s:Shared)(H:Hp)(E:XK):Cx:=(Gz vO P w K mg base N qual (aJ st) f cdv A outer s H E).Uq
theorem Rq(F:Ng K x qual st f fd)(S:bG N ps (aJ st))
  (hb:∀(cdv:Value) (A:Around) (outer:List PySem.Env) (s:Shared) (H:Hp) (E:XK),eV k (A.deeper (envOfC qual (aJ st) s.heap.objs.size f cdv))->qK (bx P w K mg base N qual st f cdv A outer s H E) (C0 K) (bY st) ev) :
  j4 P w K mg base vO (k+1) f fd ps (jU K ps.length (cH N.length ev)):=by
 refine F.ok S (λvs H Q E h=>?_) (λcdv A outer s H vs Q E hr h=>?_)
 ·obtain⟨F0,ds,d,hl,_,p,_⟩:=h;rw[p.length,hl]
 ·obtain⟨F0,ds,d,hl,sF,p,e,q⟩:=h;refine⟨_,hb cdv A outer s H E hr,zQ H F0,F0,envOf N.length ds,qx sF p,?_⟩;unfold cH at e;split at e
  ·rename_i d' env' h1;cases e;rw[h1];exact λv σ' H' F' r' s' p'=>q v H' F' (aM.rG r'.pr s' r'.fr sF) r'.fr s' (rJ s' r'.dj) p'
  ·rename_i env' h1;cases e;rw[h1];exact λσ' H' F' r' s'=>q .non H' F' (aM.rG r'.pr s' r'.fr sF) r'.fr s' (rJ s' r'.dj) rfl
  ·cases e
theorem U9(F:Ng K x qual st f fd)(S:bG N ps (aJ st))
  (hb:∀(cdv:Value) (A:Around) (outer:List PySem.Env) (s:Shared) (H:Hp) (E:XK),eV k (A.deeper (envOfC qual (aJ st) s.heap.objs.size f cdv))->qK (bx P w K mg base N qual st f cdv A outer s H E) (C0 K) (bY st) ev) :
  j4 P w K mg base vO (k+1) f fd ps (Xi K ps.length (runN N.length ev)):=by
 refine F.ok S (λvs H Q E h=>?_) (λcdv A outer s H vs Q E hr h=>?_)
 ·obtain⟨F0,ds,d,hl,_,p,_⟩:=h;rw[p.length,hl]
 ·obtain⟨F0,ds,d,hl,sF,p,e,q⟩:=h;refine⟨_,hb cdv A outer s H E hr,zQ H F0,F0,envOf N.length ds,qx sF p,?_⟩;unfold runN at e;split at e
  ·rename_i d' env' h1;cases e;rw[h1];refine λa σ' H' F' r' s' n'=>q a H' F' (aM.rG r'.pr s' r'.fr sF) r'.fr s' (rJ s' r'.dj) n'.own n'.nF ?_;rcases yu n'.nP with z|⟨u,z⟩
   ·exact z
   ·have:=s' a u z;rw[n'.nF] at this;cases this
  ·cases e
theorem Fe{K:Fg}{F H:Hp}{y:D}{a:Addr}{ds:List D}{vs:List V}{N:List Str}(s:aM F H)(hF:F a=none)(ho:j0 K F H y a)(p:bM K F ds vs):Rel (C1 K a) (λb=>if b=a then none else zQ H F b) F (yW N.length y ds) (start N (.ref a::vs)) H:=by
 have un:∀(j:Nat) (x:Bool×D),(yW N.length y ds)[j]? = some (some x)->(j=0/\x=(true,y))\/∃i d,j=i+1/\x=(false,d)/\ds[i]? = some d:=λj x he=>by
  unfold yW at he;cases j with
  | zero=>cases he;exact .inl ⟨rfl,rfl⟩
  | succ i=>
   rw[List.getElem?_cons_succ] at he;by_cases hj:i<(ds.map λd=>some (false,d)).length
   ·rw[Qw1 hj,Qw2] at he;obtain⟨d,h1,h2⟩:=Qwj.mp he;cases h2;exact .inr ⟨i,d,rfl,rfl,h1⟩
   ·rw[Qxk (by omega),Qzz] at he;split at he<;>cases he
 have z0:(start N (.ref a::vs))[0]? = some (some (V.ref a)):=rfl;refine⟨λb o e=>?_,s,?_,λj d he=>?_,λj d he=>?_,λj k d e b hj hk _ _=>?_,λb o e=>?_,λi b h=>?_⟩
 ·have e':(if b=a then none else zQ H F b)=some o:=e;split at e'
  ·cases e'
  ·exact(FW e').1
 ·unfold yW L2.start;simp only[Qqy,Qqz,Qqw,Qx3,p.length,Qq3];omega
 ·rcases un j _ he with ⟨_,z⟩|⟨i,d',rfl,z,hd⟩
  ·cases z
  ·cases z;obtain⟨v,h1,h2⟩:=p.get hd;refine⟨v,?_,h2⟩;unfold L2.start;rw[Qq3,List.cons_append,List.getElem?_cons_succ,Qw1 (by rw[Qqw];exact(Qqv.mp h1).1),Qw2,h1]
   rfl
 ·rcases un j _ he with ⟨rfl,z⟩|⟨i,d',rfl,z,hd⟩
  ·cases z;exact⟨a,z0,ho,hF,if_pos rfl⟩
  ·cases z
 ·rcases un j _ hj with ⟨rfl,_⟩|⟨i,d',rfl,z,_⟩
  ·rcases un k _ hk with ⟨rfl,_⟩|⟨i,d',rfl,z,_⟩
   ·rfl
   ·cases z
  ·cases z
 ·show(if b=a then none else zQ H F b)=none;split
  ·rfl
  ·unfold zQ;rw[e];rfl
 ·have h':(if i=0 then some a else none)=some b:=h;split at h'
  ·rename_i hi;cases h';rw[hi];exact z0
  ·cases h'
theorem Z2{y:Str}{qs:List Str}(F:Ng K x qual st f fd)(S:bG N (y::qs) (aJ st))
  (hb:∀(cdv:Value) (A:Around) (outer:List PySem.Env) (s:Shared) (H:Hp) (E:XK) (a:Addr),eV k (A.deeper (envOfC qual (aJ st) s.heap.objs.size f cdv))->qK (bx P w K mg base N qual st f cdv A outer s H E) (C1 K a) (bY st) ev) :
  j4 P w K mg base vO (k+1) f fd (y::qs) (xR K (qs.length+1) (lH N.length ev)):=by
 refine F.ok S (λvs H Q E h=>?_) (λcdv A outer s H vs Q E hr h=>?_)
 ·obtain⟨F0,a,r,z,ds,d,z',rfl,hl,_,_,_,p,_⟩:=h;rw[Qqy,Qqy,p.length];exact hl
 ·obtain⟨F0,a,r,z,ds,d,z',rfl,hl,sF,hFa,ho,p,e,q⟩:=h;refine⟨_,hb cdv A outer s H E a hr,_,F0,yW N.length z ds,Fe sF hFa ho p,?_⟩;have fin:∀(env':Env) (σ':L2.St) (H' F':Hp) (v:V) (d:D) (z':D),env'[0]? = some (some (true,z'))->Rel (C1 K a) (λb=>if b=a then none else zQ H F0 b) F' env' σ' H'->aM F0 F'->Rep K F' d v->(∀v H' F',(∀b o,b≠a->H b=some o->H' b=some o)->aM F' H'->aM F0 F'->(∀b o,F' b=some o->F0 b=some o\/H b=none)->j0 K F' H' z' a->Rep K F' d v->Q v H')->Q v H':=λenv' σ' H' F' v d z' h0 r' s' p' q=>by
   obtain⟨b,g1,g2,g3,g4⟩:=r'.own 0 z' h0;have g5:=r'.fix 0 a rfl;rw[g1] at g5;cases g5;refine q v H' F' (λc o hc e=>?_) r'.fr s' (λc o e=>?_) g2 p'
   ·cases u:F0 c with
    | none=>exact r'.pr c o (by show(if c=a then none else zQ H F0 c)=some o;rw[if_neg hc];unfold zQ;rw[u];exact e)
    | some w=>
     have:=sF c w u;rw[e] at this;cases this;exact r'.fr c o (s' c o u)
   ·by_cases hc:c=a
    ·subst hc;rw[g3] at e;cases e
    ·have h1:=r'.dj c o e;have h1':(if c=a then none else zQ H F0 c)=none:=h1;rw[if_neg hc] at h1';rcases yu h1' with u|⟨w,u⟩
     ·exact .inr u
     ·have:=s' c w u;rw[e] at this;cases this;exact .inl u
  unfold lH at e;simp only at e;split at e
  ·rename_i d' env' h1;split at e
   ·rename_i z1 h0;cases e;rw[h1];exact λv σ' H' F' r' s' p'=>fin env' σ' H' F' v _ _ h0 r' s' p' q
   ·cases e
  ·rename_i env' h1;split at e
   ·rename_i z1 h0;cases e;rw[h1];exact λσ' H' F' r' s'=>fin env' σ' H' F' .non .non _ h0 r' s' rfl q
   ·cases e
  ·cases e
end
structure Good(X:Cx)(C:Cfg):Prop where
 K:X.K=C.K
 calm:X.calm=true
 un:X.A.units+64<cLine
theorem Good.u1{X:Cx}{C:Cfg}(G:Good X C):X.A.units+1<cLine:=Qw7 (Nat.add_le_add_left (by decide:1<=64) _) G.un
theorem Good.u60{X:Cx}{C:Cfg}(G:Good X C):X.A.units+60<cLine:=Qw7 (Nat.add_le_add_left (by decide:60<=64) _) G.un
theorem Good.u61{X:Cx}{C:Cfg}(G:Good X C):X.A.units+61<cLine:=Qw7 (Nat.add_le_add_left (by decide:61<=64) _) G.un
theorem Good.at{X X':Cx}{C:Cfg}{scope:Scope}{N':List Str}(G:Good X C)(h:jh X scope N' X'):Good X' C:=by obtain⟨_,_,_,_,_,rfl⟩:=h;exact⟨G.K,G.calm,G.un⟩
def Own(P:Program)(w:World)(K:Fg)(mg:Str->Option Value)(base:Heap)(x:Str)(k:Nat)(ps:List Str)(sp:Sp):Prop:=
 ∃f fd,j4 P w K mg base vO k f fd ps sp/\mg x=some (.ref f)/\PySem.W.keepIn K (.ref f)=true/\Binds K fd ps []
def R7(K:Fg)(mg:Str->Option Value)(x:Str)(d:D):Prop:=∃v u,mg x=some u/\RelV v u/\∀F,Rep K F d v
def dB(K:Fg)(mg:Str->Option Value)(x:Str)(st:Stmt)(ps:List Str):Prop:=∃f fd,Ng K x x st f fd/\mg x=some (.ref f)/\Binds K fd ps []
def jy:List Str->Bool
 | []=>true
 | x::r=>!(r.contains x)&&jy r
theorem gj:∀{l:List Str},jy l=true->l.Nodup
 | [],_=>.nil
 | x::r,h=>by
  have h':(!(r.contains x)&&jy r)=true:=h;rw[Qx9] at h';refine Qxz.mpr ⟨λhm=>?_,gj h'.2⟩;have:r.contains x=true:=List.contains_iff_mem.mpr hm;rw[this] at h';exact absurd h'.1 (by decide)
def Ko(outer:List (Str×NameKind)):List (Str×NameKind)->Bool
 | []=>true
 | (n,k)::r=>(!decide (k = .free)||decide (outer.lookup n=some .cell)||decide (outer.lookup n=some .free))&&Ko outer r
theorem Gq{outer:List (Str×NameKind)}:∀{l:List (Str×NameKind)},Ko outer l=true->∀x∈l,x.2 = .free->outer.lookup x.1=some .cell\/outer.lookup x.1=some .free
 | [],_,x,hx,_=>by simp at hx
 | (n,k)::r,h,x,hx,hf=>by
  have h':((!decide (k = .free)||decide (outer.lookup n=some .cell)||decide (outer.lookup n=some .free))&&Ko outer r)=true:=h;rw[Qx9,Bool.or_eq_true,Bool.or_eq_true] at h';rcases Qq2.mp hx with rfl|hx
  ·rcases h'.1 with (z|z)|z
   ·have hf':k = .free:=hf;rw[Qxj hf'] at z;exact absurd z (by decide)
   ·exact .inl (Qw6 z)
   ·exact .inr (Qw6 z)
  ·exact Gq h'.2 x hx hf
theorem jE{X:Cx}{scope:Scope}{N':List Str}(h1:scope.kind = .function:=by rfl)(h2:jy (scope.names.map (·.1))=true:=by rfl)(h3:Ko X.env.scope.names scope.names=true:=by rfl)(h4:Rw scope.names N' X.N=true:=by rfl)(h5:Nat.ble X.N.length N'.length=true:=by rfl):lR X scope N':=
 ⟨h1,gj h2,Gq h3,h4,Qx4 h5⟩
section
variable{X:Cx}{C:Cfg}{pos p px:Pos}{x y z:Expr}{a b c:Ev}{t u:fZ}{i:Nat}{n:Str}
structure Bi(X:Cx)(C:Cfg)(op:Operator)(g:D->D->Option D):Prop where
 ex:∃r,m9 X (binaryOp op) r/\pG C r g
structure Cm(X:Cx)(C:Cfg)(op:CmpOp)(g:D->D->Option D):Prop where
 ex:∃r,m9 X (compareOp op) r/\pG C r g
theorem jZ(G:Good X C):Bi X C .Add cW:=⟨_,Um,by rw[G.K];exact YZ⟩
theorem acw:Bi X C .Sub Iv:=⟨_,Ym,YF⟩
theorem RJ:Bi X C .Mult rN:=⟨_,Uk,YK⟩
theorem acy:Bi X C .Mod ZP:=⟨_,Yr,YL⟩
theorem Wv:Bi X C .Pow Iw:=⟨_,Yp,YJ⟩
theorem acx:Bi X C .LShift MJ:=⟨_,Yo,YH⟩
theorem Wu:Bi X C .RShift zU:=⟨_,Yn,YG⟩
theorem Wx:Bi X C .BitAnd CW:=⟨_,YB,YX⟩
theorem qJ(G:Good X C):Cm X C .Eq qz:=⟨_,Yy G.u60,by rw[G.K];exact abK⟩
theorem RD(G:Good X C):Cm X C .NotEq IK:=⟨_,Yq G.u60,by rw[G.K];exact abG⟩
theorem acu(G:Good X C):Cm X C .In Wj:=⟨_,Yx G.u61,by rw[G.K];exact abJ⟩
theorem Jj:Cm X C .Is IV:=⟨_,Yu,abI⟩
theorem KJ:Cm X C .IsNot vA:=⟨_,Mg,Qv⟩
theorem aew:Cm X C .Lt Wi:=⟨_,Ys,abH⟩
variable{e:Expr}{es:List Expr}{ea:dD}
theorem len0:∀(env:Env) (ds:List D) (env':Env),ak env = .ok ds env'->ds.length=0:=MK
theorem aZ{a:Ev}{r:dD}{m:Nat}(hr:∀env ds env',r env = .ok ds env'->ds.length=m):∀(env:Env) (ds:List D) (env':Env),aa a r env = .ok ds env'->ds.length=m+1:=Jd hr
theorem jW{r:dD}{m:Nat}(hr:∀env ds env',r env = .ok ds env'->ds.length=m):∀(env:Env) (ds:List D) (env':Env),r env = .ok ds env'->ds.length+1=m+1:=λenv ds env' h=>by rw[hr env ds env' h]
theorem adS{elt tg iter:Expr}{ifs:List Expr}{scope:Scope}(N':List Str){it:dD}{g:GV}{cc:fZ}{ee:Ev}(lo:Nat)(ok:lR X scope N')(G:Good X C)(hi:WR X C tg iter it)
  (bg:∀X',jh X scope N' X'->Vs X' C lo tg g) (bc:∀X',jh X scope N' X'->Nf X' C ifs cc) (be:∀X',jh X scope N' X'->PX X' C elt ee)
  (hs:∀x,foldedSetIterable iter X.env x=pure x:=by intro _;rfl):R6 X C (.ListComp elt [⟨tg,iter,ifs,0⟩] scope pos) (gC lo N'.length it g cc ee):=Xx N' lo ok G.calm hi bg bc be hs
theorem adG{elt tg iter:Expr}{ifs:List Expr}{scope:Scope}(N':List Str){spos py:Pos}{it:dD}{g:GV}{cc:fZ}{ee:Ev}(lo:Nat)(i:Nat)(ok:lR X scope N')(G:Good X C)(hi:WR X C tg iter it)
  (bg:∀X',jh X scope N' X'->Vs X' C lo tg g) (bc:∀X',jh X scope N' X'->Nf X' C ifs cc) (be:∀X',jh X scope N' X'->PX X' C elt ee)
  (hnd:jy X.N=true:=by rfl) (hfx:C.fx i=none:=by rfl) (hy:X.N[i]? = some n:=by rfl) (hx:Loc X.env.scope n:=by first|exact Or.inl rfl|exact Or.inr rfl)
  (hsw:swapsWith (.ListComp elt [⟨tg,iter,ifs,0⟩] scope pos) (some (.Name n py)) spos.line X.env=pure true:=by rfl)
  (hf:X.fn n=true\/X.env.scope.names.lookup n=some .local:=by first|exact .inl rfl|exact .inr rfl)
  (hs:∀x,foldedSetIterable iter X.env x=pure x:=by intro _;rfl):R5 X C (.Assign [.Name n py] (.ListComp elt [⟨tg,iter,ifs,0⟩] scope pos) spos) (dF i (gC lo N'.length it g cc ee)):=Lp N' lo ok G.calm hi bg bc be (gj hnd) hy hx hfx hsw hf hs
end
section
variable{P:Program}{w:World}{K:Fg}{mg:Str->Option Value}{base:Heap}{x:Str}{st:Stmt}{N ps:List Str}{k:Nat}{ev:cu}
theorem xD{x:Str}{f:Addr}{cdv:Value}{A:Around}{outer:List PySem.Env}{s:Shared}{H:Hp}{E:XK}{C:Cfg}(hC:C.K=K)(hr:eV k (A.deeper (envOfC x (aJ st) s.heap.objs.size f cdv))):Good (bx P w K mg base N x st f cdv A outer s H E) C:=⟨hC.symm,rfl,hr.units⟩
theorem cJ(F:dB K mg x st ps)(S:bG N ps (aJ st))
  (hb:∀(f:Addr) (cdv:Value) (A:Around) (outer:List PySem.Env) (s:Shared) (H:Hp) (E:XK),eV k (A.deeper (envOfC x (aJ st) s.heap.objs.size f cdv))->Good (bx P w K mg base N x st f cdv A outer s H E) (C0 K)->qK (bx P w K mg base N x st f cdv A outer s H E) (C0 K) (bY st) ev) :
  Own P w K mg base x (k+1) ps (jU K ps.length (cH N.length ev)):=by
 obtain⟨f,fd,h1,h2,h3⟩:=F;exact⟨f,fd,Rq h1 S λcdv A outer s H E hr=>hb f cdv A outer s H E hr (xD rfl hr),h2,h1.kp,h3⟩
theorem Uh(F:dB K mg x st ps)(S:bG N ps (aJ st))
  (hb:∀(f:Addr) (cdv:Value) (A:Around) (outer:List PySem.Env) (s:Shared) (H:Hp) (E:XK),eV k (A.deeper (envOfC x (aJ st) s.heap.objs.size f cdv))->Good (bx P w K mg base N x st f cdv A outer s H E) (C0 K)->qK (bx P w K mg base N x st f cdv A outer s H E) (C0 K) (bY st) ev) :
  Own P w K mg base x (k+1) ps (Xi K ps.length (runN N.length ev)):=by
 obtain⟨f,fd,h1,h2,h3⟩:=F;exact⟨f,fd,U9 h1 S λcdv A outer s H E hr=>hb f cdv A outer s H E hr (xD rfl hr),h2,h1.kp,h3⟩
theorem yj{y:Str}{qs:List Str}(F:dB K mg x st (y::qs))(S:bG N (y::qs) (aJ st))
  (hb:∀(f:Addr) (cdv:Value) (A:Around) (outer:List PySem.Env) (s:Shared) (H:Hp) (E:XK) (a:Addr),eV k (A.deeper (envOfC x (aJ st) s.heap.objs.size f cdv))->Good (bx P w K mg base N x st f cdv A outer s H E) (C1 K a)->qK (bx P w K mg base N x st f cdv A outer s H E) (C1 K a) (bY st) ev) :
  Own P w K mg base x (k+1) (y::qs) (xR K (qs.length+1) (lH N.length ev)):=by
 obtain⟨f,fd,h1,h2,h3⟩:=F;exact⟨f,fd,Z2 h1 S λcdv A outer s H E a hr=>hb f cdv A outer s H E a hr (xD rfl hr),h2,h1.kp,h3⟩
theorem iM{sc:Scope}(h1:sc.kind = .function:=by rfl)(h2:sc.isCoroutine=false:=by rfl)(h3:sc.isGenerator=false:=by rfl)(h4:jy N=true:=by rfl)(h5:N.take ps.length=ps:=by rfl)
  (h6:(ps.all λx=>decide (sc.names.lookup x=some .local)||decide (sc.names.lookup x=some .cell))=true:=by rfl) (h7:(sc.names.all λy=>!decide (y.2 = .free))=true:=by rfl):bG N ps sc:=by
 refine⟨h1,h2,h3,gj h4,h5,λx hx=>?_,λy hy z=>?_⟩
 ·have:=Qx1.mp h6 x hx;rw[Bool.or_eq_true] at this;rcases this with z|z
  ·exact .inl (Qw6 z)
  ·exact .inr (Qw6 z)
 ·have:=Qx1.mp h7 y hy;rw[Qxj z] at this;exact absurd this (by decide)
end
open PySem PySem.Spec PySem.W PySem.Calls PyProof.Rows L2
theorem vQ:∀(ns:List Int) (i:Int),i∈ns->Builtin.Int.intBits i<=WData.weightAll (ns.map WData.int)
 | [],_,h=>by simp at h
 | n::ns,i,h=>by
  rw[Qq3,WData.weightAll];rcases Qq2.mp h with rfl|h
  ·have e:WData.weight (.int i)=Builtin.Int.intBits i:=by rw[WData.weight];rfl
   rw[e];omega
  ·have:=vQ ns i h;omega
def Ni(ns:List Int):Prop:=∀i∈ns,Builtin.Int.intBits i<=2^20
theorem Dv{l:OpenLaw}{n:Nat}{q:Program}{loose:List Str}{XP:(Str->Option Value)->Heap->Prop}{YP:World->Heap->Prop}{d:DefRec}
  (hn:l.most=some n) (hdf:d.params.defaults=[])
  (call:∀(w:World) (s₀ s₁:Shared) (mg mb:Str->Option Value) (fa:Addr) (o:Obj) (pm cd doc:Value) (a:Addr) (vs:List Value) (ns:List Int),
   Ground q loose [] XP w s₀ mg mb s₁.heap->YP w s₁.heap->
   s₁.heap.get? fa=some o->o.data = .func (docDef d.name d.params d.body d.scope pm cd doc)->s₁.heap.CodeRec cd d.name->mg d.name=some (.ref fa)->
   s₁.heap.get? a=some { cls:=.type "list",data:=.seq vs.toArray }->IntsAre vs ns->ns.length<=n->Ni ns->s₁.gens = #[]->
   codeAny (model l.prog w) callerA (.call (.ref fa) ⟨[.ref a],[]⟩) (λr s'=>r = .ok (.ret (.bool true))/\OldK s₁.heap s'.heap/\s'.os=s₁.os/\AllBare s'.gens) s₁) :
  WalkO q loose XP YP l.row.toRowW d [] (λf vs=>PySem.call f vs):=by
 intro w s₀ s₁ mg mb G Y fa o pm cd doc dV kV ho hd hcd hD hmg hg args vals as hpre hlay hrd hwl hlo;obtain rfl:dV = .none:=Dflts.none hD hdf;obtain rfl:kV = .none:=Dflts.noKw hD;obtain⟨a,vs,ns,rfl,rfl,hobj,hints,hlen⟩:=Att.Lh hn hpre hwl;have Rf:Ni ns:=λi hi=>by
  have h1:=(layableW_iff.mp (layableW_arg hlay _ (Qq1.mpr rfl))).2.2;rw[WData.weight] at h1;exact Qq6 (vQ ns i hi) h1
 refine enter_call (codeAny_mono (call w s₀ s₁ mg mb fa o pm cd doc a vs ns G Y ho (fd_plain hd) hcd hmg hobj hints hlen Rf hg) λr s' hq=>?_);obtain⟨rfl,h2,h3,h4⟩:=hq;exact⟨.inl ⟨.bool true,.bool true,[],rfl,λ_=>rfl,.bool true,Att.Lz l _,λ_=>⟨List.Pairwise.nil,λ_ hm=>(nomatch hm)⟩⟩,h2,h3,h4⟩
section
variable{K:Fg}{h:Heap}{mg:Str->Option Value}
theorem funAt{x:Str}{st:Stmt}{ps:List Str}{f:Addr}{oc:Value}{od an:Option Addr}{osl:Array (Option Value)}{kV doc pm cdv ct:Value}(X:K.In h)(G:h.Ns mainGlobals mg)
  (a:PySem.W.nsIn K mainGlobals x=some (some (.ref f))) (l:K.lookup f=some ⟨oc,od,.func (PySem.W.fnOf x x (fO st) (bY st) (aJ st) .none kV doc pm an cdv ct),osl⟩)
  (c:PySem.W.codeIn K cdv x=true) (k:PySem.W.keepIn K (.ref f)=true)
  (b:∀(kV doc pm:Value) (an:Option Addr) (cdv ct:Value) (us:List Value),us.length=ps.length->bindArgs (PySem.W.fnOf x x (fO st) (bY st) (aJ st) .none kV doc pm an cdv ct) ⟨us,[]⟩=pure (ps.zip us)):dB K mg x st ps:=
 ⟨f,_,yN l c k,PySem.W.mg_of X G a,(yN (st:=st) l c k).binds b⟩
theorem UJ{x s:Str}{z:List Nat}{t:Tok}(X:K.In h)(G:h.Ns mainGlobals mg)(a:PySem.W.nsIn K mainGlobals x=some (some (.str s t)))(hs:s=strOf z)(hz:z.length<=sizeLine):R7 K mg x (.str z):=
 ⟨.str s,_,PySem.W.mg_of X G a,⟨t,rfl⟩,λF=>⟨by rw[hs],hz⟩⟩
theorem zP{x:Str}(X:K.In h)(G:h.Ns mainGlobals mg)(e:PySem.W.nsIn K mainGlobals x=some none):mg x=none:=PySem.W.mg_none_of X G e
end
open PySem L2
theorem Kp{g:GV}{b:cu}{all:List D}(P:List D->Env->Prop)(h:∀done d rest,all=done++d::rest->∀env,P done env->∃e1 e2,g d env=some e1/\b e1 = .nx e2/\P (done++[d]) e2):∀(ds done:List D),all=done++ds->∀env,P done env->∃e',iY g b ds env = .nx e'/\P all e'
 | [],done,ha,env,hp=>⟨env,rfl,by rw[ha,Qxv];exact hp⟩
 | d::ds,done,ha,env,hp=>by
  obtain⟨e1,e2,h1,h2,h3⟩:=h done d ds ha env hp;obtain⟨e',h4,h5⟩:=Kp P h ds (done++[d]) (by rw[Qzq];exact ha) e2 h3;refine⟨e',?_,h5⟩;unfold iY;rw[h1];simp only;rw[h2];exact h4
theorem nW{g:GV}{b:cu}(all:List D)(P:List D->Env->Prop)(h:∀done d rest,all=done++d::rest->∀env,P done env->∃e1 e2,g d env=some e1/\b e1 = .nx e2/\P (done++[d]) e2)(env:Env)(h0:P [] env):∃e',iY g b all env = .nx e'/\P all e':=Kp P h all [] rfl env h0
theorem aA{a b:cu}{env e:Env}(h:a env = .nx e):aC a b env=b e:=by unfold aC;rw[h]
theorem gO{a b:cu}{env e:Env}{o:Bool}{d:D}(h:a env = .rt o d e):aC a b env = .rt o d e:=by unfold aC;rw[h]
theorem ir{it:dD}{g:GV}{b:cu}{env e:Env}{ds:List D}(h:it env = .ok ds e):iu it g b env=iY g b ds e:=by unfold iu;rw[h];rfl
theorem bz{a:Ev}{g:GV}{env e e':Env}{d:D}(h:a env = .ok d e)(h':g d e=some e'):aP a g env = .nx e':=by unfold aP;rw[h];show QX (g d e)=_;rw[h'];rfl
theorem gH{t:fZ}{a b:cu}{env e:Env}(h:t env = .ok true e):fD t a b env=a e:=by unfold fD;rw[h];rfl
theorem dZ{t:fZ}{a b:cu}{env e:Env}(h:t env = .ok false e):fD t a b env=b e:=by unfold fD;rw[h];rfl
theorem bH{a:Ev}{env e:Env}{d:D}(h:a env = .ok d e):bC a env = .rt false d e:=by unfold bC;rw[h];rfl
theorem aF{g:List D->Option D}{a:dD}{env e:Env}{ds:List D}{d:D}(h:a env = .ok ds e)(h':g ds=some d):au g a env = .ok d e:=by unfold au;rw[h];show ig (g ds) e=_;rw[h'];rfl
theorem bJ{g:D->D->Option D}{a b:Ev}{env e1 e2:Env}{x y d:D}(h1:a env = .ok x e1)(h2:b e1 = .ok y e2)(h3:g x y=some d):aQ g a b env = .ok d e2:=by
 unfold aQ;rw[h1];show bindR (b e1) _=_;rw[h2];show ig (g x y) e2=_;rw[h3]
 rfl
theorem bL{g:D->D->Option D}{i:Nat}{b:Ev}{env e2:Env}{x y d:D}{o o':Bool}{x0:D}(h1:env[i]? = some (some (o',x0)))(h2:b env = .ok y e2)(h4:e2[i]? = some (some (o,x)))(h3:g x y=some d):aB g i b env = .ok d e2:=by
 unfold aB;rw[h1];show bindR (b env) _=_;rw[h2];show(match e2[i]? with|some (some (_,x))=>ig (g x y) e2|_=>.stuck)=_;rw[h4];show ig (g x y) e2=_;rw[h3]
 rfl
theorem aH{a:Ev}{r:dD}{env e1 e2:Env}{d:D}{ds:List D}(h1:a env = .ok d e1)(h2:r e1 = .ok ds e2):aa a r env = .ok (d::ds) e2:=by
 unfold aa;rw[h1];show bindR (r e1) _=_;rw[h2]
 rfl
theorem bD{env:Env}:ak env = .ok [] env:=rfl
theorem Rm{r:dD}{env e:Env}{ds:List D}(h:r env = .ok ds e)(hz:ds.length<=sizeLine):cG r env = .ok (.lst ds) e:=by unfold cG;rw[h];show(if ds.length<=sizeLine then _ else _)=_;rw[if_pos hz]
theorem cZ{r:dD}{env e:Env}{ds:List D}(h:r env = .ok ds e)(hz:ds.length<=sizeLine):bN r env = .ok (.tup ds) e:=by unfold bN;rw[h];show(if ds.length<=sizeLine then _ else _)=_;rw[if_pos hz]
theorem mG{f:List D->Option (D×D)}{i:Nat}{a:dD}{env e1:Env}{ds:List D}{x0 x d x':D}(h0:env[i]? = some (some (true,x0)))(h1:a env = .ok ds e1)(h2:e1[i]? = some (some (true,x)))(h3:f (x::ds)=some (d,x')):f9 f i a env = .ok d (e1.set i (some (true,x'))):=by unfold f9;rw[h0];show bindR (a env) _=_;rw[h1];show(match e1[i]? with|some (some (true,x))=>(match f (x::ds) with|some (d,x')=>R.ok d (e1.set i (some (true,x')))|none=>R.stuck)|_=>R.stuck)=_;rw[h2];show(match f (x::ds) with|some (d,x')=>R.ok d (e1.set i (some (true,x')))|none=>.stuck)=_;rw[h3]
theorem Km{i j:Int}(h:jR i j=true):rN (.int i) (.int j)=some (.int (i*j)):=by show gI jR (λi j=>D.int (i*j)) (.int i) (.int j)=_;unfold gI;simp only;rw[if_pos h]
theorem Gp{a b:List D}(h:a.length+b.length<=sizeLine):cW (.lst a) (.lst b)=some (.lst (a++b)):=by show(if a.length+b.length<=sizeLine then _ else _)=_;rw[if_pos h]
theorem eU{a:Ev}{env e:Env}{b:Bool}(h:a env = .ok (.bl b) e):eF a env = .ok b e:=by unfold eF;rw[h];rfl
theorem xQ{i:Nat}{a:Ev}{env e:Env}{d:D}(h:a env = .ok d e):dF i a env = .nx (e.set i (some (true,d))):=by unfold dF;rw[h];rfl
theorem ug{a:Ev}{env e:Env}{d:D}{ds:List D}(h:a env = .ok d e)(h':itD d=some ds):il a env = .ok ds e:=by unfold il;rw[h];show ig (itD d) e=_;rw[h'];rfl
theorem lG{n:Nat}{ev:cu}{x d x':D}{r:List D}{env:Env}(h:ev (yW n x r) = .rt false d env)(h0:env[0]? = some (some (true,x'))):lH n ev (x::r)=some (d,x'):=by unfold lH;simp only;rw[h];simp only;rw[h0]
theorem bT{n:Nat}{ev:cu}{d:D}{ds:List D}{env:Env}(h:ev (envOf n ds) = .rt false d env):cH n ev ds=some d:=by unfold cH;rw[h]
theorem ZX{a b:Ev}{env e:Env}(h:a env = .ok (.bl true) e):oV a b env = .ok (.bl true) e:=by unfold oV;rw[h];rfl
theorem Dd{a b:Ev}{env e:Env}(h:a env = .ok (.bl false) e):oV a b env=b e:=by unfold oV;rw[h];rfl
theorem U5{a b:fZ}{env e:Env}(h:a env = .ok false e):wk a b env=b e:=by unfold wk;rw[h];rfl
theorem vH{a:fZ}{env e:Env}{b:Bool}(h:a env = .ok b e):rO a env = .ok (!b) e:=by unfold rO;rw[h];rfl
theorem xC{g:GV}{e:Ev}(P:Env->Prop)(f:D->D):∀(ds:List D) (env:Env),P env->(∀d∈ds,∀env,P env->∃e1 e2,g d env=some e1/\e e1 = .ok (f d) e2/\P e2)->∃env',Ik g dC e ds env = .ok (ds.map f) env'/\P env'
 | [],env,hp,_=>⟨env,rfl,hp⟩
 | d::ds,env,hp,h=>by
  obtain⟨e1,e2,h1,h2,h3⟩:=h d (Qqj ..) env hp;obtain⟨e3,h4,h5⟩:=xC P f ds e2 h3 λd' hd=>h d' (Qqq _ hd);refine⟨e3,?_,h5⟩;unfold Ik;rw[h1];show bindR (e e1) _=_;rw[h2];show bindR (Ik g dC e ds e2) _=_;rw[h4]
  rfl
theorem uf{lo n:Nat}{it:dD}{g:GV}{c:fZ}{e:Ev}{env aK dU:Env}{ds ys:List D}(h1:it env = .ok ds aK)(hl:aK.length=lo)(h2:Ik g c e ds (aK++List.replicate (n - lo) none) = .ok ys dU)(hz:ys.length<=sizeLine):gC lo n it g c e env = .ok (.lst ys) (dU.take lo):=by unfold gC;rw[h1];show(if aK.length=lo then _ else _)=_;rw[if_pos hl,h2];show(if ys.length<=sizeLine then _ else _)=_;rw[if_pos hz]
theorem dig(n:Int)(m:Nat)(hm:0<m):∃d:Nat,d<m/\n % (m:Int)=(d:Int):=by have h1:0<=n % (m:Int):=Int.emod_nonneg n (by omega);have h2:n % (m:Int)<m:=Int.emod_lt_of_pos n (by omega);exact⟨(n % (m:Int)).toNat,by omega,by omega⟩
theorem Jk{α:Type}{xs:List α}{d:Nat}(h:d<xs.length):wF xs (d:Int)=some xs[d]:=kY (Qwk h)
end Ev
namespace L2
open PySem PySem.Spec PyProof.Rows
section
variable{X:Cx}{pins:List (Addr×Obj)}{σ:St}{H:Hp}{s:Shared}{h':Heap}
theorem Inv.drawn{t':Nat}{ch:List Addr}{T:Addr}{o:HO}(I:Inv X pins σ H s)(hch:∀b∈ch,rZ X pins H b)(k:∀b u,b ∉ ch->s.heap.get? b=some u->h'.get? b=some u)(hT:s.heap.objs.size<=T)
  (new:gB X.prog X.w (upd H T o) h' T o):Inv X pins σ (upd H T o) { s with heap:=h',toks:=t' }:=by
 have nT:H T=none:=I.hok.fresh hT;have V9:∀b u,H b=some u->b ∉ ch:=λb u e z=>by rw[(hch b z).1] at e;cases e
 have up:∀b u,H b=some u->upd H T o b=some u:=λb u e=>by rw[bu (cL e nT)];exact e
 refine I.step (g':=s.gens) (d':=s.drawn) (ch:=ch) (λb hb=>?_) (λb u _ _ hc e _=>k b u hc e) (λb u _ _ hc e _=>⟨u.slots,k b u hc e⟩) (λb u hc e n=>?_)
  (λb u hc e=>⟨u,k b u hc e⟩) (λb xs e=>up b _ e) (λb u v e=>up b _ e) (λb ps e=>⟨#[],by rw[up b _ e];simp⟩) (λm hm=>?_) (λb u e=>?_) I.bare (λb qs e=>up b _ e)
 ·obtain⟨h0,h1,h2,h3,h4,h5⟩:=hch b hb;exact⟨h3,h1,h4,h5⟩
 ·have hb:b≠T:=λz=>by
   subst z;exact absurd (Qq7 e) (Nat.not_lt.mpr hT)
  rw[bu hb];exact n
 ·obtain⟨u,es,ep,ho,r⟩:=hm;have hL:X.env.locals ∉ ch:=λz=>(hch _ z).2.1 rfl;exact⟨u,es,ep,k _ u hL ho,r⟩
 ·by_cases hb:b=T
  ·subst hb;rw[aR] at e;cases e;exact new
  ·rw[bu hb] at e;refine(I.hok b u e).stay (λc v hc q=>k c v ?_ q) (λc q=>up _ _ q) (λc xs q=>up _ _ q) λc _ _ _ _ q=>up _ _ q;rcases hc with z|z
   ·rw[z];exact V9 b u e
   ·exact V9 c _ z
theorem Inv.Jz{t':Nat}{ch:List Addr}(I:Inv X pins σ H s)(hch:∀b∈ch,rZ X pins H b)(k:∀b u,b ∉ ch->s.heap.get? b=some u->h'.get? b=some u):Inv X pins σ H { s with heap:=h',toks:=t' }:=by
 have V9:∀b u,H b=some u->b ∉ ch:=λb u e z=>by rw[(hch b z).1] at e;cases e
 refine I.step (g':=s.gens) (d':=s.drawn) (ch:=ch) (λb hb=>?_) (λb u _ _ hc e _=>k b u hc e) (λb u _ _ hc e _=>⟨u.slots,k b u hc e⟩) (λb u hc e n=>n)
  (λb u hc e=>⟨u,k b u hc e⟩) (λb xs e=>e) (λb u v e=>e) (λb ps e=>⟨#[],by rw[e];simp⟩) (λm hm=>?_) (λb u e=>?_) I.bare
 ·obtain⟨h0,h1,h2,h3,h4,h5⟩:=hch b hb;exact⟨h3,h1,h4,h5⟩
 ·obtain⟨u,es,ep,ho,r⟩:=hm;have hL:X.env.locals ∉ ch:=λz=>(hch _ z).2.1 rfl;exact⟨u,es,ep,k _ u hL ho,r⟩
 ·refine(I.hok b u e).stay (λc v hc q=>k c v ?_ q) (λ_ q=>q) λ_ _ q=>q;rcases hc with z|z
  ·rw[z];exact V9 b u e
  ·exact V9 c _ z
end
def Ite(z:Str):It:=⟨λi _=>i<z.cps.size,λi H x H'=>∃p c,z.cps[i]? = some c/\H p=none/\H'=upd H p (.tup [.int i,.str ⟨#[c]⟩])/\x = .ref p,λi _=>i=z.cps.size⟩
theorem z9{P:Program}{w:World}{K:PySem.W.Frag}{elts:List Expr}{k:Nat}{pos:Pos}(e it:Addr)(z:Str)(t:Tok)(ty:String)(hei:e≠it)
  (D:∀A:Around,A.handled=none->Draws P w A it [it] z.cps.size (λi v=>∃c u,z.cps[i]? = some c/\v = .str ⟨#[c]⟩ u) (λi h=>h.IsStrIter it ty z t i)) :
  Turn P w K (.Tuple elts k pos) (Ite z) [e,it] e (λi h=>(∃old,IsEnum h e it i old)/\h.IsStrIter it ty z t i) where
 mem:=by simp
 obj:=λi h st b hb=>by
  obtain⟨⟨old,he⟩,o,ho,hc,hd⟩:=st;rcases Qq2.mp hb with rfl|hb
  ·exact⟨_,he,λv z=>by cases z⟩
  ·rw[Qq1.mp hb];exact⟨o,ho,λv z=>by rw[hd] at z;cases z⟩
 keep:=λi h h' st kk=>by
  obtain⟨⟨old,he⟩,o,ho,r⟩:=st;exact⟨⟨old,kk e (by simp) _ he⟩,o,kk it (by simp) o ho,r⟩
 item:=by
  intro X hP hw hK hc i pins s σ H E I hf st hg;subst hP hw hK;obtain⟨⟨old,he⟩,hit⟩:=st;refine wpAny_pyNext_enum_itemD (A:=X.A) (D X.A.in1 (I.ok.hd hc)) he hit hg hei (by simp[hei]) λx h' tk hv ho hSt aec hsz hk=>?_;obtain⟨c,u,hcz,rfl⟩:=hv;have hT:s.heap.objs.size<=s.heap.objs.size:=Qq0 _;have helt:e<s.heap.objs.size:=Qq7 he;have hilt:it<s.heap.objs.size:=by obtain⟨_,x,_⟩:=hit;exact Qq7 x
  have nT:H s.heap.objs.size=none:=I.hok.fresh hT;refine⟨_,rfl,?_⟩;refine wpAny_letOwnedTupleGo_enum (s:={ s with heap:=h',toks:=tk+1 }) ho λh'' ad8 hs''=>?_;have qN:∀b o,b≠e->h'.get? b=some o->h''.get? b=some o:=λb o hb q=>(hs''.2 b hb).trans q;have hnT:s.heap.objs.size ∉ [e,it]:=λhb=>by
   rcases Qq2.mp hb with z|hb
   ·exact Qzy helt z
   ·exact Qzy hilt (Qq1.mp hb)
  refine⟨.ref s.heap.objs.size,upd H s.heap.objs.size (.tup [.int i,.str ⟨#[c]⟩]),I.drawn (t':=tk+1) (ch:=[e,it]) hf (λb o hb q=>qN b o (λz=>hb (by simp[z])) (hk b o (λz=>hb (by simp[z])) (λz=>hb (by simp[z])) q)) hT ?_,rfl,⟨_,c,hcz,nT,rfl,rfl⟩,⟨⟨_,by simpa using ad8⟩,?_⟩,λb hb=>?_⟩
  ·exact⟨by show 2<=sizeLine;decide,[.int i tk,.str ⟨#[c]⟩ u],.cons ⟨_,rfl⟩ (.cons ⟨_,rfl⟩ .nil),_,qN _ _ (Qzy helt) aec,rfl,⟨_,rfl⟩,rfl⟩
  ·obtain⟨o,q,r⟩:=hSt;exact⟨o,qN it o hei.symm q,r⟩
  ·have hne:b≠s.heap.objs.size:=λz=>by
    subst z;exact hnT hb
   rw[bu hne];exact(hf b hb).1
 done:=by intro X hP hw hK hc i pins s σ H E I hf st hg;subst hP hw hK;have W:=WalksT.enumerateD (A:=X.A) (D X.A.in1 (I.ok.hd hc)) e hei (by simp[hei]) (by simp);have hg':i=z.cps.size:=hg;subst hg';exact W.done s _ _ st λh' tk hk=>⟨rfl,I.Jz (t':=tk) (ch:=[e,it]) hf λb o hb e=>hk b o hb e⟩
 self:=λA i s Q E st h=>by
  obtain⟨⟨old,he⟩,_⟩:=st;exact wpAny_pyIter_enum he h
section
variable{X:Cx}{tg:Expr}
def ab2(ta:TA):TI:=λσ H R=>ta σ H λvs H1=>∃z,vs=[.str z]/\R (Ite z) H1
theorem T9{elts:List Expr}{k:Nat}{tp:Pos}{a:Expr}{ta:TA}{p pos:Pos}(hg:Gl X "enumerate")(hm:X.mg "enumerate" = none)(ha:PA X [a] ta)(hs:starEach [a] X.env=[(false,eval a X.env)]:=by rfl):PI X (.Tuple elts k tp) (.Call (.Name "enumerate" p) [a] [] pos) (ab2 ta):=by
 intro pins s σ H R I h;refine Call_ (yz I hg hm PyProof.Rows.boot_enumerate (Qjy (fc (ha pos pins s σ H _ I h) λus s1 ⟨vs,H1,I1,r1,q1⟩=>?_) hs rfl));obtain⟨z,e,q⟩:=q1;subst e;cases r1 with
 | cons r rr=>
  cases rr;obtain⟨t,rfl⟩:=r;refine call_enumerate_str λh' he hit hsz hk=>?_;refine wpAny_pyIter_enum he ?_;have I2:Inv X pins σ H1 { s1 with heap:=h' }:=I1.kept (t':=s1.toks) hk;have own:∀b ∈ [s1.heap.objs.size+1,s1.heap.objs.size],rZ X pins H1 b:=λb hb=>by
   rcases Qq2.mp hb with rfl|hb
   ·exact I1.Rj (Nat.le_succ _) (I1.hok.fresh (Nat.le_succ _))
   ·rw[Qq1.mp hb];exact I1.Rj (Qq0 _) (I1.hok.fresh (Qq0 _))
  cases hz:z.cps.all (·< 128)
  ·have hit':h'.IsStrIter s1.heap.objs.size "str_iterator" z t 0:=by simpa[strIterType,hz] using hit
   exact⟨s1.heap.objs.size+1,[s1.heap.objs.size+1,s1.heap.objs.size],_,_,H1,rfl,I2,z9 _ _ z t "str_iterator" (Nat.succ_ne_self _) (λA hA=>Draws.strWide hA _ z t),⟨⟨_,he⟩,hit'⟩,own,q⟩
  ·have hit':h'.IsStrIter s1.heap.objs.size "str_ascii_iterator" z t 0:=by simpa[strIterType,hz] using hit
   exact⟨s1.heap.objs.size+1,[s1.heap.objs.size+1,s1.heap.objs.size],_,_,H1,rfl,I2,z9 _ _ z t "str_ascii_iterator" (Nat.succ_ne_self _) (λA hA=>Draws.strAscii hA _ z t),⟨⟨_,he⟩,hit'⟩,own,q⟩
end
open PySem PySem.Spec PyProof.Rows PySem.Builtin PySem.Builtin.Str
section
variable{X:Cx}{pins:List (Addr×Obj)}{σ:St}{H:Hp}{s:Shared}{a:Addr}{xs:List V}
theorem Inv.W9(I:Inv X pins σ H s)(h:kI X.K H a xs):∃its:List Value,Vals xs its/\zY s.heap a its.toArray:=by
 rcases h with h|⟨o,its,n,hk,hc,hdn,hs,hz,r⟩
 ·obtain⟨z,its,r,p⟩:=h.ok I.hok;exact⟨its,r,p⟩
 ·exact⟨its.toList,r,⟨o,I.Mu a o hk,hc,⟨n,by simpa using hs⟩,hdn⟩⟩
end
section
variable{X:Cx}{o e:Expr}{to te:TE}{name:Str}{apos cpos:Pos}{id:String}{r:V->List V->Hp->VK->Prop}{t:TA}
def adq(te ts:TE):TE:=λσ H Q=>te σ H λx H1=>ts σ H1 λy H2=>∃z,x = .str z/\z.length<=sizeLine/\y = .int (-1)/\Q (.str ⟨z.cps.toList.reverse.toArray⟩) H2
theorem HQ(z:Str)(u:Tok):(⟨((slicePicked z none none (some (-1,u))).filterMap (z.cps[·]?)).toArray⟩:Str)=⟨z.cps.toList.reverse.toArray⟩:=by
 have h:=PyProof.Rows.step_rev_list z u;unfold Txt.sliceBy at h;have h1:¬(((((some ((-1:Int),u)).map (·.1)).getD 1 == 1)&&((slicePicked z none none (some (-1,u))).length == z.length))=true):=by have:((((some ((-1:Int),u)).map (·.1)).getD 1 == 1))=false:=rfl;rw[this];simp
 rw[if_neg h1] at h;have h2:((slicePicked z none none (some (-1,u))).filterMap (z.cps[·]?))=z.cps.toList.reverse:=by
  have h3:((slicePicked z none none (some (-1,u))).filterMap (z.cps[·]?))=(List.range z.length).map λk=>z.cps.getD (z.length - 1 - k) 0:=by simpa using h
  rw[h3];apply List.ext_getElem
  ·simp[Str.length]
  ·intro i h4 h5;have hi:i<z.cps.size:=by simpa[Str.length] using h4
   simp[Str.length,Array.getD,List.getElem_reverse];rw[dif_pos (by omega)]
 rw[h2]
theorem Yg{st:Expr}{ts:TE}{p2 pos:Pos}(he:PE X e te)(hst:PE X st ts):PE X (.Subscript e (.Slice none none (some st) p2) pos) (adq te ts):=by
 intro pins s σ H Q I h;refine Subscript_ (fc (he pins s σ H _ I h) λv s1 ⟨x,H1,I1,r1,q1⟩=>?_);refine wpAny_Slice ?_;rw[evalPart_none,evalPart_some];refine Qq4 (Qq4 (fc (hst pins s1 σ H1 _ I1 q1) λw s2 ⟨y,H2,I2,r2,q2⟩=>?_));obtain⟨z,ex,hz,ey,q⟩:=q2;subst ex;subst ey;obtain⟨t,rfl⟩:=r1;obtain⟨t',rfl⟩:=r2;have I4:Inv X pins σ H2 { s2 with heap:=s2.heap.push { cls:=.type "slice",data:=.fields #[.none,.none,.int (-1) t'] } }:=I2.kept (t':=s2.toks) λb ob q=>Qqk _ q;show wpAny (model X.prog X.w) X.A (subscriptTail e (.Slice none none (some st) p2) (.str z t) (.ref s2.heap.objs.size)) (EP X pins σ Q) X.xe { s2 with heap:=s2.heap.push { cls:=.type "slice",data:=.fields #[.none,.none,.int (-1) t'] } };refine tail_any (ops:=[.ref s2.heap.objs.size,.str z t]) (typeIs_str _ z t) PySem.F.slot_str_getitem.lookup ?_ (by with_unfolding_all rfl);refine wpAny_getItem_str_slice (l:=none) (u:=none) (st:=some (-1,t')) ⟨_,Qwz _ rfl,rfl,rfl⟩ rfl ?_;unfold sliceMade;have h1:¬(((((some ((-1:Int),t')).map (·.1)).getD 1 == 1)&&((slicePicked z none none (some (-1,t'))).length == z.length))=true):=by have:((((some ((-1:Int),t')).map (·.1)).getD 1 == 1))=false:=rfl;rw[this];simp
 rw[if_neg h1,HQ];refine⟨?_,⟨.str ⟨z.cps.toList.reverse.toArray⟩,H2,I4.tok _,⟨_,rfl⟩,q⟩⟩;show z.cps.toList.reverse.toArray.size<=sizeLine
 simpa[Str.length] using hz
end
end L2
namespace Ev
open PySem PySem.Spec PyProof.Rows L2 PySem.Builtin
section
variable{X:Cx}{C:Cfg}{pos:Pos}{e x y:Expr}{a b:Ev}
def UL:D->Option D
 | .int i=>some (.int (-i))
 | _=>none
theorem W7:UnD C (rU λi=>.int (-i)) UL:=by
 intro Pr F env σ H x d vx Q r px e q;cases x with
 | int i=>cases e;exact⟨i,px.int,q _ H F r (aM.refl F) rfl⟩
 | _=>cases e
def aei:D->Option D
 | .str z=>some (.str z.reverse)
 | _=>none
def nY(a:Ev):Ev:=λenv=>bindR (a env) λd aK=>ig (aei d) aK
def wA(x:List Nat):List D:=x.zipIdx.map λp=>.tup [.int (p.2:Nat),.str [p.1]]
def Jb(a:dD):dD:=λenv=>bindR (a env) λds aK=>match ds with
 | [.str x]=>.ok (wA x) aK
 | _=>.stuck
end
theorem Mr{prog:Program}{w:World}{A:Around}{E:Value->Shared->Prop}{s:Shared}{a:Addr}{o:Obj}{xs:Array Value}{k:Nat}{Q:Option Value->Shared->Prop}
  (hx:s.heap.get? a=some o) (hc:o.cls = .type "tuple") (hdat:o.data = .seq xs k) (hd:o.dict=none) (hA:A.handled=none)
  (h:∀h' tk,(∀b u,s.heap.get? b=some u->h'.get? b=some u)->Q none { s with heap:=h',toks:=tk }):wpAny (model prog w) A (getAttr? (.ref a) "keys") Q E s:=by
 obtain⟨hp,g,d,tk,os⟩:=s;obtain⟨oc,od,dt,sl⟩:=o;cases hc;cases hdat;cases hd;have hT:∀tk',(⟨hp,g,d,tk',os⟩:Shared).TypeIs (.ref a) "tuple":=λ_=>⟨_,hx,rfl⟩;have f1:=sub_AttributeError;have f3:=F.slot_tuple_getattribute.lookup;have f4:=F.slot_tuple_getattribute.bind (.ref a);have f5:=am_tuple_getattr_none;have hmiss:typeLookup (.type "tuple") "keys" = pure none:=by rw[typeLookup_type,builtinLookup_eq_fast];kernel_rfl
 unfold getAttr? getAttrBy? getAttrBy
 repeat (any_goals (first|assumption|exact hT _|((with_reducible show wpAny _ _ (call (Value.builtin "tuple.__getattribute__") _ _) _ _ _);refine call_meets F.slot_tuple_getattribute (hT _) am_entry_tuple_getattribute (F.args_tuple_getattribute_2 _ _) (meets_getattribute_miss_tuple a xs k sl "keys" _ hmiss (by decide +kernel) (by decide +kernel)) ⟨hx,hA,λh' tk' e hx'=>?_⟩)|wp_step))
 obtain⟨t',u',he⟩:=hx'.there;show wpAny _ _ (getattributeRaised _ _ _ _ _ _ _) _ _ _;unfold getattributeRaised
 repeat (any_goals (first|assumption|wp_step))
 exact h _ _ hx'.keeps
structure Pr where
 p:Addr
 k:Key
 kv:Value
 v:Value
def Nb(h:Heap)(r:Pr):Prop:=h.IsTuple r.p #[r.kv,r.v]/\yH r.k r.kv=true
theorem Nb.keep{h h':Heap}{r:Pr}{c d:Addr}(x:Nb h r)(n1:r.p≠c)(n2:r.p≠d)(k:∀b o,b≠c->b≠d->h.get? b=some o->h'.get? b=some o):Nb h' r:=
 let ⟨⟨o,ho,q⟩,y⟩:=x;⟨⟨o,k _ o n1 n2 ho,q⟩,y⟩
def putAll(kvs:List (Key×Value))(rs:List Pr):List (Key×Value):=rs.foldl (λacc r=>stored acc r.k r.v) kvs
theorem dH:plainId "dict.update.loop" = true:=by decide +kernel
theorem jD:entryFor table "dict.update.loop" = some Builtin.«dict.update.loop»:=entryFor_of_tree (by kernel_rfl)
theorem Eb{prog:Program}{w:World}{d it a:Addr}{its:List Value}(hdi:d≠it)(hda:d≠a)(hia:it≠a):∀(rs:List Pr) (i:Nat) (kvs:List (Key×Value)) (A:Around) (R:Result->Shared->Prop) (s:Shared),
  A.handled=none->its.drop i=rs.map (λr=>Value.ref r.p)->s.heap.IsTuple a its.toArray->s.heap.IsTupleIter it a i->s.heap.DictOf (cI prog w) d kvs->(∀r∈rs,Nb s.heap r/\r.p≠d/\r.p≠it)->kvs.length+rs.length<=sizeLine->
  (∀h' tk,h'.DictOf (cI prog w) d (putAll kvs rs)->(∀b o,b≠d->b≠it->s.heap.get? b=some o->h'.get? b=some o)->R (.ok (.ret .none)) { s with heap:=h',toks:=tk })->
  wpAny (model prog w) A.in1 (Builtin.«dict.update.loop» ⟨[.ref d,.ref it,rawInt i,.none],[]⟩) (λfin s'=>match fin with|.done f=>R (.ok f) s'|.again c'=>c'.quiet=true/\codeAny (model prog w) A c' R s') (λe s'=>R (.error e) s') s
 | [],i,kvs,A,R,s,hh,hdr,ht,hit,hD,_,_,h=>by
  unfold Builtin.«dict.update.loop»;have hx:its.toArray[i]? = none:=by
   have:its.length<=i:=by have:=Qx5 List.length hdr;rw[Qzj] at this;simp at this;omega
   simp;omega
  refine Qqx (wpAny_pyNext_tuple_end hh hit ht hx λh' hex=>?_);show wpAny _ _ (Builtin.Dict.addKeywords d [] >>= _) _ _ _;refine Qqx (Qq4 (Qq4 ?_));exact h h' s.toks (hD.extBut hex hdi) λb o _ h2 e=>hex b o h2 e
 | r::rs,i,kvs,A,R,s,hh,hdr,ht,hit,hD,hrs,hz,h=>by
  unfold Builtin.«dict.update.loop»;obtain⟨⟨hpt,hkey⟩,n1,n2⟩:=hrs r (Qqj ..);have hlt:i<its.length:=by have:=Qx5 List.length hdr;rw[Qzj,Qq3,Qqy] at this;omega
  have hx0:its[i]? = some (.ref r.p):=by
   have:=Qx5 (λl=>l[0]?) hdr
   simpa using this
  have hx:its.toArray[i]? = some (.ref r.p):=by simpa using hx0
  have ZF:its.drop (i+1)=rs.map (λr=>Value.ref r.p):=by
   have:=Qx5 List.tail hdr;rw[List.tail_drop] at this
   simpa using this
  refine Qqx (wpAny_pyNext_tuple_item hit ht hx λh' hit' hs'=>?_);have k1:∀b o,b≠it->s.heap.get? b=some o->h'.get? b=some o:=λb o hb e=>(hs'.2 b hb).trans e;obtain⟨op,hop,hcp,np,hdp⟩:=hpt;have hop':h'.get? r.p=some op:=k1 _ _ n2 hop;dsimp only;refine Qqx (Qz4 (Qqx (wpAny_tryCatch ?_)));unfold Builtin.Dict.pairItems;refine Qqx (wpAny_typeOf (T:="tuple") ⟨op,hop',hcp⟩ ?_);rw[if_pos (by decide)];unfold seqItems?;refine Qqx (Qqx (wpAny_load hop' ?_));rw[hdp];refine Qq4 (Qq4 ?_);show wpAny _ _ (holding [r.kv,r.v] (dictSet d r.kv r.v)) _ _ _;have hzk:kvs.length<=sizeLine:=by rw[Qqy] at hz;omega
  refine Qz4 (wpAny_dictSet_pairs (knd:=cI prog w) (kvs:=kvs) (k:=r.k) (hsz:=hzk) hkey (hD.sameBut hs' hdi) λh'' ZK hs''=>?_);have k2:∀b o,b≠d->b≠it->s.heap.get? b=some o->h''.get? b=some o:=λb o hb1 hb2 e=>(hs''.2 b hb1).trans (k1 b o hb2 e);have hc:((i:Int)+1)=((i+1:Nat):Int):=by push_cast;rfl
  rw[hc];refine Qq4 ⟨plainId_quiet dH _,codeAny_builtin jD ?_⟩;rw[Around.under_plainId dH _];have hln:(stored kvs r.k r.v).length<=kvs.length+1:=by have:=stored_length_le kvs r.k r.v;exact this
  refine Eb hdi hda hia rs (i+1) (stored kvs r.k r.v) A R _ hh ZF ?_ ?_ ZK (λq hq=>?_) (by rw[Qqy] at hz;omega) λh3 tk ZJ k3=>?_
  ·obtain⟨o,ho,q⟩:=ht;exact⟨o,k2 a o hda.symm hia.symm ho,q⟩
  ·obtain⟨o,ho,q⟩:=hit';exact⟨o,(hs''.2 it hdi.symm).trans ho,q⟩
  ·obtain⟨p1,p2,p3⟩:=hrs q (Qqq _ hq);exact⟨p1.keep p2 p3 k2,p2,p3⟩
  ·exact h h3 tk ZJ λb o hb1 hb2 e=>k3 b o hb1 hb2 (k2 b o hb1 hb2 e)
section
variable{X:Cx}{C:Cfg}{pos:Pos}
abbrev Pv:=Addr×Key×V
def ju(kvs:List (Key×V))(rs:List Pv):List (Key×V):=rs.foldl (λacc r=>putK acc r.2.1 r.2.2) kvs
def Ph(K:Fg):List V->Hp->VK->Prop:=λxs H Q=>∃(a:Addr) (rs:List Pv),xs=[.ref a]/\kI K H a (rs.map λr=>V.ref r.1)/\(∀r∈rs,kI K H r.1 [kV r.2.1,r.2.2])/\rs.length<=sizeLine/\∀l,H l=none->Q (.ref l) (upd H l (.dK (ju [] rs)))
theorem yg{pins:List (Addr×Obj)}{σ:L2.St}{H:Hp}{s:Shared}(I:L2.Inv X pins σ H s):∀(rs:List Pv) (us:List Value),Vals (rs.map λr=>V.ref r.1) us->(∀r∈rs,kI X.K H r.1 [kV r.2.1,r.2.2])->∃ps:List Pr,us=ps.map (λr=>Value.ref r.p)/\(∀r∈ps,Nb s.heap r)/\Paired (λ(r:Pv) (q:Pr)=>r.2.1=q.k/\RelV r.2.2 q.v) rs ps
 | [],us,h,_=>by cases h;exact⟨[],rfl,λr hr=>by simp at hr,.nil⟩
 | r::rs,us,h,hp=>by
  cases h with
  | cons h1 h2=>
   cases h1;obtain⟨ps,rfl,q1,q2⟩:=yg I rs _ h2 λr' hr=>hp r' (Qqq _ hr);obtain⟨its,rv,ht,_⟩:=I.tuple (hp r (Qqj ..));obtain⟨u1,u2,rfl,r1,r2⟩:=rv.two;refine⟨⟨r.1,r.2.1,u1,u2⟩::ps,rfl,λq hq=>?_,.cons ⟨rfl,r2⟩ q2⟩;rcases Qq2.mp hq with rfl|hq
   ·exact⟨ht,yI (P:=X.prog) (w:=X.w) r1⟩
   ·exact q1 q hq
theorem uY:∀{rs:List Pv} {ps:List Pr} {kvs:List (Key×V)} {vs:List (Key×Value)},Paired (λ(r:Pv) (q:Pr)=>r.2.1=q.k/\RelV r.2.2 q.v) rs ps->KV kvs vs->KV (ju kvs rs) (putAll vs ps)
 | _,_,_,_,.nil,h=>h
 | _,_,kvs,vs,.cons (a:=r) (b:=q) ⟨h1,h2⟩ hr,h=>by
  show KV (ju (putK kvs r.2.1 r.2.2) _) (putAll (stored vs q.k q.v) _);refine uY hr ?_;rw[h1];exact h.put q.k h2
theorem pW:∀(rs:List Pv) (kvs:List (Key×V)),(ju kvs rs).length<=kvs.length+rs.length
 | [],kvs=>Qq0 _
 | r::rs,kvs=>by
  have h1:=pW rs (putK kvs r.2.1 r.2.2);have h2:=lZ kvs r.2.1 r.2.2;show(ju (putK kvs r.2.1 r.2.2) rs).length<=_;rw[Qqy];omega
theorem M7(hc:X.calm=true):jH X (.type "dict") (Ph X.K):=by
 intro pins s σ H xs us Q I r h;obtain⟨a,rs,rfl,hq,hp,hz,q⟩:=h;obtain⟨u,rfl,rx⟩:=vals1 r;cases rx;obtain⟨its,rv,ob,h1,h2,⟨n,h3⟩,h4⟩:=I.W9 hq;obtain⟨ps,rfl,hps,hpr⟩:=yg I rs its rv hp;have hA:=I.ok.hd hc;have hlt:a<s.heap.objs.size:=Qq7 h1;refine callType_codes (Q₁:=λobj s₁=>obj = .ref s.heap.objs.size/\s₁ = { s with heap:=s.heap.push { cls:=.type "dict",data:=.dict #[] } }) F.kt_called_dict (F.kt_typeCall_dict_1 _) F.entry_dict_init (kt_code_dict_new _ ⟨rfl,rfl⟩) ?_;rintro obj s₁ ⟨rfl,rfl⟩;have hnew:(s.heap.push { cls:=.type "dict",data:=.dict #[] }).DictOf (cI X.prog X.w) s.heap.objs.size []:=Heap.DictOf.new s.heap;have k0:∀b o,s.heap.get? b=some o->(s.heap.push { cls:=.type "dict",data:=.dict #[] }).get? b=some o:=λb o e=>Qqk _ e;refine⟨hnew.typeIs,F.args_dict_init_2 _ _,?_⟩;unfold Builtin.«dict.__init__»;refine Qqx ?_;unfold Builtin.Dict.selfAndRest;refine Qqx (wpAny_notOrdered_dict hnew.typeIs ?_);show wpAny _ _ (pure (s.heap.objs.size,[Value.ref a])) _ _ _;refine Qq4 ?_;show wpAny _ _ (Builtin.Dict.updateFrom "dict.__init__" s.heap.objs.size (.ref a) [] .none) _ _ _;unfold Builtin.Dict.updateFrom;refine Qqx (wpAny_typeOf (T:="tuple") ⟨ob,k0 _ _ h1,h2⟩ ?_);rw[if_pos (by decide)];refine Qqx (Mr (k0 _ _ h1) h2 h3 h4 hA λh' tk hk=>?_);simp only[Option.isNone_none,if_true];refine Qqx (wpAny_rule (Qqx ?_));have hT:h'.IsTuple a (ps.map λr=>Value.ref r.p).toArray:=⟨ob,hk _ _ (k0 _ _ h1),h2,n,h3⟩;refine wpAny_pyIter_tuple hT ?_;refine Qq4 ⟨plainId_quiet dH _,codeAny_builtin jD ?_⟩;rw[Around.under_plainId dH _];have hD0:h'.DictOf (cI X.prog X.w) s.heap.objs.size []:=hnew.keep hk;have Ir:s.heap.objs.size<h'.objs.size:=by obtain⟨o,_,_,ho,_⟩:=hD0;exact Qq7 ho
 have halt:a<h'.objs.size:=Qq7 (hk _ _ (k0 _ _ h1));have hda:s.heap.objs.size≠a:=Qzy hlt;refine Eb (Qw5 Ir) hda (Qzy halt) ps 0 [] X.A.in1 _ _ hA rfl ?_ ⟨_,Qwz _ rfl,rfl,rfl⟩ (hD0.push _) (λq hq=>?_) ?_ λh3 tk' ZJ k3=>?_
 ·obtain⟨o,ho,r⟩:=hT;exact⟨o,Qqk _ ho,r⟩
 ·obtain⟨⟨o,ho,r⟩,y⟩:=hps q hq;have Ra:q.p<s.heap.objs.size:=Qq7 ho;refine⟨⟨⟨o,Qqk _ (hk _ _ (k0 _ _ ho)),r⟩,y⟩,Qw5 Ra,Qw5 (Nat.lt_trans Ra Ir)⟩
 ·rw[<-Paired.length hpr]
  simpa using hz
 ·refine⟨rfl,?_⟩;have kk:∀b u,s.heap.get? b=some u->h3.get? b=some u:=λb u e=>by
   have hb:b<s.heap.objs.size:=Qq7 e;exact k3 b u (Qw5 hb) (Qw5 (Nat.lt_trans hb Ir)) (Qqk _ (hk _ _ (k0 _ _ e)))
  have hsys:(s.heap.objs.size == sysModules)=false:=by rw[Qzw];exact Qzy I.big
  refine⟨.ref s.heap.objs.size,upd H s.heap.objs.size (.dK (ju [] rs)),I.laid (t':=tk') kk (Qq0 _) ⟨?_,hsys,_,uY hpr .nil,ZJ⟩,rfl,q _ (I.hok.fresh (Qq0 _))⟩;have:=pW rs [];exact Qq6 this (by simpa using hz)
def Kc:D->Option (D×D)
 | .tup [k,v]=>(jX k).map λ_=>(k,v)
 | _=>none
def jw:List D->Option (List (D×D))
 | []=>some []
 | d::ds=>match Kc d,jw ds with
  | some p,some r=>some (p::r)
  | _,_=>none
def eE(kvs : List (D × D)) : List (D × D) → List (D × D)
  | [] => kvs
  | (k, v) :: r => (match jX k with
    | some q => eE (putD kvs k q v) r
    | none => eE kvs r)
def pq:List D->Option D
 | [.tup ds]=>(jw ds).map λps=>.dct (eE [] ps)
 | _=>none
theorem lX:∀(ps:List (D×D)) (kvs:List (D×D)),(eE kvs ps).length<=kvs.length+ps.length
 | [],kvs=>Qq0 _
 | (k,v)::r,kvs=>by
  unfold eE;split
  ·rename_i q hq;have h1:=lX r (putD kvs k q v);have h2:=Fl kvs k q v;rw[Qqy];omega
  ·have h1:=lX r kvs;rw[Qqy];omega
theorem rF:∀{ds:List D} {ps:List (D×D)},jw ds=some ps->ps.length=ds.length
 | [],ps,h=>by cases h;rfl
 | d::ds,ps,h=>by
  unfold jw at h;split at h
  ·rename_i p r h1 h2;cases h;rw[Qqy,Qqy,rF h2]
  ·cases h
theorem uZ{K:Fg}{F:Hp}:∀{ds:List D} {ps:List (D×D)} {vs:List V} {kvs:List (D×D)} {ks:List (Key×V)},jw ds=some ps->bM K F ds vs->dw K F kvs ks->
  ∃rs:List Pv,vs=rs.map (λr=>V.ref r.1)/\(∀r∈rs,kI K F r.1 [kV r.2.1,r.2.2])/\dw K F (eE kvs ps) (ju ks rs)
 | [],ps,vs,kvs,ks,h,hr,hk=>by cases h;cases hr;exact⟨[],rfl,λr hr=>by simp at hr,hk⟩
 | d::ds,ps,vs,kvs,ks,h,hr,hk=>by
  unfold jw at h;split at h
  ·rename_i p r h1 h2;cases h;obtain⟨v,w,rfl,p1,p2⟩:=hr;unfold Kc at h1;split at h1
   ·rename_i k x;obtain⟨q,hq,rfl⟩:=Qwj.mp h1;obtain⟨_,a,us,rfl,h3,h4⟩:=p1;obtain⟨u1,w1,rfl,q1,u2,w2,rfl,q2,q3⟩:=h4;cases q3;cases CV hq q1;obtain⟨rs,rfl,g1,g2⟩:=uZ (kvs:=putD kvs k q x) (ks:=putK ks q u2) h2 p2 (hk.put hq q2);refine⟨(a,q,u2)::rs,rfl,λr hr=>?_,?_⟩
    ·rcases Qq2.mp hr with rfl|hr
     ·exact h3
     ·exact g1 r hr
    ·unfold eE;rw[hq];exact g2
   ·cases h1
  ·cases h
theorem Vg:CallD C (Ph C.K) pq:=by
 intro Pr F env σ H ds d vs Q r p e q;unfold pq at e;split at e
 ·rename_i ds;obtain⟨v,w,rfl,p1,p2⟩:=p;cases p2;obtain⟨ps,e1,rfl⟩:=Qwj.mp e;obtain⟨z,a,us,rfl,h1,h1F,h2⟩:=p1.tup r.fr;obtain⟨rs,rfl,g1,g2⟩:=uZ (kvs:=[]) (ks:=[]) e1 h2 rfl;have hl:rs.length=ds.length:=by
   have:=h2.length
   rwa [Qqw] at this
  refine⟨a,rs,rfl,h1,λr' hr=>aM.tupK r.fr (g1 r' hr),by rw[hl];exact z,λl hlf=>?_⟩;obtain⟨F2,r2,s2,p2⟩:=(r.fresh (o:=.dK (ju [] rs)) hlf).keep (RQ.of (d:=.dct (eE [] ps)) r hlf ⟨by
   have h5:=lX ps [];rw[rF e1] at h5;exact Qq6 h5 (by simpa using z),_,aR,g2⟩)
  exact q _ _ F2 r2 s2 p2
 ·cases e
end
end Ev
namespace L2
open PySem PySem.Spec PyProof.Rows PySem.Builtin PySem.Builtin.Str
section
variable{X:Cx}
def Pg:R2:=λx y H Q=>∃a o,y = .ref a/\G3 H a x o/\Q (.bl o.isSome) H
theorem Qt(hu:X.A.units+1<cLine):m9 X (compareOp .In) Pg:=by intro pins s σ H x y v u Q I rx ry h;obtain⟨a,o,rfl,g,q⟩:=h;cases ry;exact aen hu I g rx λs' I'=>⟨.bl o.isSome,H,I',rfl,q⟩
theorem GC(v:Int)(n d:Nat):max 0 (min (if v<0 then v+(n:Int) else v) (n:Int))=((HT.fU n d (some v):Nat):Int):=by
 show _=(((if v<0 then (v+(n:Int)).toNat else min v.toNat n):Nat):Int);by_cases hv:v<0
 ·simp only[if_pos hv];omega
 ·simp only[if_neg hv];omega
theorem range_one(a b:Nat):sliceRange (a:Int) (b:Int) 1=List.range' a (b - a):=by
 unfold sliceRange;have h1:(1:Int) > 0:=by decide
 simp only[if_pos h1];have hc:(if (a:Int)<(b:Int) then ((b:Int) - (a:Int)+1 - 1) / 1 else 0).toNat=b - a:=by
  by_cases h:(a:Int)<(b:Int)
  ·rw[if_pos h,Int.ediv_one];omega
  ·rw[if_neg h];omega
 rw[hc,List.range'_eq_map_range];apply Qj8;intro k _;omega
theorem Qh(lo hi:Option Int)(n:Nat):strSliceIndices lo hi 1 n=List.range' (HT.fU n 0 lo) (HT.fU n n hi - HT.fU n 0 lo):=by
 have h1:(1:Int) > 0:=by decide
 unfold strSliceIndices;simp only[if_pos h1];rw[<-range_one]
 congr 1
 ·cases lo with
  | none=>rfl
  | some v=>exact GC v n 0
 ·cases hi with
  | none=>rfl
  | some v=>exact GC v n n
theorem Gr(c:List Nat):∀(m a:Nat),a+m<=c.length->(List.range' a m).filterMap (c.toArray[·]?)=(c.drop a).take m
 | 0,a,_=>by simp
 | m+1,a,h=>by
  rw[List.range'_succ,List.filterMap_cons];have e:c.toArray[a]? = some c[a]:=by simp
  rw[e,Gr c m (a+1) (by omega),Qj5 (l:=c) (i:=a) (by omega),List.take_succ_cons]
def zV(z:List Nat)(lo hi:Option Int):List Nat:=(z.drop (HT.fU z.length 0 lo)).take (HT.fU z.length z.length hi - HT.fU z.length 0 lo)
def adN:V->Option Int->Option Int->Hp->VK->Prop:=λx lo hi H Q=>∃z:List Nat,x = .str ⟨z.toArray⟩/\z.length<=sizeLine/\Q (.str ⟨(zV z lo hi).toArray⟩) H
theorem part_of{v:Value}{o:Option Int}(p:IsPart v o):∃l:Option (Int×Tok),v=partValue l/\l.map (·.1)=o:=by
 cases p with
 | none=>exact⟨none,rfl,rfl⟩
 | int i t=>exact⟨some (i,t),rfl,rfl⟩
theorem Xj:KR X adN:=by
 intro pins s σ H x v vl vu lo hi sl Q I rx hs pl pu h;obtain⟨z,rfl,hz,q⟩:=h;obtain⟨t,rfl⟩:=rx;obtain⟨l,rfl,el⟩:=part_of pl;obtain⟨u,rfl,eu⟩:=part_of pu;refine⟨"str",_,PySem.F.slot_str_getitem.lookup,typeIs_str s _ t,?_⟩;obtain⟨o,h1,h2,h3⟩:=hs;refine wpAny_getItem_str_slice (l:=l) (u:=u) (st:=none) ⟨o,h1,h2,h3⟩ rfl ?_;have hp:slicePicked ⟨z.toArray⟩ l u none=List.range' (HT.fU z.length 0 lo) (HT.fU z.length z.length hi - HT.fU z.length 0 lo):=by unfold slicePicked;rw[el,eu];show strSliceIndices lo hi 1 z.toArray.size=_;rw[Qq5,Qh]
 have hle:HT.fU z.length 0 lo+(HT.fU z.length z.length hi - HT.fU z.length 0 lo)<=z.length\/HT.fU z.length z.length hi - HT.fU z.length 0 lo=0:=by have a1:=HT.Cg z.length 0 (Qx0 _) lo;have a2:=HT.Cg z.length z.length (Qq0 _) hi;omega
 have ad9:((slicePicked ⟨z.toArray⟩ l u none).filterMap ((⟨z.toArray⟩:Str).cps[·]?))=zV z lo hi:=by
  rw[hp];unfold zV;rcases hle with hle|hle
  ·exact Gr z _ _ hle
  ·rw[hle];simp
 unfold sliceMade;split
 ·rename_i hc;have hlen:(slicePicked ⟨z.toArray⟩ l u none).length=z.length:=by
   have:=(Qjz.mp hc).2;have:=eq_of_beq this
   simpa[Str.length] using this
  have hw:zV z lo hi=z:=by
   rw[hp,List.length_range'] at hlen;unfold zV;have a2:=HT.Cg z.length z.length (Qq0 _) hi;have a0:HT.fU z.length 0 lo=0\/z.length=0:=by omega
   rcases a0 with a0|a0
   ·rw[a0,List.drop_zero,List.take_of_length_le (by omega)]
   ·have:z=[]:=Qjx a0;subst this;simp
  rw[hw] at q;exact⟨.str ⟨z.toArray⟩,H,I,⟨t,rfl⟩,q⟩
 ·rw[ad9];refine⟨?_,⟨.str ⟨(zV z lo hi).toArray⟩,H,I.tok _,⟨_,rfl⟩,q⟩⟩;show(zV z lo hi).toArray.size<=sizeLine;rw[Qq5];unfold zV;rw[Qx8,Qzj];omega
end
end L2
namespace Ev
open PySem PySem.Spec PyProof.Rows L2 PySem.Builtin
section
variable{X:Cx}{C:Cfg}{pos:Pos}{x y:Expr}{a b:Ev}
def vB(k y:D):Option D:=match y with
 | .dct kvs=>(jX k).map λq=>.bl (dM kvs q).isSome
 | _=>none
theorem Qw:pG C Pg vB:=by
 intro Pr F env σ H x y d vx vy Q r px py e q;cases y with
 | dct kvs=>
  obtain⟨k,hk,rfl⟩:=Qwj.mp (show(jX x).map (λq=>D.bl (dM kvs q).isSome)=some d from e);obtain⟨z,p,ks,rfl,h1,h2⟩:=py.dct r.fr;cases Io hk px;refine⟨p,qW ks k,rfl,.inl ⟨ks,k,h1,rfl,rfl⟩,?_⟩;have e2:(qW ks k).isSome=(dM kvs k).isSome:=by rcases h2.val k with ⟨g1,g2⟩|⟨d',v',g1,g2,_⟩<;>rw[g1,g2]<;>rfl
  rw[e2];exact q _ H F r (aM.refl F) rfl
 | _=>cases e
theorem Vj(G:Good X C):Cm X C .In vB:=⟨_,Qt G.u1,Qw⟩
theorem Ru(z:List Nat)(lo hi:Option Int):(zV z lo hi).length<=z.length:=by unfold zV;rw[Qx8,Qzj];omega
end
end Ev
namespace HT
open PySem PySem.Spec PyProof PyProof.Rows PySem.Builtin
section
variable{prog:Program}{w:World}{A:Around}{E:Value->Shared->Prop}{s:Shared}
theorem qI{t sl:Addr}{items:Array Value}{vl vu:Value}{lo hi:Option Int}{Q:Value->Shared->Prop}(ht:IsTup s.heap t items)(hs:s.heap.IsSliceOf sl vl vu .none)(pl:IsPart vl lo)(pu:IsPart vu hi)
  (hw:fU items.size 0 lo=0/\fU items.size items.size hi=items.size)
  (h:Q (.ref t) s):wpAny (model prog w) A (getItem (.ref t) (.ref sl)) Q E s:=by
 obtain⟨os,hos,hcs,hds⟩:=id hs;have hTs:s.TypeIs (.ref sl) "slice":=⟨os,hos,hcs⟩;unfold getItem
 try with_reducible refine Qz4 ?_
 first|refine Qqx (Qq4 ?_)|skip
 refine Qqx (wpAny_sequenceKey ht.typeIs (by decide) ?_);refine Qqx (Qz5 (name:=Str.ofString "__getitem__") ht.typeIs Qz9
  (Qz8 Qz9 ht.typeIs entry_tuple_getitem ?_ (args_tuple_getitem _ _)))
 show wpAny _ _ (Builtin.Tuple.tupleItemsOf (.ref t) >>= _) _ _ s;refine Qqx (tupleItemsOf_ ht ?_);refine Qqx (wpAny_typeOf hTs ?_);rw[if_pos (by decide)];refine Qqx (nu hs pl pu ?_);have ad3:(((fU items.size 0 lo:Nat):Int) == 0&&(1:Int) == 1&&(fU items.size items.size hi - fU items.size 0 lo) == items.size)=true:=by rw[hw.1,hw.2];simp
 show wpAny _ _ (if (((fU items.size 0 lo:Nat):Int) == 0&&(1:Int) == 1&&(fU items.size items.size hi - fU items.size 0 lo) == items.size)=true then _ else _) _ _ s;rw[if_pos ad3];refine Qqx (m:=Builtin.Tuple.tupleIsExact (.ref t)) ?_;unfold Builtin.Tuple.tupleIsExact;refine Qqx (wpAny_typeOf ht.typeIs ?_);refine Qq4 ?_;rw[if_pos (by decide)];exact Qqx (wpAny_rule (Qq4 ⟨_,rfl,Qq4 h⟩))
end
end HT
namespace L2
open PySem PySem.Spec PyProof.Rows
section
variable{X:Cx}
def aa7(K:PySem.W.Frag):V->Option Int->Option Int->Hp->VK->Prop:=λx lo hi H Q=>∃a xs,x = .ref a/\kI K H a xs/\(HT.fU xs.length 0 lo=0/\HT.fU xs.length xs.length hi=xs.length)/\Q (.ref a) H
theorem Oe:KR X (aa7 X.K):=by
 intro pins s σ H x v vl vu lo hi sl Q I rx hs pl pu h;obtain⟨a,xs,rfl,hx,hw,q⟩:=h;cases rx;obtain⟨its,r,ht,hz⟩:=I.tuple hx;have hlen:its.toArray.size=xs.length:=by rw[Qq5];exact r.length.symm
 refine⟨"tuple",_,PyProof.Rows.slot_tuple_getitem.lookup,ht.typeIs,?_⟩;refine HT.qI ht hs pl pu (by rw[hlen];exact hw) ?_;exact⟨.ref a,H,I,rfl,q⟩
end
end L2
namespace Ev
open PySem PySem.Spec PyProof.Rows L2
section
variable{X:Cx}{C:Cfg}{pos:Pos}{x:Expr}{a:Ev}{apos:Pos}{y z:Expr}{b c:Ev}
def ZM:D->Option Int->Option Int->Option D
 | .tup xs,lo,hi=>if HT.fU xs.length 0 lo=0/\HT.fU xs.length xs.length hi=xs.length then some (.tup xs) else some (.tup (cutD xs lo hi))
 | _,_,_=>none
theorem Xk{Pr F:Hp}{env:Env}{σ:L2.St}{H:Hp}{x d:D}{v:V}{lo hi:Option Int}{Q:VK}(r:Rel C Pr F env σ H)(p:Rep C.K F x v)(e:ZM x lo hi=some d)(q:∀v H' F',Rel C Pr F' env σ H'->aM F F'->Rep C.K F' d v->Q v H') :
  Xv C.K v lo hi H Q\/aa7 C.K v lo hi H Q:=by
 unfold ZM at e;split at e
 ·obtain⟨z,a,vs,rfl,h1,_,h2⟩:=gU.tup r.fr (.inl p);split at e
  ·rename_i hn;cases e;exact .inr ⟨a,vs,rfl,h1,by rw[h2.length];exact hn,q _ H F r (aM.refl F) p⟩
  ·rename_i hn;cases e;refine .inl ⟨a,vs,rfl,h1,by rw[h2.length];exact hn,λb hb=>?_⟩;obtain⟨r2,s2⟩:=r.new (o:=.tup (xj vs lo hi)) hb;exact q _ _ _ r2 s2 ⟨Qq6 (qi _ _ _) z,b,_,rfl,kI.of aR,bM.mono s2 _ _ (h2.cut lo hi)⟩
 ·cases e
def Rh:D->D->D->Option D
 | .dct kvs,k,t=>(jX k).map λq=>(dM kvs q).getD t
 | _,_,_=>none
def Dg(a b c:Ev):Ev:=λenv=>bindR (a env) λd e1=>bindR (b e1) λk e2=>bindR (c e2) λt e3=>match d with
 | .dct kvs=>ig (Rh (.dct kvs) k t) e3
 | _=>.stuck
end
end Ev
namespace ZT
open PySem PySem.Spec PyProof.Rows L2 PySem.Builtin
section
variable{prog:Program}{w:World}{A:Around}{E:Value->Shared->Prop}{s:Shared}
theorem QD{j t:Addr}{n:Nat}{its:Array Value}{x:Value}{Q:Value->Shared->Prop}(hj:s.heap.IsTupleIter j t n)(ht:s.heap.IsTuple t its)(hx:its[n]? = some x)
  (q:∀g,g.IsTupleIter j t (n+1)->Heap.SameBut j s.heap g->Q x { s with heap:=g }):wpAny (model prog w) A (Builtin.SmallTypes.nextOf (.ref j)) Q E s:=by
 obtain⟨u,hu,uc,ud⟩:=id hj;obtain⟨ut,hut,_,m,mt⟩:=ht;unfold Builtin.SmallTypes.nextOf;refine Qqx (Qz5 (name:=Str.ofString "__next__") hj.typeIs F.slot_tuple_iterator_next (Qz8 F.slot_tuple_iterator_next hj.typeIs F.entry_tuple_iterator_next ?_ (F.args_tuple_iterator_next_1 _)));show wpAny _ _ (field (.ref j) 0 >>= _) _ _ s;refine Qqx (Qz7 hu ud (x:=.ref t) rfl ?_);show wpAny _ _ (if (Value.ref t == Value.none)=true then _ else _) _ _ s;rw[if_neg (show ¬((Value.ref t == Value.none)=true) from Qw8)];show wpAny _ _ (field (.ref j) 1 >>= _) _ _ s;refine Qqx (Qz7 hu ud (x:=.int n 0) rfl ?_);show wpAny _ _ (seqItems? (.ref t) >>= _) _ _ s;refine Qqx (Qjj hut mt ?_);simp only[Qkk,hx];refine Qqx (wpAny_setField hu ud (by simp) (Qq4 ⟨x,rfl,Qq4 (q _ ?_ (Heap.SameBut.update ..))⟩));exact⟨_,Heap.get?_update_self _ hu (Obj.isFreed_of_fields (Obj.data_mapFields ud _)),(Obj.cls_mapFields ..).trans uc,by rw[Obj.data_mapFields ud];simp[rawInt]⟩
theorem CG{j t:Addr}{n:Nat}{its:Array Value}{Q:Value->Shared->Prop}(hh:A.handled=none)(hj:s.heap.IsTupleIter j t n)(ht:s.heap.IsTuple t its)(hx:its[n]? = none)
  (q:∀g e,Heap.ExtBut j s.heap g->(∃o,g.get? e=some o/\o.cls = .type "StopIteration")->E (.ref e) { s with heap:=g }):wpAny (model prog w) A (Builtin.SmallTypes.nextOf (.ref j)) Q E s:=by
 obtain⟨u,hu,uc,ud⟩:=id hj;obtain⟨ut,hut,_,m,mt⟩:=ht;unfold Builtin.SmallTypes.nextOf;refine Qqx (Qz5 (name:=Str.ofString "__next__") hj.typeIs F.slot_tuple_iterator_next (Qz8 F.slot_tuple_iterator_next hj.typeIs F.entry_tuple_iterator_next ?_ (F.args_tuple_iterator_next_1 _)));show wpAny _ _ (field (.ref j) 0 >>= _) _ _ s;refine Qqx (Qz7 hu ud (x:=.ref t) rfl ?_);show wpAny _ _ (if (Value.ref t == Value.none)=true then _ else _) _ _ s;rw[if_neg (show ¬((Value.ref t == Value.none)=true) from Qw8)];show wpAny _ _ (field (.ref j) 1 >>= _) _ _ s;refine Qqx (Qz7 hu ud (x:=.int n 0) rfl ?_);show wpAny _ _ (seqItems? (.ref t) >>= _) _ _ s;refine Qqx (Qjj hut mt ?_);simp only[Qkk,hx];refine Qqx (wpAny_rule (Qqx (wpAny_setField hu ud (by simp) ?_)));show wpAny _ _ (newExc (.type "StopIteration") [] >>= _) _ _ _;refine Qqx ?_;simp only[newExc,newTuple];refine Qqx (Qjv ?_ (by size_fits));refine Qqx (m:=firstArgMember _ _) (wpAny_of_eq (a:=Value.none) (by first|rfl|(simp only[firstArgMember];rfl)) ?_);refine Qjv ?_ (by size_fits);simp only[raiseNew];refine Qqx (wpAny_handled ?_)
 first|rw[show A.in1.handled=none from hh]|rw[hh]
 refine Qqx (Qq4 (wpAny_throw ?_));exact q _ _ (((Heap.SameBut.update ..).extBut.push _).push _) ⟨_,Qwz _ rfl,rfl⟩
end
theorem qD{prog:Program}{w:World}{A:Around}(hh:A.handled=none)(j t:Addr)(hne:t≠j)(its:Array Value) :
  Draws prog w A j [j,t] its.size (λi v=>its[i]? = some v) (λi h=>h.IsTupleIter j t i/\h.IsTuple t its) where
 live:=λ_ _ st=>let ⟨o,ho,_⟩:=st.1;⟨o,ho⟩
 frame:=λ_ _ _ st hk=>by
  obtain⟨⟨o,ho,r⟩,o2,ho2,r2⟩:=st;exact⟨⟨o,hk j (by simp) o ho,r⟩,o2,hk t (by simp) o2 ho2,r2⟩
 item:=λi s Q E hi st hQ=>by
  refine QD st.1 st.2 (x:=its[i]) (by simp[hi]) λh' hit' hs'=>?_;exact hQ _ h' s.toks (by simp[hi]) ⟨hit',st.2.extBut hs'.extBut hne⟩ hs'
 done:=λs Q E st hE=>CG hh st.1 st.2 (by simp) hE
structure Ap(z TI TO j1 j2:Addr)(f1 f2:List Addr):Prop where
 a1:TI≠z
 a2:TO≠z
 a3:TI≠TO
 a4:j1≠j2
 b1:j1∈f1
 b2:j2∈f2
 c1:z ∉ f1
 c2:z ∉ f2
 c3:TO ∉ f1
 c4:TO ∉ f2
 c5:TI ∉ f1
 c6:TI ∉ f2
 c7:j2 ∉ f1
 c8:j1 ∉ f2
section
variable{prog:Program}{w:World}{A:Around}{E:Value->Shared->Prop}{s:Shared}{z TI TO j1 j2:Addr}{f1 f2:List Addr}{n1 n2 k:Nat}{P1 P2:Nat->Value->Prop}{S1 S2:Nat->Heap->Prop}{a b:Value}
theorem eQ{c d:Addr}{f:List Addr}(h:c∈f)(h':d ∉ f):c≠d:=λe=>h' (e ▸ h)
theorem Np{Q:Value->Shared->Prop}(D:Ap z TI TO j1 j2 f1 f2)(D1:Draws prog w A j1 f1 n1 P1 S1)(D2:Draws prog w A j2 f2 n2 P2 S2)(k1:k<n1)(k2:k<n2)
  (hz:IsZip s.heap z TI TO .none) (hTI:IsPair s.heap TI (.ref j1) (.ref j2)) (hTO:IsPair s.heap TO a b) (s1:S1 k s.heap) (s2:S2 k s.heap)
  (q:∀x y g tk,P1 k x->P2 k y->IsZip g z TI TO (rawInt s.heap.objs.size)->IsPair g TO x y->S1 (k+1) g->S2 (k+1) g->IsPair g s.heap.objs.size x y->g.objs.size=s.heap.objs.size+1->
   (∀c o,c≠z->c≠TO->c≠j1->c≠j2->s.heap.get? c=some o->g.get? c=some o)->Q (.ref s.heap.objs.size) { s with heap:=g,toks:=tk }) :
  wpAny (model prog w) A (Builtin.«zip.__next__» ⟨[.ref z],[]⟩) (λfin s'=>∃v,fin = .done (.ret v)/\Q v s') E s:=by
 have U8:j1≠z:=eQ D.b1 D.c1;have Z0:j2≠z:=eQ D.b2 D.c2;have Z1:j1≠TO:=eQ D.b1 D.c3;have acp:j2≠TO:=eQ D.b2 D.c4;show wpAny _ _ (field (.ref z) 2 >>= _) _ _ _;refine Qqx (Qz7 hz rfl (x:=.bool false) rfl ?_);show wpAny _ _ (field (.ref z) 3 >>= _) _ _ _;refine Qqx (Qz7 hz rfl (x:=.ref TI) rfl ?_);refine Qqx (Qjj hTI rfl ?_);show wpAny _ _ (Builtin.SmallTypes.ownedTupleIsFree (.ref z) >>= _) _ _ _;refine Qqx ?_;unfold Builtin.SmallTypes.ownedTupleIsFree;refine Qqx (Qz7 hz rfl (x:=.none) rfl (Qq4 ?_));simp only[if_true];refine Qqx (wpAny_rule ?_);refine Qqx (Qz7 hz rfl (x:=.ref TO) rfl ?_);refine Qqx (Qj3 hz (by simp) λg1 hz1 e1=>?_)
 replace hz1:IsZip g1 z TI TO .ellipsis:=hz1
 refine Qqx ?_;simp only[List.zipIdx_cons,List.zipIdx_nil,Qkz,Qj4];refine Qqx (Qqx (wpAny_onRaise ?_));show wpAny _ _ (Builtin.SmallTypes.nextOf (.ref j1) >>= _) _ _ _;have s1':S1 k g1:=D1.frame k _ _ s1 λc hc o e=>e1.extBut _ _ (eQ hc D.c1) e;refine Qqx (D1.item k { s with heap:=g1 } _ _ k1 s1' λx g2 tk2 px sx e2=>Qq4 ?_);have t2:IsPair g2 TO a b:=e2.extBut _ _ Z1.symm (e1.extBut _ _ D.a2 hTO);refine Qqx (Qjj t2 rfl ?_);refine Qqx (wpAny_updateSeq_pair t2 λg3 t3 e3=>?_)
 replace t3:IsPair g3 TO x b:=t3
 refine Qqx (wpAny_letGo (Qq4 ?_));refine Qqx (Qqx (wpAny_onRaise ?_));show wpAny _ _ (Builtin.SmallTypes.nextOf (.ref j2) >>= _) _ _ _;have Te:S2 k g3:=D2.frame k _ _ s2 λc hc o e=>e3.extBut _ _ (eQ hc D.c4) (e2.extBut _ _ (eQ hc D.c8) (e1.extBut _ _ (eQ hc D.c2) e));refine Qqx (D2.item k { s with heap:=g3,toks:=tk2 } _ _ k2 Te λy g4 tk4 py sy e4=>Qq4 ?_);have t4:IsPair g4 TO x b:=e4.extBut _ _ acp.symm t3;refine Qqx (Qjj t4 rfl ?_);refine Qqx (wpAny_updateSeq_pair t4 λg5 t5 e5=>?_)
 replace t5:IsPair g5 TO x y:=t5
 refine Qqx (wpAny_letGo (Qq4 (Qq4 ?_)));refine Qqx (Qjj t5 rfl ?_);refine Qqx (wpAny_newTuple ?_);have hsz:g5.objs.size=s.heap.objs.size:=by rw[e5.1,e4.1,e3.1,e2.1,e1.1]
 have hz5:IsZip g5 z TI TO .ellipsis:=e5.extBut _ _ D.a2.symm (e4.extBut _ _ Z0.symm (e3.extBut _ _ D.a2.symm (e2.extBut _ _ U8.symm hz1)));have abV:∀c o,c≠z->c≠TO->c≠j1->c≠j2->s.heap.get? c=some o->g5.get? c=some o:=λc o c1 c2 c3 c4 e=>
  e5.extBut _ _ c2 (e4.extBut _ _ c4 (e3.extBut _ _ c2 (e2.extBut _ _ c3 (e1.extBut _ _ c1 e))))
 have s15:S1 (k+1) g5:=D1.frame _ _ _ sx λc hc o e=>e5.extBut _ _ (eQ hc D.c3) (e4.extBut _ _ (eQ hc D.c7) (e3.extBut _ _ (eQ hc D.c3) e));have s25:S2 (k+1) g5:=D2.frame _ _ _ sy λc hc o e=>e5.extBut _ _ (eQ hc D.c4) e;have zlt:z<g5.objs.size:=Qq7 hz5;show wpAny _ _ (Builtin.SmallTypes.ownedTupleHandOut (.ref z) (.ref g5.objs.size) >>= _) _ _ _;refine Qqx ?_;unfold Builtin.SmallTypes.ownedTupleHandOut;have hz6:IsZip (g5.push { cls:=.type "tuple",data:=.seq #[x,y] }) z TI TO .ellipsis:=Qqk _ hz5;refine Qqx (Qj3 hz6 (by simp) λg7 hz7 e7=>?_)
 replace hz7:IsZip g7 z TI TO (rawInt g5.objs.size):=hz7
 refine Qj3 hz7 (by simp) λg8 hz8 e8=>?_
 replace hz8:IsZip g8 z TI TO (rawInt g5.objs.size):=hz8
 have up:∀c o,c≠z->g5.get? c=some o->g8.get? c=some o:=λc o c1 e=>e8.extBut _ _ c1 (e7.extBut _ _ c1 (Qqk _ e));have t8:IsPair g8 g5.objs.size x y:=e8.extBut _ _ (Qzy zlt) (e7.extBut _ _ (Qzy zlt) (Qwz _ rfl));have l8:g8.objs.size=g5.objs.size+1:=by rw[e8.1,e7.1,Qz3]
 rw[hsz] at hz8 t8 l8;refine Qq4 ⟨_,rfl,?_⟩;show Q (.ref g5.objs.size) _;rw[hsz];exact q x y g8 _ px py hz8 (up _ _ D.a2 t5) (D1.frame _ _ _ s15 λc hc o e=>up c o (eQ hc D.c1) e) (D2.frame _ _ _ s25 λc hc o e=>up c o (eQ hc D.c2) e) t8 l8 λc o c1 c2 c3 c4 e=>up c o c1 (abV c o c1 c2 c3 c4 e)
theorem Sd{Q:Fin->Shared->Prop}(D:Ap z TI TO j1 j2 f1 f2)(D1:Draws prog w A j1 f1 n1 P1 S1)(D2:Draws prog w A j2 f2 n2 P2 S2)(hk:k=n1\/(k<n1/\k=n2))
  (hz:IsZip s.heap z TI TO .none) (hTI:IsPair s.heap TI (.ref j1) (.ref j2)) (hTO:IsPair s.heap TO a b) (s1:S1 k s.heap) (s2:S2 k s.heap)
  (q:∀g e tk,(∀c o,c≠z->c≠TO->c≠j1->c≠j2->s.heap.get? c=some o->g.get? c=some o)->(∃o,g.get? e=some o/\o.cls = .type "StopIteration")->E (.ref e) { s with heap:=g,toks:=tk }) :
  wpAny (model prog w) A (Builtin.«zip.__next__» ⟨[.ref z],[]⟩) Q E s:=by
 have U8:j1≠z:=eQ D.b1 D.c1;have Z0:j2≠z:=eQ D.b2 D.c2;have Z1:j1≠TO:=eQ D.b1 D.c3;have acp:j2≠TO:=eQ D.b2 D.c4;show wpAny _ _ (field (.ref z) 2 >>= _) _ _ _;refine Qqx (Qz7 hz rfl (x:=.bool false) rfl ?_);show wpAny _ _ (field (.ref z) 3 >>= _) _ _ _;refine Qqx (Qz7 hz rfl (x:=.ref TI) rfl ?_);refine Qqx (Qjj hTI rfl ?_);show wpAny _ _ (Builtin.SmallTypes.ownedTupleIsFree (.ref z) >>= _) _ _ _;refine Qqx ?_;unfold Builtin.SmallTypes.ownedTupleIsFree;refine Qqx (Qz7 hz rfl (x:=.none) rfl (Qq4 ?_));simp only[if_true];refine Qqx (wpAny_rule ?_);refine Qqx (Qz7 hz rfl (x:=.ref TO) rfl ?_);refine Qqx (Qj3 hz (by simp) λg1 hz1 e1=>?_)
 replace hz1:IsZip g1 z TI TO .ellipsis:=hz1
 refine Qqx ?_;simp only[List.zipIdx_cons,List.zipIdx_nil,Qkz,Qj4];refine Qqx (Qqx (wpAny_onRaise ?_));show wpAny _ _ (Builtin.SmallTypes.nextOf (.ref j1) >>= _) _ _ _;have s1':S1 k g1:=D1.frame k _ _ s1 λc hc o e=>e1.extBut _ _ (eQ hc D.c1) e;rcases hk with rfl|⟨k1,rfl⟩
 ·refine Qqx (D1.done { s with heap:=g1 } _ _ s1' λg2 e x2 he=>?_);obtain⟨oe,hoe,hce⟩:=he;have hz2:IsZip g2 z TI TO .ellipsis:=x2 _ _ U8.symm hz1;have hez:e≠z:=λx=>by subst x;rw[hz2] at hoe;cases hoe;simp at hce
  exact Qj3 hz2 (by simp) λg3 _ e3=>q g3 e s.toks (λc o c1 _ c3 _ x=>e3.extBut _ _ c1 (x2 _ _ c3 (e1.extBut _ _ c1 x))) ⟨oe,e3.extBut _ _ hez hoe,hce⟩
 ·refine Qqx (D1.item k { s with heap:=g1 } _ _ k1 s1' λx g2 tk2 px sx e2=>Qq4 ?_);have t2:IsPair g2 TO a b:=e2.extBut _ _ Z1.symm (e1.extBut _ _ D.a2 hTO);refine Qqx (Qjj t2 rfl ?_);refine Qqx (wpAny_updateSeq_pair t2 λg3 t3 e3=>?_);refine Qqx (wpAny_letGo (Qq4 ?_));refine Qqx (Qqx (wpAny_onRaise ?_));show wpAny _ _ (Builtin.SmallTypes.nextOf (.ref j2) >>= _) _ _ _;have Te:S2 k g3:=D2.frame k _ _ s2 λc hc o e=>e3.extBut _ _ (eQ hc D.c4) (e2.extBut _ _ (eQ hc D.c8) (e1.extBut _ _ (eQ hc D.c2) e));refine Qqx (D2.done { s with heap:=g3,toks:=tk2 } _ _ Te λg4 e x4 he=>?_);obtain⟨oe,hoe,hce⟩:=he;have hz4:IsZip g4 z TI TO .ellipsis:=x4 _ _ Z0.symm (e3.extBut _ _ D.a2.symm (e2.extBut _ _ U8.symm hz1));have hez:e≠z:=λx=>by subst x;rw[hz4] at hoe;cases hoe;simp at hce
  exact Qj3 hz4 (by simp) λg5 _ e5=>q g5 e tk2 (λc o c1 c2 c3 c4 x=>e5.extBut _ _ c1 (x4 _ _ c4 (e3.extBut _ _ c2 (e2.extBut _ _ c3 (e1.extBut _ _ c1 x))))) ⟨oe,e5.extBut _ _ hez hoe,hce⟩
theorem wW{Q:Option Value->Shared->Prop}(D:Ap z TI TO j1 j2 f1 f2)(D1:Draws prog w A.in1 j1 f1 n1 P1 S1)(D2:Draws prog w A.in1 j2 f2 n2 P2 S2)(k1:k<n1)(k2:k<n2)
  (hz:IsZip s.heap z TI TO .none) (hTI:IsPair s.heap TI (.ref j1) (.ref j2)) (hTO:IsPair s.heap TO a b) (s1:S1 k s.heap) (s2:S2 k s.heap)
  (q:∀x y g tk,P1 k x->P2 k y->IsZip g z TI TO (rawInt s.heap.objs.size)->IsPair g TO x y->S1 (k+1) g->S2 (k+1) g->IsPair g s.heap.objs.size x y->g.objs.size=s.heap.objs.size+1->
   (∀c o,c≠z->c≠TO->c≠j1->c≠j2->s.heap.get? c=some o->g.get? c=some o)->Q (some (.ref s.heap.objs.size)) { s with heap:=g,toks:=tk }) :
  wpAny (model prog w) A (pyNext (.ref z)) Q E s:=by
 have hT:s.TypeIs (.ref z) "zip":=⟨_,hz,rfl⟩;unfold pyNext;exact Qqx (wpAny_attempt (Qz5 (name:=Str.ofString "__next__") hT F.slot_zip_next (Qz8 F.slot_zip_next hT F.entry_zip_next
  (Np D D1 D2 k1 k2 hz hTI hTO s1 s2 λx y g tk u1 u2 u3 u4 u5 u6 u7 u8 u9=>Qq4 (q x y g tk u1 u2 u3 u4 u5 u6 u7 u8 u9)) (F.args_zip_next_1 _))))
theorem yc{Q:Option Value->Shared->Prop}(D:Ap z TI TO j1 j2 f1 f2)(D1:Draws prog w A.in1 j1 f1 n1 P1 S1)(D2:Draws prog w A.in1 j2 f2 n2 P2 S2)(hk:k=n1\/(k<n1/\k=n2))
  (hz:IsZip s.heap z TI TO .none) (hTI:IsPair s.heap TI (.ref j1) (.ref j2)) (hTO:IsPair s.heap TO a b) (s1:S1 k s.heap) (s2:S2 k s.heap)
  (q:∀g tk,(∀c o,c≠z->c≠TO->c≠j1->c≠j2->s.heap.get? c=some o->g.get? c=some o)->Q none { s with heap:=g,toks:=tk }):wpAny (model prog w) A (pyNext (.ref z)) Q E s:=by
 have hT:s.TypeIs (.ref z) "zip":=⟨_,hz,rfl⟩;unfold pyNext;refine Qqx (wpAny_attempt (Qz5 (name:=Str.ofString "__next__") hT F.slot_zip_next (Qz8 F.slot_zip_next hT F.entry_zip_next
  (Sd D D1 D2 hk hz hTI hTO s1 s2 λg e tk hkp he=>?_) (F.args_zip_next_1 _))))
 obtain⟨o,ho,hc⟩:=he;refine Qqx (wpAny_isInstance (T:="StopIteration") (b:=true) ⟨o,ho,hc⟩ isSubtype_stop ?_);exact Qq4 (q _ _ hkp)
end
end ZT
namespace L2
open PySem PySem.Spec PyProof.Rows PySem.Builtin ZT
def Itz(K:PySem.W.Frag)(a1 a2:Addr):It:=
 ⟨λi H=>∃xs ys x y,kI K H a1 xs/\kI K H a2 ys/\xs[i]? = some x/\ys[i]? = some y,
 λi H v H'=>∃p x y,(∀xs,kI K H a1 xs->xs[i]? = some x)/\(∀ys,kI K H a2 ys->ys[i]? = some y)/\H p=none/\H'=upd H p (.tup [x,y])/\v = .ref p,
 λi H=>∃xs ys,kI K H a1 xs/\kI K H a2 ys/\(i=xs.length\/(i<xs.length/\i=ys.length))⟩
structure Apz(z TI TO j1 j2 a1 a2:Addr):Prop where
 t1:TI≠z
 t2:TO≠z
 t3:TI≠TO
 t4:j1≠j2
 b1:z ∉ [j1,a1]
 b2:z ∉ [j2,a2]
 b3:TO ∉ [j1,a1]
 b4:TO ∉ [j2,a2]
 b5:TI ∉ [j1,a1]
 b6:TI ∉ [j2,a2]
 b7:j2 ∉ [j1,a1]
 b8:j1 ∉ [j2,a2]
 c1:a1≠j1
 c2:a2≠j2
theorem Apz.ap{z TI TO j1 j2 a1 a2:Addr}(D:Apz z TI TO j1 j2 a1 a2):Ap z TI TO j1 j2 [j1,a1] [j2,a2]:=⟨D.t1,D.t2,D.t3,D.t4,by simp,by simp,D.b1,D.b2,D.b3,D.b4,D.b5,D.b6,D.b7,D.b8⟩
theorem NZ{P:Program}{w:World}{K:PySem.W.Frag}{elts:List Expr}{kk:Nat}{pos:Pos}(z TI TO j1 j2 a1 a2:Addr)(D:Apz z TI TO j1 j2 a1 a2) :
  Turn P w K (.Tuple elts kk pos) (Itz K a1 a2) [z,TI,TO,j1,j2] z (λi h=>IsZip h z TI TO .none/\IsPair h TI (.ref j1) (.ref j2)/\(∃a b,IsPair h TO a b)/\h.IsTupleIter j1 a1 i/\h.IsTupleIter j2 a2 i) where
 mem:=by simp
 obj:=λi h st b hb=>by
  obtain⟨hz,hTI,⟨a,c,hTO⟩,⟨o1,e1,_,d1⟩,o2,e2,_,d2⟩:=st;simp only[Qq2,Qwy,Qz2] at hb;rcases hb with rfl|rfl|rfl|rfl|rfl
  ·exact⟨_,hz,λv q=>by cases q⟩
  ·exact⟨_,hTI,λv q=>by cases q⟩
  ·exact⟨_,hTO,λv q=>by cases q⟩
  ·exact⟨o1,e1,λv q=>by rw[d1] at q;cases q⟩
  ·exact⟨o2,e2,λv q=>by rw[d2] at q;cases q⟩
 keep:=λi h h' st k=>by
  obtain⟨hz,hTI,⟨a,c,hTO⟩,⟨o1,e1,r1⟩,o2,e2,r2⟩:=st;exact⟨k z (by simp) _ hz,k TI (by simp) _ hTI,⟨a,c,k TO (by simp) _ hTO⟩,⟨o1,k j1 (by simp) _ e1,r1⟩,o2,k j2 (by simp) _ e2,r2⟩
 item:=by
  intro X hP hw hK hc i pins s σ H E I hf st hg;subst hP hw hK;obtain⟨hz,hTI,⟨a,b,hTO⟩,i1,i2⟩:=st;obtain⟨xs,ys,x,y,hx,hy,gx,gy⟩:=hg;obtain⟨us,ru,pu,zu⟩:=I.tuple hx;obtain⟨vs,rv,pv,zv⟩:=I.tuple hy;obtain⟨u,hu,rxu⟩:=ru.get gx;obtain⟨v,hv,ryv⟩:=rv.get gy;have lu:i<us.toArray.size:=by rw[Qq5];exact(Qqv.mp hu).1
  have lv:i<vs.toArray.size:=by rw[Qq5];exact(Qqv.mp hv).1
  have D1:Draws X.prog X.w X.A.in1 j1 [j1,a1] _ _ _:=qD (A:=X.A.in1) (show X.A.in1.handled=none from I.ok.hd hc) j1 a1 D.c1 us.toArray;have D2:Draws X.prog X.w X.A.in1 j2 [j2,a2] _ _ _:=qD (A:=X.A.in1) (show X.A.in1.handled=none from I.ok.hd hc) j2 a2 D.c2 vs.toArray;refine wW (A:=X.A) D.ap D1 D2 lu lv hz hTI hTO ⟨i1,pu⟩ ⟨i2,pv⟩ λx' y' g tk px py hz' aed s1 s2 hT hsz hk=>?_;have ex:x'=u:=by have:us.toArray[i]? = some x':=px;rw[List.getElem?_toArray,hu] at this;exact(Qw0 this).symm
  have ey:y'=v:=by have:vs.toArray[i]? = some y':=py;rw[List.getElem?_toArray,hv] at this;exact(Qw0 this).symm
  subst ex ey;refine⟨_,rfl,?_⟩;refine wpAny_letOwnedTupleGo_zip (s:={ s with heap:=g,toks:=tk }) hz' λg' hz'' e'=>?_;have qN:∀b o,b≠z->g.get? b=some o->g'.get? b=some o:=λb o hb q=>(e'.2 b hb).trans q;have lts:∀b ∈ [z,TI,TO,j1,j2],b<s.heap.objs.size:=λb hb=>by
   simp only[Qq2,Qwy,Qz2] at hb;rcases hb with rfl|rfl|rfl|rfl|rfl
   ·exact Qq7 hz
   ·exact Qq7 hTI
   ·exact Qq7 hTO
   ·obtain⟨_,q,_⟩:=i1;exact Qq7 q
   ·obtain⟨_,q,_⟩:=i2;exact Qq7 q
  have nT:H s.heap.objs.size=none:=I.hok.fresh (Qq0 _);refine⟨.ref s.heap.objs.size,upd H s.heap.objs.size (.tup [x,y]),I.drawn (t':=tk) (ch:=[z,TI,TO,j1,j2]) hf (λb o hb q=>?_) (Qq0 _) ?_,rfl,⟨_,x,y,λzs hq=>by rw[I.uH hq hx];exact gx,λzs hq=>by rw[I.uH hq hy];exact gy,nT,rfl,rfl⟩,⟨hz'',?_,⟨_,_,qN TO _ D.t2 aed⟩,?_,?_⟩,λb hb=>?_⟩
  ·have n1:b≠z:=λq=>hb (by simp[q]);exact qN b o n1 (hk b o n1 (λq=>hb (by simp[q])) (λq=>hb (by simp[q])) (λq=>hb (by simp[q])) q)
  ·exact⟨by show 2<=sizeLine;decide,[x',y'],.cons rxu (.cons ryv .nil),_,qN _ _ (Qzy (lts z (by simp))) hT,rfl,⟨_,rfl⟩,rfl⟩
  ·exact qN TI _ D.t1 (hk TI _ D.t1 D.t3 (λq=>D.b5 (by simp[q])) (λq=>D.b6 (by simp[q])) hTI)
  ·obtain⟨o,q,r⟩:=s1.1;exact⟨o,qN j1 o (λq=>D.b1 (by simp[q])) q,r⟩
  ·obtain⟨o,q,r⟩:=s2.1;exact⟨o,qN j2 o (λq=>D.b2 (by simp[q])) q,r⟩
  ·rw[bu (Qw5 (lts b hb))];exact(hf b hb).1
 done:=by intro X hP hw hK hc i pins s σ H E I hf st hg;subst hP hw hK;obtain⟨hz,hTI,⟨a,b,hTO⟩,i1,i2⟩:=st;obtain⟨xs,ys,hx,hy,hi⟩:=hg;obtain⟨us,ru,pu,zu⟩:=I.tuple hx;obtain⟨vs,rv,pv,zv⟩:=I.tuple hy;have l1:=ru.length;have l2:=rv.length;have D1:Draws X.prog X.w X.A.in1 j1 [j1,a1] _ _ _:=qD (A:=X.A.in1) (show X.A.in1.handled=none from I.ok.hd hc) j1 a1 D.c1 us.toArray;have D2:Draws X.prog X.w X.A.in1 j2 [j2,a2] _ _ _:=qD (A:=X.A.in1) (show X.A.in1.handled=none from I.ok.hd hc) j2 a2 D.c2 vs.toArray;refine yc (A:=X.A) (k:=i) D.ap D1 D2 (by rw[Qq5,Qq5];omega) hz hTI hTO ⟨i1,pu⟩ ⟨i2,pv⟩ λg tk hk=>⟨rfl,I.Jz (t':=tk) (ch:=[z,TI,TO,j1,j2]) hf λb o hb e=>?_⟩;exact hk b o (λq=>hb (by simp[q])) (λq=>hb (by simp[q])) (λq=>hb (by simp[q])) (λq=>hb (by simp[q])) e
 self:=λA i s Q E st h=>wpAny_pyIter_zip st.1 h
end L2
namespace ZT
open PySem PySem.Spec PyProof.Rows L2 PySem.Builtin
abbrev h1T(h:Heap)(l1:Addr):Heap:=h.push { cls:=.type "tuple_iterator",data:=.fields #[.ref l1,.int 0 0] }
abbrev h2T(h:Heap)(l1 l2:Addr):Heap:=(h1T h l1).push { cls:=.type "tuple_iterator",data:=.fields #[.ref l2,.int 0 0] }
abbrev h3T(h:Heap)(l1 l2:Addr):Heap:=(h2T h l1 l2).push { cls:=.type "tuple",data:=.seq #[.ref h.objs.size,.ref (h1T h l1).objs.size] }
abbrev h4T(h:Heap)(l1 l2:Addr):Heap:=(h3T h l1 l2).push { cls:=.type "tuple",data:=.seq #[.none,.none] }
abbrev ZL(h:Heap)(l1 l2:Addr):Heap:=(h4T h l1 l2).push { cls:=.type "zip",data:=.fields #[.none,.bool false,.bool false,.ref (h2T h l1 l2).objs.size,.ref (h3T h l1 l2).objs.size] }
theorem Y4(l1 l2:Addr)(xs ys:Array Value):Meets (Builtin.«zip.__new__» ⟨[.type "zip",.ref l1,.ref l2],[]⟩) (λ_ R s=>s.heap.IsTuple l1 xs/\s.heap.IsTuple l2 ys/\
   R (.ok (.ret (.ref (h4T s.heap l1 l2).objs.size))) { s with heap:=ZL s.heap l1 l2 }):=
 .of_wp λprog w A R s h=>by
  obtain⟨hp,g,d,tk,os⟩:=s;obtain⟨hl1,hl2,h⟩:=h;have hsub:=sub_zip;have hL1:Heap.IsTuple (Shared.heap ⟨hp,g,d,tk,os⟩) l1 xs:=hl1;have hL2:Heap.IsTuple (Shared.heap ⟨hp.push { cls:=.type "tuple_iterator",data:=.fields #[.ref l1,.int 0 0] },g,d,tk,os⟩) l2 ys:=Heap.IsTuple.push hl2 _
  wp_walk using wpAny_pyIter_tuple hL1,wpAny_pyIter_tuple hL2
  exact⟨_,rfl,h⟩
section
variable{prog:Program}{w:World}{A:Around}{E:Value->Shared->Prop}{s:Shared}
theorem Vi{l1 l2:Addr}{xs ys:Array Value}{Q:Value->Shared->Prop}(hl1:s.heap.IsTuple l1 xs)(hl2:s.heap.IsTuple l2 ys)
  (h:∀g,IsZip g (s.heap.objs.size+4) (s.heap.objs.size+2) (s.heap.objs.size+3) .none->IsPair g (s.heap.objs.size+2) (.ref s.heap.objs.size) (.ref (s.heap.objs.size+1))->
   IsPair g (s.heap.objs.size+3) .none .none->g.IsTupleIter s.heap.objs.size l1 0->g.IsTupleIter (s.heap.objs.size+1) l2 0->g.objs.size=s.heap.objs.size+5->
   (∀c o,s.heap.get? c=some o->g.get? c=some o)->Q (.ref (s.heap.objs.size+4)) { s with heap:=g }) :
  wpAny (model prog w) A (call (.type "zip") [.ref l1,.ref l2]) Q E s:=by
 refine callType_new F.called_zip (by decide) (F.typeCall_zip_2 _ _) (F.newCall_zip_2 _ _) (λobj=>F.args_object_init_3 obj _ _) F.entry_zip_new (Y4 l1 l2 xs ys) ⟨hl1,hl2,?_⟩;have z1:(h1T s.heap l1).objs.size=s.heap.objs.size+1:=Qz3 ..;have z2:(h2T s.heap l1 l2).objs.size=s.heap.objs.size+2:=by rw[Qz3,z1]
 have z3:(h3T s.heap l1 l2).objs.size=s.heap.objs.size+3:=by rw[Qz3,z2]
 have z4:(h4T s.heap l1 l2).objs.size=s.heap.objs.size+4:=by rw[Qz3,z3]
 have z5:(ZL s.heap l1 l2).objs.size=s.heap.objs.size+5:=by rw[Qz3,z4]
 have g5:(ZL s.heap l1 l2).get? (h4T s.heap l1 l2).objs.size=some _:=Qwz _ rfl;have g4:(ZL s.heap l1 l2).get? (h3T s.heap l1 l2).objs.size=some _:=Qqk _ (Qwz _ rfl);have g3:(ZL s.heap l1 l2).get? (h2T s.heap l1 l2).objs.size=some _:=Qqk _ (Qqk _ (Qwz _ rfl));have g2:(ZL s.heap l1 l2).get? (h1T s.heap l1).objs.size=some _:=Qqk _ (Qqk _ (Qqk _ (Qwz _ rfl)));have g1:(ZL s.heap l1 l2).get? s.heap.objs.size=some _:=Qqk _ (Qqk _ (Qqk _ (Qqk _ (Qwz _ rfl))));show _/\_;rw[z2,z3,z4] at g5;rw[z1,z2] at g3;rw[z3] at g4;rw[z1] at g2;rw[z4];exact⟨⟨_,g5,rfl⟩,h _ g5 g3 g4 ⟨_,g1,rfl,rfl⟩ ⟨_,g2,rfl,rfl⟩ z5 λc o x=>Qqk _ (Qqk _ (Qqk _ (Qqk _ (Qqk _ x))))⟩
end
end ZT
namespace L2
open PySem PySem.Spec PyProof.Rows PySem.Builtin ZT
section
variable{X:Cx}
def adZ(K:PySem.W.Frag)(ta:TA):TI:=λσ H R=>ta σ H λvs H1=>∃a1 a2,vs=[.ref a1,.ref a2]/\(∃xs,kI K H1 a1 xs)/\(∃ys,kI K H1 a2 ys)/\R (Itz K a1 a2) H1
theorem X7{elts:List Expr}{k:Nat}{tp:Pos}{a b:Expr}{ta:TA}{p pos:Pos}(hg:Gl X "zip")(hm:X.mg "zip" = none)(ha:PA X [a,b] ta)(hs:starEach [a,b] X.env=(false,eval a X.env)::starEach [b] X.env:=by rfl)(hs2:starEach [b] X.env=[(false,eval b X.env)]:=by rfl):PI X (.Tuple elts k tp) (.Call (.Name "zip" p) [a,b] [] pos) (adZ X.K ta):=by
 intro pins s σ H R I h;refine Call_ (yz I hg hm PyProof.Rows.boot_zip (Qjy (fc (ha pos pins s σ H _ I h) λus s1 ⟨vs,H1,I1,r1,q1⟩=>?_) hs (by rw[hs2];rfl)));obtain⟨a1,a2,e,⟨xs,hx⟩,⟨ys,hy⟩,q⟩:=q1;subst e;cases r1 with
 | cons r rr=>
  cases rr with
  | cons r' rr'=>
   cases rr';cases r;cases r';obtain⟨u1,ru1,p1,z1⟩:=I1.tuple hx;obtain⟨u2,ru2,p2,z2⟩:=I1.tuple hy;have lt1:a1<s1.heap.objs.size:=by obtain⟨_,e,_⟩:=p1;exact Qq7 e
   have Wb:a2<s1.heap.objs.size:=by obtain⟨_,e,_⟩:=p2;exact Qq7 e
   refine Vi p1 p2 λg hz hTI hTO i1 i2 hsz hk=>?_;refine wpAny_pyIter_zip hz ?_;have I2:Inv X pins σ H1 { s1 with heap:=g }:=I1.kept (t':=s1.toks) hk;have own:∀b,s1.heap.objs.size<=b->rZ X pins H1 b:=λb hb=>I1.Rj hb (I1.hok.fresh hb);generalize hn:s1.heap.objs.size=n at *;have ne:∀{c d:Nat},c<d->(c:Addr)≠d:=λh e=>Qzk _ (by subst e;exact h);have ne':∀{c d:Nat},d<c->(c:Addr)≠d:=λh e=>Qzk _ (by subst e;exact h);have D:Apz (n+4) (n+2) (n+3) n (n+1) a1 a2:={
    t1:=ne (by omega),t2:=ne (by omega),t3:=ne (by omega),t4:=ne (by omega)
    b1:=by simp only[Qq2,Qwy,Qz2,not_or];exact⟨ne' (by omega),ne' (Qwx lt1 (by omega))⟩
    b2:=by simp only[Qq2,Qwy,Qz2,not_or];exact⟨ne' (by omega),ne' (Qwx Wb (by omega))⟩
    b3:=by simp only[Qq2,Qwy,Qz2,not_or];exact⟨ne' (by omega),ne' (Qwx lt1 (by omega))⟩
    b4:=by simp only[Qq2,Qwy,Qz2,not_or];exact⟨ne' (by omega),ne' (Qwx Wb (by omega))⟩
    b5:=by simp only[Qq2,Qwy,Qz2,not_or];exact⟨ne' (by omega),ne' (Qwx lt1 (by omega))⟩
    b6:=by simp only[Qq2,Qwy,Qz2,not_or];exact⟨ne' (by omega),ne' (Qwx Wb (by omega))⟩
    b7:=by simp only[Qq2,Qwy,Qz2,not_or];exact⟨ne' (by omega),ne' (Qwx lt1 (by omega))⟩
    b8:=by simp only[Qq2,Qwy,Qz2,not_or];exact⟨ne (by omega),ne' Wb⟩
    c1:=ne lt1,c2:=ne (Qwx Wb (by omega)) }
   refine⟨n+4,[n+4,n+2,n+3,n,n+1],_,_,H1,rfl,I2,NZ _ _ _ _ _ a1 a2 D,⟨hz,hTI,⟨_,_,hTO⟩,i1,i2⟩,λb hb=>own b ?_,q⟩;simp only[Qq2,Qwy,Qz2] at hb;rcases hb with rfl|rfl|rfl|rfl|rfl
   ·exact Nat.le_add_right _ _
   ·exact Nat.le_add_right _ _
   ·exact Nat.le_add_right _ _
   ·exact Qq0 _
   ·exact Nat.le_add_right _ _
end
end L2
namespace Ev
open PySem PySem.Spec PyProof.Rows L2 PySem.Builtin
section
variable{X:Cx}{C:Cfg}{pos:Pos}{e e2:Expr}
def xH(x y:List D):List D:=(x.zip y).map λp=>.tup [p.1,p.2]
def yP(a:dD):dD:=λenv=>bindR (a env) λds aK=>match ds with
 | [.tup x,.tup y]=>.ok (xH x y) aK
 | _=>.stuck
theorem Cj{K:Fg}{F:Hp}:∀{ds:List D} {vs:List V},bM K F ds vs->∀{i:Nat} {d:D},ds[i]? = some d->∃v,vs[i]? = some v/\Rep K F d v
 | [],vs,_,i,d,h=>by simp at h
 | x::ds,vs,r,i,d,h=>by
  obtain⟨v,w,rfl,p,q⟩:=r;cases i with
  | zero=>simp at h;subst h;exact⟨v,rfl,p⟩
  | succ i=>obtain⟨u,h1,h2⟩:=Cj q (i:=i) (by simpa using h);exact⟨u,by simpa using h1,h2⟩
end
theorem Im{prog:Program}{w:World}{A:Around}{E:Value->Shared->Prop}{s:Shared}{a:Addr}{o:Obj}{xs:Array Value}{k:Nat}{Q:Option Value->Shared->Prop}
  (hx:s.heap.get? a=some o) (hc:o.cls = .type "list") (hdat:o.data = .seq xs k) (hd:o.dict=none) (hA:A.handled=none)
  (h:∀h' tk,(∀b u,s.heap.get? b=some u->h'.get? b=some u)->Q none { s with heap:=h',toks:=tk }):wpAny (model prog w) A (getAttr? (.ref a) "keys") Q E s:=by
 obtain⟨hp,g,d,tk,os⟩:=s;obtain⟨oc,od,dt,sl⟩:=o;cases hc;cases hdat;cases hd;have hT:∀tk',(⟨hp,g,d,tk',os⟩:Shared).TypeIs (.ref a) "list":=λ_=>⟨_,hx,rfl⟩;have f1:=sub_AttributeError;have f3:=F.slot_list_getattribute.lookup;have f4:=F.slot_list_getattribute.bind (.ref a);have f5:=am_list_getattr_none;have hmiss:typeLookup (.type "list") "keys" = pure none:=by rw[typeLookup_type,builtinLookup_eq_fast];kernel_rfl
 unfold getAttr? getAttrBy? getAttrBy
 repeat (any_goals (first|assumption|exact hT _|((with_reducible show wpAny _ _ (call (Value.builtin "list.__getattribute__") _ _) _ _ _);refine call_meets F.slot_list_getattribute (hT _) am_entry_list_getattribute (F.args_list_getattribute_2 _ _) (meets_getattribute_miss_list a xs k sl "keys" _ hmiss (by decide +kernel) (by decide +kernel)) ⟨hx,hA,λh' tk' e hx'=>?_⟩)|wp_step))
 obtain⟨t',u',he⟩:=hx'.there;show wpAny _ _ (getattributeRaised _ _ _ _ _ _ _) _ _ _;unfold getattributeRaised
 repeat (any_goals (first|assumption|wp_step))
 exact h _ _ hx'.keeps
theorem z8{prog:Program}{w:World}{d it a:Addr}{its:List Value}(hdi:d≠it)(hda:d≠a)(hia:it≠a):∀(rs:List Pr) (i:Nat) (kvs:List (Key×Value)) (A:Around) (R:Result->Shared->Prop) (s:Shared),
  A.handled=none->its.drop i=rs.map (λr=>Value.ref r.p)->s.heap.IsList a its.toArray->s.heap.IsListIter it a i->s.heap.DictOf (cI prog w) d kvs->(∀r∈rs,Nb s.heap r/\r.p≠d/\r.p≠it)->kvs.length+rs.length<=sizeLine->
  (∀h' tk,h'.DictOf (cI prog w) d (putAll kvs rs)->(∀b o,b≠d->b≠it->s.heap.get? b=some o->h'.get? b=some o)->R (.ok (.ret .none)) { s with heap:=h',toks:=tk })->
  wpAny (model prog w) A.in1 (Builtin.«dict.update.loop» ⟨[.ref d,.ref it,rawInt i,.none],[]⟩) (λfin s'=>match fin with|.done f=>R (.ok f) s'|.again c'=>c'.quiet=true/\codeAny (model prog w) A c' R s') (λe s'=>R (.error e) s') s
 | [],i,kvs,A,R,s,hh,hdr,ht,hit,hD,_,_,h=>by
  unfold Builtin.«dict.update.loop»;have hx:its.toArray[i]? = none:=by
   have:its.length<=i:=by have:=Qx5 List.length hdr;rw[Qzj] at this;simp at this;omega
   simp;omega
  refine Qqx (wpAny_pyNext_list_end hh hit ht hx λh' hex=>?_);show wpAny _ _ (Builtin.Dict.addKeywords d [] >>= _) _ _ _;refine Qqx (Qq4 (Qq4 ?_));exact h h' s.toks (hD.extBut hex hdi) λb o _ h2 e=>hex b o h2 e
 | r::rs,i,kvs,A,R,s,hh,hdr,ht,hit,hD,hrs,hz,h=>by
  unfold Builtin.«dict.update.loop»;obtain⟨⟨hpt,hkey⟩,n1,n2⟩:=hrs r (Qqj ..);have hlt:i<its.length:=by have:=Qx5 List.length hdr;rw[Qzj,Qq3,Qqy] at this;omega
  have hx0:its[i]? = some (.ref r.p):=by
   have:=Qx5 (λl=>l[0]?) hdr
   simpa using this
  have hx:its.toArray[i]? = some (.ref r.p):=by simpa using hx0
  have ZF:its.drop (i+1)=rs.map (λr=>Value.ref r.p):=by
   have:=Qx5 List.tail hdr;rw[List.tail_drop] at this
   simpa using this
  refine Qqx (wpAny_pyNext_list_item hit ht hx λh' hit' hs'=>?_);have k1:∀b o,b≠it->s.heap.get? b=some o->h'.get? b=some o:=λb o hb e=>(hs'.2 b hb).trans e;obtain⟨op,hop,hcp,np,hdp⟩:=hpt;have hop':h'.get? r.p=some op:=k1 _ _ n2 hop;dsimp only;refine Qqx (Qz4 (Qqx (wpAny_tryCatch ?_)));unfold Builtin.Dict.pairItems;refine Qqx (wpAny_typeOf (T:="tuple") ⟨op,hop',hcp⟩ ?_);rw[if_pos (by decide)];unfold seqItems?;refine Qqx (Qqx (wpAny_load hop' ?_));rw[hdp];refine Qq4 (Qq4 ?_);show wpAny _ _ (holding [r.kv,r.v] (dictSet d r.kv r.v)) _ _ _;have hzk:kvs.length<=sizeLine:=by rw[Qqy] at hz;omega
  refine Qz4 (wpAny_dictSet_pairs (knd:=cI prog w) (kvs:=kvs) (k:=r.k) (hsz:=hzk) hkey (hD.sameBut hs' hdi) λh'' ZK hs''=>?_);have k2:∀b o,b≠d->b≠it->s.heap.get? b=some o->h''.get? b=some o:=λb o hb1 hb2 e=>(hs''.2 b hb1).trans (k1 b o hb2 e);have hc:((i:Int)+1)=((i+1:Nat):Int):=by push_cast;rfl
  rw[hc];refine Qq4 ⟨plainId_quiet dH _,codeAny_builtin jD ?_⟩;rw[Around.under_plainId dH _];have hln:(stored kvs r.k r.v).length<=kvs.length+1:=by have:=stored_length_le kvs r.k r.v;exact this
  refine z8 hdi hda hia rs (i+1) (stored kvs r.k r.v) A R _ hh ZF ?_ ?_ ZK (λq hq=>?_) (by rw[Qqy] at hz;omega) λh3 tk ZJ k3=>?_
  ·obtain⟨o,ho,q⟩:=ht;exact⟨o,k2 a o hda.symm hia.symm ho,q⟩
  ·obtain⟨o,ho,q⟩:=hit';exact⟨o,(hs''.2 it hdi.symm).trans ho,q⟩
  ·obtain⟨p1,p2,p3⟩:=hrs q (Qqq _ hq);exact⟨p1.keep p2 p3 k2,p2,p3⟩
  ·exact h h3 tk ZJ λb o hb1 hb2 e=>k3 b o hb1 hb2 (k2 b o hb1 hb2 e)
section
variable{X:Cx}{C:Cfg}{pos:Pos}
def HR(K:Fg):List V->Hp->VK->Prop:=λxs H Q=>∃(a:Addr) (rs:List Pv),xs=[.ref a]/\m8 K H a (rs.map λr=>V.ref r.1)/\(∀r∈rs,kI K H r.1 [kV r.2.1,r.2.2])/\rs.length<=sizeLine/\∀l,H l=none->Q (.ref l) (upd H l (.dK (ju [] rs)))
theorem Ji(hc:X.calm=true):jH X (.type "dict") (HR X.K):=by
 intro pins s σ H xs us Q I r h;obtain⟨a,rs,rfl,hq,hp,hz,q⟩:=h;obtain⟨u,rfl,rx⟩:=vals1 r;cases rx;obtain⟨its,rv,⟨ob,n,h1,h2,h4,h3⟩,_⟩:=I.list hq;obtain⟨ps,rfl,hps,hpr⟩:=yg I rs its rv hp;have hA:=I.ok.hd hc;have hlt:a<s.heap.objs.size:=Qq7 h1;refine callType_codes (Q₁:=λobj s₁=>obj = .ref s.heap.objs.size/\s₁ = { s with heap:=s.heap.push { cls:=.type "dict",data:=.dict #[] } }) F.kt_called_dict (F.kt_typeCall_dict_1 _) F.entry_dict_init (kt_code_dict_new _ ⟨rfl,rfl⟩) ?_;rintro obj s₁ ⟨rfl,rfl⟩;have hnew:(s.heap.push { cls:=.type "dict",data:=.dict #[] }).DictOf (cI X.prog X.w) s.heap.objs.size []:=Heap.DictOf.new s.heap;have k0:∀b o,s.heap.get? b=some o->(s.heap.push { cls:=.type "dict",data:=.dict #[] }).get? b=some o:=λb o e=>Qqk _ e;refine⟨hnew.typeIs,F.args_dict_init_2 _ _,?_⟩;unfold Builtin.«dict.__init__»;refine Qqx ?_;unfold Builtin.Dict.selfAndRest;refine Qqx (wpAny_notOrdered_dict hnew.typeIs ?_);show wpAny _ _ (pure (s.heap.objs.size,[Value.ref a])) _ _ _;refine Qq4 ?_;show wpAny _ _ (Builtin.Dict.updateFrom "dict.__init__" s.heap.objs.size (.ref a) [] .none) _ _ _;unfold Builtin.Dict.updateFrom;refine Qqx (wpAny_typeOf (T:="list") ⟨ob,k0 _ _ h1,h2⟩ ?_);rw[if_pos (by decide)];refine Qqx (Im (k0 _ _ h1) h2 h3 h4 hA λh' tk hk=>?_);simp only[Option.isNone_none,if_true];refine Qqx (wpAny_rule (Qqx ?_));have hT:h'.IsList a (ps.map λr=>Value.ref r.p).toArray:=⟨ob,hk _ _ (k0 _ _ h1),h2,n,h3⟩;refine wpAny_pyIter_list hT ?_;refine Qq4 ⟨plainId_quiet dH _,codeAny_builtin jD ?_⟩;rw[Around.under_plainId dH _];have hD0:h'.DictOf (cI X.prog X.w) s.heap.objs.size []:=hnew.keep hk;have Ir:s.heap.objs.size<h'.objs.size:=by obtain⟨o,_,_,ho,_⟩:=hD0;exact Qq7 ho
 have halt:a<h'.objs.size:=Qq7 (hk _ _ (k0 _ _ h1));have hda:s.heap.objs.size≠a:=Qzy hlt;refine z8 (Qw5 Ir) hda (Qzy halt) ps 0 [] X.A.in1 _ _ hA rfl ?_ ⟨_,Qwz _ rfl,rfl,rfl⟩ (hD0.push _) (λq hq=>?_) ?_ λh3 tk' ZJ k3=>?_
 ·obtain⟨o,ho,r⟩:=hT;exact⟨o,Qqk _ ho,r⟩
 ·obtain⟨⟨o,ho,r⟩,y⟩:=hps q hq;have Ra:q.p<s.heap.objs.size:=Qq7 ho;refine⟨⟨⟨o,Qqk _ (hk _ _ (k0 _ _ ho)),r⟩,y⟩,Qw5 Ra,Qw5 (Nat.lt_trans Ra Ir)⟩
 ·rw[<-Paired.length hpr]
  simpa using hz
 ·refine⟨rfl,?_⟩;have kk:∀b u,s.heap.get? b=some u->h3.get? b=some u:=λb u e=>by
   have hb:b<s.heap.objs.size:=Qq7 e;exact k3 b u (Qw5 hb) (Qw5 (Nat.lt_trans hb Ir)) (Qqk _ (hk _ _ (k0 _ _ e)))
  have hsys:(s.heap.objs.size == sysModules)=false:=by rw[Qzw];exact Qzy I.big
  refine⟨.ref s.heap.objs.size,upd H s.heap.objs.size (.dK (ju [] rs)),I.laid (t':=tk') kk (Qq0 _) ⟨?_,hsys,_,uY hpr .nil,ZJ⟩,rfl,q _ (I.hok.fresh (Qq0 _))⟩;have:=pW rs [];exact Qq6 this (by simpa using hz)
def yM:List D->Option D
 | [.lst ds]=>(jw ds).map λps=>.dct (eE [] ps)
 | _=>none
theorem Rz:CallD C (HR C.K) yM:=by
 intro Pr F env σ H ds d vs Q r p e q;unfold yM at e;split at e
 ·rename_i ds;obtain⟨v,w,rfl,p1,p2⟩:=p;cases p2;obtain⟨ps,e1,rfl⟩:=Qwj.mp e;obtain⟨z,a,us,rfl,h1,h2⟩:=p1.lst r.fr;obtain⟨rs,rfl,g1,g2⟩:=uZ (kvs:=[]) (ks:=[]) e1 h2 rfl;have hl:rs.length=ds.length:=by
   have:=h2.length
   rwa [Qqw] at this
  refine⟨a,rs,rfl,m8.of h1,λr' hr=>aM.tupK r.fr (g1 r' hr),by rw[hl];exact z,λl hlf=>?_⟩;obtain⟨F2,r2,s2,p2⟩:=(r.fresh (o:=.dK (ju [] rs)) hlf).keep (RQ.of (d:=.dct (eE [] ps)) r hlf ⟨by
   have h5:=lX ps [];rw[rF e1] at h5;exact Qq6 h5 (by simpa using z),_,aR,g2⟩)
  exact q _ _ F2 r2 s2 p2
 ·cases e
end
end Ev
namespace SX
open PySem PySem.Spec PyProof.Rows L2 PySem.Builtin
def led(w:World):Bool:=!(w.params.followText "set-order")
structure TOk(P:Program)(w:World)(es:Array (Int×Value))(t:SetTable)(ys:List Str):Prop where
 el:ElemsOf (strKind P w) es.toList
 tx:∃ss:List Str,StrsAre (es.toList.map (·.2)) ss/\ss.Perm ys
 fit:t.fits es.size=true
 ld:t.led=led w
 pl:es.size≠0->t.plain=false
def Jq(P:Program)(w:World)(h:Heap)(a:Addr)(ys:List Str):Prop:=
 ∃o es ep t,h.get? a=some o/\o.ExactSet/\o.data = .set es ep t/\TOk P w es t ys
open PySem PySem.Spec PyProof.Rows L2 PySem.Builtin Ev
def acB(P:Program)(w:World)(a:Addr)(ys:List Str):HO:=.ext λh=>Jq P w h a ys
theorem jJ{x y:List Nat}(h:Ev.strOf x=Ev.strOf y):x=y:=by
 have:=Qx5 (λs:Str=>s.cps.toList) h
 simpa[Ev.strOf] using this
end SX
namespace Ev
open PySem PySem.Spec PyProof.Rows L2 PySem.Builtin
section
variable{X:Cx}{C:Cfg}{pos:Pos}
structure PXL(X:Cx)(C:Cfg)(es:List Expr)(ev:dD):Prop where
 go:RP X C es ev
theorem Tv:PXL X C [] ak:=⟨JR⟩
end
open PySem L2
theorem nr{α:Type}{a b:α}(h:a=b):a=b:=h
theorem bR{α β:Type}(a:α)(e:Env)(f:α->Env->R β):bindR (.ok a e) f=f a e:=nr rfl
def fC{α:Type}(_:Env):R α:=.stuck
theorem Rg(xs:List D)(lo hi:Option Int):ZM (.tup xs) lo hi=some (.tup (cutD xs lo hi)):=by
 show(if HT.fU xs.length 0 lo=0/\HT.fU xs.length xs.length hi=xs.length then some (D.tup xs) else some (D.tup (cutD xs lo hi)))=_;split
 ·rename_i h;unfold cutD;rw[h.1,h.2];simp
 ·rfl
theorem Xh(n:Nat):lB 0 1 n=(List.range n).map λ(i:Nat)=>D.int (i:Int):=by
 unfold lB;apply Qj8;intro i _
 congr 1
 omega
theorem adJ{n:Nat}(h:n<2^62):HN [.int (n:Int)]=some ((List.range n).map λ(i:Nat)=>D.int (i:Int)):=by
 have hf:lW (n:Int)=true:=by unfold lW;simp only[Qx9,decide_eq_true_eq];omega
 show(if lW (n:Int)=true then some (lB 0 1 (n:Int).toNat) else none)=_;rw[if_pos hf,Qkk,Xh]
theorem We{α:Type}{g:GV}{c:fZ}{e:Ev}(enc:α->D)(ext:α->Env)(p:α->Bool)(out:α->D)(env:Env)(k:Nat):∀(l:List α) (vs:Env),vs.length=k->
  (∀a∈l,(ext a).length=k/\(∀vs:Env,vs.length=k->g (enc a) (env++vs)=some (env++ext a))/\c (env++ext a) = .ok (p a) (env++ext a)/\(p a=true->e (env++ext a) = .ok (out a) (env++ext a)))->
  ∃vs',vs'.length=k/\Ik g c e (l.map enc) (env++vs) = .ok ((l.filter p).map out) (env++vs')
 | [],vs,hv,_=>⟨vs,hv,rfl⟩
 | a::l,vs,hv,h=>by
  obtain⟨h1,h2,h3,h4⟩:=h a Qqj;obtain⟨vs',h5,h6⟩:=We enc ext p out env k l (ext a) h1 λb hb=>h b (Qqq _ hb);refine⟨vs',h5,?_⟩;rw[Qq3];unfold Ik;rw[h2 vs hv];show bindR (c (env++ext a)) _=_;rw[h3,bR];cases hp:p a with
  | true=>rw[if_pos rfl,h4 hp,bR,h6,bR,List.filter_cons_of_pos hp,Qq3]
  | false=>rw[if_neg Qw8,h6,List.filter_cons_of_neg (by rw[hp];exact Qw8)]
theorem Df{α:Type}{lo n:Nat}{it:dD}{g:GV}{c:fZ}{e:Ev}{env aK:Env}(l:List α)(enc:α->D)(ext:α->Env)(p:α->Bool)(out:α->D)(hit:it env = .ok (l.map enc) aK)(hlo:aK.length=lo)
  (h:∀a∈l,(ext a).length=n - lo/\(∀vs:Env,vs.length=n - lo->g (enc a) (aK++vs)=some (aK++ext a))/\c (aK++ext a) = .ok (p a) (aK++ext a)/\(p a=true->e (aK++ext a) = .ok (out a) (aK++ext a)))
  (hz:l.length<=sizeLine):gC lo n it g c e env = .ok (.lst ((l.filter p).map out)) aK:=by
 obtain⟨vs',h5,h6⟩:=We enc ext p out aK (n - lo) l (List.replicate (n - lo) none) Qx3 h;have:=uf hit hlo h6 (Qq6 (by rw[Qqw];exact List.length_filter_le _ _) hz);rw[this,<-hlo,List.take_left]
theorem rP{α:Type}{lo n:Nat}{it:dD}{e:Ev}{env aK:Env}(l:List α)(enc:α->D)(out:α->D)(hit:it env = .ok (l.map enc) aK)(hlo:aK.length=lo)(hn:n=lo+1)
  (h:∀a∈l,e (aK++[some (false,enc a)]) = .ok (out a) (aK++[some (false,enc a)])) (hz:l.length<=sizeLine):gC lo n it (aj lo) dC e env = .ok (.lst (l.map out)) aK:=by
 subst hn hlo;have:=Df (lo:=aK.length) (n:=aK.length+1) (it:=it) (g:=aj aK.length) (c:=dC) (e:=e) (env:=env) l enc (λa=>[some (false,enc a)]) (λ_=>true) out hit rfl (λa ha=>⟨by simp,λvs hv=>?_,rfl,λ_=>h a ha⟩) hz
 ·rw[this,List.filter_eq_self.mpr (λ_ _=>rfl)]
 ·have hv:vs.length=1:=by omega
  obtain⟨v,rfl⟩:=List.length_eq_one_iff.mp hv;unfold aj;rw[List.set_append_right _ _ (Qq0 _),Nat.sub_self]
  rfl
theorem Ku{α:Type}{lo n:Nat}{it:dD}{c:fZ}{e:Ev}{env aK:Env}(l:List α)(enc:α->D)(p:α->Bool)(out:α->D)(hit:it env = .ok (l.map enc) aK)(hlo:aK.length=lo)(hn:n=lo+1)
  (hc:∀a∈l,c (aK++[some (false,enc a)]) = .ok (p a) (aK++[some (false,enc a)]))
  (h:∀a∈l,p a=true->e (aK++[some (false,enc a)]) = .ok (out a) (aK++[some (false,enc a)])) (hz:l.length<=sizeLine):gC lo n it (aj lo) c e env = .ok (.lst ((l.filter p).map out)) aK:=by
 subst hn hlo;refine Df (lo:=aK.length) (n:=aK.length+1) l enc (λa=>[some (false,enc a)]) p out hit rfl (λa ha=>⟨by simp,λvs hv=>?_,hc a ha,λhp=>h a ha hp⟩) hz;have hv:vs.length=1:=by omega
 obtain⟨v,rfl⟩:=List.length_eq_one_iff.mp hv;unfold aj;rw[List.set_append_right _ _ (Qq0 _),Nat.sub_self]
 rfl
open PySem PySem.Spec PyProof.Rows L2
section
variable{X:Cx}{C:Cfg}{pos:Pos}{x:Expr}{a:Ev}
def aeg:D->Option Int->Option Int->Option D
 | .str z,lo,hi=>some (.str (cutD z lo hi))
 | .tup xs,lo,hi=>some (.tup (cutD xs lo hi))
 | .lst xs,lo,hi=>some (.lst (cutD xs lo hi))
 | .arr xs,lo,hi=>some (.lst (cutD xs lo hi))
 | _,_,_=>none
def Wn(a:Ev)(lo hi:R9):Ev:=λenv=>bindR (a env) λd aK=>bindR (lo aK) λl dU=>bindR (hi dU) λu Dj=>ig (aeg d l u) Dj
end
structure SX(X:Cx)(C:Cfg)(e:Expr)(ev:Ev):Prop where
 u:Ev.PX X C e ev
structure M9(X:Cx)(C:Cfg)(e:Expr)(ev:Ev):Prop where
 u:Ev.RN X C e ev
structure R4(X:Cx)(C:Cfg)(e:Expr)(ev:Ev):Prop where
 u:Ev.R6 X C e ev
structure KZ(X:Cx)(C:Cfg)(e:Expr)(ev:fZ):Prop where
 u:Ev.PXT X C e ev
structure SXW(X:Cx)(C:Cfg)(e:Expr)(ev:fZ):Prop where
 u:Ev.PXW X C e ev
structure G6(X:Cx)(C:Cfg)(e:List Expr)(ev:dD):Prop where
 u:Ev.RP X C e ev
structure zz(X:Cx)(C:Cfg)(e:List Expr)(ev:dD):Prop where
 u:Ev.Vt X C e ev
structure SXL(X:Cx)(C:Cfg)(e:List Expr)(ev:dD):Prop where
 u:Ev.PXL X C e ev
structure G5(X:Cx)(C:Cfg)(e:Stmt)(ev:cu):Prop where
 u:Ev.R5 X C e ev
structure fQ(X:Cx)(C:Cfg)(e:List Stmt)(ev:cu):Prop where
 u:Ev.qK X C e ev
structure Vq(X:Cx)(C:Cfg)(e:List Expr)(ev:fZ):Prop where
 u:Ev.Nf X C e ev
structure SXP(X:Cx)(C:Cfg)(e:Option Expr)(ev:R9):Prop where
 u:Ev.PXP X C e ev
structure SXI(X:Cx)(C:Cfg)(tg e:Expr)(ev:dD):Prop where
 u:Ev.WR X C tg e ev
structure WN(X:Cx)(C:Cfg)(lo:Nat)(e:Expr)(ev:GV):Prop where
 u:Ev.Vs X C lo e ev
structure Vr(X:Cx)(C:Cfg)(lo:Nat)(e:List Expr)(ev:R8):Prop where
 u:Ev.aar X C lo e ev
section
variable{X:Cx}{C:Cfg}{pos p px:Pos}{x y z:Expr}{a b c:Ev}{t u:fZ}{i:Nat}{n:Str}{e:Expr}{es:List Expr}{ea:dD}{apos:Pos}{e2:Expr}
theorem az{e:Expr}{es:List Expr}{a:Ev}{r:dD}(ha:SX X C e a)(hr:G6 X C es r)(hs:starEach (e::es) X.env=(false,eval e X.env)::starEach es X.env:=by rfl):G6 X C (e::es) (aa a r):=⟨Ev.Fj ha.u hr.u hs⟩
theorem bA(i:Nat)(hN:X.N[i]? = some n:=by rfl)(hv:uz X.env.scope n:=by first|exact Or.inl rfl|exact Or.inr (Or.inl rfl)|exact Or.inr (Or.inr rfl))(hd:lK n:=by decide)(hcd:tW n:=by decide):SX X C (.Name n pos) (aO i):=⟨Xz i hN hv hd hcd⟩
theorem cD{X:Cx}{C:Cfg}{n:Str}{pos:Pos}{es:List Expr}{r:dD}(i:Nat)(hr:G6 X C es r)(hN:X.N[i]? = some n:=by rfl)(hv:uz X.env.scope n:=by first|exact Or.inl rfl|exact Or.inr (Or.inl rfl)|exact Or.inr (Or.inr rfl))(hd:lK n:=by decide)(hcd:tW n:=by decide)(hs:starEach (.Name n pos::es) X.env=(false,eval (.Name n pos) X.env)::starEach es X.env:=by rfl):G6 X C (.Name n pos::es) (aa (aO i) r):=az (bA i hN hv hd hcd) hr hs
theorem aq  : G6 X C [] ak:=⟨Ev.JR ⟩
theorem bf{e:Expr}{ev:Ev}(h:SX X C e ev):M9 X C e ev:=⟨Ev.PX.b h.u⟩
theorem aX{i:Int}{j:Nat}:SX X C (.Constant (.int i) j pos) (jG (.int i)):=⟨Ev.XJ ⟩
theorem ao{st:Stmt}{rest:List Stmt}{a b:cu}(h1:G5 X C st a)(h2:fQ X C rest b):fQ X C (st::rest) (aC a b):=⟨(Qa h1.u h2.u).imp λD σ H h=>by
 obtain⟨Pr,F,env,r,f⟩:=h;refine⟨Pr,F,env,r,?_⟩;unfold aC at f;cases e:a env with
 | nx e1=>rw[e] at f;exact λσ' H' F' r' s'=>⟨Pr,F',e1,r',f.mono s'⟩
 | rt o d e1=>rw[e] at f;cases o<;>exact f
 | bk e1=>rw[e] at f;exact f
 | ct e1=>rw[e] at f;exact f
 | stuck=>rw[e] at f;exact f⟩
theorem aL{st:Stmt}{a:cu}(h1:G5 X C st a):fQ X C [st] a:=⟨JX h1.u⟩
theorem aN{lo:Nat}(i:Nat)(hnd:jy X.N=true:=by rfl)(hlo:Nat.ble lo i=true:=by rfl)(hfx:C.fx i=none:=by rfl)(hi:X.N[i]? = some n:=by rfl)(hx:Loc X.env.scope n:=by first|exact Or.inl rfl|exact Or.inr rfl)(hf:X.fn n=true\/X.env.scope.names.lookup n=some .local:=by first|exact .inl rfl|exact .inr rfl):WN X C lo (.Name n pos) (aj i):=⟨PK (gj hnd) hi hx (Qx4 hlo) hfx hf⟩
theorem bF(z:List Nat){x:Str}{j:Nat}(hz:x=strOf z:=by decide +kernel)(hl:z.length<=sizeLine:=by decide):SX X C (.Constant (.str x) j pos) (jG (.str z)):=⟨by
 subst hz;refine Ye.imp λσ H Q h=>?_;obtain⟨Pr,F,env,env',d,r,e,q⟩:=h;cases e;exact q _ _ F r (aM.refl F) ⟨rfl,hl⟩⟩
theorem bZ(i:Nat)(hN:X.N[i]? = some n:=by rfl)(hv:uz X.env.scope n:=by first|exact Or.inl rfl|exact Or.inr (Or.inl rfl)|exact Or.inr (Or.inr rfl))(hd:lK n:=by decide)(hcd:tW n:=by decide):M9 X C (.Name n pos) (bw i):=⟨TF i hN hv hd hcd⟩
theorem bI{pos':Pos}(i:Nat)(he:SX X C e a)(hnd:jy X.N=true:=by rfl)(hfx:C.fx i=none:=by rfl)(hi:X.N[i]? = some n:=by rfl)(hx:Loc X.env.scope n:=by first|exact Or.inl rfl|exact Or.inr rfl)(hs:swapsWith e (some (.Name n pos')) pos.line X.env=pure false:=by rfl)(hf:X.fn n=true\/X.env.scope.names.lookup n=some .local:=by first|exact .inl rfl|exact .inr rfl):G5 X C (.Assign [.Name n pos'] e pos) (aP a (aj i)):=⟨Tp (gj hnd) hi hx hfx he.u hs hf⟩
theorem aY{e:Expr}{a:Ev}(h:SX X C e a):G5 X C (.Return (some e) pos) (bC a):=⟨(HX h.u).imp λD σ H hq=>by
 obtain⟨Pr,F,env,r,f⟩:=hq;obtain⟨d,aK,e1,f1⟩:=dg f;exact⟨Pr,F,env,aK,d,r,e1,λv H1 F1 r1 s1 p1=>f1 v σ H1 F1 r1 s1 p1⟩⟩
theorem bK{e:Expr}{a:Ev}(h:M9 X C e a)(hs:Lj e X.env:=by rfl):zz X C [e] (aa a ak):=⟨(jx h.u yh hs).imp λσ H Q hq=>by
 obtain⟨Pr,F,env,env',ds,rl,e,q⟩:=hq;obtain⟨d1,aK,e1,e2⟩:=aU e;cases e2;exact⟨Pr,F,env,env',d1,rl,e1,λv H1 F1 r1 s1 p1=>q _ H1 F1 r1 s1 ⟨v,[],rfl,p1,rfl⟩⟩⟩
theorem bO{k k':Nat}{m:Nat}{ps:List Str}{g:List D->Option D}(O:Own X.prog X.w X.K X.mg X.base n k ps (jU X.K m g))(G:Good X C)(hr:eV k' X.A)(ha:G6 X C (e::es) ea)(hn:∀env ds env',ea env = .ok ds env'->ds.length=m)(hk:Nat.ble k k'=true:=by rfl)(hg:Gl X n:=by rfl)(hdb:lK n:=by decide)(he:starEach (e::es) X.env=(false,eval e X.env)::starEach es X.env:=by rfl)(hpl:(backTo pos (starEach es X.env)).any (·.1)=false:=by rfl):SX X C (.Call (.Name n p) (e::es) [] pos) (au g ea):=⟨by
 obtain⟨f,fd,h1,h2,h3,h4⟩:=O;rw[G.K] at h1;have h1':j4 X.prog X.w X.K X.mg X.base vO k f fd ps (jU C.K m g):=by rw[G.K];exact h1
 exact XC h1' (hr.mono (Qx4 hk)) hg h2 h3 h4 ha.u hn hdb he hpl⟩
theorem bU{es:List Expr}{r:dD}{k:Nat}(h:G6 X C es r):SX X C (.Tuple es k pos) (bN r):=⟨(Yd h.u).imp λσ H Q hq=>by
 obtain⟨Pr,F,env,env',d,rl,e,q⟩:=hq;obtain⟨ds,aK,e1,e2⟩:=aU e;split at e2
 ·rename_i hz;cases e2;refine⟨Pr,F,env,env',ds,rl,e1,λvs H1 F1 r1 s1 p1=>⟨by rw[p1.length];exact hz,λp hp=>?_⟩⟩;obtain⟨r2,s2⟩:=r1.new (o:=.tup vs) hp;exact q _ _ _ r2 (s1.trans s2) ⟨hz,p,vs,rfl,kI.of aR,bM.mono s2 _ _ p1⟩
 ·cases e2⟩
theorem aD{lo:Nat}{e:Expr}{es:List Expr}{g:GV}{gs:R8}(h1:WN X C lo e g)(h2:Vr X C lo es gs)(hs:(assignEach (e::es) X.env).map (·.2)=assign e X.env::(assignEach es X.env).map (·.2):=by rfl):Vr X C lo (e::es) (aG g gs):=⟨(Qj h1.u h2.u hs).imp λv σ H Q h=>by
 obtain⟨Pr,F,env,env',ds,r,p,e,q⟩:=h;cases ds with
 | nil=>cases e
 | cons d ds=>
  obtain⟨u,w,rfl,p1,p2⟩:=p;obtain⟨aK,e1,e2⟩:=Qzx.mp e;refine⟨u,w,rfl,Pr,F,env,aK,d,r,p1,e1,λσ1 H1 F1 r1 s1 t1=>?_⟩;exact⟨Pr,F1,aK,env',ds,r1,bM.mono s1 _ _ p2,e2,λσ2 H2 F2 r2 s2 t2=>q σ2 H2 F2 r2 (s1.trans s2) (t2.trans t1)⟩⟩
theorem cU{e:Expr}{ev:Ev}(h:R4 X C e ev):SX X C e ev:=⟨Ev.R6.px h.u⟩
theorem fW(i:Nat)(G:Good X C)(hb:M9 X C y b)(hN:X.N[i]? = some n:=by rfl)(hv:uz X.env.scope n:=by first|exact Or.inl rfl|exact Or.inr (Or.inl rfl)|exact Or.inr (Or.inr rfl))(hs:uA y:=by intro _ _;rfl)(hd:lK n:=by decide)(hcd:tW n:=by decide):SX X C (.Subscript (.Name n px) y pos) (aB fJ i b):=⟨XH i G.K hN hv hb.u hs hd hcd⟩
theorem jT{k k':Nat}{m:Nat}{ps:List Str}{g:List D->Option (D×D)}{v:Str}{pv:Pos}(i:Nat)(O:Own X.prog X.w X.K X.mg X.base n k ps (xR X.K m g))(G:Good X C)(hr:eV k' X.A)(ha:G6 X C es ea)(hn:∀env ds env',ea env = .ok ds env'->ds.length+1=m)(hk:Nat.ble k k'=true:=by rfl)(hN:X.N[i]? = some v:=by rfl)(hv:uz X.env.scope v:=by first|exact Or.inl rfl|exact Or.inr (Or.inl rfl)|exact Or.inr (Or.inr rfl))(hg:Gl X n:=by rfl)(hdb:lK n:=by decide)(he:starEach (.Name v pv::es) X.env=(false,eval (.Name v pv) X.env)::starEach es X.env:=by rfl)(hpl:(backTo pos (starEach es X.env)).any (·.1)=false:=by rfl)(hd:lK v:=by decide)(hcd:tW v:=by decide):SX X C (.Call (.Name n p) (.Name v pv::es) [] pos) (f9 g i ea):=⟨by
 obtain⟨f,fd,h1,h2,h3,h4⟩:=O;rw[G.K] at h1;have h1':j4 X.prog X.w X.K X.mg X.base vO k f fd ps (xR C.K m g):=by rw[G.K];exact h1
 exact abt hN hv h1' (hr.mono (Qx4 hk)) hg h2 h3 h4 ha.u hn hdb he hpl hd hcd⟩
theorem gZ{op:Operator}{g:D->D->Option D}(o:Bi X C op g)(ha:SX X C x a)(hb:M9 X C y b):SX X C (.BinOp x op y pos) (aQ g a b):=⟨let ⟨_,h1,h2⟩:=o.ex;abq h1 h2 ha.u hb.u⟩
theorem lg{e:Expr}{es:List Expr}{a:Ev}{r:dD}(ha:SX X C e a)(hr:SXL X C es r)(hs:starEach (e::es) X.env=(false,eval e X.env)::starEach es X.env:=by rfl):SXL X C (e::es) (aa a r):=⟨⟨Ev.Fj ha.u hr.u.go hs⟩⟩
theorem jm{op:Operator}{g:D->D->Option D}(i:Nat)(o:Bi X C op g)(hb:M9 X C y b)(hN:X.N[i]? = some n:=by rfl)(hv:uz X.env.scope n:=by first|exact Or.inl rfl|exact Or.inr (Or.inl rfl)|exact Or.inr (Or.inr rfl))(hd:lK n:=by decide)(hcd:tW n:=by decide):SX X C (.BinOp (.Name n px) op y pos) (aB g i b):=⟨let ⟨_,h1,h2⟩:=o.ex;XD i hN hv h1 h2 hb.u hd hcd⟩
theorem cY{c:Expr}{a b:List Stmt}{t:fZ}{ea eb:cu}(hc:KZ X C c t)(ha:fQ X C a ea)(hb:fQ X C b eb):G5 X C (.If c a b pos) (fD t ea eb):=⟨(abw hc.u ha.u hb.u).imp λD σ H h=>by
 obtain⟨Pr,F,env,r,f⟩:=h;obtain⟨k,aK,e1,f1⟩:=dg f;refine⟨Pr,F,env,aK,k,r,e1,λH1 F1 r1 s1=>?_⟩;split at f1
 ·rename_i hk;rw[if_pos hk];exact⟨Pr,F1,aK,r1,f1.mono s1⟩
 ·rename_i hk;rw[if_neg hk];exact⟨Pr,F1,aK,r1,f1.mono s1⟩⟩
theorem cT{es:List Expr}{r:dD}(h:G6 X C es r):R4 X C (.List es pos) (cG r):=⟨Ev.JQ h.u⟩
theorem cB  : fQ X C [] cC:=⟨Ev.Pq ⟩
theorem iT{tg:Expr}(G:Good X C)(h:SX X C x a):SXI X C tg x (il a):=⟨Tw G.K h.u⟩
theorem iQ{b:Bool}{j:Nat}:SX X C (.Constant (.bool b) j pos) (jG (.bl b)):=⟨Ev.abu ⟩
theorem nO{elt tg iter:Expr}{ifs:List Expr}{scope:Scope}(N':List Str){it:dD}{g:GV}{cc:fZ}{ee:Ev}(lo:Nat)(ok:lR X scope N')(G:Good X C)(hi:SXI X C tg iter it)(bg:∀X',jh X scope N' X'->WN X' C lo tg g)(bc:∀X',jh X scope N' X'->Vq X' C ifs cc)(be:∀X',jh X scope N' X'->SX X' C elt ee)(hs:∀x,foldedSetIterable iter X.env x=pure x:=by intro _;rfl):R4 X C (.ListComp elt [⟨tg,iter,ifs,0⟩] scope pos) (gC lo N'.length it g cc ee):=⟨Ev.adS N' lo ok G hi.u (λX1 h1=>(bg X1 h1).u) (λX1 h1=>(bc X1 h1).u) (λX1 h1=>(be X1 h1).u) hs⟩
theorem oE(G:Good X C)(hm:X.mg "len" = none)(ha:zz X C [e] ea)(hg:Gl X "len":=by rfl)(he:Lj e X.env:=by rfl):SX X C (.Call (.Name "len" p) [e] [] pos) (au jN ea):=⟨tH (by rw[<-G.K];exact RC) Z8 hg hm PySem.boot_len ha.u (by decide) (by decide) he rfl⟩
theorem d7{e:Expr}{a:Ev}(h:SX X C e a)(he:∀whole,isTrue e X.env whole=(do let v <-whole;standAt e.pos;holding [v] (truthy v)):=by intro _;rfl):KZ X C e (eF a):=⟨(XR h.u he).imp λσ H Q hq=>Oa hq⟩
theorem bQ{lo:Nat}:Vr X C lo [] cA:=⟨Ev.PJ ⟩
theorem dO{lo:Nat}{k:Nat}{gs:R8}{m:Nat}(G:Good X C)(h:Vr X C lo es gs)(hn:(assignEach es X.env).length=m:=by rfl)(hst:(assignEach es X.env).findIdx? (·.1)=none:=by rfl):WN X C lo (.Tuple es k pos) (cj m gs):=⟨Tz G.calm G.K h.u hn hst⟩
theorem gh{X:Cx}{C:Cfg}:Vq X C [] dC:=⟨Ev.PB ⟩
theorem mX{tg iter:Expr}{body:List Stmt}{it:dD}{g:GV}{bs:cu}(G:Good X C)(hi:SXI X C tg iter it)(hg:WN X C 0 tg g)(hb:fQ X C body bs)(hp:PassesOwn (model X.prog X.w) X.A X.env X.xe:=by exact PassesOwn.never)(hs:∀x,foldedSetIterable iter X.env x=pure x:=by intro _;rfl):G5 X C (.For tg iter body [] pos) (iu it g bs):=⟨Tr hp G.calm hi.u hg.u hb.u hs⟩
theorem Bt{op:CmpOp}{g:D->D->Option D}(o:Cm X C op g)(ha:SX X C x a)(hb:M9 X C y b)(hm:behindInMarks op y=false:=by rfl):KZ X C (.Compare x [op] [y] pos) (eF (aQ g a b)):=⟨let ⟨_,h1,h2⟩:=o.ex;Tn h1 h2 ha.u hb.u hm⟩
theorem jL{pos':Pos}(i:Nat)(he:R4 X C e a)(hnd:jy X.N=true:=by rfl)(hfx:C.fx i=none:=by rfl)(hi:X.N[i]? = some n:=by rfl)(hx:Loc X.env.scope n:=by first|exact Or.inl rfl|exact Or.inr rfl)(hs:swapsWith e (some (.Name n pos')) pos.line X.env=pure false:=by rfl)(hf:X.fn n=true\/X.env.scope.names.lookup n=some .local:=by first|exact .inl rfl|exact .inr rfl):G5 X C (.Assign [.Name n pos'] e pos) (dF i a):=⟨Tq (gj hnd) hi hx hfx he.u hs hf⟩
theorem gb(G:Good X C)(hm:X.mg "tuple" = none)(ha:zz X C [e] ea)(hg:Gl X "tuple":=by rfl)(he:Lj e X.env:=by rfl):SX X C (.Call (.Name "tuple" p) [e] [] pos) (au cV ea):=⟨qy (T:="tuple") (r:=O9 C.K) (by rw[<-G.K];exact zW) Ry hg hm (by decide +kernel) ha.u (by decide) (by decide) he rfl⟩
theorem lr(G:Good X C)(ha:SX X C x a)(hb:M9 X C y b)(hs:uA y:=by intro _ _;rfl):SX X C (.Subscript x y pos) (aQ fJ a b):=⟨abr G.K ha.u hb.u hs⟩
theorem fj{op:CmpOp}{g:D->D->Option D}(i:Nat)(o:Cm X C op g)(hb:M9 X C y b)(hN:X.N[i]? = some n:=by rfl)(hv:uz X.env.scope n:=by first|exact Or.inl rfl|exact Or.inr (Or.inl rfl)|exact Or.inr (Or.inr rfl))(hm:behindInMarks op y=false:=by rfl)(hd:lK n:=by decide)(hcd:tW n:=by decide):KZ X C (.Compare (.Name n px) [op] [y] pos) (eF (aB g i b)):=⟨by
 obtain⟨r,h1,h2⟩:=o.ex;exact(JW h1 (iR hN hv hd hcd) hb.u hm).imp λσ H Q h=>uv h2 σ H _ (Oa h)⟩
theorem dG{tg e:Expr}{a:Ev}{g:GV}(he:SX X C e a)(hg:WN X C 0 tg g)(hs:swapsWithSole [tg] e pos.line X.env=pure false:=by rfl)(hw:swappedStores [tg] e X.env=pure none:=by rfl)(h1:(assignEach [tg] X.env).map (·.2)=[assign tg X.env]:=by rfl):G5 X C (.Assign [tg] e pos) (aP a g):=⟨(X5 he.u hg.u hs hw h1).imp λD σ H h=>aac h⟩
theorem nG{e:Expr}{a:Ev}(h:SX X C e a):SXP X C (some e) (Dc a):=⟨(T4 h.u).imp λσ H Q hq=>by
 obtain⟨Pr,F,env,env',o,r,e,q⟩:=hq;obtain⟨d,aK,e1,e2⟩:=aU e;refine⟨Pr,F,env,aK,d,r,e1,λv H1 F1 r1 s1 p1=>?_⟩;cases d with
 | int i=>cases e2;exact⟨i,p1,q H1 F1 r1 s1⟩
 | _=>cases e2⟩
theorem yd{x:Expr}{a:fZ}(h:KZ X C x a):KZ X C (.UnaryOp .Not x pos) (rO a):=⟨(XX h.u).imp λσ H Q hq=>by
 obtain⟨Pr,F,env,env',b,rl,e,q⟩:=hq;obtain⟨c,aK,e1,e2⟩:=aU e;cases e2;exact⟨Pr,F,env,env',c,rl,e1,λH1 F1 r1 s1=>q H1 F1 r1 s1⟩⟩
theorem o8{e:Expr}{a:fZ}(h:SXW X C e a):KZ X C e a:=⟨Ev.PXW.pt h.u⟩
theorem tY{tg:Expr}(hm:X.mg "range" = none)(ha:G6 X C [e] ea)(hl:∀env ds env',ea env = .ok ds env'->ds.length=1)(hg:Gl X "range":=by rfl)(hs:starEach [e] X.env=[(false,eval e X.env)]:=by rfl):SXI X C tg (.Call (.Name "range" p) [e] [] pos) (km ea):=⟨HS hg hm ha.u hl hs⟩
theorem kJ{op:CmpOp}{g:D->D->Option D}(i:Nat)(o:Cm X C op g)(hb:M9 X C y b)(hN:X.N[i]? = some n:=by rfl)(hv:uz X.env.scope n:=by first|exact Or.inl rfl|exact Or.inr (Or.inl rfl)|exact Or.inr (Or.inr rfl))(hm:behindInMarks op y=false:=by rfl)(hd:lK n:=by decide)(hcd:tW n:=by decide):SX X C (.Compare (.Name n px) [op] [y] pos) (aB g i b):=⟨by
 obtain⟨r,h1,h2⟩:=o.ex;exact(J0 h1 (iR hN hv hd hcd) hb.u hm).imp (uv h2)⟩
theorem jt{j:Nat}:SX X C (.Constant .none j pos) (jG .non):=⟨Ev.XF ⟩
theorem HW{e:Expr}{es:List Expr}{a:Ev}{r:dD}(ha:SX X C e a)(hr:zz X C es r)(hs:starEach (e::es) X.env=(false,eval e X.env)::starEach es X.env:=by rfl):zz X C (e::es) (aa a r):=⟨(jx ha.u hr.u hs).imp λσ H Q h=>by
  obtain⟨Pr,F,env,env',ds,rl,e,q⟩:=h;obtain⟨d1,aK,e1,e2⟩:=aU e;obtain⟨ds2,dU,e3,e4⟩:=aU e2;cases e4;refine⟨Pr,F,env,aK,d1,rl,e1,λv H1 F1 r1 s1 p1=>?_⟩;refine⟨Pr,F1,aK,env',ds2,r1,e3,λvs H2 F2 r2 s2 p2=>?_⟩;exact q _ H2 F2 r2 (s1.trans s2) ⟨v,vs,rfl,.inl (Rep.mono s2 d1 v p1),p2⟩⟩
theorem kO{op:BoolOp}{x:Expr}{a:Ev}(h:SX X C x a):SX X C (.BoolOp op [x] pos) a:=⟨Yh h.u⟩
theorem lF{apos cpos:Pos}(i:Nat)(G:Good X C)(he:SX X C e a)(hN:X.N[i]? = some n:=by rfl)(hv:uz X.env.scope n:=by first|exact Or.inl rfl|exact Or.inr (Or.inl rfl)|exact Or.inr (Or.inr rfl))(hs:swapsWith (.Call (.Attribute (.Name n px) "append" apos) [e] [] cpos) none pos.line X.env=pure false:=by rfl) (hfew:((backTo cpos (starEach [e] X.env)).all (λx=>!x.1)&&(backToKw cpos (keywordEach [] X.env)).all (λx=>x.1.isSome)
   && decide (([e]:List Expr).length+([]:List Keyword).length+(if ([]:List Keyword).isEmpty then 0 else 1)<30))=true:=by rfl) (hbase:attributeBase (.Name n px) "append" X.env (eval (.Name n px) X.env)=eval (.Name n px) X.env:=by rfl) (hline:(apos.endLine == cpos.line)=true:=by rfl) (hst:Lj e X.env:=by rfl) (hplain:(backTo cpos (starEach [] X.env)).any (·.1)=false:=by rfl) (hd:lK n:=by decide) (hcd:tW n:=by decide):G5 X C (.Expr (.Call (.Attribute (.Name n px) "append" apos) [e] [] cpos) pos) (eN i a):=⟨Tt hN hv he.u G.K hs hfew hbase hline hst hplain hd hcd⟩
theorem uW  : SXP X C none wu:=⟨Ev.Px ⟩
theorem JS{x y:Expr}{rest:List Expr}{a b:Ev}(ha:SX X C x a)(hb:SX X C (.BoolOp .And (y::rest) pos) b):SX X C (.BoolOp .And (x::y::rest) pos) (Kw a b):=⟨(Yk ha.u hb.u).imp λσ H Q hq=>by
  obtain⟨Pr,F,env,env',k,rl,e,q⟩:=hq;obtain⟨c,aK,e1,e2⟩:=aU e;refine⟨Pr,F,env,aK,c,rl,e1,λv H1 F1 r1 s1 p1=>?_⟩;cases c with
  | bl z=>
   refine⟨z,p1,?_⟩;cases z with
   | true=>exact abX ⟨Pr,F1,aK,env',k,r1,e2,λv2 H2 F2 r2 s2 p2=>q v2 H2 F2 r2 (s1.trans s2) p2⟩
   | false=>cases e2;exact abY (q _ H1 F1 r1 s1 rfl)
  | _=>cases e2⟩
theorem JP{x y:Expr}{rest:List Expr}{a b:fZ}(ha:KZ X C x a)(hb:SXW X C (.BoolOp .Or (y::rest) pos) b):SXW X C (.BoolOp .Or (x::y::rest) pos) (wk a b):=⟨(pw_or ha.u hb.u).imp λσ H Q hq=>by
  obtain⟨Pr,F,env,env',k,rl,e,q⟩:=hq;obtain⟨c,aK,e1,e2⟩:=aU e;refine⟨Pr,F,env,aK,c,rl,e1,λH1 F1 r1 s1=>?_⟩;split at e2
  ·rename_i hc;rw[if_pos hc];cases e2;exact q H1 F1 r1 s1
  ·rename_i hc;rw[if_neg hc];exact⟨Pr,F1,aK,env',k,r1,e2,λH2 F2 r2 s2=>q H2 F2 r2 (s1.trans s2)⟩⟩
theorem Nv(G:Good X C)(hm:X.mg "all" = none)(ha:zz X C [e] ea)(hg:Gl X "all":=by rfl)(he:Lj e X.env:=by rfl):SX X C (.Call (.Name "all" p) [e] [] pos) (au Ja ea):=⟨tH (by rw[<-G.K];exact M8 G.calm) Z9 hg hm (by decide +kernel) ha.u (by decide) (by decide) he rfl⟩
theorem Ff{x:Expr}{a:fZ}(h:KZ X C x a):SXW X C (.BoolOp .Or [x] pos) a:=⟨pw_or1 h.u⟩
theorem uX{X:Cx}{C:Cfg}{c:Expr}{t:fZ}(h:KZ X C c t):Vq X C [c] t:=⟨T7 h.u⟩
theorem Y5{k k':Nat}{m:Nat}{ps:List Str}{g:List D->Option D}(O:Own X.prog X.w X.K X.mg X.base n k ps (Xi X.K m g))(G:Good X C)(hr:eV k' X.A)(ha:G6 X C (e::es) ea)(hn:∀env ds env',ea env = .ok ds env'->ds.length=m)(hk:Nat.ble k k'=true:=by rfl)(hg:Gl X n:=by rfl)(hdb:lK n:=by decide)(he:starEach (e::es) X.env=(false,eval e X.env)::starEach es X.env:=by rfl)(hpl:(backTo pos (starEach es X.env)).any (·.1)=false:=by rfl):R4 X C (.Call (.Name n p) (e::es) [] pos) (au g ea):=⟨by
 obtain⟨f,fd,h1,h2,h3,h4⟩:=O;rw[G.K] at h1;have h1':j4 X.prog X.w X.K X.mg X.base vO k f fd ps (Xi C.K m g):=by rw[G.K];exact h1
 exact Tu h1' (hr.mono (Qx4 hk)) hg h2 h3 h4 ha.u hn hdb he hpl⟩
theorem nA{x y:Expr}{rest:List Expr}{a b:fZ}(ha:KZ X C x a)(hb:SXW X C (.BoolOp .And (y::rest) pos) b):SXW X C (.BoolOp .And (x::y::rest) pos) (ie a b):=⟨(pw_and ha.u hb.u).imp λσ H Q hq=>by
  obtain⟨Pr,F,env,env',k,rl,e,q⟩:=hq;obtain⟨c,aK,e1,e2⟩:=aU e;refine⟨Pr,F,env,aK,c,rl,e1,λH1 F1 r1 s1=>?_⟩;split at e2
  ·rename_i hc;rw[if_pos hc];exact⟨Pr,F1,aK,env',k,r1,e2,λH2 F2 r2 s2=>q H2 F2 r2 (s1.trans s2)⟩
  ·rename_i hc;rw[if_neg hc];cases e2;exact q H1 F1 r1 s1⟩
theorem jV{x:Str}{v:V}{u:Value}(d:D)(hg:Gl X x)(hm:X.mg x=some u)(rv:RelV v u)(hr:∀F,Rep C.K F d v)(hd:lK x:=by decide):SX X C (.Name x pos) (jG d):=⟨(Ud hg hm rv hd).imp λσ H Q h=>by
  obtain⟨Pr,F,env,env',d,r,e,q⟩:=h;cases e;exact q _ _ F r (aM.refl F) (hr F)⟩
theorem xm{o:Expr}{apos cpos:Pos}(G:Good X C)(ho:SX X C o a)(he:M9 X C e b)(hbase:attributeBase o "join" X.env (eval o X.env)=eval o X.env:=by rfl)(hs:Lj e X.env:=by rfl) (hfew:((backTo cpos (starEach [e] X.env)).all (λx=>!x.1)&&(backToKw cpos (keywordEach [] X.env)).all (λx=>x.1.isSome)
   && decide ([e].length+([]:List Keyword).length+(if ([]:List Keyword).isEmpty then 0 else 1)<30))=true:=by rfl) (hline:(apos.endLine == cpos.line)=true:=by rfl) (hplain:(backTo cpos (starEach [] X.env)).any (·.1)=false:=by rfl):SX X C (.Call (.Attribute o "join" apos) [e] [] cpos) (aQ my a b):=⟨TJ G.K ho.u he.u hbase hs hfew hline hplain⟩
theorem Nt{lo hi:Option Expr}{el eh:R9}{p2:Pos}(G:Good X C)(ha:SX X C x a)(hl:SXP X C lo el)(hh:SXP X C hi eh):SX X C (.Subscript x (.Slice lo hi none p2) pos) (vG a el eh):=⟨abp G.K ha.u hl.u hh.u⟩
theorem nD{x:Expr}{a:fZ}(h:KZ X C x a):SXW X C (.BoolOp .And [x] pos) a:=⟨pw_and1 h.u⟩
theorem W3(ha:SX X C x a):SX X C (.UnaryOp .USub x pos) (U4 UL a):=⟨abo NT W7 ha.u⟩
theorem xJ{op:CmpOp}{g:D->D->Option D}(o:Cm X C op g)(ha:SX X C x a)(hb:M9 X C y b)(hm:behindInMarks op y=false:=by rfl):SX X C (.Compare x [op] [y] pos) (aQ g a b):=⟨let ⟨_,h1,h2⟩:=o.ex;XN h1 h2 ha.u hb.u hm⟩
theorem Pz  : SXL X C [] ak:=⟨Ev.Tv ⟩
theorem Us{es:List Expr}{a:dD}(h:SXL X C es a):R4 X C (.List es pos) (cG a):=⟨Ev.JQ h.u.go⟩
theorem lz(i:Nat)(G:Good X C)(hb:M9 X C y b)(hN:X.N[i]? = some n:=by rfl)(hv:uz X.env.scope n:=by first|exact Or.inl rfl|exact Or.inr (Or.inl rfl)|exact Or.inr (Or.inr rfl))(hs:Vu y:=by intro _ _;rfl)(hd:lK n:=by decide)(hcd:tW n:=by decide):SX X C (.Subscript (.Name n px) y pos) (aB eO i b):=⟨PL i G.u1 hN hv hb.u hs hd hcd⟩
theorem Bl{p2 p3 p4:Pos}{k:Nat}(ha:SX X C x a):SX X C (.Subscript x (.Slice none none (some (.UnaryOp .USub (.Constant (.int 1) k p4) p3)) p2) pos) (nY a):=⟨by
 refine(Yg (p2:=p2) (pos:=pos) ha.u (V1 (pos:=p3) NT (Qk (i:=1) (j:=k) (pos:=p4)))).imp λσ H Q hq=>?_;obtain⟨Pr,F,env,env',d,r,e,q⟩:=hq;obtain⟨z,aK,e1,e2⟩:=aU e;obtain⟨e3,rfl⟩:=fG e2;cases z with
 | str z=>
  cases e3;refine⟨Pr,F,env,env',.str z,r,e1,λv H1 F1 r1 s1 p1=>?_⟩;obtain⟨rfl,hz⟩:=p1;refine⟨1,rfl,strOf z,rfl,by rw[fB];exact hz,rfl,q _ H1 F1 r1 s1 ⟨by simp[strOf],by rw[Qkq];exact hz⟩⟩
 | _=>cases e3⟩
theorem Lw  : R4 X C (.Dict [] [] pos) Dh:=⟨Ev.Py ⟩
theorem z6(G:Good X C)(hm:X.mg "sorted" = none)(ha:zz X C [e] ea)(hg:Gl X "sorted":=by rfl)(he:Lj e X.env:=by rfl):SX X C (.Call (.Name "sorted" p) [e] [] pos) (au iH ea):=⟨Lx G.K G.calm hg hm ha.u he rfl⟩
theorem rE{x y:Expr}{rest:List Expr}{a b:Ev}(ha:SX X C x a)(hb:SX X C (.BoolOp .Or (y::rest) pos) b):SX X C (.BoolOp .Or (x::y::rest) pos) (oV a b):=⟨(abA ha.u hb.u).imp λσ H Q hq=>by
  obtain⟨Pr,F,env,env',k,rl,e,q⟩:=hq;obtain⟨c,aK,e1,e2⟩:=aU e;refine⟨Pr,F,env,aK,c,rl,e1,λv H1 F1 r1 s1 p1=>?_⟩;cases c with
  | bl z=>
   refine⟨z,p1,?_⟩;cases z with
   | true=>cases e2;exact abX (q _ H1 F1 r1 s1 rfl)
   | false=>exact abY ⟨Pr,F1,aK,env',k,r1,e2,λv2 H2 F2 r2 s2 p2=>q v2 H2 F2 r2 (s1.trans s2) p2⟩
  | _=>cases e2⟩
theorem Sg(G:Good X C)(hm:X.mg "list" = none)(ha:zz X C [e] ea)(hg:Gl X "list":=by rfl)(he:Lj e X.env:=by rfl):SX X C (.Call (.Name "list" p) [e] [] pos) (au Av ea):=⟨qy (T:="list") (r:=Pb C.K) (by rw[<-G.K];exact Jh G.calm) Vf hg hm (by decide +kernel) ha.u (by decide) (by decide) he rfl⟩
theorem aa1{elt tg iter:Expr}{ifs:List Expr}{scope:Scope}(N':List Str){spos py:Pos}{it:dD}{g:GV}{cc:fZ}{ee:Ev}(lo:Nat)(i:Nat)(ok:lR X scope N')(G:Good X C)(hi:SXI X C tg iter it)(bg:∀X',jh X scope N' X'->WN X' C lo tg g)(bc:∀X',jh X scope N' X'->Vq X' C ifs cc)(be:∀X',jh X scope N' X'->SX X' C elt ee)(hnd:jy X.N=true:=by rfl)(hfx:C.fx i=none:=by rfl)(hy:X.N[i]? = some n:=by rfl)(hx:Loc X.env.scope n:=by first|exact Or.inl rfl|exact Or.inr rfl)(hsw:swapsWith (.ListComp elt [⟨tg,iter,ifs,0⟩] scope pos) (some (.Name n py)) spos.line X.env=pure true:=by rfl)(hf:X.fn n=true\/X.env.scope.names.lookup n=some .local:=by first|exact .inl rfl|exact .inr rfl)(hs:∀x,foldedSetIterable iter X.env x=pure x:=by intro _;rfl):G5 X C (.Assign [.Name n py] (.ListComp elt [⟨tg,iter,ifs,0⟩] scope pos) spos) (dF i (gC lo N'.length it g cc ee)):=⟨Ev.adG N' lo i ok G hi.u (λX1 h1=>(bg X1 h1).u) (λX1 h1=>(bc X1 h1).u) (λX1 h1=>(be X1 h1).u) hnd hfx hy hx hsw hf hs⟩
theorem K3{e2:Expr}(G:Good X C)(hm:X.mg "divmod" = none)(ha:zz X C [e,e2] ea)(hg:Gl X "divmod":=by rfl)(he:starEach [e,e2] X.env=(false,eval e X.env)::starEach [e2] X.env:=by rfl)(hpl:(backTo pos (starEach [e2] X.env)).any (·.1)=false:=by rfl):SX X C (.Call (.Name "divmod" p) [e,e2] [] pos) (au t6 ea):=⟨tH GK M5 hg hm (by decide +kernel) ha.u (by decide) (by decide) he hpl⟩
theorem Fi{e:Expr}{a:Ev}(h:R4 X C e a):G5 X C (.Return (some e) pos) (xP a):=⟨(HX h.u).imp λD σ H hq=>by
 obtain⟨Pr,F,env,r,f⟩:=hq;obtain⟨d,aK,e1,f1⟩:=dg f;exact⟨Pr,F,env,aK,d,r,e1,λv H1 F1 r1 s1 p1=>f1 v σ H1 F1 r1 s1 p1⟩⟩
theorem acb{lo:Nat}{ix:Expr}{ev:Ev}(i:Nat)(h:SX X C ix ev)(hN:X.N[i]? = some n:=by rfl)(hv:uz X.env.scope n:=by first|exact Or.inl rfl|exact Or.inr (Or.inl rfl)|exact Or.inr (Or.inr rfl)) (ha:∀v,assign (.Subscript (.Name n px) ix pos) X.env v=(do
   let ov <-holding [v] (eval (.Name n px) X.env)
   let iv <-holding [v,ov] (eval ix X.env)
   standAt pos
   holding [v,ov,iv] (setItem ov iv v)
   release [v,ov,iv] []):=by intro _;rfl) (hd:lK n:=by decide) (hcd:tW n:=by decide):WN X C lo (.Subscript (.Name n px) ix pos) (UG i ev):=⟨Xy hN hv h.u ha hd hcd⟩
theorem Jw{p:Pos}{e:Expr}{ea:dD}(G:Good X C)(hm:X.mg "dict" = none)(ha:zz X C [e] ea)(hg:Gl X "dict":=by rfl)(he:Lj e X.env:=by rfl):SX X C (.Call (.Name "dict" p) [e] [] pos) (au pq ea):=⟨qy (T:="dict") (r:=Ph C.K) (by rw[<-G.K];exact M7 G.calm) Vg hg hm (by decide +kernel) ha.u (by decide) (by decide) he rfl⟩
theorem Td{k:Expr}{ek:Ev}{pos':Pos}(i:Nat)(G:Good X C)(hk:SX X C k ek)(he:SX X C e a)(hN:X.N[i]? = some n:=by rfl)(hv:uz X.env.scope n:=by first|exact Or.inl rfl|exact Or.inr (Or.inl rfl)|exact Or.inr (Or.inr rfl))(hs:swapsWith e (some (.Subscript (.Name n px) k pos')) pos.line X.env=pure false:=by rfl)(hd:lK n:=by decide)(hcd:tW n:=by decide):G5 X C (.Assign [.Subscript (.Name n px) k pos'] e pos) (qX i ek a):=⟨Pu G.u1 hN hv hk.u he.u hs hd hcd⟩
theorem Sq(G:Good X C)(ha:SX X C x a)(hb:SX X C y b)(hc:SX X C z c)(m:M2 X x "get" apos y z pos:=by exact⟨by rfl,by rfl,by rfl,by rfl⟩):SX X C (.Call (.Attribute x "get" apos) [y,z] [] pos) (Dg a b c):=⟨by
 refine(Qo G.u1 ha.u hb.u hc.u m).imp λσ H Q hq=>?_;obtain⟨Pr,F,env,env',d,rl,e,q⟩:=hq;obtain⟨u,aK,e1,e2⟩:=aU e;obtain⟨k,dU,e3,e4⟩:=aU e2;obtain⟨t,Dj,e5,e6⟩:=aU e4;split at e6
 ·rename_i kvs;obtain⟨e7,rfl⟩:=fG e6;obtain⟨kk,hk,rfl⟩:=Qwj.mp (show(jX k).map (λq=>(dM kvs q).getD t)=some d from e7);refine⟨Pr,F,env,aK,.dct kvs,rl,e1,λvu H1 F1 r1 s1 p1=>?_⟩;obtain⟨z1,a1,ks,rfl,h1,h2⟩:=gU.dct r1.fr (.inl p1);refine⟨a1,rfl,.inl ⟨ks,h1⟩,Pr,F1,aK,dU,k,r1,e3,λvk H2 F2 r2 s2 p2=>⟨Pr,F2,dU,env',t,r2,e5,λvt H3 F3 r3 s3 p3=>?_⟩⟩;obtain⟨z2,a2,ks2,ea,h3,h4⟩:=gU.dct r3.fr (.inl (Rep.mono (s2.trans s3) _ _ p1));cases ea;cases Io hk (.inl (Rep.mono s3 _ _ p2):gU C.K F3 H3 k vk);refine⟨qW ks2 kk,.inl ⟨ks2,kk,h3,rfl,rfl⟩,?_⟩;rcases h4.val kk with ⟨g1,g2⟩|⟨d',v',g1,g2,g3⟩
  ·rw[g2];rw[g1] at q;exact q _ H3 F3 r3 ((s1.trans s2).trans s3) p3
  ·rw[g2];rw[g1] at q;exact q _ H3 F3 r3 ((s1.trans s2).trans s3) g3
 ·cases e6⟩
theorem Uz{elts:List Expr}{k:Nat}{tp p:Pos}{ea:dD}(hm:X.mg "enumerate" = none)(ha:G6 X C [e] ea)(hg:Gl X "enumerate":=by rfl)(hs:starEach [e] X.env=[(false,eval e X.env)]:=by rfl):SXI X C (.Tuple elts k tp) (.Call (.Name "enumerate" p) [e] [] pos) (Jb ea):=⟨(T9 hg hm ha.u hs).imp λσ H R hq=>by
  obtain⟨Pr,F,env,env',ds,r,e,q⟩:=hq;obtain⟨as,aK,e1,e2⟩:=aU e;refine⟨Pr,F,env,aK,as,r,e1,λvs H1 F1 r1 s1 p1=>?_⟩;split at e2
  ·rename_i x;cases e2;obtain⟨v,w,rfl,⟨rfl,hz⟩,p2⟩:=p1;cases p2;refine⟨strOf x,rfl,q _ H1 F1 r1 s1 λi H2 s2=>⟨λ_ ei=>?_,λd hd=>?_⟩⟩
   ·show i=x.toArray.size;rw[ei];simp[wA]
   ·unfold wA at hd;rw[Qw2] at hd;obtain⟨⟨c,j⟩,hc,rfl⟩:=Qwj.mp hd;rw[List.getElem?_zipIdx] at hc;obtain⟨c',hc',h2⟩:=Qwj.mp hc;cases h2;refine⟨?_,λy H3 hy=>.inr ?_⟩
    ·show i<x.toArray.size;have:=(Qqv.mp hc').1
     simpa using this
    ·obtain⟨p,c2,h3,h4,rfl,rfl⟩:=hy;have h5:x[i]? = some c2:=by simpa[strOf] using h3
     rw[hc'] at h5;cases h5;exact⟨p,_,_,h4,rfl,rfl,rfl,by show 2<=sizeLine;decide,_,_,rfl,by simp[Rep],_,_,rfl,⟨rfl,by show 1<=sizeLine;decide⟩,rfl⟩
  ·cases e2⟩
theorem W2{lo hi:Option Expr}{el eh:R9}{p2:Pos}(G:Good X C)(ha:SX X C x a)(hl:SXP X C lo el)(hh:SXP X C hi eh):SX X C (.Subscript x (.Slice lo hi none p2) pos) (Wn a el eh):=⟨by
 have h:=Fv (pos:=pos) (p2:=p2) (KR.or (KR.or JH Hx) (KR.or (KR.or Hx Oe) Xj)) ha.u hl.u hh.u;rw[G.K] at h;refine h.imp λσ H Q hq=>?_;obtain⟨Pr,F,env,env',d,r,e,q⟩:=hq;obtain⟨x,aK,e1,e2⟩:=aU e;obtain⟨l,dU,e3,e4⟩:=aU e2;obtain⟨u,Dj,e5,e6⟩:=aU e4;obtain⟨e7,rfl⟩:=fG e6;refine⟨Pr,F,env,aK,x,r,e1,λv H1 F1 r1 s1 p1=>⟨Pr,F1,aK,dU,l,r1,e3,λH2 F2 r2 s2=>⟨Pr,F2,dU,env',u,r2,e5,λH3 F3 r3 s3=>?_⟩⟩⟩;have p3:=Rep.mono (s2.trans s3) _ _ p1;have q3:∀v H' F',Rel C Pr F' env' σ H'->aM F3 F'->Rep C.K F' d v->Q v H':=λv H' F' r' s' p'=>q v H' F' r' (((s1.trans s2).trans s3).trans s') p';cases x with
 | str z=>
  cases e7;obtain⟨rfl,hz⟩:=p1;exact .inr (.inr ⟨z,rfl,hz,q3 _ H3 F3 r3 (aM.refl _) ⟨rfl,Qq6 (Ru _ _ _) hz⟩⟩)
 | tup xs=>
  exact .inr (.inl (Xk r3 p3 (by rw[Rg];exact e7) q3))
 | lst xs=>exact .inl (Og r3 (.inl p3) e7 q3)
 | arr xs=>exact .inl (Og r3 (.inl p3) e7 q3)
 | _=>cases e7⟩
theorem Q9{elts:List Expr}{k:Nat}{tp p:Pos}{ea:dD}(G:Good X C)(hm:X.mg "zip" = none)(ha:G6 X C [e,e2] ea)(hg:Gl X "zip":=by rfl)(hs:starEach [e,e2] X.env=(false,eval e X.env)::starEach [e2] X.env:=by rfl)(hs2:starEach [e2] X.env=[(false,eval e2 X.env)]:=by rfl):SXI X C (.Tuple elts k tp) (.Call (.Name "zip" p) [e,e2] [] pos) (yP ea):=⟨by
 have h:=X7 (elts:=elts) (k:=k) (tp:=tp) (p:=p) (pos:=pos) hg hm ha.u hs hs2;rw[G.K] at h;refine h.imp λσ H R hq=>?_;obtain⟨Pr,F,env,env',ds,r,e,q⟩:=hq;obtain⟨as,aK,e1,e2⟩:=aU e;refine⟨Pr,F,env,aK,as,r,e1,λvs H1 F1 r1 s1 p1=>?_⟩;split at e2
 ·rename_i xs ys;cases e2;obtain⟨v,w,rfl,p2,v2,w2,rfl,p3,p4⟩:=p1;cases p4;obtain⟨z1,a1,us,rfl,h1,h2⟩:=p2;obtain⟨z2,a2,ws,rfl,h3,h4⟩:=p3;have l1:=h2.length;have l2:=h4.length;refine⟨a1,a2,rfl,⟨us,aM.tupK r1.fr h1⟩,⟨ws,aM.tupK r1.fr h3⟩,q _ H1 F1 r1 s1 λi H2 s2=>⟨λ_ ei=>⟨us,ws,aM.tupK s2 h1,aM.tupK s2 h3,?_⟩,λd hd=>?_⟩⟩
  ·have:(xH xs ys).length=min xs.length ys.length:=by unfold xH;rw[Qqw,List.length_zip]
   omega
  ·unfold xH at hd;rw[Qw2] at hd;obtain⟨⟨c,j⟩,hc,rfl⟩:=Qwj.mp hd;obtain⟨g1,g2⟩:=List.getElem?_zip_eq_some.mp hc;obtain⟨v1,k1,k2⟩:=Cj h2 g1;obtain⟨v2,k3,k4⟩:=Cj h4 g2;refine⟨⟨us,ws,v1,v2,aM.tupK s2 h1,aM.tupK s2 h3,k1,k3⟩,λy H3 hy=>.inr ?_⟩;obtain⟨p,x',y',m1,m2,m3,rfl,rfl⟩:=hy;have n1:=m1 us (aM.tupK s2 h1);have n2:=m2 ws (aM.tupK s2 h3);rw[k1] at n1;rw[k3] at n2;cases n1;cases n2;exact⟨p,_,_,m3,rfl,rfl,rfl,by show 2<=sizeLine;decide,_,_,rfl,k2,_,_,rfl,k4,rfl⟩
 ·cases e2⟩
theorem Nu{p:Pos}{e:Expr}{ea:dD}(G:Good X C)(hm:X.mg "dict" = none)(ha:zz X C [e] ea)(hg:Gl X "dict":=by rfl)(he:Lj e X.env:=by rfl):SX X C (.Call (.Name "dict" p) [e] [] pos) (au yM ea):=⟨qy (T:="dict") (r:=HR C.K) (by rw[<-G.K];exact Ji G.calm) Rz hg hm (by decide +kernel) ha.u (by decide) (by decide) he rfl⟩
theorem XM{c x y:Expr}{t:fZ}{a b:Ev}(hc:KZ X C c t)(ha:SX X C x a)(hb:SX X C y b):SX X C (.IfExp c x y pos) (acg t a b):=⟨(Ql hc.u ha.u hb.u).imp λσ H Q hq=>by
 obtain⟨Pr,F,env,env',k,rl,e,q⟩:=hq;obtain⟨z,aK,e1,e2⟩:=aU e;refine⟨Pr,F,env,aK,z,rl,e1,λH1 F1 r1 s1=>?_⟩;split at e2
 ·rename_i hz;rw[if_pos hz];exact⟨Pr,F1,aK,env',k,r1,e2,λv2 H2 F2 r2 s2 p2=>q v2 H2 F2 r2 (s1.trans s2) p2⟩
 ·rename_i hz;rw[if_neg hz];exact⟨Pr,F1,aK,env',k,r1,e2,λv2 H2 F2 r2 s2 p2=>q v2 H2 F2 r2 (s1.trans s2) p2⟩⟩
theorem Oo{cd:Expr}{body:List Stmt}{bs:cu}(m:Nat)(G:Good X C)(hc:KZ X C cd t)(hb:fQ X C body bs)(hp:PassesOwn (model X.prog X.w) X.A X.env X.xe:=by exact PassesOwn.never):G5 X C (.While cd body [] pos) (gF t bs m):=⟨Ln m hp hc.u hb.u⟩
theorem zM  : G5 X C (.Continue pos) (λenv=>.ct env):=⟨Ev.Cp ⟩
end
open PySem PySem.Spec PySem.W PySem.Calls PyProof.Rows L2
def FA(K:Fg)(x:Str)(st:Stmt):Prop:=∃(f:Addr) (oc kV doc pm cdv ct:Value) (od an:Option Addr) (osl:Array (Option Value)),PySem.W.nsIn K mainGlobals x=some (some (.ref f))/\
 K.lookup f=some ⟨oc,od,.func (PySem.W.fnOf x x (fO st) (bY st) (aJ st) .none kV doc pm an cdv ct),osl⟩/\PySem.W.codeIn K cdv x=true/\PySem.W.keepIn K (.ref f)=true
theorem FA.mk{K:Fg}{x:Str}{st:Stmt}{f:Addr}{oc kV doc pm cdv ct:Value}{od an:Option Addr}{osl:Array (Option Value)}(a:PySem.W.nsIn K mainGlobals x=some (some (.ref f)))
  (l:K.lookup f=some ⟨oc,od,.func (PySem.W.fnOf x x (fO st) (bY st) (aJ st) .none kV doc pm an cdv ct),osl⟩) (c:PySem.W.codeIn K cdv x=true) (k:PySem.W.keepIn K (.ref f)=true):FA K x st:=
 ⟨f,oc,kV,doc,pm,cdv,ct,od,an,osl,a,l,c,k⟩
theorem FA.at{K:Fg}{h:Heap}{mg:Str->Option Value}{x:Str}{st:Stmt}{ps:List Str}(X:K.In h)(G:h.Ns mainGlobals mg)(F:FA K x st)
  (b:∀{kV doc pm:Value} {an:Option Addr} {cdv ct:Value} (us:List Value),us.length=ps.length->bindArgs (PySem.W.fnOf x x (fO st) (bY st) (aJ st) .none kV doc pm an cdv ct) ⟨us,[]⟩=pure (ps.zip us)):dB K mg x st ps:=by
 obtain⟨f,oc,kV,doc,pm,cdv,ct,od,an,osl,a,l,c,k⟩:=F;exact funAt X G a l c k (λ_ _ _ _ _ _ us hl=>b us hl)
mutual
theorem Sh.isN{h:Heap}:∀(d:D) (u:Value) (k:NK),Sh h d u->wg d=some k->zE h k u
 | .int i,u,k,e,g=>by rw[wg] at g;cases g;obtain⟨t,rfl⟩:=e;rw[zE];exact .inl ⟨t,rfl⟩
 | .bl b,u,k,e,g=>by rw[wg] at g;cases g;cases e;rw[zE];exact .inr ⟨b,rfl,rfl⟩
 | .str x,u,k,e,g=>by rw[wg] at g;cases g;rw[zE];exact e
 | .tup xs,u,k,e,g=>by
  rw[wg] at g;obtain⟨ks,g1,rfl⟩:=Qwj.mp g;obtain⟨a,its,rfl,⟨o,e1,e2,n,e3⟩,e4⟩:=e;rw[zE];exact⟨a,o,its.toArray,n,rfl,e1,e2,e3,by simpa using Bj.isN xs its ks e4 g1⟩
 | .non,u,k,e,g=>by simp[wg] at g
 | .lst _,u,k,e,g=>by simp[wg] at g
 | .arr _,u,k,e,g=>by simp[wg] at g
 | .dct _,u,k,e,g=>by simp[wg] at g
 | .jl _,u,k,e,g=>by simp[wg] at g
theorem Bj.isN{h:Heap}:∀(ds:List D) (us:List Value) (ks:List NK),Bj h ds us->Ml ds=some ks->ni h ks us
 | [],us,ks,e,g=>by rw[Ml] at g;cases g;cases e;rw[ni]
 | d::ds,us,ks,e,g=>by
  obtain⟨u,r,rfl,e1,e2⟩:=e;rw[Ml] at g;split at g
  ·rename_i k ks' g1 g2;cases g;rw[ni];exact⟨u,r,rfl,Sh.isN d u k e1 g1,Bj.isN ds r ks' e2 g2⟩
  ·cases g
end
structure qR(K:Fg)(H:Hp)(y:V)(kd:D)(q:NK):Prop where
 rep:Rep K H kd y
 nk:wg kd=some q
 dep:q.dep<=8
 tup:∃xs,kd = .tup xs
abbrev KN:List (NK×V×V)->List (NK×Addr×Value)->Prop:=Paired λp q=>p.1=q.1/\p.2.1 = .ref q.2.1/\RelV p.2.2 q.2.2
noncomputable def valN(ks:List (NK×V×V))(q:NK):Option V:=(ks.find? λp=>decide (p.1=q)).map (·.2.2)
noncomputable def putN(ks:List (NK×V×V))(q:NK)(u v:V):List (NK×V×V):=if (valN ks q).isSome then ks.map (λp=>if p.1=q then (p.1,p.2.1,v) else p) else ks++[(q,u,v)]
theorem KN.val{ks:List (NK×V×V)}{xs:List (NK×Addr×Value)}(r:KN ks xs)(q:NK):vN (valN ks q) ((atKey xs q).map (·.2)):=by
 unfold valN atKey
 induction r with
 | nil=>exact True.intro
 | @cons p x ps xs h t ih=>
  rw[Qz6,Qz6];by_cases c:p.1=q
  ·have c2:x.1=q:=h.1 ▸ c;rw[Qxj c,Qxj c2];exact h.2.2
  ·have c2:¬x.1=q:=h.1 ▸ c;rw[Qw3 c,Qw3 c2];exact ih
theorem KN.len{ks:List (NK×V×V)}{xs:List (NK×Addr×Value)}(r:KN ks xs):ks.length=xs.length:=by
 induction r with
 | nil=>rfl
 | cons _ _ ih=>simp[ih]
theorem KN.put{ks:List (NK×V×V)}{xs:List (NK×Addr×Value)}(r:KN ks xs)(q:NK){b:Addr}{v:V}{u:Value}(rv:RelV v u):KN (putN ks q (.ref b) v) (storedH xs q b u):=by
 have hs:=(r.val q).nR;rw[Qkv] at hs;unfold putN storedH;rw[<-hs];split
 ·clear hs
  induction r with
  | nil=>exact .nil
  | @cons p x ps xs h t ih=>
   rw[Qq3,Qq3];refine .cons ?_ ?_
   ·unfold putAt;by_cases c:p.1=q
    ·have c2:x.1=q:=h.1 ▸ c;rw[if_pos c,if_pos c2];exact⟨h.1,h.2.1,rv⟩
    ·have c2:¬x.1=q:=h.1 ▸ c;rw[if_neg c,if_neg c2];exact h
   ·rename_i hsome;clear hsome;clear ih
    induction t with
    | nil=>exact .nil
    | @cons p x ps xs h t ih=>
     rw[Qq3,Qq3];refine .cons ?_ ih;unfold putAt;by_cases c:p.1=q
     ·have c2:x.1=q:=h.1 ▸ c;rw[if_pos c,if_pos c2];exact⟨h.1,h.2.1,rv⟩
     ·have c2:¬x.1=q:=h.1 ▸ c;rw[if_neg c,if_neg c2];exact h
 ·exact Paired.snoc r ⟨rfl,rfl,rv⟩
section
variable{X:Cx}{pins:List (Addr×Obj)}{σ:L2.St}{H:Hp}{s:Shared}{a:Addr}{ks:List (NK×V×V)}{kvs:List (D×D)}{y v:V}{kd:D}{q:NK}{u:Value}{A:Around}{E:Value->Shared->Prop}
theorem Ka(I:Inv X pins σ H s):∀{kvs:List (D×D)} {ks:List (NK×V×V)} {xs:List (NK×Addr×Value)},du X.K H kvs ks->KN ks xs->∀x∈xs,(pY X.prog X.w).is s.heap x.1 x.2.1
 | [],_,_,hr,r,x,hx=>by
  cases hr;cases r;cases hx
 | (k,d)::kvs,_,_,hr,r,x,hx=>by
  obtain⟨q,u,v,rest,rfl,h1,h2,h3,h4,h5⟩:=hr;cases r with
  | @cons _ x0 _ xs' h t=>
   rcases Qq2.mp hx with rfl|hx
   ·obtain⟨g1,g2,g3⟩:=h;simp only at g1 g2 g3;subst g1;subst g2;exact⟨Sh.isN k _ _ (Rep.sh I k _ (.ref x.2.1) h3 rfl) h1,h2⟩
   ·exact Ka I h5 t x hx
theorem Ro(I:Inv X pins σ H s)(e:Rd H a (.dN ks))(hr:du X.K H kvs ks):ks.length<=sizeLine/\(a == sysModules)=false/\∃xs,KN ks xs/\s.heap.DictOfH (pY X.prog X.w) a xs:=by obtain⟨z,y,xs,r,o,es,ep,h1,h2,h3,h4,h5⟩:=(show gB X.prog X.w H s.heap a (.dN ks) from e.ok I.hok);exact⟨z,y,xs,r,o,es,ep,h1,h2,h3,h4,Ka I hr r,h5⟩
theorem qR.is(k:qR X.K H y kd q)(I:Inv X pins σ H s)(ry:RelV y u):∃b,y = .ref b/\u = .ref b/\(pY X.prog X.w).is s.heap q b:=by obtain⟨h1,h2,h3,xs,rfl⟩:=k;have h4:=Sh.isN _ _ _ (Rep.sh I _ y u h1 ry) h2;obtain⟨_,b,vs,rfl,_⟩:=h1;cases ry;exact⟨b,rfl,rfl,h4,h3⟩
theorem EY(hu:A.units+12<cLine):(pY X.prog X.w).room A.in1:=by show A.units+1+10<cLine;omega
theorem acq{Q:Value->Shared->Prop}(hu:A.units+12<cLine)(I:Inv X pins σ H s)(e:Rd H a (.dN ks))(hr:du X.K H kvs ks)(k:qR X.K H y kd q)(ry:RelV y u)
  (h:∀s',Inv X pins σ H s'->Q (.bool (valN ks q).isSome) s'):wpAny (model X.prog X.w) A (compareOp .In u (.ref a)) Q E s:=by
 obtain⟨b,rfl,rfl,hk⟩:=k.is I ry;obtain⟨z,hd,xs,rel,dd⟩:=Ro I e hr;refine wpAny_in_heap (EY hu) hk hd dd ?_;have q':=(rel.val q).nR;rw[Qkv] at q';rw[<-q'];exact h _ (I.tok _)
theorem PQ(ks:List (NK×V×V))(q:NK)(u v:V):(putN ks q u v).length<=ks.length+1:=by
 unfold putN;split
 ·rw[Qqw];omega
 ·simp
theorem Z4{r:Value}{Q:Unit->Shared->Prop}(hu:A.units+12<cLine)(I:Inv X pins σ H s)(e:H a=some (.dN ks))(hr:du X.K H kvs ks)(k:qR X.K H y kd q)(hl:ks.length<sizeLine)(ry:RelV y u)(rv:RelV v r)
  (h:∀s',Inv X pins σ (upd H a (.dN (putN ks q y v))) s'->Q () s'):wpAny (model X.prog X.w) A (setItem (.ref a) u r) Q E s:=by
 obtain⟨b,rfl,rfl,hk⟩:=k.is I ry;obtain⟨z,hd,xs,rel,dd⟩:=Ro I (.inl e) hr;have hz:xs.length<=sizeLine:=by rw[<-rel.len];exact z
 have hl2:(putN ks q (.ref b) v).length<=sizeLine:=by have:=PQ ks q (.ref b) v;omega
 refine wpAny_setItem_heap (hsz:=hz) (EY hu) hk dd λh' Rr hs=>h _ ?_;obtain⟨o,es,ep,hq,h2,h3,h4,_,h5⟩:=Rr;exact um I (by rw[e];exact True.intro) hs ⟨o,hq⟩ ⟨hl2,hd,_,rel.put q rv,o,es,ep,hq,h2,h3,h4,h5⟩
end
noncomputable def pH(kvs:List (D×D))(q:NK):Option D:=(kvs.find? λp=>decide (wg p.1=some q)).map (·.2)
noncomputable def vW(kvs:List (D×D))(kd:D)(q:NK)(d:D):List (D×D):=if (pH kvs q).isSome then kvs.map (λp=>if wg p.1=some q then (p.1,d) else p) else kvs++[(kd,d)]
theorem du.len{K:Fg}{F:Hp}:∀{kvs:List (D×D)} {ks:List (NK×V×V)},du K F kvs ks->ks.length=kvs.length
 | [],_,h=>by cases h;rfl
 | (k,d)::kvs,_,h=>by obtain⟨q,u,v,r,rfl,_,_,_,_,h5⟩:=h;rw[Qqy,Qqy,h5.len]
theorem du.val{K:Fg}{F:Hp}(q:NK):∀{kvs:List (D×D)} {ks:List (NK×V×V)},du K F kvs ks->(pH kvs q=none/\valN ks q=none)\/∃d v,pH kvs q=some d/\valN ks q=some v/\Rep K F d v
 | [],_,h=>by cases h;exact .inl ⟨rfl,rfl⟩
 | (k,d)::kvs,_,h=>by
  obtain⟨q0,u,v,r,rfl,h1,h2,h3,h4,h5⟩:=h;unfold pH valN;rw[Qz6,Qz6];by_cases c:q0=q
  ·subst c;have c2:decide (wg k=some q0)=true:=Qxj h1;rw[c2,Qxj rfl];exact .inr ⟨d,v,rfl,rfl,h4⟩
  ·have c2:decide (wg k=some q)=false:=Qw3 λz=>c (by rw[h1] at z;exact Qw0 z);rw[c2,Qw3 c];exact du.val q h5
theorem du.snoc{K:Fg}{F:Hp}{kd d:D}{q:NK}{u v:V}(h1:wg kd=some q)(h2:q.dep<=8)(h3:Rep K F kd u)(h4:Rep K F d v):∀{kvs:List (D×D)} {ks:List (NK×V×V)},du K F kvs ks->du K F (kvs++[(kd,d)]) (ks++[(q,u,v)])
 | [],_,h=>by cases h;exact⟨q,u,v,[],rfl,h1,h2,h3,h4,rfl⟩
 | (k,e)::kvs,_,h=>by
  obtain⟨q0,u0,v0,r,rfl,g1,g2,g3,g4,g5⟩:=h;exact⟨q0,u0,v0,r++[(q,u,v)],rfl,g1,g2,g3,g4,du.snoc h1 h2 h3 h4 g5⟩
theorem du.over{K:Fg}{F:Hp}{d:D}{q:NK}{v:V}(h4:Rep K F d v):∀{kvs:List (D×D)} {ks:List (NK×V×V)},du K F kvs ks->du K F (kvs.map λp=>if wg p.1=some q then (p.1,d) else p) (ks.map λp=>if p.1=q then (p.1,p.2.1,v) else p)
 | [],_,h=>by cases h;rfl
 | (k,e)::kvs,_,h=>by
  obtain⟨q0,u0,v0,r,rfl,g1,g2,g3,g4,g5⟩:=h;rw[Qq3,Qq3];have ih:=du.over (q:=q) h4 g5;by_cases c:q0=q
  ·subst c;rw[if_pos g1,if_pos rfl];exact⟨q0,u0,v,_,rfl,g1,g2,g3,h4,ih⟩
  ·rw[if_neg (λz=>c (by rw[g1] at z;exact Qw0 z)),if_neg c];exact⟨q0,u0,v0,_,rfl,g1,g2,g3,g4,ih⟩
theorem du.put{K:Fg}{F:Hp}{kvs:List (D×D)}{ks:List (NK×V×V)}{kd d:D}{q:NK}{u v:V}(h:du K F kvs ks)(h1:wg kd=some q)(h2:q.dep<=8)(h3:Rep K F kd u)(h4:Rep K F d v):du K F (vW kvs kd q d) (putN ks q u v):=by
 have e:(pH kvs q).isSome=(valN ks q).isSome:=by rcases h.val q with ⟨g1,g2⟩|⟨_,_,g1,g2,_⟩<;>rw[g1,g2]<;>rfl
 unfold vW putN;rw[e];split
 ·exact h.over h4
 ·exact h.snoc h1 h2 h3 h4
theorem Ly(kvs:List (D×D))(kd:D)(q:NK)(d:D):(vW kvs kd q d).length<=kvs.length+1:=by
 unfold vW;split
 ·rw[Qqw];omega
 ·simp
theorem gU.jl{K:Fg}{F H:Hp}{kvs:List (D×D)}{v:V}(s:aM F H)(h:gU K F H (.jl kvs) v):kvs.length<=sizeLine/\∃a ks,v = .ref a/\Rd H a (.dN ks)/\du K F kvs ks:=by
 rcases h with ⟨z,a,vs,rfl,h1,h2⟩|⟨a,rfl,z,vs,h1,h2⟩
 ·exact⟨z,a,vs,rfl,aM.rd s h1,h2⟩
 ·exact⟨z,a,vs,rfl,.inl h1,h2⟩
def Mm(d:D):Option NK:=match d with
 | .tup xs=>(wg (.tup xs)).bind λq=>if q.dep<=8 then some q else none
 | _=>none
theorem vh{d:D}{q:NK}(h:Mm d=some q):wg d=some q/\q.dep<=8/\∃xs,d = .tup xs:=by
 unfold Mm at h;split at h
 ·obtain⟨p,h1,h2⟩:=Qzx.mp h;split at h2
  ·rename_i hd;cases h2;exact⟨h1,hd,_,rfl⟩
  ·cases h2
 ·cases h
theorem qR.of{C:Cfg}{F H:Hp}{d:D}{q:NK}{v:V}(s:aM F H)(p:gU C.K F H d v)(h:Mm d=some q):qR C.K H v d q:=by obtain⟨h1,h2,h3⟩:=vh h;exact⟨p.rep s,h1,h2,h3⟩
section
variable{X:Cx}{C:Cfg}{pos apos cpos:Pos}
def abi(K:Fg)(neg:Bool):R2:=λx y H Q=>∃a ks kvs kd q,y = .ref a/\Rd H a (.dN ks)/\du K H kvs ks/\qR K H x kd q/\Q (.bl (if neg then !(valN ks q).isSome else (valN ks q).isSome)) H
theorem Yv(hu:X.A.units+12<cLine):m9 X (compareOp .In) (abi X.K false):=by intro pins s σ H x y v u Q I rx ry h;obtain⟨a,ks,kvs,kd,q,rfl,g1,g2,g3,q2⟩:=h;cases ry;exact acq hu I g1 g2 g3 rx λs3 I3=>⟨.bl _,H,I3,rfl,q2⟩
noncomputable def IW(k y:D):Option D:=match y with
 | .jl kvs=>(Mm k).map λq=>.bl (pH kvs q).isSome
 | _=>none
theorem YW:pG C (abi C.K false) IW:=by
 intro Pr F env σ H x y d vx vy Q r px py e q;cases y with
 | jl kvs=>
  obtain⟨k,hk,rfl⟩:=Qwj.mp (show(Mm x).map (λq=>D.bl (pH kvs q).isSome)=some d from e);obtain⟨z,a,ks,rfl,h1,h2⟩:=py.jl r.fr;refine⟨a,ks,kvs,_,k,rfl,h1,du.mono r.fr _ _ h2,qR.of r.fr px hk,?_⟩;have e2:(valN ks k).isSome=(pH kvs k).isSome:=by rcases h2.val k with ⟨g1,g2⟩|⟨d',v',g1,g2,_⟩<;>rw[g1,g2]<;>rfl
  rw[e2];exact q _ H F r (aM.refl F) rfl
 | _=>cases e
theorem acr(G:Good X C):Cm X C .In IW:=⟨_,Yv (by have:=G.un;omega),by rw[G.K];exact YW⟩
theorem Rn{P:Program}{w:World}{H:Hp}(h:Heap)(hb:sysModules<h.objs.size):gB P w H (h.push { cls:=.type "dict",data:=.dict #[] }) h.objs.size (.dN []):=
 ⟨Qx0 _,Qzw.mpr (Ne.symm (Qw5 hb)),[],.nil,_, #[],0,Qwz _ rfl,⟨rfl,rfl,rfl⟩,rfl,rfl,List.nodup_nil⟩
noncomputable def sV(i:Nat)(k a:Ev):cu:=λenv=>iG (a env) λd aK=>match aK[i]? with
 | some (some (_,_))=>iG (k aK) λkd dU=>(match dU[i]?,Mm kd with
  | some (some (true,.jl kvs)),some q=>if kvs.length<sizeLine then .nx (dU.set i (some (true,.jl (vW kvs kd q d)))) else .stuck
  | _,_=>.stuck)
 | _=>.stuck
def Ou(K:Fg)(td ty tv:TE):TS:=λD σ H=>tv σ H λv H1=>td σ H1 λx H2=>ty σ H2 λy H3=>∃a ks kvs kd q,x = .ref a/\H3 a=some (.dN ks)/\du K H3 kvs ks/\qR K H3 y kd q/\ks.length<sizeLine/\D.nx σ (upd H3 a (.dN (putN ks q y v)))
theorem Qf{o i value:Expr}{pos':Pos}{td ty tv:TE}(hu:X.A.units+12<cLine)(ho:PE X o td)(hi:PE X i ty)(hv:PE X value tv)(hs:swapsWith value (some (.Subscript o i pos')) pos.line X.env=pure false) :
  PS X (.Assign [.Subscript o i pos'] value pos) (Ou X.K td ty tv):=by
 intro pins s σ H D I h;refine wpAny_Assign_Subscript (fc (hv pins s σ H _ I h) λr s1 ⟨v,H1,I1,rv,q1⟩=>fc (ho pins s1 σ H1 _ I1 q1) λu s2 ⟨x,H2,I2,rx,q2⟩=>fc (hi pins s2 σ H2 _ I2 q2) λiv s3 ⟨y,H3,I3,ry,a,ks,kvs,kd,q,ex,g1,g2,g3,g4,q3⟩=>?_) hs;subst ex;obtain rfl:u=Value.ref a:=rx;exact Z4 hu I3 g1 g2 g3 g4 ry rv λs4 I4=>⟨σ,_,I4,q3⟩
def N7(K:Fg)(tk tv:TE):TE:=λσ H Q=>∀p,H p=none->tk σ (upd H p (.dN [])) λx H1=>tv σ H1 λy H2=>H2 p=some (.dN [])/\∃kd q,qR K H2 x kd q/\Q (.ref p) (upd H2 p (.dN [(q,x,y)]))
theorem Qn{k v:Expr}{tk tv:TE}(hu:X.A.units+12<cLine)(hk:PE X k tk)(hv:PE X v tv):PE X (.Dict [some k] [v] pos) (N7 X.K tk tv):=by intro pins s σ H Q I q;have hn:=I.hok.fresh (Qq0 s.heap.objs.size);have I1:=I.laid (a:=s.heap.objs.size) (o:=.dN []) (h':=s.heap.push { cls:=.type "dict",data:=.dict #[] }) (t':=s.toks) (λ_ _ q=>Qqk _ q) (Qq0 _) (Rn s.heap I.big);rw[arm_eval_Dict,zip_pairTrees [some k] [v] X.env pos rfl rfl,dictDisplay_pairs (pairTrees [some k] [v] X.env pos) (by intro z;cases z) (by rw[pairTrees_length [some k] [v] X.env pos rfl rfl];simp)];refine Qqx (wpAny_standAt (Qqx ?_));unfold subDict;refine Qqx (wpAny_alloc ?_);refine Qqx (Qz4 ?_);rw[if_pos (by rw[pairTrees_length [some k] [v] X.env pos rfl rfl];simp)];refine Qqx (pairTrees_cons_walk (fc (hk pins _ σ _ _ I1 (q _ hn)) λu s1 ⟨x,H1,J1,rx,q1⟩=>fc (hv pins s1 σ H1 _ J1 q1) λw2 s2 ⟨y,H2,J2,ry,e,kd,qq,ka,q2⟩=>pairTrees_nil_walk ?_));refine Qz4 ?_;refine Qqx ?_;rw[Qkz];obtain⟨b,rfl,rfl,hkk⟩:=ka.is J2 rx;obtain⟨_,hd,xs,rel,dd⟩:=Ro (kvs:=[]) J2 (.inl e) rfl;cases rel;refine Qqx (Qqx (wpAny_dictSet_heap (hsz:=Qx0 _) (show X.A.units+10<cLine by omega) hkk dd λh' Rr hs=>Qq4 ?_));show wpAny _ _ (forIn ([]:List (Value×Value)) PUnit.unit _) _ _ _;rw[Qj4];refine Qq4 (Qq4 (Qq4 (Qq4 ?_)));obtain⟨o,es,ep,hq,h2,h3,h4,_,h5⟩:=Rr;exact⟨.ref s.heap.objs.size,_,um (ob:=.dN [(qq,.ref b,y)]) J2 (by rw[e];exact True.intro) hs ⟨o,hq⟩ ⟨by show 1<=sizeLine;decide,hd,[(qq,b,w2)],.cons ⟨rfl,rfl,ry⟩ .nil,o,es,ep,hq,h2,h3,h4,h5⟩,rfl,q2⟩
def yS(k a:Ev):Ev:=λenv=>bindR (k env) λkd e1=>bindR (a e1) λd e2=>match Mm kd with
 | some _=>.ok (.jl [(kd,d)]) e2
 | none=>.stuck
theorem Ot{n:Str}{k e:Expr}{ek a:Ev}{px pos':Pos}(i:Nat)(G:Good X C)(hk:SX X C k ek)(he:SX X C e a)(hN:X.N[i]? = some n:=by rfl)(hv:uz X.env.scope n:=by first|exact Or.inl rfl|exact Or.inr (Or.inl rfl)|exact Or.inr (Or.inr rfl))
  (hs:swapsWith e (some (.Subscript (.Name n px) k pos')) pos.line X.env=pure false:=by rfl)
  (hd:lK n:=by decide) (hcd:tW n:=by decide):G5 X C (.Assign [.Subscript (.Name n px) k pos'] e pos) (sV i ek a):=⟨by
 have h0:PS X (.Assign [.Subscript (.Name n px) k pos'] e pos) (Ou X.K _ _ _):=Qf (by have:=G.un;omega) (iR hN hv hd hcd) hk.u he.u hs;rw[G.K] at h0;refine h0.imp λD σ H h=>?_;obtain⟨Pr,F,env,r,f⟩:=h;obtain⟨d,aK,e1,f1⟩:=dg f;refine⟨Pr,F,env,aK,d,r,e1,λv H1 F1 r1 s1 p1=>?_⟩;split at f1
 ·rename_i o0 d0 h0;obtain⟨v0,hv0,_⟩:=r1.rd h0;obtain⟨kd,dU,e2,f2⟩:=dg f1;refine⟨v0,hv0,Pr,F1,aK,dU,kd,r1,e2,λvk H2 F2 r2 s2 p2=>?_⟩;split at f2
  ·rename_i kvs q h2 hq;split at f2
   ·rename_i hz;obtain⟨b,g1,⟨z,ks,g2,g3⟩,g4,g5⟩:=r2.own i _ h2;rw[hv0] at g1;cases g1;have hz':ks.length<sizeLine:=by rw[g3.len];exact hz
    obtain⟨n1,n2,n3⟩:=vh hq;refine⟨b,ks,kvs,kd,q,rfl,g2,du.mono r2.fr _ _ g3,⟨Rep.mono r2.fr _ _ p2,n1,n2,n3⟩,hz',?_⟩;refine f2 σ _ F2 (r2.write h2 hv0 ⟨Qq6 (Ly _ _ _ _) hz,_,aR,g3.put n1 n2 p2 (Rep.mono s2 _ _ p1)⟩) (s1.trans s2)
   ·exact f2.elim
  ·exact f2.elim
 ·exact f1.elim⟩
theorem Lr{k v:Expr}{ek ev:Ev}(G:Good X C)(hk:SX X C k ek)(hv:SX X C v ev):R4 X C (.Dict [some k] [v] pos) (yS ek ev):=⟨by
 have h0:PE X (.Dict [some k] [v] pos) (N7 X.K _ _):=Qn (by have:=G.un;omega) hk.u hv.u;rw[G.K] at h0;refine h0.imp λσ H Q hq=>?_;obtain⟨Pr,F,env,env',d,r,e,q⟩:=hq;obtain⟨kd,aK,e1,e2⟩:=aU e;obtain⟨dv,dU,e3,e4⟩:=aU e2;split at e4
 ·rename_i qq hqq;cases e4;obtain⟨n1,n2,n3⟩:=vh hqq;intro p hp;have ra:=r.aside (o:=.dN []) hp;have nP:Pr p=none:=r.pr.free hp;refine⟨upd Pr p (.dN []),F,env,aK,kd,ra,e1,λx H1 F1 r1 s1 p1=>⟨upd Pr p (.dN []),F1,aK,env',dv,r1,e3,λy H2 F2 r2 s2 p2=>⟨r2.pr p _ aR,kd,qq,⟨Rep.mono r2.fr _ _ (Rep.mono s2 _ _ p1),n1,n2,n3⟩,?_⟩⟩⟩;have r3:=r2.turn (u:=.dN [(qq,x,y)]) aR;have nF:F2 p=none:=by
   cases hF:F2 p with
   | none=>rfl
   | some o=>have:=r2.dj p o hF;rw[aR] at this;cases this
  have r4:Rel C Pr F2 env' σ (upd H2 p (.dN [(qq,x,y)])):=r3.less λb o hb=>by
   have hne:b≠p:=λz=>by rw[z,nP] at hb;cases hb
   rw[bu hne,bu hne];exact hb
  refine q p _ F2 r4 (s1.trans s2) ⟨⟨by show 1<=sizeLine;decide,_,aR,⟨qq,x,y,[],rfl,n1,n2,Rep.mono s2 _ _ p1,p2,rfl⟩⟩,nF,nP,λj e he hs=>?_⟩;obtain⟨b,h1,_,_,h4⟩:=r2.own j e he;rw[hs] at h1;cases h1;rw[aR] at h4;cases h4
 ·cases e4⟩
end
end Ev
namespace SI
open PySem PySem.Spec PyProof.Rows L2 PySem.Builtin
def Ris(xs:Array Nat):Prop:=∀i j,i<j->j<xs.size->xs.getD i 0<xs.getD j 0
structure Pl(t:SetTable):Prop where
 dm:t.dummies = #[]
 ri:Ris t.place
open SX (led)
structure TOk(P:Program)(w:World)(es:Array (Int×Value))(t:SetTable)(ys:List Int):Prop where
 el:ElemsOf (intKind P w) es.toList
 tx:∃ss:List Int,IntsAre (es.toList.map (·.2)) ss/\ss.Perm ys
 fit:t.fits es.size=true
 ld:t.led=led w
 pl:Pl t
def Jq(P:Program)(w:World)(h:Heap)(a:Addr)(ys:List Int):Prop:=
 ∃o es ep t,h.get? a=some o/\o.ExactSet/\o.data = .set es ep t/\TOk P w es t ys
open PySem PySem.Spec PyProof.Rows L2 PySem.Builtin Ev
def acB(P:Program)(w:World)(a:Addr)(ys:List Int):HO:=.ext λh=>Jq P w h a ys
end SI
namespace Ev
open PySem PySem.Spec PyProof.Rows L2 PySem.Builtin
instance (zs:List Int):Decidable (zs.Pairwise (·< ·)):=inferInstance
end Ev
namespace L2
open PySem PySem.Spec PyProof.Rows
structure lq(N P Q:List Str)(sc:Scope):Prop where
 kind:sc.kind = .function
 co:sc.isCoroutine=false
 gen:sc.isGenerator=false
 nd:N.Nodup
 pre:N.take (P.length+Q.length)=P++Q
 par:∀x∈P,sc.names.lookup x=some .local
 fre:∀x,sc.names.lookup x=some .free->x∈Q
 frk:∀x∈Q,sc.names.lookup x=some .free
 QC:∀y∈sc.names,y.2 ≠ .cell
def cxN(CX:Nh)(P:Program)(w:World)(K:PySem.W.Frag)(mg:Str->Option Value)(base:Heap)(N:List Str)(qual:Str)(scope:Scope)(f:Addr)(cd:Value)(cl:List (Str×Addr))(A:Around)(outer:List Env)(s:Shared)(H:Hp)(E:XK):Cx where
 prog:=P
 w:=w
 K:=K
 mg:=mg
 base:=base
 A:=A.deeper (PySem.W.envX qual scope s.heap.objs.size f cd cl)
 N:=N
 s₀:=s
 H₀:=H
 env:=PySem.W.envX qual scope s.heap.objs.size f cd cl
 outer:=outer
 stack:=PySem.W.envX qual scope s.heap.objs.size f cd cl::outer
 ex:=[]
 calm:=true
 fn:=λ_=>false
 pn:=[]
 xe:=λe s'=>wpAny (model P w) (A.deeper (PySem.W.envX qual scope s.heap.objs.size f cd cl)) (leaving (PySem.W.envX qual scope s.heap.objs.size f cd cl) e) (λ_ s''=>CX outer H s E e s'') (λe' s''=>CX outer H s E e' s'') s'
theorem yw{ps:List Str}{us:List Value}{i:Nat}{x:Str}{u:Value}(nd:ps.Nodup)(h1:ps[i]? = some x)(h2:us[i]? = some u):(ps.zip us).reverse.lookup x=some u:=by
 have go:∀{l:List (Str×Value)},(l.map (·.1)).Nodup->(x,u)∈l->l.lookup x=some u:=by
  intro l
  induction l with
  | nil=>intro _ h;cases h
  | cons p r ih=>
   intro hn hm;rw[Qq3,Qxz] at hn;rcases Qq2.mp hm with e|hm
   ·subst e;simp[Qxx]
   ·rw[Qxx];cases hb:x == p.1 with
    | false=>exact ih hn.2 hm
    | true=>
     have:=eq_of_beq hb;exact absurd (List.mem_map_of_mem (f:=(·.1)) hm) (this ▸ hn.1)
 refine go ?_ (Qj2.mpr ?_)
 ·rw[List.map_reverse];have:∀(a:List Str) (b:List Value),a.Nodup->((a.zip b).map (·.1)).Nodup:=by
   intro a
   induction a with
   | nil=>intro b _;exact .nil
   | cons y a ih=>
    intro b hn;cases b with
    | nil=>exact .nil
    | cons v b=>
     rw[List.zip_cons_cons,Qq3,Qxz];refine⟨λhm=>?_,ih b (Qxz.mp hn).2⟩;obtain⟨q,hq,e⟩:=Qwq.mp hm;have e':q.1=y:=e;exact(Qxz.mp hn).1 (e' ▸ (List.of_mem_zip (a:=q.1) (b:=q.2) hq).1)
  exact List.pairwise_reverse.mpr ((this ps us nd).imp λh=>Ne.symm h)
 ·obtain⟨l1,e1⟩:=Qqv.mp h1;obtain⟨l2,e2⟩:=Qqv.mp h2;refine List.mem_iff_getElem?.mpr ⟨i,?_⟩;rw[List.getElem?_zip_eq_some];exact⟨h1,h2⟩
theorem Ao:∀{l:List (Str×Addr)} {i:Nat} {x:Str} {c:Addr},(l.map (·.1)).Nodup->l[i]? = some (x,c)->l.lookup x=some c
 | [],_,_,_,_,h=>by simp at h
 | p::r,0,x,c,_,h=>by
  simp at h;subst h;simp[Qxx]
 | p::r,i+1,x,c,hn,h=>by
  rw[Qq3,Qxz] at hn;have hm:r[i]? = some (x,c):=by simpa using h
  rw[Qxx];cases hb:x == p.1 with
  | false=>exact Ao hn.2 hm
  | true=>
   have:=eq_of_beq hb;exact absurd (List.mem_map_of_mem (f:=(·.1)) (Qxw hm)) (this ▸ hn.1)
theorem mem_lookup:∀{l:List (Str×Addr)} {x:Str} {c:Addr},l.lookup x=some c->∃i:Nat,l[i]? = some (x,c)
 | [],_,_,h=>by simp at h
 | p::r,x,c,h=>by
  rw[Qxx] at h;cases hb:x == p.1 with
  | false=>
   rw[hb] at h;obtain⟨i,e⟩:=mem_lookup h;exact⟨i+1,by simpa using e⟩
  | true=>
   rw[hb] at h;have e1:=eq_of_beq hb;have e2:p.2=c:=by simpa using h
   exact⟨0,by subst e1 e2;rfl⟩
theorem has_lookup:∀{l:List (Str×Addr)} {x:Str},x∈l.map (·.1)->∃c,l.lookup x=some c
 | [],x,h=>by simp at h
 | p::r,x,h=>by
  rw[Qxx];cases hb:x == p.1 with
  | true=>exact⟨_,rfl⟩
  | false=>
   rw[Qq3,Qq2] at h;rcases h with e|h
   ·subst e;simp at hb
   ·exact has_lookup h
theorem Q6{CX:Nh}{P:Program}{w:World}{K:PySem.W.Frag}{mg:Str->Option Value}{base:Heap}{N ps qs:List Str}{qual:Str}{scope:Scope}{f:Addr}{cd:Value}{cl:List (Str×Addr)}{A:Around}{outer:List Env}{s:Shared}{H:Hp}{E:XK}{us:List Value}{vs Ay:List V}{h₁:Heap}{tk:Nat}
  (S:lq N ps qs scope) (hd:A.handled=none) (e0:GX P w K mg base A outer s H) (hl:vs.length=ps.length) (r:Vals vs us) (hc1:cl.map (·.1)=qs) (hc2:(cl.map (·.2)).Nodup) (hc3:Ay.length=cl.length)
  (hc:∀(i:Nat) x c v,cl[i]? = some (x,c)->Ay[i]? = some v->∃o u w,H c=some (.j5 o u)/\o.data = .cell (some w)/\RelV v w)
  (hn:h₁.Ns s.heap.objs.size (λx=>(ps.zip us).reverse.lookup x)) (hk:∀b o,s.heap.get? b=some o->h₁.get? b=some o) :
  Inv (cxN CX P w K mg base N qual scope f cd cl A outer s H E) [] (start N (vs++Ay)) H { s with heap:=h₁,toks:=tk }:=by
 have hlen:(vs++Ay).length=ps.length+qs.length:=by rw[Qqz,hl,hc3,<-hc1,Qqw]
 have hpl:ps.length+qs.length<=N.length:=by have:=Qx5 List.length S.pre;rw[Qx8,Qqz] at this;omega
 have ndQ:(ps++qs).Nodup:=by rw[<-S.pre];exact S.nd.sublist (List.take_sublist _ _)
 have ndP:ps.Nodup:=(List.nodup_append.mp ndQ).1;have ndC:(cl.map (·.1)).Nodup:=by rw[hc1];exact(List.nodup_append.mp ndQ).2.1
 have cv:∀(i:Nat) x c,cl[i]? = some (x,c)->∃v o u w,Ay[i]? = some v/\H c=some (.j5 o u)/\o.data = .cell (some w)/\RelV v w/\s.heap.get? c=some o:=λi x c e=>by
  have hi:i<Ay.length:=by rw[hc3];exact(Qqv.mp e).1
  obtain⟨o,u,w,q1,q2,q3⟩:=hc i x c Ay[i] e (Qwk hi);exact⟨_,o,u,w,Qwk hi,q1,q2,q3,(e0.hok c _ q1).1⟩
 have R0:∀b:Addr,b ∉ (cxN CX P w K mg base N qual scope f cd cl A outer s H E).ex:=λb z=>absurd (show b∈([]:List Addr) from z) (by simp);refine⟨⟨e0.mod,S.kind,rfl,rfl,Qq0 _,λy z c h1 h2=>?_,λy hy=>?_,λy c h _=>?_,λ_=>hd,Around.frames_deeper e0.frames,.inr ⟨rfl,rfl⟩,λb z=>absurd z (R0 b),e0.bs,e0.RG,λb _ _=>R0 b,λb z=>absurd z (R0 b),e0.t7,e0.Wl⟩,
  rfl,e0.bare,Un.kept hk,⟨_,hn,λi y v h1 h2 h3=>?_⟩,λy c h=>?_,e0.hok.fresh (Qq0 _),λy c h=>?_,λp hp=>absurd (show p∈([]:List (Addr×Obj)) from hp) (by simp),e0.hok.kept hk,?_⟩
 ·obtain⟨i,e1⟩:=mem_lookup (show cl.lookup y=some c from h1);obtain⟨j,e2⟩:=mem_lookup (show cl.lookup z=some c from h2);have g1:(cl.map (·.2))[i]? = some c:=by rw[Qw2,e1];rfl
  have g2:(cl.map (·.2))[j]? = some c:=by rw[Qw2,e2];rfl
  have hij:i=j:=by obtain⟨l1,f1⟩:=Qqv.mp g1;obtain⟨l2,f2⟩:=Qqv.mp g2;exact(List.getElem_inj hc2).mp (f1.trans f2.symm)
  subst hij;rw[e1] at e2;cases e2;rfl
 ·have hy:scope.names.lookup y=some .cell\/scope.names.lookup y=some .free:=hy;rcases hy with hy|hy
  ·exact absurd rfl (S.QC _ (Qjq hy))
  ·exact has_lookup (show y∈cl.map (·.1) by rw[hc1];exact S.fre y hy)
 ·cases h
 ·have hi:i<(vs++Ay).length:=by
   unfold start at h2;by_cases hi:i<(vs++Ay).length
   ·exact hi
   ·rw[Qxk (by simpa using hi)] at h2;rw[Qzz] at h2;split at h2<;>cases h2
  have ha:(vs++Ay)[i]? = some v:=by
   unfold start at h2;rw[Qw1 (by simpa using hi),Qw2] at h2;cases e:(vs++Ay)[i]? with
   | none=>rw[e] at h2;cases h2
   | some a=>rw[e] at h2;cases h2;rfl
  have hp:(ps++qs)[i]? = some y:=by rw[<-S.pre,Qz0 (by omega)];exact h1
  by_cases hi1:i<vs.length
  ·rw[Qw1 hi1] at ha;rw[Qw1 (by omega)] at hp;obtain⟨u,hu,rv⟩:=r.get ha;exact⟨u,rv,.inl ⟨S.par y (Qxw hp),yw ndP hp hu⟩⟩
  ·rw[Qxk (by omega)] at ha hp;rw[hl] at ha;obtain⟨li,ei⟩:=Qqv.mp ha;have hci:i - ps.length<cl.length:=by omega
   have hcl:cl[i - ps.length]? = some cl[i - ps.length]:=Qwk hci;have hy:(cl[i - ps.length]).1=y:=by
    have:(cl.map (·.1))[i - ps.length]? = some y:=by rw[hc1];exact hp
    rw[Qw2,hcl] at this;exact Qw0 this
   obtain⟨x',c⟩:∃c,cl[i - ps.length]=(y,c):=⟨_,by rw[<-hy]⟩;rw[c] at hcl;obtain⟨o,u,w,q1,q2,q3⟩:=hc _ _ _ _ hcl ha;refine⟨w,q3,.inr ⟨.inr (S.frk y (Qxw hp)),x',Ao ndC hcl,o,hk _ _ (e0.hok _ _ q1).1,q2⟩⟩
 ·obtain⟨i,e1⟩:=mem_lookup (show cl.lookup y=some c from h);obtain⟨v,o,u,w,q1,q2,q3,q4,q5⟩:=cv i y c e1;exact⟨_,o,hk _ _ q5,q3⟩
 ·obtain⟨i,e1⟩:=mem_lookup (show cl.lookup y=some c from h);obtain⟨v,o,u,w,q1,q2,q3,q4,q5⟩:=cv i y c e1;exact .inr ⟨rfl,o,u,q2⟩
 ·unfold start;show _=N.length;rw[Qqz,Qqw,Qx3];omega
theorem Ow{CX:Nh}{P:Program}{w:World}{K:PySem.W.Frag}{mg:Str->Option Value}{base:Heap}{k:Nat}{f c:Addr}{name qual:Str}{params:Arguments}{body:List Stmt}{scope:Scope}{doc pm ctv:Value}{u0 u1:HO}{co:Obj}{Z6:Array Value}{t1:Tok}{cl:List (Str×Addr)}
  {N ps qs:List Str} {A:Around} {outer:List Env} {s:Shared} {H:Hp} {args:Args} {us:List Value} {vs Ay:List V} {Q:VK} {E:XK}
  (S:lq N ps qs scope) (hr:eV (k+1) A) (e0:GX P w K mg base A outer s H) (hb:BindsTo s (PySem.W.fnX name qual params body scope cl .none .none doc pm none (.ref c) ctv) args (ps.zip us)) (hl:vs.length=ps.length) (r:Vals vs us)
  (hc1:cl.map (·.1)=qs) (hc2:(cl.map (·.2)).Nodup) (hc3:Ay.length=cl.length)
  (hc:∀(i:Nat) x c v,cl[i]? = some (x,c)->Ay[i]? = some v->∃o u w,H c=some (.j5 o u)/\o.data = .cell (some w)/\RelV v w)
  (hf:H f=some (.j5 (PySem.W.fnMade name qual params body scope cl doc pm c ctv) u0)) (hco:H c=some (.j5 co u1)) (hcd:co.data = .fields Z6) (hcq:Z6[1]? = some (.str qual t1))
  (hbody:∃t,DK (cxN CX P w K mg base N qual scope f (.ref c) cl A outer s H E) body t/\t { nx:=λ_ H'=>Q .non H',rt:=Q } (start N (vs++Ay)) H) :
  codeAny (model P w) A (.call (.ref f) args) (CR CX outer P w H s Q E) s:=by
 have KX:K.In s.heap:=e0.mod.Ze.keeps λb o e=>(e0.bs b o e).1;have lim:s.heap.NoLimit:=e0.mod.nolimit.keeps λb o e=>(e0.bs b o e).1;have hloc:∀y∈ps.zip us,scope.names.lookup y.1=some .local:=λy hy=>S.par y.1 (List.of_mem_zip (a:=y.1) (b:=y.2) hy).1;refine codeAny_call_def (fd:=PySem.W.fnX name qual params body scope cl .none .none doc pm none (.ref c) ctv) (body:=body) (binds:=ps.zip us) hr.depth (e0.hok f _ hf).1 rfl lim ⟨c,co,Z6,t1,rfl,(e0.hok c _ hco).1,hcd,hcq⟩ rfl hb S.QC hloc (λh₁ hns hk₁=>?_) S.co S.gen S.kind;obtain⟨t,ht,hq⟩:=hbody;have I:Inv (cxN CX P w K mg base N qual scope f (.ref c) cl A outer s H E) [] (start N (vs++Ay)) H { s with heap:=h₁,toks:=s.toks+(ps.zip us).length }:=Q6 S hr.hd e0 hl r hc1 hc2 hc3 hc hns hk₁;refine Qz1 (ht [] _ (start N (vs++Ay)) H _ I hq) (λfl s' hs=>?_) λe s' hs=>hs;have fin:∀{σ':St} {H':Hp} {v:V} {u:Value},Inv (cxN CX P w K mg base N qual scope f (.ref c) cl A outer s H E) [] σ' H' s'->RelV v u->Q v H'->CE outer P w H s Q u s':=
  λ{σ' H' v u} J rv q=>⟨v,H',J.os,J.bare,J.base,J.hok,rv,q⟩
 cases fl with
 | ret u=>
  obtain⟨v,σ',H',J,rv,q⟩:=hs;exact fin J rv q
 | next=>
  obtain⟨σ',H',J,q⟩:=hs;exact fin (v:=V.non) (u:=Value.none) J rfl q
 | brk=>
  obtain⟨_,_,_,q⟩:=hs;exact False.elim q
 | cont=>
  obtain⟨_,_,_,q⟩:=hs;exact False.elim q
end L2
namespace Ev
open PySem PySem.Spec PyProof.Rows L2
def uB(P:Program)(w:World)(K:Fg)(mg:Str->Option Value)(base:Heap)(k:Nat)(st:Stmt)(g:List D->List D->Option D):Prop:=
 ∀(A:Around) (outer:List PySem.Env) (s:Shared) (H:Hp) (us:List Value) (vs:List V) (Q:VK) (E:XK) (a:Addr) (F:Hp) (kh ds:List D) (d:D),
  eV k A->GX P w K mg base A outer s H->Vals vs us->aM F H->Rep K F (.clo st kh) (.ref a)->bM K F ds vs->g kh ds=some d->
  (∀v H' F',aM H H'->aM F' H'->aM F F'->(∀b o,F' b=some o->F b=some o\/H b=none)->Rep K F' d v->Q v H')->
  codeAny (model P w) A (.call (.ref a) ⟨us,[]⟩) (CR vO outer P w H s Q E) s
theorem uB.mono{P:Program}{w:World}{K:Fg}{mg:Str->Option Value}{base:Heap}{j k:Nat}{st:Stmt}{g:List D->List D->Option D}(h:uB P w K mg base j st g)(e:j<=k):uB P w K mg base k st g:=
 λA outer s H us vs Q E a F kh ds d hr=>h A outer s H us vs Q E a F kh ds d (hr.mono e)
def runC(n m:Nat)(ev:cu)(kh ds:List D):Option D:=if ds.length=n then (match ev (envOf m (ds++kh)) with
 | .rt false d _=>some d
 | .nx _=>some .non
 | _=>none) else none
abbrev bxN(P:Program)(w:World)(K:Fg)(mg:Str->Option Value)(base:Heap)(N:List Str)(qual:Str)(st:Stmt)(f:Addr)(cdv:Value)(cl:List (Str×Addr))(A:Around)(outer:List PySem.Env)(s:Shared)(H:Hp)(E:XK):Cx:=(cxN vO P w K mg base N qual (aJ st) f cdv cl A outer s H E).Uq
theorem Bb{F:Hp}:∀{cl:List (Str×Addr)} {vs:List V},o9 F cl vs->vs.length=cl.length
 | [],_,h=>by cases h;rfl
 | (_,c)::r,_,⟨v,vs',h0,_,h3⟩=>by subst h0;rw[Qqy,Qqy,Bb h3]
theorem GF{F:Hp}:∀{cl:List (Str×Addr)} {vs:List V},o9 F cl vs->∀(i:Nat) x c v,cl[i]? = some (x,c)->vs[i]? = some v->RW F c v
 | [],_,_,i,x,c,v,e,_=>by simp at e
 | (_,c0)::r,_,⟨v0,vs',h0,h1,h3⟩,0,x,c,v,e,e2=>by subst h0;simp at e e2;obtain⟨_,rfl⟩:=e;subst e2;exact h1
 | (_,c0)::r,_,⟨v0,vs',h0,h1,h3⟩,i+1,x,c,v,e,e2=>by subst h0;exact GF h3 i x c v (by simpa using e) (by simpa using e2)
theorem Rv{P:Program}{w:World}{K:Fg}{mg:Str->Option Value}{base:Heap}{k:Nat}{st:Stmt}{N ps:List Str}{ev:cu}(S:lq N ps (freeOf st) (aJ st))(hgl:ab0 st=false)
  (hbind:∀{q:Str} {cl:List (Str×Addr)} {doc pm cv ctv:Value} (us:List Value),us.length=ps.length->bindArgs (PySem.W.fnX (defName st) q (fO st) (bY st) (aJ st) cl .none .none doc pm none cv ctv) ⟨us,[]⟩=pure (ps.zip us))
  (hb:∀(q:Str) (f:Addr) (cdv:Value) (cl:List (Str×Addr)) (A:Around) (outer:List PySem.Env) (s:Shared) (H:Hp) (E:XK),eV k (A.deeper (PySem.W.envX q (aJ st) s.heap.objs.size f cdv cl))->Good (bxN P w K mg base N q st f cdv cl A outer s H E) (C0 K)->qK (bxN P w K mg base N q st f cdv cl A outer s H E) (C0 K) (bY st) ev) :
  uB P w K mg base (k+1) st (runC ps.length N.length ev):=by
 intro A outer s H us vs Q E a F kh ds d hr e0 r sF hclo p e q;obtain⟨a',Ay,hv,⟨⟨u,qn,cl,doc,pm,ctv,c,h1,⟨co,u2,ws,t,h2,h3,h4⟩,h5,h6,h7⟩,_⟩|⟨n,p,_,_,_,_,rfl,_⟩,pc⟩:=hclo
 rotate_left
 ·cases hgl
 cases hv;unfold runC at e;split at e
 ·rename_i hl;have hlv:vs.length=ps.length:=by rw[p.length];exact hl
  have hlu:us.length=ps.length:=by rw[<-r.length];exact hlv
  refine Ow (N:=N) (ps:=ps) (qs:=freeOf st) (us:=us) (vs:=vs) (Ay:=Ay) S hr e0 (.of_eq (hbind us hlu)) hlv r h5 h6 (Bb h7) (λi x c v e1 e2=>?_) (sF _ _ h1) (sF _ _ h2) h3 h4 ?_
  ·obtain⟨o,u,w,g1,g2⟩:=GF h7 i x c v e1 e2;exact⟨o,u,w,sF _ _ g1,g2⟩
  ·have hr':=hr.deeper (PySem.W.envX qn (aJ st) s.heap.objs.size a (.ref c) cl);refine⟨tS (C0 K) ev,(hb qn a (.ref c) cl A outer s H E hr' ⟨rfl,rfl,hr'.units⟩).Uq,zQ H F,F,envOf N.length (ds++kh),qx sF (p.append pc),?_⟩;split at e
   ·rename_i d' env' h1;cases e;rw[h1];exact λv σ' H' F' r' s' p'=>q v H' F' (aM.rG r'.pr s' r'.fr sF) r'.fr s' (rJ s' r'.dj) p'
   ·rename_i env' h1;cases e;rw[h1];exact λσ' H' F' r' s'=>q .non H' F' (aM.rG r'.pr s' r'.fr sF) r'.fr s' (rJ s' r'.dj) rfl
   ·cases e
 ·cases e
def kE(Φ:Stmt->List D->List D->Option D)(i:Nat)(a:dD):Ev:=λenv=>match env[i]? with
 | some (some (false,.clo st kh))=>bindR (a env) λds aK=>ig (Φ st kh ds) aK
 | _=>.stuck
section
variable{X:Cx}{C:Cfg}{pos p:Pos}{k:Nat}{x:Str}{e:Expr}{es:List Expr}
theorem XQ{Φ:Stmt->List D->List D->Option D}{a:dD}(i:Nat)(hN:X.N[i]? = some x)(hv:uz X.env.scope x)(G:Good X C)(hΦ:∀st kh ds d,Φ st kh ds=some d->uB X.prog X.w X.K X.mg X.base k st (Φ st))(hr:eV k X.A)
  (hx:∀e s,False->X.xe e s) (ha:RP X C (e::es) a) (hd:lK x:=by decide) (hcd:tW x:=by decide)
  (he:starEach (e::es) X.env=(false,eval e X.env)::starEach es X.env:=by rfl) (hpl:(backTo pos (starEach es X.env)).any (·.1)=false:=by rfl) :
  PX X C (.Call (.Name x p) (e::es) [] pos) (kE Φ i a):=by
 intro pins s σ H Q I h;obtain⟨Pr,F,env,env',d,r,ev,q⟩:=h;unfold kE at ev;split at ev
 ·rename_i st kh h0;obtain⟨ds,aK,e1,e2⟩:=aU ev;obtain⟨e3,rfl⟩:=fG e2;obtain⟨v,hσ,a0,vs0,rfl,hclo,Gi⟩:=r.val i _ h0;have fnAt:∀{F2:Hp} {s2:Shared} {H2:Hp},aM F F2->aM F2 H2->rY X.prog X.w H2 s2.heap->X.K.In s2.heap->PySem.W.FnAt a0 s2.heap:=λt1 t2 hok hin=>by
   obtain⟨⟨u,qn,cl,doc,pm,ctv,c,h1,_⟩,_⟩|⟨n,p,oc,od,fd,sl,_,_,hl⟩:=hclo
   rotate_left
   ·exact⟨_,_,_,_,hin _ _ (by rw[G.K];exact hl)⟩
   exact⟨_,_,_,_,(hok a0 _ (t2 _ _ (t1 _ _ h1))).1⟩
  refine wpAny_Call_Name_kw (Qz1 (iR hN hv hd hcd pins s σ H (λv H'=>v = .ref a0/\H'=H) I ⟨_,hσ,rfl,rfl⟩) (λu s1 hu=>?_) λ_ _ z=>z);obtain⟨v',H',I1,rv,rfl,rfl⟩:=hu;obtain rfl:u=Value.ref a0:=rv;refine PySem.W.callWith_F (fnAt (aM.refl F) r.fr I1.hok I1.Mu) (fc (ha pos pins s1 σ H' (λvs H2=>∃F2,Rel C Pr F2 env' σ H2/\aM F F2/\bM C.K F2 ds vs) I1 ⟨Pr,F,env,env',ds,r,e1,λvs H2 F2 r2 s2 p2=>⟨F2,r2,s2,p2⟩⟩) λus s2 hq=>?_) he hpl;obtain⟨vs,H2,I2,rvs,F2,r2,Te,p2⟩:=hq;refine⟨fnAt Te r2.fr I2.hok I2.Mu,?_⟩;have rep2:Rep X.K F2 (.clo st kh) (.ref a0):=by rw[G.K];exact Rep.mono Te _ _ ⟨a0,vs0,rfl,hclo,Gi⟩
  refine wpAny_call (codeAny_mono (hΦ st kh ds d e3 X.A X.stack s2 H2 us vs Q E0 a0 F2 kh ds d hr I2.env0 rvs r2.fr rep2 (by rw[G.K];exact p2) e3
   (λv H3 F3 t1 t2 t3 t4 p3=>q v H3 F3 (r2.after t1 t2 t3 t4) (Te.trans t3) (by rw[<-G.K];exact p3))) λrr s' hq=>?_)
  cases rr with
  | error e=>exact hx e s' hq
  | ok fl=>
   cases fl with
   | ret u=>exact I2.after hq
   | next=>exact False.elim hq
   | brk=>exact False.elim hq
   | cont=>exact False.elim hq
 ·cases ev
end
end Ev
namespace L2
open PySem PySem.Spec PyProof.Rows
theorem Jm{q:Pos}{a b:Int}{c:Value}(l:List Value)(h:TriplesOk l) :
  codeAmong q (l++[rawInt a,rawInt b,c])=match codeAmong q l with
   | some x=>some x
   | none=>if a == q.line&&b == q.col then some c else none:=by
 fun_induction TriplesOk l with
 | case1=>simp[codeAmong,rawInt]
 | case2 a t b u x rest ih=>
  simp only[List.cons_append,codeAmong];split
  ·rfl
  ·exact ih h
 | case3 l h1 h2=>exact h.elim
structure zZ(base:Heap)(mg:Str->Option Value)(c P:Addr):Prop where
 code:PySem.W.CodeHd base c P
 blt:base.BuiltinsAt mg P
 ne:mainGlobals≠P
def WY(H:Hp)(c:Addr)(q:Str):Prop:=∃(o:Obj) (u:HO) (vs:Array Value) (t:Tok),H c=some (.j5 o u)/\o.data = .fields vs/\vs[1]? = some (.str q t)
theorem Aw{X:Cx}{pins:List (Addr×Obj)}{σ:St}{H:Hp}{s:Shared}{i:Nat}{name qual:Str}{args:Arguments}{body:List Stmt}{scope:Scope}{pos:Pos}{c0 P:Addr}{qs:List (Pos×Str)}{Q:Flow->Shared->Prop}
  (I:Inv X pins σ H s) (B:zZ X.base X.mg c0 P) (hcode:X.env.code = .ref c0) (hP:H P=some (.tab qs)) (hq:(pos,qual)∈qs) (hqs:∀q∈qs,q.1.line=pos.line->q.1.col=pos.col->q.2=qual)
  (hd0:args.defaults=[]) (hk0:args.kw_defaults=[]) (ha:annTrees args none X.env=[]) (hqn:qualnameIn X.env name name=qual)
  (hfree:∀n,(n,NameKind.free)∈scope.names->∃c,X.env.cells.lookup n=some c)
  (hN:X.N.Nodup) (hi:X.N[i]? = some name) (hx:Loc X.env.scope name)
  (h:∀(f c:Addr) (H1:Hp) (doc pm ctv:Value) (s':Shared),H f=none->c≠f->aM H H1->H1 f=none->WY H1 c qual->(∀b o,H1 b=some o->H b=some o\/(b=c/\H c=none))->
   Inv X pins (σ.set i (some (.ref f))) (upd H1 f (.j5 (PySem.W.fnMade name qual args body scope (gw X.env scope.names []) doc pm c ctv) (.own f))) s'->Q .next s')
  (hf:X.fn name=true\/X.env.scope.names.lookup name=some .local:=by first|exact .inl rfl|exact .inr rfl|assumption) :
  wpAny (model X.prog X.w) X.A (exec (.FunctionDef name args body [] none [] scope none name pos) X.env) Q X.xe s:=by
 have hcl:closureFor scope X.env=pure (gw X.env scope.names []):=rT hfree;have hg:s.heap.Ns mainGlobals X.mg:=I.mod.glob.keeps I.bk;obtain⟨ps,hPo,htr,hall⟩:=I.hok P _ hP;have ab9:s.heap.get? P=some (PySem.W.tabObj ps):=hPo;have C:=B.code.keeps I.bk;have hb:=B.blt.keeps I.bk;refine PySem.W.nestDef_K hd0 hk0 ha ?_;rw[hqn]
 -- the function's object is laid and the name stored
 have fin:∀(c:Addr) (H1:Hp) (h':Heap) (tk:Nat) (doc pm ctv:Value),Inv X pins σ H1 { s with heap:=h',toks:=tk }->aM H H1->WY H1 c qual->(∀b o,H1 b=some o->H b=some o\/(b=c/\H c=none))->s.heap.objs.size<=h'.objs.size->
   wpAny (model X.prog X.w) X.A (storeName X.env name (.ref h'.objs.size)) (λ_ s''=>Q .next s'') X.xe { s with heap:=h'.push (PySem.W.fnMade name qual args body scope (gw X.env scope.names []) doc pm c ctv),toks:=tk }:=by
  intro c H1 h' tk doc pm ctv I1 sH hc ab7 hsz;have hn1:H1 h'.objs.size=none:=I1.hok.fresh (Qq0 _);have I2:Inv X pins σ (upd H1 h'.objs.size (.j5 (PySem.W.fnMade name qual args body scope (gw X.env scope.names []) doc pm c ctv) (.own h'.objs.size))) { s with heap:=h'.push (PySem.W.fnMade name qual args body scope (gw X.env scope.names []) doc pm c ctv),toks:=tk }:=
   I1.laid (t':=tk) (λb u e=>Qqk _ e) (Qq0 _) ⟨Qwz _ rfl,_,Qwz _ rfl⟩
  refine sU I2 hN hi hx (v:=.ref h'.objs.size) rfl (λs' I'=>?_) hf;obtain⟨o,u,vs,t,z,_⟩:=id hc;exact h _ c H1 doc pm ctv s' (I.hok.fresh hsz) (cL z hn1) sH hn1 hc ab7 I'
 rcases hall _ hq with hnone|⟨c,o,u,vs,t,hsome,hc1,hc2,hc3⟩
 ·refine PySem.W.makeFunction_K (mg:=X.mg) hcl I.ok.glob hg hcode C ab9 htr hnone B.ne hb λc' ctv doc h' tk hx' hge hlt hrec hP'=>?_;obtain⟨c2,co,vs,t,ec,ho,hd,hv⟩:=hrec;cases ec;have hnc:H c'=none:=I.hok.fresh hge;have hcP:c'≠P:=λz=>by rw[z,hP] at hnc;cases hnc
  have sH:aM H (upd H c' (.j5 co (.own c'))):=λb o e=>by rw[bu (cL e hnc)];exact e
  have I1:Inv X pins σ (upd H c' (.j5 co (.own c'))) { s with heap:=h',toks:=tk }:=by
   refine I.un ⟨λb o e n _ _=>?_,λb o e n _ _=>?_,λb o e n _=>?_,λb o e _=>?_,λb xs e=>sH _ _ e,λb o u e=>sH _ _ e,λb ps e=>⟨#[],by rw[sH _ _ e];simp⟩,λb qs e=>sH _ _ e⟩ λb o e=>?_
   ·exact hx' b o (λz=>by rw[z,hP] at n;cases n) e
   ·exact⟨o.slots,hx' b o (λz=>by rw[z,hP] at n;cases n) e⟩
   ·rw[bu (Qw5 (Qwx (Qq7 e) hge))];exact n
   ·by_cases hb:b=P
    ·subst hb;exact⟨_,hP'⟩
    ·exact⟨o,hx' b o hb e⟩
   ·by_cases hbc:b=c'
    ·subst hbc;rw[aR] at e;cases e;exact⟨ho,_,ho⟩
    ·rw[bu hbc] at e;by_cases hbP:b=P
     ·subst hbP;rw[hP] at e;cases e;refine⟨_,hP',by rw[Array.toList_append];exact TriplesOk_snoc _ _ _ _ htr,λq hq=>?_⟩;have hsn:=Jm (q:=q.1) (a:=pos.line) (b:=pos.col) (c:=.ref c') ps.toList htr;have e4:(ps ++ #[rawInt pos.line,rawInt pos.col,.ref c']).toList=ps.toList++[rawInt pos.line,rawInt pos.col,.ref c']:=by rw[Array.toList_append]
      rw[e4,hsn];rcases hall q hq with z|⟨c,o,u,vs',t',g1,g2,g3,g4⟩
      ·rw[z];by_cases hm:(pos.line:Int) == q.1.line&&(pos.col:Int) == q.1.col
       ·right
        refine⟨c',co,.own c',vs,t,by simp only[hm,if_true],aR,hd,?_⟩;rw[Qx9,beq_iff_eq,beq_iff_eq] at hm;rw[hqs q hq (by omega) (by omega)];exact hv
       ·left
        simp only[hm]
        rfl
      ·rw[g1];exact .inr ⟨c,o,u,vs',t',rfl,sH _ _ g2,g3,g4⟩
     ·refine(I.hok b o e).stay (λx u hx2 g=>hx' x u (λz=>?_) g) (λx g=>sH _ _ g) (λx xs g=>sH _ _ g) λx _ _ _ _ g=>sH _ _ g;rcases hx2 with z2|z2
      ·exact hbP (z2 ▸ z)
      ·rw[z,hP] at z2;cases z2
  exact fin c' _ h' tk doc _ ctv I1 sH ⟨co,_,vs,t,aR,hd,hv⟩ (λb o e=>by
   by_cases hb:b=c'
   ·exact .inr ⟨hb,hnc⟩
   ·rw[bu hb] at e;exact .inl e) (Qq6 hge (Qkj hlt))
 ·refine PySem.W.makeFunction_hit (mg:=X.mg) (cv:=.ref c) hcl I.ok.glob hg hcode C ab9 htr hsome hb λctv doc h' tk hk hsz=>?_;exact fin c H h' tk doc _ ctv (I.kept hk) (λ_ _ e=>e) ⟨o,u,vs,t,hc1,hc2,hc3⟩ (λb o e=>.inl e) hsz
open Classical in
noncomputable def jn(h:Heap)(Cs:List Addr)(H:Hp):Hp:=λb=>if b∈Cs then (match h.get? b with
 | some o=>some (.j5 o (.own b))
 | none=>none) else H b
open Classical in
noncomputable def qO(Cs:List Addr)(H:Hp):Hp:=λb=>if b∈Cs then none else H b
section
variable{h:Heap}{Cs:List Addr}{H:Hp}{b:Addr}{o:Obj}{u:HO}
theorem uI(hb:b∈Cs)(e:h.get? b=some o):jn h Cs H b=some (.j5 o (.own b)):=by unfold jn;rw[if_pos hb,e]
theorem gG(hb:b ∉ Cs):jn h Cs H b=H b:=by unfold jn;rw[if_neg hb]
theorem Gv(hb:b∈Cs):qO Cs H b=none:=by unfold qO;rw[if_pos hb]
theorem gr(hb:b ∉ Cs):qO Cs H b=H b:=by unfold qO;rw[if_neg hb]
end
theorem Tf{X:Cx}{pins:List (Addr×Obj)}{σ:St}{H:Hp}{s:Shared}{k:Nat}{f:Addr}{fd:FuncData}{ps:List Str}{sp:Sp}{Q Q':VK}{us:List Value}{vs:List V}{Cs:List Addr}
  (F:j4 X.prog X.w X.K X.mg X.base vO k f fd ps sp) (hr:eV k X.A) (hb:Binds X.K fd ps []) (hx:∀e s,False->X.xe e s) (I:Inv X pins σ H s) (r:Vals vs us)
  (hC:∀c∈Cs,∃x,X.env.cells.lookup x=some c/\X.fn x=true) (h:sp vs (jn s.heap Cs H) Q' E0) (hQ:∀v H',Q' v H'->Q v (qO Cs H')) :
  wpAny (model X.prog X.w) X.A (call (.ref f) us) (EP X pins σ Q) X.xe s:=by
 have hl:us.length=ps.length:=by rw[<-r.length];exact F.len _ _ _ _ h
 have cn:∀c∈Cs,H c=none/\(∃o,s.heap.get? c=some o)/\X.s₀.heap.objs.size<=c/\c≠X.env.locals:=λc hc=>by
  obtain⟨x,e1,e2⟩:=hC c hc;refine⟨(I.qe x c e1).resolve_right λz=>(by rw[e2] at z;cases z.1),?_,I.ok.cab x c e2 e1,I.Wr x c e1⟩;obtain⟨v,o,ho,_⟩:=I.cell x c e1;exact⟨o,ho⟩
 have nin:∀b u,H b=some u->b ∉ Cs:=λb u e hb=>by rw[(cn b hb).1] at e;cases e
 have up:∀b u,H b=some u->jn s.heap Cs H b=some u:=λb u e=>by rw[gG (nin b u e)];exact e
 have e0:GX X.prog X.w X.K X.mg X.base X.A X.stack s (jn s.heap Cs H):=by
  have e1:=I.env0;refine⟨e1.frames,e1.mod,λb o e=>⟨(e1.bs b o e).1,?_⟩,e1.RG,e1.t7,λb hb=>?_,λb o e=>?_,e1.bare⟩
  ·rw[gG λhb=>?_]
   ·exact(e1.bs b o e).2
   ·exact absurd (Qwx (Qq7 e) (Qq6 I.ok.RG (cn b hb).2.2.1)) (Qzk _)
  ·rw[gG λhb2=>?_]
   ·exact e1.Wl b hb
   ·rcases Qq2.mp (I.Bv b hb) with z|z
    ·exact(cn b hb2).2.2.2 z
    ·obtain⟨_,o,ho,_⟩:=I.ok.t7.mem z;exact absurd (Qwx (Qq7 ho) (cn b hb2).2.2.1) (Qzk _)
  ·by_cases hb:b∈Cs
   ·obtain⟨_,⟨ob,ho⟩,_⟩:=cn b hb;rw[uI hb ho] at e;cases e;exact⟨ho,ob,ho⟩
   ·rw[gG hb] at e;exact(I.hok b o e).stay (λ_ _ _ q=>q) (λc q=>up _ _ q) (λc xs q=>up _ _ q) λc _ _ _ _ q=>up _ _ q
 have hb2:=hb s us I.Mu (by rw[Qxv];exact hl);rw[Qxv] at hb2;refine wpAny_call (codeAny_mono (F.run X.A X.stack s (jn s.heap Cs H) ⟨us,[]⟩ us vs Q' E0 hr e0 hb2 r h) λrr s' hq=>?_);cases rr with
 | error e=>exact hx e s' hq
 | ok fl=>
  cases fl with
  | next=>exact False.elim hq
  | brk=>exact False.elim hq
  | cont=>exact False.elim hq
  | ret u=>
   obtain⟨v,H',os,bare,un,hok,rv,q⟩:=hq;have cz:∀c∈Cs,∀o,s.heap.get? c=some o->H' c=some (.j5 o (.own c))/\s'.heap.get? c=some o:=λc hc o ho=>by
    have z:=un.vC c o _ (uI hc ho);exact⟨z,(hok c _ z).1⟩
   have un2:Un (frs X.stack) [] H (qO Cs H') s.heap s'.heap:=by
    refine⟨λb o e n hb hx=>?_,λb o e n hb hx=>?_,λb o e n hx=>?_,un.there,λb xs e=>?_,λb o u e=>?_,λb ps e=>?_,λb qs e=>?_⟩
    ·by_cases hb2:b∈Cs
     ·exact(cz b hb2 o e).2
     ·exact un.keep b o e (by rw[gG hb2];exact n) hb hx
    ·by_cases hb2:b∈Cs
     ·exact⟨o.slots,(cz b hb2 o e).2⟩
     ·exact un.slot b o e (by rw[gG hb2];exact n) hb hx
    ·by_cases hb2:b∈Cs
     ·exact Gv hb2
     ·rw[gr hb2];exact un.free b o e (by rw[gG hb2];exact n) hx
    ·rw[gr (nin _ _ e)];exact un.tups b xs (up _ _ e)
    ·rw[gr (nin _ _ e)];exact un.vC b o u (up _ _ e)
    ·rw[gr (nin _ _ e)];exact un.Bp b ps (up _ _ e)
    ·rw[gr (nin _ _ e)];exact un.tabs b qs (up _ _ e)
   have ad5:rY X.prog X.w (qO Cs H') s'.heap:=λb o e=>by
    by_cases hb:b∈Cs
    ·rw[Gv hb] at e;cases e
    ·rw[gr hb] at e;have j5:∀c∈Cs,∃oc,H' c=some (.j5 oc (.own c))/\∃w,oc.data = .cell w:=λc hc=>by
      obtain⟨x,e1,e2⟩:=hC c hc;obtain⟨v,oc,ho,hd⟩:=I.cell x c e1;exact⟨oc,(cz c hc oc ho).1,v,hd⟩
     refine(hok b o e).stay (λ_ _ _ q=>q) (λc q=>?_) (λc xs q=>?_) λc oc u vs hv q=>?_
     ·rw[gr λhc=>?_]
      ·exact q
      ·obtain⟨oc,z,_⟩:=j5 c hc;rw[q] at z;cases z
     ·rw[gr λhc=>?_]
      ·exact q
      ·obtain⟨oc,z,_⟩:=j5 c hc;rw[q] at z;cases z
     ·rw[gr λhc=>?_]
      ·exact q
      ·obtain⟨oc,z,w,hw⟩:=j5 c hc;rw[q] at z;cases z;rw[hv] at hw;cases hw
   exact I.after ⟨v,qO Cs H',os,bare,un2,ad5,rv,hQ v H' q⟩
end L2
namespace Ev
open PySem PySem.Spec PyProof.Rows L2
theorem Rel.grow{C:Cfg}{Pr F:Hp}{env:Env}{σ:L2.St}{H H':Hp}(r:Rel C Pr F env σ H)(s:aM H H'):Rel C Pr F env σ H':=by refine⟨r.pr.trans s,r.fr.trans s,r.len,r.val,λj e he=>?_,r.apart,r.dj,r.fix⟩;obtain⟨a,h1,h2,h3,h4⟩:=r.own j e he;obtain⟨o,ho⟩:=h2.some;exact⟨a,h1,h2.mono (aM.refl F) (by rw[ho,s _ _ ho]),h3,h4⟩
theorem Rel.unset{C:Cfg}{Pr F:Hp}{env:Env}{σ:L2.St}{H:Hp}{i:Nat}{v:V}(r:Rel C Pr F env σ H)(hfx:C.fx i=none):Rel C Pr F (env.set i none) (σ.set i (some v)) H:=by
 have un:∀(j:Nat) (x:Bool×D),(env.set i none)[j]? = some (some x)->j≠i/\env[j]? = some (some x):=λj x he=>by
  have hj:j≠i:=λz=>by
   subst z;have hl:j<env.length:=by
    have:=(Qqv.mp he).1
    rwa [Qxy] at this
   rw[Qwv hl] at he;cases he
  rw[Qq8 (Ne.symm hj)] at he;exact⟨hj,he⟩
 refine⟨r.pr,r.fr,by rw[Qxy,Qxy];exact r.len,λj e he=>?_,λj e he=>?_,λj k e f b hj hk g1 g2=>?_,r.dj,λj a hj=>?_⟩
 ·obtain⟨nj,he⟩:=un j _ he;rw[Qq8 (Ne.symm nj)];exact r.val j e he
 ·obtain⟨nj,he⟩:=un j _ he;rw[Qq8 (Ne.symm nj)];exact r.own j e he
 ·obtain⟨nj,hj⟩:=un j _ hj;obtain⟨nk,hk⟩:=un k _ hk;rw[Qq8 (Ne.symm nj)] at g1;rw[Qq8 (Ne.symm nk)] at g2;exact r.apart j k e f b hj hk g1 g2
 ·have hji:j≠i:=λz=>by rw[z,hfx] at hj;cases hj
  rw[Qq8 (Ne.symm hji)];exact r.fix j a hj
theorem Rel.Kh{C:Cfg}{Pr F:Hp}{env:Env}{σ:L2.St}{H:Hp}{b:Addr}{x:Obj}{u:HO}(r:Rel C Pr F env σ H)(e:H b=some (.j5 x u)) :
  ∃Pr',Rel C Pr' F env σ H/\aM Pr Pr'/\(Pr' b=some (.j5 x u)\/F b=some (.j5 x u)):=by
 cases hF:F b with
 | some o=>
  have:=r.fr b o hF;rw[e] at this;cases this;exact⟨Pr,r,aM.refl Pr,.inr rfl⟩
 | none=>
  refine⟨upd Pr b (.j5 x u),⟨λc o h=>?_,r.fr,r.len,r.val,λj d he=>?_,r.apart,λc o h=>?_,r.fix⟩,λc o h=>?_,.inl aR⟩
  ·by_cases hc:c=b
   ·subst hc;rw[aR] at h;cases h;exact e
   ·rw[bu hc] at h;exact r.pr c o h
  ·obtain⟨a,h1,h2,h3,h4⟩:=r.own j d he;refine⟨a,h1,h2,h3,?_⟩;rw[bu λz=>?_]
   ·exact h4
   ·subst z;cases d with
    | lst xs=>obtain⟨_,vs,g,_⟩:=h2;rw[e] at g;cases g
    | dct xs=>obtain⟨_,vs,g,_⟩:=h2;rw[e] at g;cases g
    | jl xs=>obtain⟨_,vs,g,_⟩:=h2;rw[e] at g;cases g
    | _=>exact h2.elim
  ·rw[bu λz=>by rw[z,hF] at h;cases h];exact r.dj c o h
  ·by_cases hc:c=b
   ·subst hc;have:=r.pr c o h;rw[e] at this;cases this;exact aR
   ·rw[bu hc];exact h
def RB(env:Env):List Nat->Option (List D)
 | []=>some []
 | j::js=>match env[j]?,RB env js with
  | some (some (false,d)),some ds=>some (d::ds)
  | _,_=>none
def JM:D->Bool
 | .non=>true
 | .bl _=>true
 | .int _=>true
 | .str _=>true
 | _=>false
theorem Ol{K:Fg}{F F':Hp}{d:D}{v:V}(h:JM d=true)(r:Rep K F d v):Rep K F' d v:=by cases d<;>first|exact r|cases h
def uM(st1 st2:Stmt)(Zo Zm:List Nat)(i1 i2:Nat)(g:List D->Option D)(a1 a2 a3:Ev):cu:=λenv=>
 iG (aa a1 (aa a2 (aa a3 ak)) ((env.set i1 none).set i2 none)) λds aK=>(match RB aK Zo,RB aK Zm with
  | some c1,some c2=>(match g (ds++[.clo st1 c1,.clo st2 c2]) with
   | some d=>if JM d=true then .rt false d aK else .stuck
   | none=>.stuck)
  | _,_=>.stuck)
def Nm(env:PySem.Env)(xs:List Str):List (Str×Addr):=xs.map λx=>(x,(env.cells.lookup x).getD 0)
theorem Dl(env:PySem.Env):∀(names:List (Str×NameKind)) (acc:List (Str×Addr)),gw env names acc=Nm env (((names.filter (·.2 == .free)).map (·.1)).reverse)++acc
 | [],acc=>rfl
 | (n,k)::r,acc=>by
  unfold gw;cases hk:k == NameKind.free with
  | true=>
   rw[if_pos rfl,Dl env r];simp[List.filter_cons,hk,Nm]
  | false=>
   rw[if_neg (by simp),Dl env r];simp[List.filter_cons,hk]
theorem KD(env:PySem.Env)(st:Stmt):gw env (aJ st).names []=Nm env (freeOf st):=by rw[Dl,Qxv];rfl
def xr(N:List Str):List Nat->List Str->Prop
 | [],[]=>True
 | j::js,x::xs=>N[j]? = some x/\xr N js xs
 | _,_=>False
theorem Dp{X:Cx}{C:Cfg}{xs0:List Str}{pins:List (Addr×Obj)}{Pr F Fp:Hp}{env:Env}{σ:L2.St}{H:Hp}{s:Shared}(I:Inv X pins σ H s)(r:Rel C Pr F env σ H)
  (hF:∀c o,s.heap.get? c=some o->(∃x,X.env.cells.lookup x=some c/\x∈xs0)->Fp c=some (.j5 o (.own c))) (hs:aM F Fp) :
  ∀{js:List Nat} {xs:List Str} {ds:List D},xr X.N js xs->(∀x∈xs,X.env.scope.names.lookup x=some .cell/\x∈xs0)->RB env js=some ds->∃vs,bM C.K Fp ds vs/\o9 Fp (Nm X.env xs) vs
 | [],[],ds,_,_,e=>by cases e;exact⟨[],rfl,rfl⟩
 | [],_::_,_,h,_,_=>h.elim
 | _::_,[],_,h,_,_=>h.elim
 | j::js,x::xs,ds,⟨h1,h2⟩,hx,e=>by
  unfold RB at e;split at e
  ·rename_i d ds' e1 e2;cases e;obtain⟨vs,q1,q2⟩:=Dp I r hF hs h2 (λy hy=>hx y (Qqq _ hy)) e2;obtain⟨v,g1,g2⟩:=r.val j d e1;obtain⟨hk,hm⟩:=hx x Qqj;obtain⟨m,hn,hl⟩:=I.loc;obtain⟨u,rv,l⟩:=hl j x v h1 g1 (.inr (.inl hk));have hk':X.env.kindOf x=some .cell:=hk;rcases l with ⟨z,_⟩|⟨_,c,hc,oc,ho,hd⟩
   ·rw[hk'] at z;cases z
   ·refine⟨v::vs,⟨v,vs,rfl,Rep.mono hs _ _ g2,q1⟩,v,vs,rfl,⟨oc,.own c,u,?_,hd,rv⟩,q2⟩;rw[hc];exact hF c oc ho ⟨x,hc,hm⟩
  ·cases e
structure GZ(X:Cx)(qs:List (Pos×Str))(i:Nat)(js:List Nat)(st:Stmt)(n:Str)(args:Arguments)(body:List Stmt)(sc:Scope)(pos:Pos)(qual:Str):Prop where
 eq:st = .FunctionDef n args body [] none [] sc none n pos
 hq:(pos,qual)∈qs
 hqs:∀q∈qs,q.1.line=pos.line->q.1.col=pos.col->q.2=qual
 hd0:args.defaults=[]
 hk0:args.kw_defaults=[]
 ha:annTrees args none X.env=[]
 hqn:qualnameIn X.env n n=qual
 fr:∀x∈freeOf st,X.env.scope.names.lookup x=some .cell
 fnd:(freeOf st).Nodup
 hi:X.N[i]? = some n
 hx:X.env.scope.names.lookup n=some .local
 sl:xr X.N js (freeOf st)
theorem Gb{n:Str}{st:Stmt}(h:(n,NameKind.free)∈(aJ st).names):n∈freeOf st:=by unfold freeOf;exact Qj2.mpr (Qwq.mpr ⟨(n,.free),List.mem_filter.mpr ⟨h,rfl⟩,rfl⟩)
open Classical in
theorem Lk{X:Cx}{C:Cfg}{qs:List (Pos×Str)}{c0 P:Addr}{i1 i2:Nat}{Zo Zm:List Nat}{st1 st2:Stmt}{n1 n2:Str}{ar1 ar2:Arguments}{bd1 Vk:List Stmt}{Om Ez:Scope}{ps1 ps2:Pos}{q1 q2:Str}{e1 e2 e3:Expr}{a1 a2 a3:Ev}{x:Str}{p Cu Cr pos rpos:Pos}{k k':Nat}{ps:List Str}{g:List D->Option D}
  (G:Good X C) (B:zZ X.base X.mg c0 P) (hcode:X.env.code = .ref c0) (hT:X.H₀ P=some (.tab qs)) (hfn:∀y,X.fn y=true) (hN:X.N.Nodup) (hfx:∀i,C.fx i=none) (h12:i1≠i2)
  (D1:GZ X qs i1 Zo st1 n1 ar1 bd1 Om ps1 q1) (D2:GZ X qs i2 Zm st2 n2 ar2 Vk Ez ps2 q2)
  (O:Own X.prog X.w X.K X.mg X.base x k ps (jU X.K 5 g)) (hr:eV k' X.A) (hkk:k<=k') (hx:∀e s,False->X.xe e s) (hg:Gl X x) (hdb:(x == ("__debug__" : Str))=false)
  (h1:PX X C e1 a1) (h2:PX X C e2 a2) (h3:PX X C e3 a3) (hv1:(n1 == ("__debug__" : Str))=false) (hv2:(n2 == ("__debug__" : Str))=false) (hw1:(n1 == ("__classdict__" : Str))=false) (hw2:(n2 == ("__classdict__" : Str))=false)
  (s1:starEach [e1,e2,e3,.Name n1 Cu,.Name n2 Cr] X.env=(false,eval e1 X.env)::starEach [e2,e3,.Name n1 Cu,.Name n2 Cr] X.env) (s2:starEach [e2,e3,.Name n1 Cu,.Name n2 Cr] X.env=(false,eval e2 X.env)::starEach [e3,.Name n1 Cu,.Name n2 Cr] X.env)
  (s3:starEach [e3,.Name n1 Cu,.Name n2 Cr] X.env=(false,eval e3 X.env)::starEach [.Name n1 Cu,.Name n2 Cr] X.env) (hpl:(backTo pos (starEach [e2,e3,.Name n1 Cu,.Name n2 Cr] X.env)).any (·.1)=false) :
  qK X C [st1,st2,.Return (some (.Call (.Name x p) [e1,e2,e3,.Name n1 Cu,.Name n2 Cr] [] pos)) rpos] (uM st1 st2 Zo Zm i1 i2 g a1 a2 a3):=by
 obtain⟨f,fd,FO,hm,hk,hb⟩:=O;intro pins s σ H D I h;obtain⟨Pr,F,env,r,fin⟩:=h;unfold uM at fin;obtain⟨ds,aK,ea,fin⟩:=dg fin;obtain⟨d1,acj,ea1,ea⟩:=aU ea;obtain⟨ds1,agK,ea,eb⟩:=aU ea;cases eb;obtain⟨d2,aci,ea2,ea⟩:=aU ea;obtain⟨ds2,agJ,ea,eb⟩:=aU ea;cases eb;obtain⟨d3,envE,ea3,ea⟩:=aU ea;obtain⟨ds3,agI,ea,eb⟩:=aU ea;cases eb;cases ea;split at fin
 ·rename_i cp1 cp2 ec1 ec2;split at fin
  ·rename_i d eg;split at fin
   ·rename_i hsc
    -- the first def
    have hP:∀{σ:L2.St} {H:Hp} {s:Shared},Inv X pins σ H s->H P=some (.tab qs):=λI=>I.base.tabs P qs hT;have fr1:∀n,(n,NameKind.free)∈Om.names->∃c,X.env.cells.lookup n=some c:=λn hn=>I.ok.has n (.inl (D1.fr n (Gb (st:=st1) (by rw[D1.eq];exact hn))));have fr2:∀n,(n,NameKind.free)∈Ez.names->∃c,X.env.cells.lookup n=some c:=λn hn=>I.ok.has n (.inl (D2.fr n (Gb (st:=st2) (by rw[D2.eq];exact hn))));have eS1:=D1.eq;have eS2:=D2.eq;rw[eS1,eS2];refine wpAny_execs_cons (Aw I B hcode (hP I) D1.hq D1.hqs D1.hd0 D1.hk0 D1.ha D1.hqn fr1 hN D1.hi (.inl D1.hx) (λf1 c1 H1 U7 pm1 Vc s1' hf1 aeb sH1 hH1 hc1 hb1 I1=>?_) (.inl (hfn _)));refine wpAny_execs_cons (Aw I1 B hcode (hP I1) D2.hq D2.hqs D2.hd0 D2.hk0 D2.ha D2.hqn fr2 hN D2.hi (.inl D2.hx) (λf2 c2 H2 Je X6 Jf Te hf2 aea sH2 hH2 hc2 hb2 I2=>?_) (.inl (hfn _)))
    -- what is known then
    have sA:aM H (upd H1 f1 (.j5 (PySem.W.fnMade n1 q1 ar1 bd1 Om (gw X.env Om.names []) U7 pm1 c1 Vc) (.own f1))):=λb o e=>by rw[bu (cL (sH1 _ _ e) hH1)];exact sH1 _ _ e
    have sB:aM (upd H1 f1 (.j5 (PySem.W.fnMade n1 q1 ar1 bd1 Om (gw X.env Om.names []) U7 pm1 c1 Vc) (.own f1))) (upd H2 f2 (.j5 (PySem.W.fnMade n2 q2 ar2 Vk Ez (gw X.env Ez.names []) Je X6 c2 Jf) (.own f2))):=λb o e=>by rw[bu (cL (sH2 _ _ e) hH2)];exact sH2 _ _ e
    have r2:=(((r.grow sA).unset (i:=i1) (v:=.ref f1) (hfx i1)).grow sB).unset (i:=i2) (v:=.ref f2) (hfx i2);obtain⟨co1,cu1,cv1,ct1,g1a,g1b⟩:=hc1;obtain⟨co2,cu2,cv2,ct2,g2a,g2b⟩:=hc2;have k1:(upd H2 f2 (.j5 (PySem.W.fnMade n2 q2 ar2 Vk Ez (gw X.env Ez.names []) Je X6 c2 Jf) (.own f2))) f1=some (.j5 (PySem.W.fnMade n1 q1 ar1 bd1 Om (gw X.env Om.names []) U7 pm1 c1 Vc) (.own f1)):=sB _ _ aR;have k2:(upd H2 f2 (.j5 (PySem.W.fnMade n2 q2 ar2 Vk Ez (gw X.env Ez.names []) Je X6 c2 Jf) (.own f2))) f2=some (.j5 (PySem.W.fnMade n2 q2 ar2 Vk Ez (gw X.env Ez.names []) Je X6 c2 Jf) (.own f2)):=aR;have k3:(upd H2 f2 (.j5 (PySem.W.fnMade n2 q2 ar2 Vk Ez (gw X.env Ez.names []) Je X6 c2 Jf) (.own f2))) c1=some (.j5 co1 cu1):=sB _ _ (by rw[bu aeb];exact g1a);have k4:(upd H2 f2 (.j5 (PySem.W.fnMade n2 q2 ar2 Vk Ez (gw X.env Ez.names []) Je X6 c2 Jf) (.own f2))) c2=some (.j5 co2 cu2):=by rw[bu aea];exact g2a
    obtain⟨Pr1,r3,sP1,w1⟩:=r2.Kh k1;obtain⟨Pr2,r4,sP2,w2⟩:=r3.Kh k2;obtain⟨Pr3,r5,sP3,w3⟩:=r4.Kh k3;obtain⟨WQ,r6,sP4,w4⟩:=r5.Kh k4;have sP:aM Pr WQ:=((sP1.trans sP2).trans sP3).trans sP4;have l1:i1<σ.length:=by rw[I.len];exact(Qqv.mp D1.hi).1
    have l2:i2<σ.length:=by rw[I.len];exact(Qqv.mp D2.hi).1
    have hσ1:((σ.set i1 (some (V.ref f1))).set i2 (some (V.ref f2)))[i1]? = some (some (V.ref f1)):=by rw[Qq8 (Ne.symm h12),Qwv l1]
    have hσ2:((σ.set i1 (some (V.ref f1))).set i2 (some (V.ref f2)))[i2]? = some (some (V.ref f2)):=by rw[Qwv (by rw[Qxy];exact l2)]
    -- the call
    have hE:PE X (.Call (.Name x p) [e1,e2,e3,.Name n1 Cu,.Name n2 Cr] [] pos) (λσ' H' Q=>σ'=(σ.set i1 (some (V.ref f1))).set i2 (some (V.ref f2))/\Rel C WQ F ((env.set i1 none).set i2 none) σ' H'/\
      ∀v H3 F3,Rel C WQ F3 aK σ' H3->aM F F3->Rep C.K F3 d v->Q v H3):=by
     intro pins s σ' H' Q I ⟨eσ,r,q⟩;subst eσ;refine wpAny_Call_Name_kw (xB I hg hm ?_ hdb);have hA:PA X [e1,e2,e3,.Name n1 Cu,.Name n2 Cr] (Ab (tE C a1) (Ab (tE C a2) (Ab (tE C a3) (Ab (SM i1) (Ab (SM i2) aaV))))):=
      jx h1 (jx h2 (jx h3 (jx (iR D1.hi (.inl D1.hx) hv1 hw1) (jx (iR D2.hi (.inl D2.hx) hv2 hw2) yh rfl) rfl) s3) s2) s1
     refine PySem.W.callWith_K (h₀:=X.base) I.ok.mod.Ze hk (fc (hA pos pins s _ H' (λvs H3=>∃v1 v2 v3 F3,vs=[v1,v2,v3,.ref f1,.ref f2]/\Rel C WQ F3 aK ((σ.set i1 (some (V.ref f1))).set i2 (some (V.ref f2))) H3/\aM F F3/\bM C.K F3 [d1,d2,d3] [v1,v2,v3]) I ?_) λus s4 hq=>?_) s1 hpl
     ·refine⟨WQ,F,_,acj,d1,r,ea1,λv1 Ha Fa ra sa pa=>⟨WQ,Fa,acj,aci,d2,ra,ea2,λv2 Hb Fb rb sb pb=>⟨WQ,Fb,aci,aK,d3,rb,ea3,λv3 Hc Fc rc sc pc=>?_⟩⟩⟩;exact⟨_,hσ1,_,hσ2,v1,v2,v3,Fc,rfl,rc,(sa.trans sb).trans sc,_,_,rfl,Rep.mono (sb.trans sc) _ _ pa,_,_,rfl,Rep.mono sc _ _ pb,_,_,rfl,pc,rfl⟩
     ·obtain⟨vs,H3,I3,rv,v1,v2,v3,F3,rfl,r3,sF3,p3⟩:=hq;refine⟨I3.Mu,?_⟩;have up:∀{b:Addr} {o:HO},(WQ b=some o\/F b=some o)->H3 b=some o:=λz=>z.elim (λz=>r3.pr _ _ z) λz=>r3.fr _ _ (sF3 _ _ z);have m1:=up (w1.imp (λz=>sP4 _ _ (sP3 _ _ (sP2 _ _ z))) id);have m2:=up (w2.imp (λz=>sP4 _ _ (sP3 _ _ z)) id);have m3:=up (w3.imp (λz=>sP4 _ _ z) id);have m4:=up w4
      let xs0:=freeOf st1++freeOf st2
      let Cs:=(Nm X.env xs0).map (·.2)
      have hC:∀c∈Cs,∃y,X.env.cells.lookup y=some c/\X.fn y=true:=λc hc=>by
       obtain⟨q,hq,rfl⟩:=Qwq.mp hc;obtain⟨y,hy,rfl⟩:=Qwq.mp hq;have hy':X.env.scope.names.lookup y=some .cell:=(Qww.mp hy).elim (D1.fr y) (D2.fr y);obtain⟨c,hc⟩:=I.ok.has y (.inl hy');exact⟨y,by simp only[hc,Option.getD_some],hfn y⟩
      have cn:∀c∈Cs,H3 c=none:=λc hc=>by
       obtain⟨y,g1,g2⟩:=hC c hc;exact(I3.qe y c g1).resolve_right λz=>by rw[g2] at z;cases z.1
      have nC:∀b u,H3 b=some u->b ∉ Cs:=λb u e hb=>by rw[cn b hb] at e;cases e
      have W6:∀b u,H3 b=some u->jn s4.heap Cs H3 b=some u:=λb u e=>by rw[gG (nC b u e)];exact e
      let Sp:=f1::f2::c1::c2::Cs
      let Fp:Hp:=λb=>if b∈Sp then jn s4.heap Cs H3 b else F3 b
      have zA:∀b,b∈Sp->Fp b=jn s4.heap Cs H3 b:=λb hb=>if_pos hb;have Jr:∀b,b ∉ Sp->Fp b=F3 b:=λb hb=>if_neg hb;have sFp:aM F3 Fp:=λb o e=>by
       by_cases hb:b∈Sp
       ·rw[zA b hb];exact W6 _ _ (r3.fr _ _ e)
       ·rw[Jr b hb];exact e
      have adI:aM Fp (jn s4.heap Cs H3):=λb o e=>by
       by_cases hb:b∈Sp
       ·rw[zA b hb] at e;exact e
       ·rw[Jr b hb] at e;exact W6 _ _ (r3.fr _ _ e)
      have hFc:∀c o,s4.heap.get? c=some o->(∃y,X.env.cells.lookup y=some c/\y∈xs0)->Fp c=some (.j5 o (.own c)):=λc o e ⟨y,hy,hm⟩=>by
       have hc:c∈Cs:=Qwq.mpr ⟨(y,c),Qwq.mpr ⟨y,hm,by simp only[hy,Option.getD_some]⟩,rfl⟩;rw[zA c (Qqq _ (Qqq _ (Qqq _ (Qqq _ hc))))];exact uI hc e
      obtain⟨us1,rp1,ca1⟩:=Dp (xs0:=xs0) I3 r3 hFc sFp D1.sl (λy hy=>⟨D1.fr y hy,Qj6 _ hy⟩) ec1;obtain⟨us2,rp2,ca2⟩:=Dp (xs0:=xs0) I3 r3 hFc sFp D2.sl (λy hy=>⟨D2.fr y hy,Qxq _ hy⟩) ec2;have nda:∀xs:List Str,xs.Nodup->(∀y∈xs,X.env.scope.names.lookup y=some .cell)->((Nm X.env xs).map (·.2)).Nodup:=by
       intro xs
       induction xs with
       | nil=>intro _ _;exact .nil
       | cons y ys ih=>
        intro hn hy;show((X.env.cells.lookup y).getD 0::(Nm X.env ys).map (·.2)).Nodup;refine Qxz.mpr ⟨λhm=>?_,ih (Qxz.mp hn).2 λz hz=>hy z (Qqq _ hz)⟩;obtain⟨q,hq,eq⟩:=Qwq.mp hm;obtain⟨z,hz,rfl⟩:=Qwq.mp hq;obtain⟨cy,hcy⟩:=I.ok.has y (.inl (hy y Qqj));obtain⟨cz,hcz⟩:=I.ok.has z (.inl (hy z (Qqq _ hz)));simp only[hcy,hcz,Option.getD_some] at eq;subst eq;exact(Qxz.mp hn).1 (I.ok.inj y z _ hcy hcz ▸ hz)
      have QM:∀xs:List Str,(Nm X.env xs).map (·.1)=xs:=λxs=>by
       induction xs with
       | nil=>rfl
       | cons y ys ih=>exact Qx5 (y :: ·) ih
      have e5:gw X.env Om.names []=Nm X.env (freeOf st1):=by have:=KD X.env st1;rw[eS1] at this ⊢;exact this
      have e6:gw X.env Ez.names []=Nm X.env (freeOf st2):=by have:=KD X.env st2;rw[eS2] at this ⊢;exact this
      have aeq:Rep C.K Fp (.clo st1 cp1) (.ref f1):=by
       refine⟨f1,us1,rfl,.inl ⟨⟨.own f1,q1,Nm X.env (freeOf st1),U7,pm1,Vc,c1,?_,⟨co1,cu1,cv1,ct1,?_,g1b⟩,QM _,nda _ D1.fnd D1.fr,ca1⟩,by rw[eS1];rfl⟩,rp1⟩
       ·rw[zA f1 Qqj,W6 _ _ m1,<-e5,eS1];rfl
       ·rw[zA c1 (Qqq _ (Qqq _ Qqj))];exact W6 _ _ m3
      have aep:Rep C.K Fp (.clo st2 cp2) (.ref f2):=by
       refine⟨f2,us2,rfl,.inl ⟨⟨.own f2,q2,Nm X.env (freeOf st2),Je,X6,Jf,c2,?_,⟨co2,cu2,cv2,ct2,?_,g2b⟩,QM _,nda _ D2.fnd D2.fr,ca2⟩,by rw[eS2];rfl⟩,rp2⟩
       ·rw[zA f2 (Qqq _ Qqj),W6 _ _ m2,<-e6,eS2];rfl
       ·rw[zA c2 (Qqq _ (Qqq _ (Qqq _ Qqj)))];exact W6 _ _ m4
      refine Tf (Cs:=Cs) (Q':=λv H4=>∃F4,aM (jn s4.heap Cs H3) H4/\aM F4 H4/\aM Fp F4/\(∀b o,F4 b=some o->Fp b=some o\/jn s4.heap Cs H3 b=none)/\Rep X.K F4 d v) FO (hr.mono hkk) hb hx I3 rv hC ?_ ?_
      ·refine⟨Fp,[d1,d2,d3]++[.clo st1 cp1,.clo st2 cp2],d,rfl,adI,?_,eg,λv H4 F4 t1 t2 t3 t4 p4=>⟨F4,t1,t2,t3,t4,p4⟩⟩;rw[G.K];exact bM.append (vs:=[v1,v2,v3]) (ws:=[.ref f1,.ref f2]) (bM.mono sFp _ _ p3) ⟨_,_,rfl,aeq,_,_,rfl,aep,rfl⟩
      ·rintro v H4 ⟨F4,t1,t2,t3,t4,p4⟩
       let F5:Hp:=λb=>if b∈Sp then F3 b else F4 b
       have RT:∀b,b∈Sp->F5 b=F3 b:=λb hb=>if_pos hb;have Js:∀b,b ∉ Sp->F5 b=F4 b:=λb hb=>if_neg hb;have nSp:∀b,b ∉ Sp->b ∉ Cs:=λb hb hc=>hb (Qqq _ (Qqq _ (Qqq _ (Qqq _ hc))));have s35:aM F3 F5:=λb o e=>by
        by_cases hb:b∈Sp
        ·rw[RT b hb];exact e
        ·rw[Js b hb];exact t3 _ _ (sFp _ _ e)
       have hH:aM H3 (qO Cs H4):=λb o e=>by rw[gr (nC _ _ e)];exact t1 _ _ (W6 _ _ e)
       have s5H:aM F5 (qO Cs H4):=λb o e=>by
        by_cases hb:b∈Sp
        ·rw[RT b hb] at e;exact hH _ _ (r3.fr _ _ e)
        ·rw[Js b hb] at e;rw[gr (nSp b hb)];exact t2 _ _ e
       have nw:∀b o,F5 b=some o->F3 b=some o\/H3 b=none:=λb o e=>by
        by_cases hb:b∈Sp
        ·rw[RT b hb] at e;exact .inl e
        ·rw[Js b hb] at e;rcases t4 b o e with z|z
         ·rw[Jr b hb] at z;exact .inl z
         ·rw[gG (nSp b hb)] at z;exact .inr z
       exact q v _ F5 (r3.after hH s5H s35 nw) (sF3.trans s35) (by rw[<-G.K];exact Ol hsc p4)
    have ab5:=JX (HX (pos:=rpos) hE) pins Te _ _ D I2 ⟨rfl,r6,λv H3 F3 r3 s3 p3=>?_⟩
    ·exact ab5
    ·exact fin v _ H3 F3 (r3.less sP) s3 p3
   ·exact fin.elim
  ·exact fin.elim
 ·exact fin.elim
end Ev
namespace L2
open PySem PySem.Spec PyProof.Rows
def spT(T:Hp)(sp:Sp):Sp:=λvs H Q E=>aM T H/\sp vs H Q E
def oh(T:Hp):Prop:=∀b o,T b=some o->∃qs,o = .tab qs
theorem Qp{X:Cx}{CX:Nh}{T:Hp}{k:Nat}{f:Addr}{fd:FuncData}{ps:List Str}{sp:Sp}{Kz:List V}{ds:List Value}{E:XK}{x:Str}{p pos:Pos}{e:Expr}{es:List Expr}{t:TA}
  (F:j4 X.prog X.w X.K X.mg X.base CX k f fd ps (spT T sp)) (hT:aM T X.H₀) (hO:oh T) (hr:eV k X.A) (hg:Gl X x) (hm:X.mg x=some (.ref f)) (hk:PySem.W.keepIn X.K (.ref f)=true) (hb:Binds X.K fd ps ds) (hd:Vals Kz ds) (hx:Passes CX X E)
  (ha:PA X (e::es) t) (hdb:lK x:=by decide) (he:starEach (e::es) X.env=(false,eval e X.env)::starEach es X.env:=by rfl) (hpl:(backTo pos (starEach es X.env)).any (·.1)=false:=by rfl) :
  PE X (.Call (.Name x p) (e::es) [] pos) (N8 sp Kz E t):=by
 intro pins s σ H Q I h;refine wpAny_Call_Name_kw (xB I hg hm ?_ hdb);refine PySem.W.callWith_K (h₀:=X.base) I.ok.mod.Ze hk (fc (ha pos pins s σ H _ I h) λus s1 ⟨vs,H1,I1,r,q⟩=>⟨I1.Mu,?_⟩) he hpl;exact HF F hr hb hd hx I1 r ⟨λb o e=>by obtain⟨qs,rfl⟩:=hO b o e;exact I1.base.tabs b qs (hT b _ e),q⟩
end L2
namespace Ev
open PySem PySem.Spec PySem.W PySem.Calls PyProof.Rows L2
section
variable{X:Cx}{C:Cfg}{T:Hp}{pos p:Pos}{n:Str}{e:Expr}{es:List Expr}{ea:dD}{P:Program}{w:World}{K:Fg}{mg:Str->Option Value}{base:Heap}{x:Str}{st:Stmt}{N ps:List Str}{k:Nat}{ev:cu}{f:Addr}{fd:FuncData}
theorem TQ{cdv:Value}{A:Around}{outer:List PySem.Env}{s:Shared}{H:Hp}{vs:List V}{Q:VK}{E:XK}(hb:qK (bx P w K mg base N x st f cdv A outer s H E) (C0 K) (bY st) ev)(h:jU K ps.length (cH N.length ev) vs H Q E) :
  ∃t,DK (Gz vO P w K mg base N x (aJ st) f cdv A outer s H E).Uq (bY st) t/\t { nx:=λ_ H'=>Q .non H',rt:=Q } (start N vs) H:=by
 obtain⟨F0,ds,d,hl,sF,p,e,q⟩:=h;refine⟨_,hb,zQ H F0,F0,envOf N.length ds,qx sF p,?_⟩;unfold cH at e;split at e
 ·rename_i d' env' h1;cases e;rw[h1];exact λv σ' H' F' r' s' p'=>q v H' F' (aM.rG r'.pr s' r'.fr sF) r'.fr s' (rJ s' r'.dj) p'
 ·rename_i env' h1;cases e;rw[h1];exact λσ' H' F' r' s'=>q .non H' F' (aM.rG r'.pr s' r'.fr sF) r'.fr s' (rJ s' r'.dj) rfl
 ·cases e
theorem S6{vs:List V}{H:Hp}{Q:VK}{E:XK}{n:Nat}{g:List D->Option D}(h:jU K n g vs H Q E):vs.length=n:=by obtain⟨F0,ds,d,hl,_,p,_⟩:=h;rw[p.length,hl]
theorem vI(F:Ng K x x st f fd)(S:bG N ps (aJ st))
  (hb:∀(cdv:Value) (A:Around) (outer:List PySem.Env) (s:Shared) (H:Hp) (E:XK),fd.code=cdv->aM T H->eV k (A.deeper (envOfC x (aJ st) s.heap.objs.size f cdv))->Good (bx P w K mg base N x st f cdv A outer s H E) (C0 K)->qK (bx P w K mg base N x st f cdv A outer s H E) (C0 K) (bY st) ev) :
  j4 P w K mg base vO (k+1) f fd ps (spT T (jU K ps.length (cH N.length ev))):=by
 obtain⟨oc,od,kV,doc,pm,an,cdv,ct,osl,rfl,lk,hcd⟩:=F.ex;refine Wm lk hcd S (λvs H Q E h=>S6 h.2) λA outer s H vs Q E hr h=>?_;obtain⟨t,ht,q⟩:=TQ (hb cdv A outer s H E rfl h.1 hr (xD rfl hr)) h.2;exact⟨t,ht.Uq,q⟩
theorem vf(F:dB K mg x st ps)(S:bG N ps (aJ st))
  (hb:∀(f:Addr) (cdv:Value) (A:Around) (outer:List PySem.Env) (s:Shared) (H:Hp) (E:XK),aM T H->eV k (A.deeper (envOfC x (aJ st) s.heap.objs.size f cdv))->Good (bx P w K mg base N x st f cdv A outer s H E) (C0 K)->qK (bx P w K mg base N x st f cdv A outer s H E) (C0 K) (bY st) ev) :
  Own P w K mg base x (k+1) ps (spT T (jU K ps.length (cH N.length ev))):=by
 obtain⟨f,fd,h1,h2,h3⟩:=F;exact⟨f,fd,vI h1 S λcdv A outer s H E _ hT hr G=>hb f cdv A outer s H E hT hr G,h2,h1.kp,h3⟩
def Vw(K:Fg)(mg:Str->Option Value)(x:Str)(st:Stmt)(ps:List Str)(c:Addr):Prop:=∃f fd,Ng K x x st f fd/\mg x=some (.ref f)/\Binds K fd ps []/\fd.code = .ref c
theorem LQ{c:Addr}(F:Vw K mg x st ps c)(S:bG N ps (aJ st))
  (hb:∀(f:Addr) (A:Around) (outer:List PySem.Env) (s:Shared) (H:Hp) (E:XK),aM T H->eV k (A.deeper (envOfC x (aJ st) s.heap.objs.size f (.ref c)))->Good (bx P w K mg base N x st f (.ref c) A outer s H E) (C0 K)->qK (bx P w K mg base N x st f (.ref c) A outer s H E) (C0 K) (bY st) ev) :
  Own P w K mg base x (k+1) ps (spT T (jU K ps.length (cH N.length ev))):=by
 obtain⟨f,fd,h1,h2,h3,h4⟩:=F;refine⟨f,fd,vI h1 S λcdv A outer s H E hc hT hr G=>?_,h2,h1.kp,h3⟩;rw[h4] at hc;subst hc;exact hb f A outer s H E hT hr G
end
abbrev Jp:=List (Str×List (Pos×Str))
def jo(K:Fg)(x:Str):Addr×Addr:=(tabIn K x).getD (0,0)
def lA(K:Fg):Jp->Hp
 | [],_=>none
 | (x,qs)::r,b=>if b=(jo K x).2 then some (.tab qs) else lA K r b
theorem ji(K:Fg):∀l:Jp,oh (lA K l)
 | [],_,_,h=>by cases h
 | (x,qs)::r,b,o,h=>by
  unfold lA at h;split at h
  ·cases h;exact⟨qs,rfl⟩
  ·exact ji K r b o h
theorem Ec(K:Fg):∀(l:Jp) (b:Addr) (o:HO),lA K l b=some o->∃x qs,(x,qs)∈l/\b=(jo K x).2/\o = .tab qs
 | [],_,_,h=>by cases h
 | (x,qs)::r,b,o,h=>by
  unfold lA at h;split at h
  ·rename_i hb;cases h;exact⟨x,qs,Qqj,hb,rfl⟩
  ·obtain⟨y,ps,h1,h2⟩:=Ec K r b o h;exact⟨y,ps,Qqq _ h1,h2⟩
theorem Mq{P:Program}{w:World}{K:Fg}{mg mb:Str->Option Value}{k:Nat}{fa a:Addr}{fd:FuncData}{x:Str}{f:List D->Option D}{s₁:Shared}{vs:List Value}{ns:List Int}{l:Jp}
  (KX:K.In s₁.heap) (hns:s₁.heap.Ns mainGlobals mg) (hb:s₁.heap.Ns builtinsNs mb) (hbb:∀x:Str,x ≠ "__name__"->mb x=bootBuiltins x) (hlim:s₁.heap.NoLimit) (hg:s₁.gens = #[])
  (ha:s₁.heap.get? a=some { cls:=.type "list",data:=.seq vs.toArray }) (hi:IntsAre vs ns) (hl:ns.length<=sizeLine) (hr:eV k callerA)
  (hbm:∃bm ob,mg "__builtins__" = some (.ref bm)/\bm≠builtinsNs/\s₁.heap.get? bm=some ob/\ob.cls = .type "module"/\ob.dict=some builtinsNs/\ob.data = .plain)
  (hK:noTabs K=true) (hT:∀q∈l,CodeHd s₁.heap (jo K q.1).1 (jo K q.1).2/\s₁.heap.get? (jo K q.1).2=some (tabObj #[]))
  (F:∀base:Heap,K.In base->base.Ns mainGlobals mg->(∀q∈l,zZ base mg (jo K q.1).1 (jo K q.1).2)->j4 P w K mg base vO k fa fd [x] (spT (lA K l) (jU K 1 f))) (hbind:∀(s:Shared) (u:Value),BindsTo s fd ⟨[u],[]⟩ [(x,u)])
  (hf:f [.arr (ns.map .int)]=some (.bl true)) :
  codeAny (model P w) callerA (.call (.ref fa) ⟨[.ref a],[]⟩) (λr s'=>r = .ok (.ret (.bool true))/\OldK s₁.heap s'.heap/\s'.os=s₁.os/\AllBare s'.gens) s₁:=by
 have rv:=z7 hi;have lenV:=hi.length;have K8:∀b o,lA K l b=some o->∃qs c,o = .tab qs/\CodeHd s₁.heap c b/\s₁.heap.get? b=some (tabObj #[]):=λb o e=>by
  obtain⟨y,qs,h1,h2,h3⟩:=Ec K l b o e;subst h2;exact⟨qs,_,h3,hT _ h1⟩
 have SJ:∀b o,lA K l b=some o->b≠a:=λb o e z=>by
  obtain⟨qs,c,_,_,h⟩:=K8 b o e;rw[z,ha] at h;cases h
 have core:∀H:Hp,aM (lA K l) H->m8 K H a (ns.map V.int)->rY P w H s₁.heap->(∀b,H b≠none->(b=a/\K.lookup a=none/\∃o xs,H b=some (.j5 o (.lst xs)))\/lA K l b=H b)->
   codeAny (model P w) callerA (.call (.ref fa) ⟨[.ref a],[]⟩) (λr s'=>r = .ok (.ret (.bool true))/\OldK s₁.heap s'.heap/\s'.os=s₁.os/\AllBare s'.gens) s₁:=by
  intro H hTH hS hok hA;have xG:∀{b:Addr} {o:Obj},s₁.heap.get? b=some o->H b=none->(zT s₁.heap H).get? b=some o:=λe n=>Rb e n;have R0:∀{b:Addr} {o:Obj},s₁.heap.get? b=some o->o.cls ≠ .type "list"->o.cls ≠ .none->H b=none:=λ{b o} e d1 d2=>by
   cases q:H b with
   | none=>rfl
   | some u=>
    rcases hA b (by rw[q];simp) with ⟨e',_⟩|e'
    ·subst e';rw[ha] at e;cases e;exact absurd rfl d1
    ·rw[q] at e';obtain⟨_,_,_,_,h⟩:=K8 b u e';rw[e] at h;cases h;exact absurd rfl d2
  have noD:∀{b:Addr} {o:Obj} {es:Array DictEntry} {ep:Nat},s₁.heap.get? b=some o->o.data = .dict es ep->H b=none:=λ{b o es ep} e d=>by
   cases q:H b with
   | none=>rfl
   | some u=>
    rcases hA b (by rw[q];simp) with ⟨e',_⟩|e'
    ·subst e';rw[ha] at e;cases e;have d':Data.seq vs.toArray _=Data.dict es ep:=d;cases d'
    ·rw[q] at e';obtain⟨_,_,_,_,h⟩:=K8 b u e';rw[e] at h;cases h;have d':Data.fields #[]=Data.dict es ep:=d;cases d'
  have nsK:∀{b:Addr} {m:Str->Option Value},s₁.heap.Ns b m->(zT s₁.heap H).Ns b m:=λ{b m} ⟨o,es,ep,e,d,r⟩=>⟨o,es,ep,xG e (noD e d),d,r⟩;have hKb:K.In (zT s₁.heap H):=λb o e=>xG (KX b o e) (by
   cases q:H b with
   | none=>rfl
   | some u=>
    rcases hA b (by rw[q];simp) with ⟨e',hk,_⟩|e'
    ·subst e';rw[hk] at e;cases e
    ·rw[q] at e';obtain⟨_,_,_,_,h⟩:=K8 b u e';rw[KX b o e] at h;cases h;have h2:=Qx1.mp hK (b,tabObj #[]) (mem_of_lookupK e);exact absurd (show false=true from h2) Qw8)
  have hM:Mod K mg (zT s₁.heap H):=⟨hKb,nsK hns,⟨mb,nsK hb,hbb⟩,let ⟨mc,h1,h2⟩:=hlim;⟨mc,nsK h1,h2⟩⟩;have hTB:∀q∈l,zZ (zT s₁.heap H) mg (jo K q.1).1 (jo K q.1).2:=λq hq=>by
   obtain⟨⟨o,us,file,tf,flags,tg,inF,text,tt,e1,r1,rr⟩,h2⟩:=hT q hq;obtain⟨bm,ob,b1,b2,b3,b4,b5,b6⟩:=hbm;refine⟨⟨o,us,file,tf,flags,tg,inF,text,tt,xG e1 (R0 e1 (by rw[r1];decide) (by rw[r1];intro z;cases z)),r1,rr⟩,⟨bm,ob,b1,b2,?_,?_,xG b3 (R0 b3 (by rw[b4];decide) (by rw[b4];intro z;cases z)),b4,b5,b6⟩,?_⟩
   ·intro z;obtain⟨o',es,ep,e,hd,_⟩:=hns;rw[z,e] at b3;cases b3;rw[hd] at b6;cases b6
   ·intro z;rw[z,h2] at b3;cases b3;cases b4
   ·intro z;obtain⟨o',es,ep,e,hd,_⟩:=hns;rw[z,h2] at e;cases e;cases hd
  have e0:GX P w K mg (zT s₁.heap H) callerA [] s₁ H:=⟨rfl,hM,λb o e=>Uo e,Nat.le_of_eq (Mz _ _),trivial,λb hb=>absurd (show b∈([]:List Addr) from hb) (by simp),hok,.of_eq hg⟩;have Gi:Rep K H (.arr (ns.map .int)) (.ref a):=by
   refine⟨by rw[Qqw];exact hl,a,_,rfl,hS,?_⟩;clear hf hS hi lenV hl rv
   induction ns with
   | nil=>exact rfl
   | cons m ns ih=>exact⟨_,_,rfl,rfl,ih⟩
  refine codeAny_mono ((F _ hKb (nsK hns) hTB).run callerA [] s₁ H ⟨[.ref a],[]⟩ [.ref a] [.ref a] (λv _=>v = .bl true) (λ_ _ _=>False) hr e0 (hbind s₁ (.ref a)) (.cons rfl .nil) ⟨hTH,H,[.arr (ns.map .int)],.bl true,rfl,aM.refl H,⟨_,_,rfl,Gi,rfl⟩,hf,λv H' F' _ _ _ _ p=>p⟩) λr s' h=>?_;cases r with
  | error e=>exact h.elim
  | ok fl=>
   cases fl with
   | next=>exact False.elim h
   | brk=>exact False.elim h
   | cont=>exact False.elim h
   | ret u=>
    obtain⟨v,H',os,bare,un,hok',r',q⟩:=h;have q':v = .bl true:=q;subst q';obtain rfl:u=Value.bool true:=r';have all:∀b o,s₁.heap.get? b=some o->s'.heap.get? b=some o\/(isCodeTable s₁.heap b/\o=tabObj #[]/\∃ps,s'.heap.get? b=some (tabObj ps)):=λb o e=>by
     cases q:H b with
     | none=>exact .inl (un.keep b o e q (by intro z;exact absurd (show b∈([]:List Addr) from z) (by simp)) (by simp))
     | some u=>
      rcases hA b (by rw[q];simp) with ⟨_,_,ob,xs,z⟩|e'
      ·have z2:=un.vC b ob _ z;obtain⟨e1,_⟩:=hok b _ z;obtain⟨e2,_⟩:=hok' b _ z2;rw[e] at e1;cases e1;exact .inl e2
      ·rw[q] at e';obtain⟨qs,c,rfl,h1,h2⟩:=K8 b u e';obtain⟨ps,e3,_⟩:=hok' b _ (un.tabs b qs q);rw[e] at h2;cases h2;exact .inr ⟨(h1.tab e).isCodeTable,rfl,ps,e3⟩
    refine⟨rfl,⟨λb o e=>?_,λb o e=>?_⟩,os,bare⟩
    ·rcases all b o e with z|⟨h1,rfl,ps,h2⟩
     ·exact .inl z
     ·exact .inr (.inl ⟨h1,rfl, #[],ps,rfl,by rw[Array.empty_append];exact h2⟩)
    ·rcases all b o e with z|⟨h1,rfl,ps,h2⟩
     ·exact⟨o,z⟩
     ·exact⟨_,h2⟩
 have VH:∀H:Hp,∀b o,lA K l b=some o->gB P w H s₁.heap b o:=λH b o e=>by
  obtain⟨qs,c,rfl,_,h⟩:=K8 b o e;exact⟨#[],h,True.intro,λq _=>.inl rfl⟩
 cases hk:K.lookup a with
 | some o=>
  have e:=KX a o hk;rw[ha] at e;cases e;exact core (lA K l) (aM.refl _) (.inr ⟨_,vs.toArray,_,hk,rfl,rfl,rfl,by rw[Qq5,lenV];exact hl,by simpa using rv⟩) (λb u z=>VH _ b u z) λb z=>.inr rfl
 | none=>
  refine core (λb=>if b=a then some (.j5 { cls:=.type "list",data:=.seq vs.toArray } (.lst (ns.map V.int))) else lA K l b) (λb o e=>?_) (.inl (.inr ⟨{ cls:=.type "list",data:=.seq vs.toArray },if_pos rfl⟩)) (λb u z=>?_) λb z=>?_
  ·exact(if_neg (SJ b o e)).trans e
  ·by_cases hb:b=a
   ·have z':=(if_pos hb).symm.trans z;cases z';subst hb;exact⟨ha,by rw[Qqw];exact hl,vs,_,rv,ha⟩
   ·have z':=(if_neg hb).symm.trans z;exact VH _ b u z'
  ·by_cases hb:b=a
   ·exact .inl ⟨hb,hk,_,_,if_pos hb⟩
   ·exact .inr (if_neg hb).symm
theorem U3{K:Fg}{h:Heap}{mg:Str->Option Value}{x:Str}{st:Stmt}{ps:List Str}{f c P:Addr}{oc kV doc pm cdv ct:Value}{od an:Option Addr}{osl:Array (Option Value)}(X:K.In h)(G:h.Ns mainGlobals mg)
  (a:PySem.W.nsIn K mainGlobals x=some (some (.ref f))) (l:K.lookup f=some ⟨oc,od,.func (PySem.W.fnOf x x (fO st) (bY st) (aJ st) .none kV doc pm an cdv ct),osl⟩) (c0:PySem.W.codeIn K cdv x=true) (k:PySem.W.keepIn K (.ref f)=true) (ht:tabIn K x=some (c,P))
  (b:∀{kV doc pm:Value} {an:Option Addr} {cdv ct:Value} (us:List Value),us.length=ps.length->bindArgs (PySem.W.fnOf x x (fO st) (bY st) (aJ st) .none kV doc pm an cdv ct) ⟨us,[]⟩=pure (ps.zip us)):Vw K mg x st ps (jo K x).1:=by
 have e3:jo K x=(c,P):=by unfold jo;rw[ht];rfl
 refine⟨f,_,yN (st:=st) l c0 k,PySem.W.mg_of X G a,(yN (st:=st) l c0 k).binds λ_ _ _ _ _ _ us hl=>b us hl,?_⟩;rw[e3];exact law_code (fa:=f) X G ht (PySem.W.mg_of X G a) (X _ _ l) rfl
open PySem PySem.Spec PyProof.Rows L2
def nest(s:Stmt)(j:Nat):Stmt:=(bY s).getD j (.Pass ⟨0,0,0,0⟩)
def vJ(s:Stmt):Pos:=match s with
 | .FunctionDef _ _ _ _ _ _ _ _ _ p=>p
 | _=>⟨0,0,0,0⟩
def JF(i:Nat)(a:Ev):cu:=λenv=>match env[i]? with
 | some (some (false,.int k))=>iG (a env) λd aK=>(match d with
  | .int j=>.nx (aK.set i (some (false,.int (k+j))))
  | _=>.stuck)
 | _=>.stuck
section
variable{X:Cx}{C:Cfg}{pos pos':Pos}{x:Str}{e:Expr}{a:Ev}
end
theorem QF{N ps qs:List Str}{sc:Scope}(h1:sc.kind = .function:=by rfl)(h2:sc.isCoroutine=false:=by rfl)(h3:sc.isGenerator=false:=by rfl)(h4:jy N=true:=by rfl)(h5:N.take (ps.length+qs.length)=ps++qs:=by rfl)
  (h6:(ps.all λx=>decide (sc.names.lookup x=some .local))=true:=by rfl) (h7:(sc.names.all λy=>!decide (y.2 = .cell)&&(!decide (y.2 = .free)||qs.contains y.1))=true:=by rfl) (h8:(qs.all λx=>decide (sc.names.lookup x=some .free))=true:=by rfl):lq N ps qs sc:=by
 refine⟨h1,h2,h3,gj h4,h5,λx hx=>Qw6 (Qx1.mp h6 x hx),λx hx=>?_,λx hx=>Qw6 (Qx1.mp h8 x hx),λy hy z=>?_⟩
 ·have h:=Qx1.mp h7 _ (Qjq hx);rw[Qx9,Bool.or_eq_true] at h;rcases h.2 with z|z
  ·rw[Qxj rfl] at z;exact absurd z (by decide)
  ·exact List.contains_iff_mem.mp z
 ·have h:=Qx1.mp h7 y hy;rw[Qxj z] at h;exact absurd h (by simp)
def Bx(N:List Str):List Nat->List Str->Bool
 | [],[]=>true
 | j::js,x::xs=>decide (N[j]? = some x)&&Bx N js xs
 | _,_=>false
theorem Ae{N:List Str}:∀{js:List Nat} {xs:List Str},Bx N js xs=true->xr N js xs
 | [],[],_=>True.intro
 | [],_::_,h=>by cases h
 | _::_,[],h=>by cases h
 | j::js,x::xs,h=>by
  have h':(decide (N[j]? = some x)&&Bx N js xs)=true:=h;rw[Qx9] at h';exact⟨Qw6 h'.1,Ae h'.2⟩
theorem Wq{X:Cx}{qs:List (Pos×Str)}{i:Nat}{js:List Nat}{st:Stmt}{n:Str}{args:Arguments}{body:List Stmt}{sc:Scope}{pos:Pos}{qual:Str}
  (eq:st = .FunctionDef n args body [] none [] sc none n pos:=by rfl) (hq:(pos,qual)∈qs) (hqs:∀q∈qs,q.1.line=pos.line->q.1.col=pos.col->q.2=qual)
  (hd0:args.defaults=[]:=by rfl) (hk0:args.kw_defaults=[]:=by rfl) (ha:annTrees args none X.env=[]:=by rfl) (hqn:qualnameIn X.env n n=qual:=by rfl)
  (fr:((freeOf st).all λx=>decide (X.env.scope.names.lookup x=some .cell))=true:=by rfl) (fnd:jy (freeOf st)=true:=by rfl) (hi:X.N[i]? = some n:=by rfl) (hx:X.env.scope.names.lookup n=some .local:=by rfl) (sl:Bx X.N js (freeOf st)=true:=by rfl) :
  GZ X qs i js st n args body sc pos qual:=⟨eq,hq,hqs,hd0,hk0,ha,hqn,λx hx=>Qw6 (Qx1.mp fr x hx),gj fnd,hi,hx,Ae sl⟩
section
variable{X:Cx}{C:Cfg}{T:Hp}{pos p pos':Pos}{n:Str}{e:Expr}{es:List Expr}{ea:dD}{a:Ev}
theorem Xp(i:Nat)(he:SX X C e a)(hnd:jy X.N=true:=by rfl)(hfx:C.fx i=none:=by rfl)(hi:X.N[i]? = some n:=by rfl)(hx:Loc X.env.scope n:=by first|exact Or.inl rfl|exact Or.inr rfl)
  (hf:X.fn n=true\/X.env.scope.names.lookup n=some .local:=by first|exact .inl rfl|exact .inr rfl):G5 X C (.AugAssign (.Name n pos') .Add e pos) (JF i a):=⟨(X4 (gj hnd) hi hx he.u ZC hf).imp λD σ H h=>by
  obtain⟨Pr,F,env,r,f⟩:=h;unfold JF at f;split at f
  ·rename_i k h0;obtain⟨d,aK,e1,f1⟩:=dg f;split at f1
   ·rename_i j;obtain⟨v,h1,h2⟩:=r.val i _ h0;cases h2;exact⟨_,h1,Pr,F,env,aK,.int j,r,e1,λv2 H1 F1 r1 s1 p1=>⟨k,j,rfl,p1,f1 _ H1 F1 (r1.put hfx rfl) s1⟩⟩
   ·exact f1.elim
  ·exact f.elim⟩
theorem Bm{k k':Nat}{m:Nat}{ps:List Str}{g:List D->Option D}(O:Own X.prog X.w X.K X.mg X.base n k ps (spT T (jU X.K m g)))(hT:aM T X.H₀)(hO:oh T)(G:Good X C)(hr:eV k' X.A)(ha:G6 X C (e::es) ea)(hn:∀env ds env',ea env = .ok ds env'->ds.length=m)(hk:Nat.ble k k'=true:=by rfl)
  (hg:Gl X n:=by rfl) (hdb:lK n:=by decide) (he:starEach (e::es) X.env=(false,eval e X.env)::starEach es X.env:=by rfl) (hpl:(backTo pos (starEach es X.env)).any (·.1)=false:=by rfl):SX X C (.Call (.Name n p) (e::es) [] pos) (au g ea):=
 ⟨by
 obtain⟨f,fd,h1,h2,h3,h4⟩:=O;have h1':j4 X.prog X.w X.K X.mg X.base vO k f fd ps (spT T (jU C.K m g)):=by rw[<-G.K];exact h1
 refine(Qp h1' hT hO (hr.mono (Qx4 hk)) hg h2 h3 h4 .nil Fw ha.u hdb he hpl).imp λσ H Q hq=>?_;obtain⟨Pr,F,env,env',d,r,e,q⟩:=hq;obtain⟨ds,e1,e2⟩:=rQ e;refine⟨Pr,F,env,env',ds,r,e1,λvs H1 F1 r1 s1 p1=>?_⟩;show jU C.K m g (vs++[]) H1 Q E0;rw[Qxv];exact⟨F1,ds,d,hn _ _ _ e1,r1.fr,p1,e2,λv H2 F2 t1 t2 t3 t4 p2=>q v H2 F2 (r1.after t1 t2 t3 t4) (s1.trans t3) p2⟩⟩
theorem Hf{k k':Nat}{Φ:Stmt->List D->List D->Option D}(i:Nat)(hΦ:∀st kh ds d,Φ st kh ds=some d->uB X.prog X.w X.K X.mg X.base k st (Φ st))(G:Good X C)(hr:eV k' X.A)(hk:Nat.ble k k'=true)(ha:G6 X C (e::es) ea)
  (hN:X.N[i]? = some n:=by rfl) (hv:uz X.env.scope n:=by first|exact Or.inl rfl|exact Or.inr (Or.inl rfl)|exact Or.inr (Or.inr rfl)) (hx:∀e s,False->X.xe e s:=by exact λ_ _ h=>h.elim)
  (hd:lK n:=by decide) (hcd:tW n:=by decide) (he:starEach (e::es) X.env=(false,eval e X.env)::starEach es X.env:=by rfl) (hpl:(backTo pos (starEach es X.env)).any (·.1)=false:=by rfl) :
  SX X C (.Call (.Name n p) (e::es) [] pos) (kE Φ i ea):=⟨Ev.XQ i hN hv G hΦ (hr.mono (Qx4 hk)) hx ha.u hd hcd he hpl⟩
end
theorem Va{X:Cx}{C:Cfg}{qs:List (Pos×Str)}{c0 P:Addr}{i1 i2:Nat}{Zo Zm:List Nat}{st1 st2:Stmt}{n1 n2:Str}{ar1 ar2:Arguments}{bd1 Vk:List Stmt}{Om Ez:Scope}{ps1 ps2:Pos}{q1 q2:Str}{e1 e2 e3:Expr}{a1 a2 a3:Ev}{x:Str}{p Cu Cr pos rpos:Pos}{k k':Nat}{ps:List Str}{g:List D->Option D}
  (G:Good X C) (B:zZ X.base X.mg c0 P) (hcode:X.env.code = .ref c0) (hT:X.H₀ P=some (.tab qs))
  (D1:GZ X qs i1 Zo st1 n1 ar1 bd1 Om ps1 q1) (D2:GZ X qs i2 Zm st2 n2 ar2 Vk Ez ps2 q2)
  (O:Own X.prog X.w X.K X.mg X.base x k ps (jU X.K 5 g)) (hr:eV k' X.A) (hkk:Nat.ble k k'=true)
  (h1:SX X C e1 a1) (h2:SX X C e2 a2) (h3:SX X C e3 a3) (hg:Gl X x:=by rfl) (hdb:lK x:=by decide)
  (hfn:∀y,X.fn y=true:=by intro _;rfl) (hN:jy X.N=true:=by rfl) (hfx:∀i,C.fx i=none:=by intro _;rfl) (h12:i1≠i2:=by decide) (hx:∀e s,False->X.xe e s:=by exact λ_ _ h=>h.elim)
  (hv1:lK n1:=by decide) (hv2:lK n2:=by decide) (hw1:tW n1:=by decide) (hw2:tW n2:=by decide)
  (s1:starEach [e1,e2,e3,.Name n1 Cu,.Name n2 Cr] X.env=(false,eval e1 X.env)::starEach [e2,e3,.Name n1 Cu,.Name n2 Cr] X.env:=by rfl) (s2:starEach [e2,e3,.Name n1 Cu,.Name n2 Cr] X.env=(false,eval e2 X.env)::starEach [e3,.Name n1 Cu,.Name n2 Cr] X.env:=by rfl)
  (s3:starEach [e3,.Name n1 Cu,.Name n2 Cr] X.env=(false,eval e3 X.env)::starEach [.Name n1 Cu,.Name n2 Cr] X.env:=by rfl) (hpl:(backTo pos (starEach [e2,e3,.Name n1 Cu,.Name n2 Cr] X.env)).any (·.1)=false:=by rfl) :
  fQ X C [st1,st2,.Return (some (.Call (.Name x p) [e1,e2,e3,.Name n1 Cu,.Name n2 Cr] [] pos)) rpos] (uM st1 st2 Zo Zm i1 i2 g a1 a2 a3):=
 ⟨Ev.Lk G B hcode hT hfn (gj hN) hfx h12 D1 D2 O hr (Qx4 hkk) hx hg hdb h1.u h2.u h3.u hv1 hv2 hw1 hw2 s1 s2 s3 hpl⟩
def FC(K:Fg)(x:Str)(st:Stmt):Prop:=∃(f c P:Addr) (oc kV doc pm ct oc2:Value) (od an od2:Option Addr) (osl Ma:Array (Option Value)) (vs:Array Value),PySem.W.nsIn K mainGlobals x=some (some (.ref f))/\
 K.lookup f=some ⟨oc,od,.func (PySem.W.fnOf x x (fO st) (bY st) (aJ st) .none kV doc pm an (.ref c) ct),osl⟩/\PySem.W.codeIn K (.ref c) x=true/\PySem.W.keepIn K (.ref f)=true/\K.lookup c=some ⟨oc2,od2,.fields vs,Ma⟩/\vs[11]? = some (.ref P)
theorem FC.mk{K:Fg}{x:Str}{st:Stmt}{f c P:Addr}{oc kV doc pm ct oc2:Value}{od an od2:Option Addr}{osl Ma:Array (Option Value)}{vs:Array Value}(a:PySem.W.nsIn K mainGlobals x=some (some (.ref f)))
  (l:K.lookup f=some ⟨oc,od,.func (PySem.W.fnOf x x (fO st) (bY st) (aJ st) .none kV doc pm an (.ref c) ct),osl⟩) (c0:PySem.W.codeIn K (.ref c) x=true) (k:PySem.W.keepIn K (.ref f)=true) (lc:K.lookup c=some ⟨oc2,od2,.fields vs,Ma⟩) (v:vs[11]? = some (.ref P)):FC K x st:=
 ⟨f,c,P,oc,kV,doc,pm,ct,oc2,od,an,od2,osl,Ma,vs,a,l,c0,k,lc,v⟩
theorem FC.tab{K:Fg}{x:Str}{st:Stmt}(F:FC K x st):∃cp,tabIn K x=some cp:=by obtain⟨f,c,P,oc,kV,doc,pm,ct,oc2,od,an,od2,osl,Ma,vs,a,l,c0,k,lc,v⟩:=F;refine⟨(c,P),?_⟩;unfold tabIn;rw[a];simp only[l,lc,v]
theorem FC.at{K:Fg}{h:Heap}{mg:Str->Option Value}{x:Str}{st:Stmt}{ps:List Str}(X:K.In h)(G:h.Ns mainGlobals mg)(F:FC K x st)
  (b:∀{kV doc pm:Value} {an:Option Addr} {cdv ct:Value} (us:List Value),us.length=ps.length->bindArgs (PySem.W.fnOf x x (fO st) (bY st) (aJ st) .none kV doc pm an cdv ct) ⟨us,[]⟩=pure (ps.zip us)):Vw K mg x st ps (jo K x).1:=by
 obtain⟨⟨c',P'⟩,ht⟩:=F.tab;obtain⟨f,c,P,oc,kV,doc,pm,ct,oc2,od,an,od2,osl,Ma,vs,a,l,c0,k,lc,v⟩:=F;exact U3 X G a l c0 k ht b
theorem FA.adU{P:Program}{w:World}{K:Fg}{h:Heap}{mg:Str->Option Value}{fa:Addr}{x y:Str}{st:Stmt}{k:Nat}{g:List D->Option D}{tl:Jp}(X:K.In h)(G:h.Ns mainGlobals mg)(hfa:mg x=some (.ref fa))(F:FA K x st)
  (b:∀{kV doc pm:Value} {an:Option Addr} {cdv ct:Value} (s:Shared) (v:Value),BindsTo s (PySem.W.fnOf x x (fO st) (bY st) (aJ st) .none kV doc pm an cdv ct) ⟨[v],[]⟩ [(y,v)])
  (q:∀{fd:FuncData} (base:Heap),(∀z∈tl,zZ base mg (jo K z.1).1 (jo K z.1).2)->Ng K x x st fa fd->j4 P w K mg base vO k fa fd [y] (spT (lA K tl) (jU K 1 g))) :
  ∃fd:FuncData,(∀(s:Shared) (v:Value),BindsTo s fd ⟨[v],[]⟩ [(y,v)])/\∀base:Heap,K.In base->base.Ns mainGlobals mg->(∀z∈tl,zZ base mg (jo K z.1).1 (jo K z.1).2)->j4 P w K mg base vO k fa fd [y] (spT (lA K tl) (jU K 1 g)):=by
 obtain⟨f,oc,kV,doc,pm,cdv,ct,od,an,osl,a,l,c,k⟩:=F;have e:=hfa.symm.trans (PySem.W.mg_of X G a);cases e;exact⟨_,b,λbase _ _ hB=>q base hB (yN (st:=st) l c k)⟩
theorem W5{l:PySem.W.OpenLaw}{n k:Nat}{q:Program}{loose:List Str}{XP:(Str->Option Value)->Heap->Prop}{YP:World->Heap->Prop}{d:DefRec}{K:Params->PySem.W.Frag}{x:Str}{f:List D->Option D}(tl:Jp)
  (hn:l.most=some n) (hn2:n<=sizeLine) (hdf:d.params.defaults=[]) (hr:eV k callerA)
  (hY:∀(w:World) (h:Heap),YP w h->(K w.params).In h)
  (hf:∀ns:List Int,ns.length<=n->Ni ns->f [.arr (ns.map .int)]=some (.bl true))
  (hK:∀w:World,noTabs (K w.params)=true) (hrec:∀y∈tl,∃e,(recsOf q).find? (λe=>e.name == y.1)=some e)
  (F:∀(w:World) (mg:Str->Option Value) (fa:Addr) (h:Heap),(K w.params).In h->h.Ns mainGlobals mg->mg d.name=some (.ref fa)->(∀y∈tl,∃cp,tabIn (K w.params) y.1=some cp)/\
   ∃fd:FuncData,(∀(s:Shared) (u:Value),BindsTo s fd ⟨[u],[]⟩ [(x,u)])/\
    ∀base:Heap,(K w.params).In base->base.Ns mainGlobals mg->(∀y∈tl,zZ base mg (jo (K w.params) y.1).1 (jo (K w.params) y.1).2)->j4 l.prog w (K w.params) mg base vO k fa fd [x] (spT (lA (K w.params) tl) (jU (K w.params) 1 f))) :
  PySem.W.WalkO q loose XP YP l.row.toRowW d [] (λf vs=>PySem.call f vs):=by
 refine Dv hn hdf λw s₀ s₁ mg mb fa o pm cd doc a vs ns G Y ho hd hcd hmg hobj hints hlen Rf hg=>?_;have KX:=hY w _ Y;obtain⟨htab,fd,hb,hF⟩:=F w mg fa _ KX G.T.g hmg;refine Mq (l:=tl) KX G.T.g G.T.b G.T.builtins G.T.nolimit hg hobj hints (Qq6 hlen hn2) hr G.T.bmain (hK w) (λy hy=>?_) hF hb (hf ns hlen Rf);obtain⟨⟨c,P⟩,e1⟩:=htab y hy;obtain⟨e,e2⟩:=hrec y hy;have e3:jo (K w.params) y.1=(c,P):=by unfold jo;rw[e1];rfl
 rw[e3];exact tab_of G.T KX e2 e1
end Ev
namespace L2
open PySem PySem.Spec PyProof.Rows
theorem Uc{X:Cx}{CX:Nh}{T:Hp}{k i:Nat}{f:Addr}{fd:FuncData}{ps:List Str}{sp:Sp}{Kz:List V}{ds:List Value}{E:XK}{x:Str}{p pos:Pos}{e:Expr}{es:List Expr}{t:TA}
  (hN:X.N[i]? = some x) (hv:uz X.env.scope x) (F:j4 X.prog X.w X.K X.mg X.base CX k f fd ps (spT T sp)) (hT:aM T X.H₀) (hO:oh T) (hr:eV k X.A) (hk:PySem.W.keepIn X.K (.ref f)=true) (hb:Binds X.K fd ps ds) (hd:Vals Kz ds) (hx:Passes CX X E)
  (ha:PA X (e::es) t) (hdb:lK x:=by decide) (hcd:tW x:=by decide) (he:starEach (e::es) X.env=(false,eval e X.env)::starEach es X.env:=by rfl) (hpl:(backTo pos (starEach es X.env)).any (·.1)=false:=by rfl) :
  PE X (.Call (.Name x p) (e::es) [] pos) (λσ H Q=>σ[i]? = some (some (.ref f))/\N8 sp Kz E t σ H Q):=by
 intro pins s σ H Q I h;obtain⟨hσ,h⟩:=h;refine wpAny_Call_Name_kw (Qz1 (iR hN hv hdb hcd pins s σ H (λv H'=>v = .ref f/\H'=H) I ⟨_,hσ,rfl,rfl⟩) (λu s1 hu=>?_) λ_ _ z=>z);obtain⟨v',H',I1,rv,rfl,rfl⟩:=hu;obtain rfl:u=Value.ref f:=rv;refine PySem.W.callWith_K (h₀:=X.base) I1.ok.mod.Ze hk (fc (ha pos pins s1 σ H' _ I1 h) λus s2 ⟨vs,H1,I2,r,q⟩=>⟨I2.Mu,?_⟩) he hpl;exact HF F hr hb hd hx I2 r ⟨λb o e=>by obtain⟨qs,rfl⟩:=hO b o e;exact I2.base.tabs b qs (hT b _ e),q⟩
theorem jh.tabs{X X':Cx}{scope:Scope}{N':List Str}{T:Hp}(h:jh X scope N' X')(hT:aM T X.H₀)(hO:oh T):aM T X'.H₀:=by obtain⟨_,_,_,⟨H0,k⟩,_,rfl⟩:=h;intro b o e;obtain⟨qs,rfl⟩:=hO b o e;exact k b qs (hT b _ e)
end L2
namespace Ev
open PySem PySem.Spec PySem.W PySem.Calls PyProof.Rows L2
def pF(n:Str):D:=.clo (.Global [n] ⟨0,0,0,0⟩) []
theorem FA.val{K:Fg}{h:Heap}{mg:Str->Option Value}{x:Str}{st:Stmt}(X:K.In h)(G:h.Ns mainGlobals mg)(F:FA K x st):R7 K mg x (pF x):=by obtain⟨f,oc,kV,doc,pm,cdv,ct,od,an,osl,a,l,c,k⟩:=F;exact⟨.ref f,.ref f,PySem.W.mg_of X G a,rfl,λF=>⟨f,[],rfl,.inr ⟨x,_,_,_,_,_,rfl,a,l⟩,rfl⟩⟩
theorem R7.fn{K:Fg}{mg:Str->Option Value}{x:Str}{F:Hp}{a:Addr}(h:R7 K mg x (pF x))(r:Rep K F (pF x) (.ref a)):mg x=some (.ref a):=by
 obtain⟨v,u,h1,h2,h3⟩:=h;obtain⟨a1,vs1,rfl,c1,_⟩:=h3 F;obtain⟨a2,vs2,e2,c2,_⟩:=r;cases e2;have mk:∀{b:Addr} {vs:List V},Clo K F (.Global [x] ⟨0,0,0,0⟩) b vs->PySem.W.nsIn K mainGlobals x=some (some (.ref b)):=λ{b vs} c=>by
  rcases c with ⟨_,c⟩|⟨n,p,_,_,_,_,e,c,_⟩
  ·cases c
  ·cases e;exact c
 have e:=(mk c1).symm.trans (mk c2);cases e;cases h2;exact h1
def yR(n1 n2:Str)(g1 g2:List D->Option D)(i:Nat)(a:dD):Ev:=λenv=>match env[i]? with
 | some (some (false,.clo (.Global [n] ⟨0,0,0,0⟩) []))=>bindR (a env) λds aK=>ig (if n=n1 then g1 ds else if n=n2 then g2 ds else none) aK
 | _=>.stuck
section
variable{X:Cx}{C:Cfg}{T:Hp}{pos p:Pos}{x n1 n2:Str}{e:Expr}{es:List Expr}{ea:dD}
theorem Hd{k1 k2 k':Nat}{m:Nat}{ps1 ps2:List Str}{g1 g2:List D->Option D}(i:Nat)(O1:Own X.prog X.w X.K X.mg X.base n1 k1 ps1 (spT T (jU X.K m g1)))(O2:Own X.prog X.w X.K X.mg X.base n2 k2 ps2 (spT T (jU X.K m g2)))
  (L1:R7 X.K X.mg n1 (pF n1)) (L2:R7 X.K X.mg n2 (pF n2)) (hT:aM T X.H₀) (hO:oh T) (G:Good X C) (hr:eV k' X.A) (hk1:Nat.ble k1 k'=true) (hk2:Nat.ble k2 k'=true) (ha:G6 X C (e::es) ea) (hn:∀env ds env',ea env = .ok ds env'->ds.length=m)
  (hN:X.N[i]? = some x:=by rfl) (hv:uz X.env.scope x:=by first|exact Or.inl rfl|exact Or.inr (Or.inl rfl)|exact Or.inr (Or.inr rfl)) (hdb:lK x:=by decide) (hcd:tW x:=by decide) (he:starEach (e::es) X.env=(false,eval e X.env)::starEach es X.env:=by rfl) (hpl:(backTo pos (starEach es X.env)).any (·.1)=false:=by rfl) :
  SX X C (.Call (.Name x p) (e::es) [] pos) (yR n1 n2 g1 g2 i ea):=⟨by
 intro pins s σ H Q I h;obtain⟨Pr,F,env,env',d,r,ev,q⟩:=h;unfold yR at ev;split at ev
 ·rename_i n h0;obtain⟨ds,aK,e1,e2⟩:=aU ev;obtain⟨e3,rfl⟩:=fG e2;obtain⟨v,hσ,a0,vs0,rfl,hclo,Gi⟩:=r.val i _ h0;have rep0:Rep X.K F (pF n) (.ref a0):=by rw[G.K];exact⟨a0,vs0,rfl,hclo,Gi⟩
  have go:∀{n0:Str} {k:Nat} {ps:List Str} {g:List D->Option D},Own X.prog X.w X.K X.mg X.base n0 k ps (spT T (jU X.K m g))->R7 X.K X.mg n0 (pF n0)->Nat.ble k k'=true->n=n0->g ds=some d->
    wpAny (model X.prog X.w) X.A (eval (.Call (.Name x p) (e::es) [] pos) X.env) _ _ s:=λ{n0 k ps g} O L hk en eg=>by
   subst en;obtain⟨f,fd,h1,h2,h3,h4⟩:=O;have e5:=h2.symm.trans (L.fn rep0);cases e5;have h1':j4 X.prog X.w X.K X.mg X.base vO k a0 fd ps (spT T (jU C.K m g)):=by rw[<-G.K];exact h1
   refine Uc hN hv h1' hT hO (hr.mono (Qx4 hk)) h3 h4 .nil Fw ha.u hdb hcd he hpl pins s σ H Q I ⟨hσ,Pr,F,env,env',ds,r,e1,λvs H1 F1 r1 s1 p1=>?_⟩;show jU C.K m g (vs++[]) H1 Q E0;rw[Qxv];exact⟨F1,ds,d,hn _ _ _ e1,r1.fr,p1,eg,λv H2 F2 t1 t2 t3 t4 p2=>q v H2 F2 (r1.after t1 t2 t3 t4) (s1.trans t3) p2⟩
  split at e3
  ·rename_i en;exact go O1 L1 hk1 en e3
  ·split at e3
   ·rename_i en;exact go O2 L2 hk2 en e3
   ·cases e3
 ·cases ev⟩
end
open PySem PySem.Spec PyProof.Rows L2
def Jc(k1 a1 k2 a2:Ev):Ev:=λenv=>bindR (k1 env) λx1 e1=>bindR (a1 e1) λy1 e2=>bindR (k2 e2) λx2 e3=>bindR (a2 e3) λy2 e4=>match jX x1,jX x2 with
 | some q1,some q2=>if q1=q2 then .stuck else .ok (.dct [(x1,y1),(x2,y2)]) e4
 | _,_=>.stuck
section
variable{X:Cx}{C:Cfg}{pos:Pos}
end
theorem Lq{X:Cx}{C:Cfg}{pos:Pos}{k v k' v':Expr}{ek ev ek' ev':Ev}(G:Good X C)(hk:SX X C k ek)(hv:SX X C v ev)(hk':SX X C k' ek')(hv':SX X C v' ev'):R4 X C (.Dict [some k,some k'] [v,v'] pos) (Jc ek ev ek' ev'):=⟨by
 have h0:PE X (.Dict [some k,some k'] [v,v'] pos) (VJ [(_,_),(_,_)]):=Ue (Ft hk.u hv.u (Ft hk'.u hv'.u T3)) rfl rfl (by simp) (by show 2<=15;decide);refine h0.imp λσ H Q hq=>?_;obtain⟨Pr,F,env,env',d,r,e,q⟩:=hq;obtain⟨x1,aK,e1,e⟩:=aU e;obtain⟨y1,dU,e2,e⟩:=aU e;obtain⟨x2,Dj,e3,e⟩:=aU e;obtain⟨y2,agL,e4,e⟩:=aU e;split at e
 ·rename_i q1 q2 h1 h2;split at e
  ·cases e
  ·rename_i hne;cases e;intro p hp;have ra:=r.aside (o:=.dK []) hp;have nP:Pr p=none:=r.pr.free hp;refine⟨upd Pr p (.dK []),F,env,aK,x1,ra,e1,λx H1 F1 r1 s1 p1=>⟨upd Pr p (.dK []),F1,aK,dU,y1,r1,e2,λy H2 F2 r2 s2 p2=>⟨upd Pr p (.dK []),F2,dU,Dj,x2,r2,e3,λx' H3 F3 r3 s3 p3=>⟨upd Pr p (.dK []),F3,Dj,env',y2,r3,e4,λy' H4 F4 r4 s4 p4=>
    ⟨r4.pr p _ aR,[(q1,y),(q2,y')],by rw[CV h1 p1,CV h2 p3];rfl,by show 2<=15;decide,?_⟩⟩⟩⟩⟩
   have em:vm [] [(q1,y),(q2,y')]=[(q1,y),(q2,y')]:=by
    show putK (putK [] q1 y) q2 y'=_;have e0:putK [] q1 y=[(q1,y)]:=rfl;rw[e0];unfold putK;rw[if_neg (by simp[hne])]
    rfl
   rw[em];have r5:=r4.turn (u:=.dK [(q1,y),(q2,y')]) aR;have nF:F4 p=none:=by
    cases hF:F4 p with
    | none=>rfl
    | some o=>have:=r4.dj p o hF;rw[aR] at this;cases this
   have r6:Rel C Pr F4 env' σ (upd H4 p (.dK [(q1,y),(q2,y')])):=r5.less λb o hb=>by
    have hne:b≠p:=λz=>by rw[z,nP] at hb;cases hb
    rw[bu hne,bu hne];exact hb
   refine q p _ F4 r6 (s1.trans (s2.trans (s3.trans s4))) ⟨⟨by show 2<=sizeLine;decide,_,aR,⟨q1,y,_,rfl,h1,Rep.mono (s3.trans s4) _ _ p2,q2,y',[],rfl,h2,p4,rfl⟩⟩,nF,nP,λj e he hs=>?_⟩;obtain⟨b,h1,_,_,h4⟩:=r4.own j e he;rw[hs] at h1;cases h1;rw[aR] at h4;cases h4
 ·cases e⟩
theorem ach{g:D->D->Option D}{i:Nat}{b:Ev}{env e2:Env}{x y d:D}(h1:env[i]? = some (some (false,x)))(h2:b env = .ok y e2)(h4:e2[i]? = some (some (false,x)))(h3:g x y=some d):aB g i b env = .ok d e2:=bL h1 h2 h4 h3
theorem agG{g:D->D->Option D}{i:Nat}{b:Ev}{env e2:Env}{x y d:D}(h1:env[i]? = some (some (true,x)))(h2:b env = .ok y e2)(h4:e2[i]? = some (some (true,x)))(h3:g x y=some d):aB g i b env = .ok d e2:=bL h1 h2 h4 h3
theorem JG{i:Nat}{a:Ev}{env e:Env}{d:D}{xs:List D}(h0:env[i]? = some (some (true,.lst xs)))(h1:a env = .ok d e)(h2:e[i]? = some (some (true,.lst xs)))(hz:xs.length<sizeLine):eN i a env = .nx (e.set i (some (true,.lst (xs++[d])))):=by unfold eN;rw[h0];simp only[h1,iG,h2,if_pos hz]
theorem Kv{f:List D->Option (D×D)}{i:Nat}{a:dD}{env e1:Env}{ds:List D}{x d x':D}(h0:env[i]? = some (some (true,x)))(h1:a env = .ok ds e1)(h2:e1[i]? = some (some (true,x)))(h3:f (x::ds)=some (d,x')):f9 f i a env = .ok d (e1.set i (some (true,x'))):=mG h0 h1 h2 h3
theorem zz1:1<=sizeLine:=by decide
theorem Jt:2<=sizeLine:=by decide
theorem zz3:3<=sizeLine:=by decide
theorem zz4:4<=sizeLine:=by decide
theorem zz5:5<=sizeLine:=by decide
theorem zz6:6<=sizeLine:=by decide
theorem zz7:7<=sizeLine:=by decide
end Ev
abbrev OD:=Option (Bool×Ev.D)
abbrev Zf(d:Ev.D):OD:=some (false,d)
abbrev Zt(d:Ev.D):OD:=some (true,d)
abbrev Zs(w:List Nat):OD:=some (false,.str w)
abbrev Zb(b:Bool):OD:=some (false,.bl b)
abbrev Zl(l:List Ev.D):OD:=some (true,.lst l)
abbrev Zv(i:Nat)(a:Ev.dD):Ev.dD:=Ev.aa (Ev.aO i) a
abbrev Zi(i:Int):Ev.Ev:=Ev.jG (.int i)
abbrev Zw(w:List Nat):Ev.Ev:=Ev.jG (.str w)
abbrev LD:=List Ev.D->Option Ev.D
abbrev Zn:OD:=none
abbrev R3:List PySem.Str:=["rule","word"]
abbrev Vo:List PySem.Str:=["_law_pack_here","_law_sounds_here"]
abbrev WD:List PySem.Str:=["stock","side","rule","other"]
abbrev Zq3:List PySem.Str:=["rule","standing","sign"]
abbrev Zq4:List PySem.Str:=["side","rule","word"]
abbrev Zq5:List PySem.Str:=["_law_stock_here"]
abbrev Zq6:List PySem.Str:=["_law_one","_law_other"]
abbrev Zq7:List PySem.Str:=["rule","standing","signs"]
abbrev Zq8:List PySem.Str:=["order","standing","sound"]
abbrev Zq9:List PySem.Str:=["stock","side","first","lead","shows"]
abbrev aan:List PySem.Str:=["stock","side","rule","other","behind","alone"]
abbrev aam:List PySem.Str:=["_law_pack_here","_law_size"]
abbrev aal:List PySem.Str:=["_law_rule_here","_law_called"]
abbrev aak:List PySem.Str:=["_law_side","_law_rule_here","_law_other","_law_word","_law_wished"]
abbrev aaj:List PySem.Str:=["_law_stock_here","_law_side","_law_rule_here","_law_other","_law_asked"]
abbrev acz:List PySem.Str:=["rule","standing","sign","way","changes","left","right","near","held","put"]
namespace oA
open PySem L2 Ev
section
def top(i:Nat):Stmt:=PySem.Challenge.pw_soundrules_k38_whole_sides_and_sounds_tu.main.body.getD i (.Pass ⟨0,0,0,0⟩)
def aW:Stmt:=nest (top 19) 2
def aV:Stmt:=nest (top 19) 3
def qb:Ev:=gC 1 3 (il (aO 0)) (cj 2 (aG (aj 1) (aG (aj 2) cA))) dC (aO 1)
def ql:cu:=bC (au cV (aa (qb) ak))
def gD:LD:=cH 1 ql
def jF:cu:=bC (acg (eF (aB qz 0 (Zw [114,105,103,104,116]))) (nY (aO 1)) (aO 1))
def gq:LD:=cH 2 jF
def jb:cu:=aC (aP (aO 0) (cj 4 (aG (aj 1) (aG (aj 2) (aG (aj 3) (aG (aj 4) cA)))))) (bC (bN (Zv 1 (Zv 2 (Zv 4 (Zv 3 ak))))))
def gQ:LD:=cH 5 jb
def rK:Ev:=gC 3 4 (il (aO 2)) (aj 3) dC (au gQ (Zv 3 ak))
def jd:cu:=aC (aP (aO 0) (cj 2 (aG (aj 1) (aG (aj 2) cA)))) (aC (fD (eF (aB qz 1 (Zw [114,105,103,104,116]))) (bC (au cV (aa (rK) ak))) cC) (bC (aO 2)))
def cQ:LD:=cH 3 jd
def gW:cu:=bC (aQ qz (aQ fJ (aQ fJ (aB fJ 0 (Zi 1)) (Zi 0)) (Zi 0)) (Zw []))
def eY:LD:=cH 1 gW
def m7:cu:=bC (oV (aB IV 0 (jG .non)) (aB Wj 1 (bw 0)))
def cX:LD:=cH 2 m7
def fP:cu:=aC (aP (aO 0) (cj 4 (aG (aj 3) (aG (aj 4) (aG (aj 5) (aG (aj 6) cA)))))) (aC (aP (aO 1) (cj 2 (aG (aj 7) (aG (aj 8) cA)))) (aC (aP (aO 8) (aj 9)) (aC (fD (ie (eF (aO 7)) (eF (au cX (Zv 6 (Zv 2 ak))))) (aP (aB cW 8 (aQ fJ (aB fJ 4 (Zi 0)) (Zi 1))) (aj 9)) cC) (bC (bN (aa (bN (aa (au cX (Zv 5 (Zv 2 ak))) (Zv 2 ak))) (Zv 9 ak)))))))
def dJ:LD:=cH 10 fP
def gR:cu:=aC (aP (aO 0) (cj 4 (aG (aj 3) (aG (aj 4) (aG (aj 5) (aG (aj 6) cA)))))) (aC (aP (aO 1) (cj 2 (aG (aj 7) (aG (aj 8) cA)))) (aC (fD (eF (aB qz 8 (Zw []))) (bC (bN (aa (bN (Zv 7 (Zv 2 ak))) (aa (Zw []) ak)))) cC) (aC (aP (aO 8) (aj 9)) (aC (fD (ie (eF (aO 7)) (eF (au cX (Zv 6 (Zv 2 ak))))) (aP (Dg (au pq (aa (bw 4) ak)) (aO 8) (aO 8)) (aj 9)) cC) (aC (fD (eF (aB qz 3 (Zw [111,110,99,101]))) (bC (bN (aa (bN (aa (au cX (Zv 5 (Zv 8 ak))) (Zv 2 ak))) (Zv 9 ak)))) cC) (aC (fD (eF (aB qz 9 (Zw []))) (bC (bN (aa (bN (Zv 7 (Zv 2 ak))) (Zv 9 ak)))) cC) (bC (bN (aa (bN (aa (au cX (Zv 5 (Zv 9 ak))) (Zv 2 ak))) (Zv 9 ak))))))))))
def dR:LD:=cH 10 gR
def pg:cu:=aC (aP (aB fJ 1 (Zi 1)) (aj 6)) (aC (fD (eF (au eY (Zv 0 ak))) (aP (au dJ (Zv 0 (Zv 1 (Zv 5 ak)))) (cj 2 (aG (aj 1) (aG (aj 7) cA)))) (aP (au dR (Zv 0 (Zv 1 (Zv 5 ak)))) (cj 2 (aG (aj 1) (aG (aj 7) cA))))) (aC (aP (oV (aO 4) (aB IK 7 (bw 6))) (aj 4)) (eN 3 (aO 7))))
def kW:cu:=aC (dF 3 (cG ak)) (aC (aP (jG (.bl false)) (aj 4)) (aC (iu (il (aO 2)) (aj 5) (pg)) (bC (bN (Zv 1 (aa (aQ my (Zw []) (bw 3)) (Zv 4 ak)))))))
def gK:LD:=cH 8 kW
def qM:cu:=aC (aP (au gK (Zv 6 (Zv 7 (Zv 3 ak)))) (cj 3 (aG (aj 8) (aG (aj 3) (aG (aj 9) cA))))) (aC (eN 4 (aO 8)) (eN 5 (aO 9)))
def oY:cu:=aC (aP (aO 2) (aj 3)) (aC (dF 4 (cG ak)) (aC (dF 5 (cG ak)) (aC (iu (yP (aa (au cQ (Zv 0 ak)) (Zv 1 ak))) (cj 2 (aG (aj 6) (aG (aj 7) cA))) (qM)) (bC (bN (aa (au cV (aa (bw 4) ak)) (Zv 3 (aa (au cV (aa (bw 5) ak)) ak))))))))
def gJ:LD:=cH 10 oY
def qd:cu:=aC (aP (au gK (Zv 4 (Zv 5 (aa (aB cW 2 (Zw [35])) ak)))) (cj 3 (aG (aj 6) (aG (aj 2) (aG (aj 7) cA))))) (eN 3 (aO 7))
def mJ:cu:=aC (aP (Zw []) (aj 2)) (aC (dF 3 (cG ak)) (aC (iu (yP (aa (au cQ (Zv 0 ak)) (Zv 1 ak))) (cj 2 (aG (aj 4) (aG (aj 5) cA))) (qd)) (bC (bN (Zv 2 (aa (au cV (aa (bw 3) ak)) ak))))))
def fL:LD:=cH 8 mJ
def oZ:cu:=aC (aP (aO 0) (cj 4 (aG (aj 4) (aG (aj 5) (aG (aj 6) (aG (aj 7) cA)))))) (aC (aP (au gJ (Zv 3 (Zv 4 (Zv 1 ak)))) (cj 3 (aG (aj 4) (aG (aj 8) (aG (aj 9) cA))))) (aC (aP (au gJ (Zv 2 (Zv 5 (Zv 1 ak)))) (cj 3 (aG (aj 5) (aG (aj 8) (aG (aj 10) cA))))) (bC (bN (Zv 4 (Zv 5 (aa (oV (aO 6) (aB fJ 9 (Zi 1))) (aa (oV (aO 7) (aB fJ 10 (Zi 0))) ak))))))))
def gM:List D->LD:=runC 2 11 oZ
def n6:cu:=aC (aP (aO 0) (cj 4 (aG (aj 5) (aG (aj 6) (aG (aj 7) (aG (aj 8) cA)))))) (aC (aP (oV (aO 7) (aQ fJ (aQ fJ (au fL (Zv 2 (Zv 5 ak))) (Zi 1)) (Zi 1))) (aj 9)) (aC (aP (oV (aO 8) (aQ fJ (aQ fJ (au fL (Zv 1 (Zv 6 ak))) (Zi 1)) (Zi 0))) (aj 10)) (bC (Kw (aB qz 9 (bw 3)) (aB qz 10 (bw 4))))))
def gA:List D->LD:=runC 1 11 n6
open Classical in
def K1(st:Stmt):List D->LD:=if st=aW then gM else if st=aV then gA else λ_ _=>none
def rM:cu:=aC (aP (kE K1 3 (aa (aB fJ 5 (bw 8)) (Zv 9 ak))) (aj 10)) (aC (fD (wk (eF (aB IV 10 (jG .non))) (eF (aB IW 10 (bw 7)))) ((λenv=>.ct env)) cC) (aC (fD (eF (kE K1 4 (Zv 10 ak))) (bC (au gq (Zv 1 (aa (aQ cW (aB fJ 6 (bw 8)) (bw 9)) ak)))) cC) (aC (sV 7 (aO 10) (jG (.bl true))) (aC (eN 5 (aO 10)) (eN 6 (aQ cW (aB fJ 6 (bw 8)) (bw 9)))))))
def qT:cu:=aC (iu (il (au gD (Zv 0 ak))) (aj 9) (rM)) (JF 8 (Zi 1))
def di:cu:=aC (fD (eF (kE K1 4 (Zv 2 ak))) (bC (Zw [])) cC) (aC (dF 5 (cG (Zv 2 ak))) (aC (dF 6 (cG (aa (Zw []) ak))) (aC (dF 7 (yS (aO 2) (jG (.bl true)))) (aC (aP (Zi 0) (aj 8)) (aC (gF (eF (aB Wi 8 (au jN (aa (bw 5) ak)))) (qT) 7000) (bC (jG .non)))))))
def pA:LD:=cH 11 di
def qH:Ev:=gC 1 5 (il (au cQ (Zv 0 ak))) (cj 4 (aG (aj 1) (aG (aj 2) (aG (aj 3) (aG (aj 4) cA))))) dC (bN (aa (au cX (Zv 3 (aa (Zw [35]) ak))) (aa (Zw []) ak)))
def jP:cu:=bC (au cV (aa (qH) ak))
def bW:LD:=cH 1 jP
def vM:cu:=aC (aP (bN (Zv 1 (aa (bN (Zv 2 (Zv 3 ak))) ak))) (aj 6)) (aC (aP (bN (Zv 1 (aa (bN (Zv 3 ak)) ak))) (aj 7)) (uM aW aV [7,6] [7,6,4,5] 8 9 pA (aO 0) (aO 1) (bN (aa (au bW (Zv 6 ak)) (aa (au bW (Zv 7 ak)) (aa (jG (.bl false)) (aa (jG (.bl false)) ak)))))))
def gn:LD:=cH 10 vM
def GP:cu:=bC (au gn (Zv 0 (Zv 1 (Zv 2 (Zv 3 (aa (jG (.bl true)) (aa (jG (.bl false)) ak)))))))
def jk:LD:=cH 4 GP
def Du:cu:=bC (au gn (Zv 0 (Zv 1 (Zv 2 (Zv 3 (aa (jG (.bl false)) (aa (jG (.bl true)) ak)))))))
def iI:LD:=cH 4 Du
def nQ:cu:=aC (fD (ie (eF (au cX (Zv 4 (Zv 8 ak)))) (eF (au cX (Zv 5 (Zv 9 ak))))) (eN 7 (aO 6)) cC) (aC (eN 7 (aO 9)) (aP (aO 9) (aj 8)))
def fY:cu:=aC (aP (aO 0) (cj 4 (aG (aj 2) (aG (aj 3) (aG (aj 4) (aG (aj 5) cA)))))) (aC (aP (aQ fJ (aB fJ 3 (Zi 0)) (Zi 1)) (aj 6)) (aC (dF 7 (cG ak)) (aC (aP (Zw [35]) (aj 8)) (aC (iu (il (aB cW 1 (Zw [35]))) (aj 9) (nQ)) (bC (aQ my (Zw []) (vG (aO 7) wu (Dc (U4 UL (Zi 1))))))))))
def gV:LD:=cH 10 fY
def mj:cu:=aC (aP (aO 11) (aj 12)) (aC (fD (ie (eF (aB vB 11 (bw 6))) (ie (eF (au cX (Zv 4 (Zv 9 ak)))) (eF (au cX (Zv 5 (aa (aB fJ 7 (aB cW 10 (Zi 1))) ak)))))) (aP (aB eO 6 (bw 11)) (aj 12)) cC) (aC (eN 8 (aO 12)) (fD (eF (aB qz 2 (Zw [111,110,99,101]))) (aP (aO 11) (aj 9)) (fD (eF (aB IK 12 (Zw []))) (aP (aO 12) (aj 9)) cC))))
def d9:cu:=aC (aP (aO 0) (cj 4 (aG (aj 2) (aG (aj 3) (aG (aj 4) (aG (aj 5) cA)))))) (aC (aP (au pq (aa (bw 3) ak)) (aj 6)) (aC (aP (aB cW 1 (Zw [35])) (aj 7)) (aC (dF 8 (cG ak)) (aC (aP (Zw [35]) (aj 9)) (aC (iu (Jb (Zv 1 ak)) (cj 2 (aG (aj 10) (aG (aj 11) cA))) (mj)) (bC (aQ my (Zw []) (bw 8))))))))
def gm:LD:=cH 13 d9
def dY:cu:=aC (fD (eF (au eY (Zv 0 ak))) (bC (au gV (Zv 0 (Zv 1 ak)))) cC) (bC (au gm (Zv 0 (Zv 1 ak))))
def fM:LD:=cH 2 dY
def gY:cu:=aC (fD (eF (aB qz 0 (Zw [114,105,103,104,116]))) (bC (nY (au fM (aa (au gQ (Zv 1 ak)) (aa (nY (aO 2)) ak))))) cC) (bC (au fM (Zv 1 (Zv 2 ak))))
def eZ:LD:=cH 3 gY
def mL:cu:=bC (aQ ZP (aB rN 0 (Zi 915965594177219015054603514932384110774149374281672134266497)) (aQ Iw (Zi 10) (Zi 60)))
def iD:LD:=cH 1 mL
def zR:cu:=aP (aQ cW (aB rN 2 (aQ Iw (Zi 10) (Zi 60))) (au iD (aa (aQ fJ (aQ cW (vG (aO 0) (Dc (aO 3)) (Dc (aB cW 3 (Zi 1)))) (cG (aa (aQ cW (aQ rN (Zi 7919) (bw 3)) (Zi 61)) ak))) (Zi 0)) ak))) (aj 2)
def jO:cu:=aC (aP (Zi 0) (aj 2)) (aC (iu (il (cG (aa (aB cW 1 (Zi 1)) (Zv 1 ak)))) (aj 3) (zR)) (xP (cG (Zv 2 ak))))
def oU:LD:=runN 4 jO
def lN:cu:=aC (aP (au t6 (aa (aB fJ 0 (Zi 0)) (aa (bw 1) ak))) (cj 2 (aG (UG 0 (Zi 0)) (aG (aj 2) cA)))) (bC (aO 2))
def bB:List D->Option (D×D):=lH 3 lN
def yC:Ev:=gC 7 8 (km (aa (Zi 5) ak)) (aj 7) (eF (aQ qz (aQ CW (aB zU 5 (bw 7)) (Zi 1)) (Zi 1))) (aB fJ 2 (bw 7))
def yE:cu:=aC (aP (f9 bB 0 (aa (Zi 32) ak)) (aj 5)) (aC (aP (au iH (aa (yC) ak)) (aj 6)) (eN 3 (bN (Zv 4 (aa (au cV (aa (vG (aO 6) wu (Dc (Zi 4))) ak)) ak)))))
def mK:cu:=aC (aP (aQ fJ (cG (aa (Zw [97]) (aa (Zw [97,98]) (aa (Zw [97,98]) (aa (Zw [97,98,99]) (aa (Zw [97,101,112,116]) (aa (Zw [109,110,122]) ak))))))) (f9 bB 0 (aa (Zi 6) ak))) (aj 1)) (aC (aP (cG (aa (Zw [115,116,111,112]) (aa (Zw [115,116,111,112,115]) (aa (Zw [115]) (aa (Zw [111,112,101,110]) (aa (Zw [97,98,99,100,101,102,103,104]) ak)))))) (aj 2)) (aC (dF 3 (cG ak)) (aC (iu (il (aO 1)) (aj 4) (yE)) (bC (au cV (aa (bw 3) ak))))))
def mD:List D->Option (D×D):=lH 7 mK
def wZ:Ev:=oA.qb
def o5:cu:=bC (aQ my (Zw []) (wZ))
def jC:LD:=cH 1 o5
def yD:Ev:=gC 4 5 (km (aa (au jN (aa (bw 3) ak)) ak)) (aj 4) (eF (aQ qz (aQ CW (aB zU 2 (bw 4)) (Zi 1)) (Zi 1))) (aB fJ 3 (bw 4))
def jY:cu:=aC (fD (eF (aQ qz (f9 bB 0 (aa (Zi 2) ak)) (Zi 0))) (bC (jG .non)) cC) (aC (aP (aQ cW (Zi 1) (f9 bB 0 (aa (aQ Iv (aQ MJ (Zi 2) (au jN (aa (bw 1) ak))) (Zi 1)) ak))) (aj 2)) (aC (aP (aQ cW (Zw [35]) (bw 1)) (aj 3)) (bC (au cV (aa (yD) ak)))))
def iC:List D->Option (D×D):=lH 4 jY
def vp:Ev:=gC 6 7 (il (aQ cW (au Av (aa (bw 1) ak)) (cG (aa (Zw []) ak)))) (aj 6) (eF (aB IK 6 (bw 4))) (aO 6)
def vq:cu:=aC (aP (aB fJ 1 (f9 bB 0 (aa (au jN (aa (bw 1) ak)) ak))) (aj 4)) (aC (dF 5 (vp)) (qX 2 (aO 4) (aB fJ 5 (f9 bB 0 (aa (au jN (aa (bw 5) ak)) ak)))))
def vo:Ev:=gC 6 7 (il (au iH (aa (bw 2) ak))) (aj 6) dC (bN (Zv 6 (aa (aB eO 2 (bw 6)) ak)))
def jc:cu:=aC (fD (eF (aQ qz (f9 bB 0 (aa (Zi 5) ak)) (Zi 0))) (bC (bN (aa (bN (aa (Zw []) (aa (aB fJ 1 (f9 bB 0 (aa (au jN (aa (bw 1) ak)) ak))) ak))) ak))) cC) (aC (dF 2 (Dh)) (aC (iu (km (aa (aQ cW (Zi 1) (f9 bB 0 (aa (Zi 3) ak))) ak)) (aj 3) (vq)) (bC (au cV (aa (vo) ak)))))
def iZ:List D->Option (D×D):=lH 6 jc
def o6:cu:=aC (aP (aQ fJ (cG (aa (Zw [111,110,99,101]) (aa (Zw [97,108,111,110,103]) ak))) (f9 bB 0 (aa (Zi 2) ak))) (aj 2)) (aC (aP (f9 iZ 0 (Zv 1 ak)) (aj 3)) (bC (bN (Zv 2 (Zv 3 (aa (f9 iC 0 (Zv 1 ak)) (aa (f9 iC 0 (Zv 1 ak)) ak)))))))
def je:List D->Option (D×D):=lH 4 o6
def iz:Ev:=gC 5 7 (il (aB fJ 0 (Zi 1))) (cj 2 (aG (aj 5) (aG (aj 6) cA))) dC (bN (aa (aB eO 1 (bw 5)) (aa (aB eO 1 (bw 6)) ak)))
def iy:Ev:=gC 5 6 (il (aO 4)) (aj 5) dC (aB eO 1 (bw 5))
def iB:cu:=aC (fD (eF (aB vA 4 (jG .non))) (aP (au cV (aa (iy) ak)) (aj 4)) cC) (eN 3 (aO 4))
def mO:cu:=aC (aP (au cV (aa (iz) ak)) (aj 2)) (aC (dF 3 (cG ak)) (aC (iu (il (Wn (aO 0) (Dc (Zi 2)) wu)) (aj 4) (iB)) (bC (bN (aa (aB fJ 0 (Zi 0)) (Zv 2 (aa (aB fJ 3 (Zi 0)) (aa (aB fJ 3 (Zi 1)) ak))))))))
def ik:LD:=cH 5 mO
def wC:cu:=aC (aP (au eZ (Zv 0 (Zv 1 (Zv 3 ak)))) (aj 5)) (aC (aP (aQ IK (au eZ (Zv 0 (Zv 2 (Zv 3 ak)))) (bw 3)) (aj 6)) (aC (aP (aQ IK (au eZ (Zv 0 (Zv 2 (Zv 5 ak)))) (bw 5)) (aj 7)) (bC (aQ qz (bN (Zv 7 (Zv 6 ak))) (bw 4)))))
def mF:LD:=cH 8 wC
def zg:cu:=aC (fD (wk (eF (aB IV 0 (jG .non))) (eF (aB IV 1 (jG .non)))) (bC (Kw (aB IV 0 (jG .non)) (aB IV 1 (jG .non)))) cC) (bC (aQ qz (au jN (aa (bw 0) ak)) (au jN (aa (bw 1) ak))))
def jf:LD:=cH 2 zg
def jB:Ev:=gC 15 16 (km (aa (au jN (aa (bw 10) ak)) ak)) (aj 15) dC (bN (aa (aB fJ 10 (bw 15)) (aa (aQ fJ (Zw [100,104,107,118]) (bw 15)) ak)))
def lL:Ev:=gC 15 17 (il (aO 0)) (cj 2 (aG (aj 15) (aG (aj 16) cA))) dC (bN (aa (aB eO 11 (bw 15)) (Zv 16 ak)))
def jA:Ev:=gC 15 16 (il (aO 14)) (aj 15) dC (aB Wj 15 (Zw [100,104,107,118]))
def wD:cu:=aC (aP (Jc (Zw [108,101,102,116]) (Zw [114,105,103,104,116]) (Zw [114,105,103,104,116]) (Zw [108,101,102,116])) (aj 5)) (aC (aP (aQ fJ (cG (aa (jG (pF "makes_way")) (aa (jG (pF "takes_from")) ak))) (bw 4)) (aj 6)) (aC (aP (yR "makes_way" "takes_from" jk iI 6 (Zv 0 (Zv 1 (Zv 2 (Zv 3 ak))))) (aj 7)) (aC (aP (yR "makes_way" "takes_from" jk iI 6 (Zv 0 (aa (aB eO 5 (bw 1)) (aa (au gQ (Zv 2 ak)) (aa (au gQ (Zv 3 ak)) ak))))) (aj 8)) (aC (fD (rO (eF (au jf (Zv 7 (Zv 8 ak))))) (bC (jG (.bl false))) cC) (aC (aP (aQ fJ (cG (aa (bN (aa (jG (.bl true)) (aa (jG (.bl false)) ak))) (aa (bN (aa (jG (.bl false)) (aa (jG (.bl true)) ak))) ak))) (bw 4)) (aj 9)) (aC (fD (ie (eF (aB vA 7 (jG .non))) (rO (eF (au mF (Zv 1 (Zv 2 (Zv 3 (aa (nY (aO 8)) (Zv 9 ak))))))))) (bC (jG (.bl false))) cC) (aC (aP (au jC (Zv 0 ak)) (aj 10)) (aC (aP (au yM (aa (aQ cW (jB) (cG (aa (bN (aa (Zw []) (aa (Zw []) ak))) (aa (bN (aa (Zw [35]) (aa (Zw [35]) ak))) ak)))) ak)) (aj 11)) (aC (aP (au cV (aa (lL) ak)) (aj 12)) (aC (aP (au ik (Zv 2 (Zv 11 ak))) (aj 13)) (aC (aP (yR "makes_way" "takes_from" jk iI 6 (Zv 12 (Zv 1 (Zv 13 (aa (au ik (Zv 3 (Zv 11 ak))) ak))))) (aj 14)) (aC (fD (rO (eF (au jf (Zv 7 (Zv 14 ak))))) (bC (jG (.bl false))) cC) (bC (oV (aB IV 14 (jG .non)) (au Ja (aa (jA) ak))))))))))))))))
def qg:LD:=cH 15 wD
def Gg:Ev:=gC 7 8 (km (aa (Zi 2) ak)) (aj 7) dC (au qg (Zv 2 (Zv 4 (Zv 5 (Zv 6 (Zv 7 ak))))))
def Ww:cu:=aC (dF 1 (au oU (Zv 0 (aa (Zi 0) ak)))) (aC (aP (f9 mD 1 ak) (aj 2)) (aC (aP (au jC (Zv 2 ak)) (aj 3)) (aC (aP (aQ fJ (cG (aa (Zw [108,101,102,116]) (aa (Zw [114,105,103,104,116]) ak))) (f9 bB 1 (aa (Zi 2) ak))) (aj 4)) (aC (aP (f9 je 1 (Zv 3 ak)) (aj 5)) (aC (aP (f9 je 1 (Zv 3 ak)) (aj 6)) (bC (au Ja (aa (Gg) ak))))))))
def Ks:LD:=cH 7 Ww
end
open PySem PySem.Spec PyProof.Rows L2 Ev
abbrev pK:Stmt:=top 2
abbrev lE:Stmt:=top 4
abbrev xX:Stmt:=top 8
abbrev j7:Stmt:=top 11
abbrev uR:Stmt:=top 9
abbrev HD:Stmt:=top 7
abbrev jq:Stmt:=top 13
abbrev j8:Stmt:=top 14
abbrev oG:Stmt:=top 15
abbrev rm:Stmt:=top 16
abbrev pJ:Stmt:=top 17
abbrev j6:Stmt:=top 5
abbrev jM:Stmt:=top 12
abbrev jK:Stmt:=top 19
abbrev pL:Stmt:=top 20
abbrev oF:Stmt:=top 21
abbrev mV:Stmt:=top 23
abbrev lD:Stmt:=top 24
abbrev pR:Stmt:=top 25
abbrev uT:Stmt:=top 26
abbrev pQ:Stmt:=top 28
abbrev rB:Stmt:=top 29
abbrev rn:Stmt:=top 30
abbrev pM:Stmt:=top 31
abbrev oH:Stmt:=top 32
abbrev pN:Stmt:=top 33
abbrev mW:Stmt:=top 34
abbrev rA:Stmt:=top 35
abbrev jr:Stmt:=top 36
abbrev pO:Stmt:=top 37
abbrev rC:Stmt:=top 38
abbrev pP:Stmt:=top 39
abbrev Oq:Stmt:=top 40
abbrev cM:List (Pos×Str):=[(vJ aW,"shortest_where.<locals>.lead"),(vJ aV,"shortest_where.<locals>.shows")]
theorem nU:∀q∈cM,q.1.line=(vJ aW).line->q.1.col=(vJ aW).col->q.2 = "shortest_where.<locals>.lead":=by decide +kernel
theorem m6:∀q∈cM,q.1.line=(vJ aV).line->q.1.col=(vJ aV).col->q.2 = "shortest_where.<locals>.shows":=by decide +kernel
def tabs:Jp:=[("shortest_where",cM)]
theorem ur:(("shortest_where" : Str),cM)∈tabs:=by unfold tabs;simp
theorem sJ{K:Fg}:lA K tabs (jo K "shortest_where").2=some (.tab cM):=if_pos rfl
structure Top(K:Fg)(mg:Str->Option Value):Prop where
 QJ:mg "all" = none
 CK:mg "dict" = none
 Mp:mg "divmod" = none
 CJ:mg "enumerate" = none
 oM:mg "len" = none
 Ur:mg "list" = none
 pZ:mg "range" = none
 Al:mg "sorted" = none
 gk:mg "tuple" = none
 QH:mg "zip" = none
 cN:R7 K mg "EDGE" (.str [35])
 fH:R7 K mg "makes_way" (pF "makes_way")
 dX:R7 K mg "takes_from" (pF "takes_from")
 Ef:dB K mg "sounds_of" pK ["stock"]
 xN:dB K mg "as_it_stands" lE ["side","read"]
 N6:dB K mg "turned" xX ["rule"]
 wQ:dB K mg "reading_rules" j7 ["order"]
 K9:dB K mg "puts_in" uR ["rule"]
 Xb:dB K mg "fits" HD ["signs","sign"]
 sO:dB K mg "read_putting_in" jq Zq3
 wR:dB K mg "read_changing" j8 Zq3
 Br:dB K mg "read_signs" oG Zq7
 Hn:dB K mg "watch_on" rm Zq8
 Ed:dB K mg "watch_end" pJ ["order","standing"]
 wO:dB K mg "shortest_word" j6 Zq9
 uK:dB K mg "first_standing" jM ["order"]
 uJ:Vw K mg "shortest_where" jK aan (jo K "shortest_where").1
 Eg:dB K mg "makes_way" pL WD
 Bq:dB K mg "takes_from" oF WD
 zF:dB K mg "with_put_in" mV R3
 xM:dB K mg "with_changes" lD R3
 Em:dB K mg "from_left" pR R3
 La:dB K mg "changed" uT Zq4
 El:dB K mg "_law_mixed" pQ ["_law_cell"]
 Hr:dB K mg "_law_pack" rB ["_law_script","_law_k"]
 Ho:dB K mg "_law_take" rn aam
 Eh:dB K mg "_law_stock" pM ["_law_pack_here"]
 Bs:dB K mg "_law_sounds" oH Zq5
 Ei:dB K mg "_law_signs" pN Vo
 zG:dB K mg "_law_changes" mW Vo
 Hq:dB K mg "_law_rule" rA Vo
 sS:dB K mg "_law_called_rule" jr aal
 Ej:dB K mg "_law_shows" pO aak
 Hs:dB K mg "_law_like" rC Zq6
 Ek:dB K mg "_law_right" pP aaj
section
variable{P:Program}{w:World}{K:Fg}{mg:Str->Option Value}{base:Heap}(Z:Top K mg)(BB:∀y∈tabs,zZ base mg (jo K y.1).1 (jo K y.1).2)
theorem BP:bG ["stock"] ["stock"] (aJ pK):=iM
include Z in
theorem Fx:Own P w K mg base "sounds_of" 1 ["stock"] (jU K 1 gD):=by exact cJ (k:=0) Z.Ef BP (λf cdv A outer s H E hr G=>(fQ.u (aL (aY (gb G Z.gk (bK (bf (cU (nO ["stock","sound","marks"] 1 jE G (iT G (bA 0)) (λX1 h1=>by have G:=G.at h1;obtain⟨_,_,_,_,_,rfl⟩:=h1;exact(dO G (aD (aN 1) (aD (aN 2) bQ)))) (λX1 h1=>by have G:=G.at h1;obtain⟨_,_,_,_,_,rfl⟩:=h1;exact gh) (λX1 h1=>by have G:=G.at h1;obtain⟨_,_,_,_,_,rfl⟩:=h1;exact(bA 1)))))))))))
theorem wV:bG ["side","read"] ["side","read"] (aJ lE):=iM
include Z in
theorem yr:Own P w K mg base "as_it_stands" 1 ["side","read"] (jU K 2 gq):=by exact cJ (k:=0) Z.xN wV (λf cdv A outer s H E hr G=>(fQ.u (aL (aY (XM (fj 0 (qJ G) (bf (bF [114,105,103,104,116]))) (Bl (bA 1)) (bA 1))))))
theorem Li:bG ["rule","way","changes","left","right"] ["rule"] (aJ xX):=iM
include Z in
theorem tL:Own P w K mg base "turned" 1 ["rule"] (jU K 1 gQ):=by
 exact cJ (k:=0) Z.N6 Li (λf cdv A outer s H E hr G=>(fQ.u (ao (dG (bA 0) (dO G (aD (aN 1) (aD (aN 2) (aD (aN 3) (aD (aN 4) bQ))))))
   (aL (aY (bU (cD 1 (cD 2 (cD 4 (cD 3 aq))))))))))
theorem uP:bG ["order","side","rules"] ["order"] (aJ j7):=iM
include Z in
theorem j9:Own P w K mg base "reading_rules" 2 ["order"] (jU K 1 cQ):=by
 exact cJ (k:=1) Z.wQ uP (λf cdv A outer s H E hr G=>(fQ.u (ao (dG (bA 0) (dO G (aD (aN 1) (aD (aN 2) bQ))))
   (ao (cY (fj 1 (qJ G) (bf (bF [114,105,103,104,116]))) (aL (aY (gb G Z.gk (bK (bf (cU (nO ["order","side","rules","rule"] 3 jE G (iT G (bA 2)) (λX1 h1=>by have G:=G.at h1;obtain⟨_,_,_,_,_,rfl⟩:=h1;exact(aN 3)) (λX1 h1=>by have G:=G.at h1;obtain⟨_,_,_,_,_,rfl⟩:=h1;exact gh) (λX1 h1=>by have G:=G.at h1;obtain⟨_,_,_,_,_,rfl⟩:=h1;exact(bO (tL Z) G hr (cD 3 aq) (aZ len0)))))))))) cB)
   (aL (aY (bA 2)))))))
theorem Hy:bG ["rule"] ["rule"] (aJ uR):=iM
include Z in
theorem Ak:Own P w K mg base "puts_in" 1 ["rule"] (jU K 1 eY):=by exact cJ (k:=0) Z.K9 Hy (λf cdv A outer s H E hr G=>(fQ.u (aL (aY (xJ (qJ G) (lr G (lr G (fW 0 G (bf aX)) (bf aX)) (bf aX)) (bf (bF [])))))))
theorem Tc:bG ["signs","sign"] ["signs","sign"] (aJ HD):=iM
include Z in
theorem mZ:Own P w K mg base "fits" 1 ["signs","sign"] (jU K 2 cX):=by exact cJ (k:=0) Z.Xb Tc (λf cdv A outer s H E hr G=>(fQ.u (aL (aY (rE (kJ 0 Jj (bf jt)) (kO (kJ 1 (acu G) (bZ 0))))))))
theorem qY:bG acz Zq3 (aJ jq):=iM
include Z in
theorem tQ:Own P w K mg base "read_putting_in" 2 Zq3 (jU K 3 dJ):=by
 exact cJ (k:=1) Z.sO qY (λf cdv A outer s H E hr G=>(fQ.u (ao (dG (bA 0) (dO G (aD (aN 3) (aD (aN 4) (aD (aN 5) (aD (aN 6) bQ))))))
   (ao (dG (bA 1) (dO G (aD (aN 7) (aD (aN 8) bQ))))
   (ao (bI 9 (bA 8))
   (ao (cY (o8 (nA (d7 (bA 7)) (nD (d7 (bO (mZ Z) G hr (cD 6 (cD 2 aq)) (aZ (aZ len0))))))) (aL (bI 9 (jm 8 (jZ G) (bf (lr G (fW 4 G (bf aX)) (bf aX)))))) cB)
   (aL (aY (bU (az (bU (az (bO (mZ Z) G hr (cD 5 (cD 2 aq)) (aZ (aZ len0))) (cD 2 aq))) (cD 9 aq)))))))))))
theorem uQ:bG acz Zq3 (aJ j8):=iM
include Z in
theorem wY:Own P w K mg base "read_changing" 2 Zq3 (jU K 3 dR):=by
 exact cJ (k:=1) Z.wR uQ (λf cdv A outer s H E hr G=>(fQ.u (ao (dG (bA 0) (dO G (aD (aN 3) (aD (aN 4) (aD (aN 5) (aD (aN 6) bQ))))))
   (ao (dG (bA 1) (dO G (aD (aN 7) (aD (aN 8) bQ))))
   (ao (cY (fj 8 (qJ G) (bf (bF []))) (aL (aY (bU (az (bU (cD 7 (cD 2 aq))) (az (bF []) aq))))) cB)
   (ao (bI 9 (bA 8))
   (ao (cY (o8 (nA (d7 (bA 7)) (nD (d7 (bO (mZ Z) G hr (cD 6 (cD 2 aq)) (aZ (aZ len0))))))) (aL (bI 9 (Sq G (Jw G Z.CK (bK (bZ 4))) (bA 8) (bA 8)))) cB)
   (ao (cY (fj 3 (qJ G) (bf (bF [111,110,99,101]))) (aL (aY (bU (az (bU (az (bO (mZ Z) G hr (cD 5 (cD 8 aq)) (aZ (aZ len0))) (cD 2 aq))) (cD 9 aq))))) cB)
   (ao (cY (fj 9 (qJ G) (bf (bF []))) (aL (aY (bU (az (bU (cD 7 (cD 2 aq))) (cD 9 aq))))) cB)
   (aL (aY (bU (az (bU (az (bO (mZ Z) G hr (cD 5 (cD 9 aq)) (aZ (aZ len0))) (cD 2 aq))) (cD 9 aq))))))))))))))
theorem zK:bG ["rule","standing","signs","puts","acting","sign","held","put"] Zq7 (aJ oG):=iM
include Z in
theorem tM:Own P w K mg base "read_signs" 3 Zq7 (jU K 3 gK):=by
 exact cJ (k:=2) Z.Br zK (λf cdv A outer s H E hr G=>(fQ.u (ao (jL 3 (cT aq))
   (ao (bI 4 iQ)
   (ao (mX G (iT G (bA 2)) (aN 5) (ao (bI 6 (fW 1 G (bf aX)))
   (ao (cY (d7 (bO (Ak Z) G hr (cD 0 aq) (aZ len0))) (aL (dG (bO (tQ Z) G hr (cD 0 (cD 1 (cD 5 aq))) (aZ (aZ (aZ len0)))) (dO G (aD (aN 1) (aD (aN 7) bQ))))) (aL (dG (bO (wY Z) G hr (cD 0 (cD 1 (cD 5 aq))) (aZ (aZ (aZ len0)))) (dO G (aD (aN 1) (aD (aN 7) bQ))))))
   (ao (bI 4 (rE (bA 4) (kO (kJ 7 (RD G) (bZ 6)))))
   (aL (lF 3 G (bA 7)))))))
   (aL (aY (bU (cD 1 (az (xm G (bF []) (bZ 3)) (cD 4 aq)))))))))))
theorem Et:bG ["order","standing","sound","put","behind","acting","rule","own","new","acts_here"] Zq8 (aJ rm):=iM
include Z in
theorem yo:Own P w K mg base "watch_on" 4 Zq8 (jU K 3 gJ):=by
 exact cJ (k:=3) Z.Hn Et (λf cdv A outer s H E hr G=>(fQ.u (ao (bI 3 (bA 2))
   (ao (jL 4 (cT aq))
   (ao (jL 5 (cT aq))
   (ao (mX G (Q9 G Z.QH (az (bO (j9 Z) G hr (cD 0 aq) (aZ len0)) (cD 1 aq))) (dO G (aD (aN 6) (aD (aN 7) bQ))) (ao (dG (bO (tM Z) G hr (cD 6 (cD 7 (cD 3 aq))) (aZ (aZ (aZ len0)))) (dO G (aD (aN 8) (aD (aN 3) (aD (aN 9) bQ)))))
   (ao (lF 4 G (bA 8))
   (aL (lF 5 G (bA 9))))))
   (aL (aY (bU (az (gb G Z.gk (bK (bZ 4))) (cD 3 (az (gb G Z.gk (bK (bZ 5))) aq))))))))))))
theorem BL:bG ["order","standing","put","acting","rule","own","new","acts_here"] ["order","standing"] (aJ pJ):=iM
include Z in
theorem vX:Own P w K mg base "watch_end" 4 ["order","standing"] (jU K 2 fL):=by
 obtain⟨Hi,Hj,cN⟩:=Z.cN;exact cJ (k:=3) Z.Ed BL (λf cdv A outer s H E hr G=>(fQ.u (ao (bI 2 (bF []))
   (ao (jL 3 (cT aq))
   (ao (mX G (Q9 G Z.QH (az (bO (j9 Z) G hr (cD 0 aq) (aZ len0)) (cD 1 aq))) (dO G (aD (aN 4) (aD (aN 5) bQ))) (ao (dG (bO (tM Z) G hr (cD 4 (cD 5 (az (jm 2 (jZ G) (bf (jV (.str [35]) rfl cN.1 cN.2.1 (λF=>cN.2.2 F)))) aq))) (aZ (aZ (aZ len0)))) (dO G (aD (aN 6) (aD (aN 2) (aD (aN 7) bQ)))))
   (aL (lF 3 G (bA 7)))))
   (aL (aY (bU (cD 2 (az (gb G Z.gk (bK (bZ 3))) aq))))))))))
theorem nq:lq ["row","sound","itself","both","standing","own","so_far","own_so_far","put","acting","own_acting"] ["row","sound"] (freeOf aW) (aJ aW):=QF
include Z in
theorem oN:uB P w K mg base 5 aW gM:=by
 exact Rv (k:=4) nq rfl (λus hl=>match us,hl with|[_,_],_=>rfl) (λq f cdv cl A outer s H E hr G=>(fQ.u (ao (dG (bA 0) (dO G (aD (aN 4) (aD (aN 5) (aD (aN 6) (aD (aN 7) bQ))))))
   (ao (dG (bO (yo Z) G hr (cD 3 (cD 4 (cD 1 aq))) (aZ (aZ (aZ len0)))) (dO G (aD (aN 4) (aD (aN 8) (aD (aN 9) bQ)))))
   (ao (dG (bO (yo Z) G hr (cD 2 (cD 5 (cD 1 aq))) (aZ (aZ (aZ len0)))) (dO G (aD (aN 5) (aD (aN 8) (aD (aN 10) bQ)))))
   (aL (aY (bU (cD 4 (cD 5 (az (rE (bA 6) (kO (fW 9 G (bf aX)))) (az (rE (bA 7) (kO (fW 10 G (bf aX)))) aq))))))))))))
theorem mU:lq ["row","itself","both","behind","alone","standing","own","so_far","own_so_far","at_end","own_at_end"] ["row"] (freeOf aV) (aJ aV):=QF
include Z in
theorem nM:uB P w K mg base 5 aV gA:=by
 exact Rv (k:=4) mU rfl (λus hl=>match us,hl with|[_],_=>rfl) (λq f cdv cl A outer s H E hr G=>(fQ.u (ao (dG (bA 0) (dO G (aD (aN 5) (aD (aN 6) (aD (aN 7) (aD (aN 8) bQ))))))
   (ao (bI 9 (rE (bA 7) (kO (lr G (lr G (bO (vX Z) G hr (cD 2 (cD 5 aq)) (aZ (aZ len0))) (bf aX)) (bf aX)))))
   (ao (bI 10 (rE (bA 8) (kO (lr G (lr G (bO (vX Z) G hr (cD 1 (cD 6 aq)) (aZ (aZ len0))) (bf aX)) (bf aX)))))
   (aL (aY (JS (kJ 9 (qJ G) (bZ 3)) (kO (kJ 10 (qJ G) (bZ 4)))))))))))
include Z in
theorem Ie:∀st kh ds d,K1 st kh ds=some d->uB P w K mg base 5 st (K1 st):=by
 intro st kh ds d e;by_cases h0:st=aW
 ·have z:K1 st=gM:=by unfold K1;rw[if_pos h0]
  rw[z,h0];exact(oN Z).mono (by decide)
 ·
  by_cases h1:st=aV
  ·have z:K1 st=gA:=by unfold K1;rw[if_neg h0,if_pos h1]
   rw[z,h1];exact(nM Z).mono (by decide)
  ·unfold K1 at e;rw[if_neg h0,if_neg h1] at e;cases e
theorem uO:bG ["stock","side","first","lead","shows","places","words","known","at","sound","place"] Zq9 (aJ j6):=iM
include Z in
theorem wX:Own P w K mg base "shortest_word" 6 Zq9 (jU K 5 pA):=by
 exact cJ (k:=5) Z.wO uO (λf cdv A outer s H E hr G=>(fQ.u (ao (cY (d7 (Hf 4 (Ie Z) G hr (by rfl) (cD 2 aq))) (aL (aY (bF []))) cB)
   (ao (jL 5 (cT (cD 2 aq)))
   (ao (jL 6 (cT (az (bF []) aq)))
   (ao (jL 7 (Lr G (bA 2) iQ))
   (ao (bI 8 aX)
   (ao (Oo 7000 G (fj 8 aew (bf (oE G Z.oM (bK (bZ 5))))) (ao (mX G (iT G (bO (Fx Z) G hr (cD 0 aq) (aZ len0))) (aN 9) (ao (bI 10 (Hf 3 (Ie Z) G hr (by rfl) (az (fW 5 G (bZ 8)) (cD 9 aq))))
   (ao (cY (o8 (JP (fj 10 Jj (bf jt)) (Ff (fj 10 (acr G) (bZ 7))))) (aL zM) cB)
   (ao (cY (d7 (Hf 4 (Ie Z) G hr (by rfl) (cD 10 aq))) (aL (aY (bO (yr Z) G hr (cD 1 (az (gZ (jZ G) (fW 6 G (bZ 8)) (bZ 9)) aq)) (aZ (aZ len0))))) cB)
   (ao (Ot 7 G (bA 10) iQ)
   (ao (lF 5 G (bA 10))
   (aL (lF 6 G (gZ (jZ G) (fW 6 G (bZ 8)) (bZ 9))))))))))
   (aL (Xp 8 aX))))
   (aL (aY jt))))))))))
theorem sY:bG ["order"] ["order"] (aJ jM):=iM
include Z in
theorem nJ:Own P w K mg base "first_standing" 3 ["order"] (jU K 1 bW):=by obtain⟨Hi,Hj,cN⟩:=Z.cN;exact cJ (k:=2) Z.uK sY (λf cdv A outer s H E hr G=>(fQ.u (aL (aY (gb G Z.gk (bK (bf (cU (nO ["order","way","changes","left","right"] 1 jE G (iT G (bO (j9 Z) G hr (cD 0 aq) (aZ len0))) (λX1 h1=>by have G:=G.at h1;obtain⟨_,_,_,_,_,rfl⟩:=h1;exact(dO G (aD (aN 1) (aD (aN 2) (aD (aN 3) (aD (aN 4) bQ)))))) (λX1 h1=>by have G:=G.at h1;obtain⟨_,_,_,_,_,rfl⟩:=h1;exact gh) (λX1 h1=>by have G:=G.at h1;obtain⟨_,_,_,_,_,rfl⟩:=h1;exact(bU (az (bO (mZ Z) G hr (cD 3 (az (jV (.str [35]) rfl cN.1 cN.2.1 (λF=>cN.2.2 F)) aq)) (aZ (aZ len0))) (az (bF []) aq)))))))))))))
theorem sX:bG ["stock","side","rule","other","behind","alone","both","itself","lead","shows"] aan (aJ jK):=iM
include Z BB in
theorem nH:Own P w K mg base "shortest_where" 7 aan (spT (lA K tabs) (jU K 6 gn)):=by
 exact LQ (k:=6) Z.uJ sX (λf A outer s H E hT hr G=>(fQ.u (ao (bI 6 (bU (cD 1 (az (bU (cD 2 (cD 3 aq))) aq))))
   (ao (bI 7 (bU (cD 1 (az (bU (cD 3 aq)) aq))))
   (Va (qs:=cM) (c0:=(jo K "shortest_where").1) (P:=(jo K "shortest_where").2) G (BB _ ur) rfl (hT _ _ sJ) (Wq rfl Qqj nU) (Wq rfl (Qqq _ Qqj) m6) (wX Z) hr (by rfl) (bA 0) (bA 1) (bU (az (bO (nJ Z) G hr (cD 6 aq) (aZ len0)) (az (bO (nJ Z) G hr (cD 7 aq) (aZ len0)) (az iQ (az iQ aq))))))))))
theorem BR:bG WD WD (aJ pL):=iM
include Z BB in
theorem pX:Own P w K mg base "makes_way" 8 WD (spT (lA K tabs) (jU K 4 jk)):=by exact vf (k:=7) Z.Eg BR (λf cdv A outer s H E hT hr G=>(fQ.u (aL (aY (Bm (nH Z BB) hT (ji K tabs) G hr (cD 0 (cD 1 (cD 2 (cD 3 (az iQ (az iQ aq)))))) (aZ (aZ (aZ (aZ (aZ (aZ len0)))))))))))
theorem zJ:bG WD WD (aJ oF):=iM
include Z BB in
theorem oK:Own P w K mg base "takes_from" 8 WD (spT (lA K tabs) (jU K 4 iI)):=by exact vf (k:=7) Z.Bq zJ (λf cdv A outer s H E hT hr G=>(fQ.u (aL (aY (Bm (nH Z BB) hT (ji K tabs) G hr (cD 0 (cD 1 (cD 2 (cD 3 (az iQ (az iQ aq)))))) (aZ (aZ (aZ (aZ (aZ (aZ len0)))))))))))
theorem xV:bG ["rule","word","way","changes","left","right","new","made_of","ahead","sign"] R3 (aJ mV):=iM
include Z in
theorem zN:Own P w K mg base "with_put_in" 2 R3 (jU K 2 gV):=by
 obtain⟨Hi,Hj,cN⟩:=Z.cN;exact cJ (k:=1) Z.zF xV (λf cdv A outer s H E hr G=>(fQ.u (ao (dG (bA 0) (dO G (aD (aN 2) (aD (aN 3) (aD (aN 4) (aD (aN 5) bQ))))))
   (ao (bI 6 (lr G (fW 3 G (bf aX)) (bf aX)))
   (ao (jL 7 (cT aq))
   (ao (bI 8 (jV (.str [35]) rfl cN.1 cN.2.1 (λF=>cN.2.2 F)))
   (ao (mX G (iT G (jm 1 (jZ G) (bf (jV (.str [35]) rfl cN.1 cN.2.1 (λF=>cN.2.2 F))))) (aN 9) (ao (cY (o8 (nA (d7 (bO (mZ Z) G hr (cD 4 (cD 8 aq)) (aZ (aZ len0)))) (nD (d7 (bO (mZ Z) G hr (cD 5 (cD 9 aq)) (aZ (aZ len0))))))) (aL (lF 7 G (bA 6))) cB)
   (ao (lF 7 G (bA 9))
   (aL (bI 8 (bA 9))))))
   (aL (aY (xm G (bF []) (bf (Nt G (bA 7) uW (nG (W3 aX))))))))))))))
theorem wU:bG ["rule","word","way","changes","left","right","becomes","signs","made_of","ahead","at","sound","new"] R3 (aJ lD):=iM
include Z in
theorem ym:Own P w K mg base "with_changes" 2 R3 (jU K 2 gm):=by
 obtain⟨Hi,Hj,cN⟩:=Z.cN;exact cJ (k:=1) Z.xM wU (λf cdv A outer s H E hr G=>(fQ.u (ao (dG (bA 0) (dO G (aD (aN 2) (aD (aN 3) (aD (aN 4) (aD (aN 5) bQ))))))
   (ao (bI 6 (Jw G Z.CK (bK (bZ 3))))
   (ao (bI 7 (jm 1 (jZ G) (bf (jV (.str [35]) rfl cN.1 cN.2.1 (λF=>cN.2.2 F)))))
   (ao (jL 8 (cT aq))
   (ao (bI 9 (jV (.str [35]) rfl cN.1 cN.2.1 (λF=>cN.2.2 F)))
   (ao (mX G (Uz Z.CJ (cD 1 aq)) (dO G (aD (aN 10) (aD (aN 11) bQ))) (ao (bI 12 (bA 11))
   (ao (cY (o8 (nA (fj 11 (Vj G) (bZ 6)) (nA (d7 (bO (mZ Z) G hr (cD 4 (cD 9 aq)) (aZ (aZ len0)))) (nD (d7 (bO (mZ Z) G hr (cD 5 (az (fW 7 G (bf (jm 10 (jZ G) (bf aX)))) aq)) (aZ (aZ len0)))))))) (aL (bI 12 (lz 6 G (bZ 11)))) cB)
   (ao (lF 8 G (bA 12))
   (aL (cY (fj 2 (qJ G) (bf (bF [111,110,99,101]))) (aL (bI 9 (bA 11))) (aL (cY (fj 12 (RD G) (bf (bF []))) (aL (bI 9 (bA 12))) cB))))))))
   (aL (aY (xm G (bF []) (bZ 8))))))))))))
theorem Ce:bG R3 R3 (aJ pR):=iM
include Z in
theorem vZ:Own P w K mg base "from_left" 3 R3 (jU K 2 fM):=by
 exact cJ (k:=2) Z.Em Ce (λf cdv A outer s H E hr G=>(fQ.u (ao (cY (d7 (bO (Ak Z) G hr (cD 0 aq) (aZ len0))) (aL (aY (bO (zN Z) G hr (cD 0 (cD 1 aq)) (aZ (aZ len0))))) cB)
   (aL (aY (bO (ym Z) G hr (cD 0 (cD 1 aq)) (aZ (aZ len0))))))))
theorem HB:bG Zq4 Zq4 (aJ uT):=iM
include Z in
theorem vg:Own P w K mg base "changed" 4 Zq4 (jU K 3 eZ):=by
 exact cJ (k:=3) Z.La HB (λf cdv A outer s H E hr G=>(fQ.u (ao (cY (fj 0 (qJ G) (bf (bF [114,105,103,104,116]))) (aL (aY (Bl (bO (vZ Z) G hr (az (bO (tL Z) G hr (cD 1 aq) (aZ len0)) (az (Bl (bA 2)) aq)) (aZ (aZ len0)))))) cB)
   (aL (aY (bO (vZ Z) G hr (cD 1 (cD 2 aq)) (aZ (aZ len0))))))))
theorem Ca:bG ["_law_cell"] ["_law_cell"] (aJ pQ):=iM
include Z in
theorem FN:Own P w K mg base "_law_mixed" 1 ["_law_cell"] (jU K 1 iD):=by exact cJ (k:=0) Z.El Ca (λf cdv A outer s H E hr G=>(fQ.u (aL (aY (gZ acy (jm 0 RJ (bf aX)) (bf (gZ Wv aX (bf aX))))))))
theorem Ex:bG ["_law_script","_law_k","_law_found","_law_at"] ["_law_script","_law_k"] (aJ rB):=iM
include Z in
theorem Ih:Own P w K mg base "_law_pack" 2 ["_law_script","_law_k"] (Xi K 2 oU):=by
 exact Uh (k:=1) Z.Hr Ex (λf cdv A outer s H E hr G=>(fQ.u (ao (bI 2 aX)
   (ao (mX G (iT G (cU (cT (az (jm 1 (jZ G) (bf aX)) (cD 1 aq))))) (aN 3) (aL (bI 2 (gZ (jZ G) (jm 2 RJ (bf (gZ Wv aX (bf aX)))) (bf (bO (FN Z) G hr (az (lr G (gZ (jZ G) (Nt G (bA 0) (nG (bA 3)) (nG (jm 3 (jZ G) (bf aX)))) (bf (cU (cT (az (gZ (jZ G) (gZ RJ aX (bZ 3)) (bf aX)) aq))))) (bf aX)) aq) (aZ len0)))))))
   (aL (Fi (cT (cD 2 aq))))))))
theorem Eu:bG ["_law_pack_here","_law_size","_law_digit"] aam (aJ rn):=iM
include Z in
theorem d8:Own P w K mg base "_law_take" 1 aam (xR K 2 bB):=by
 exact yj (k:=0) Z.Ho Eu (λf cdv A outer s H E a hr G=>(fQ.u (ao (dG (K3 G Z.Mp (HW (fW 0 G (bf aX)) (bK (bZ 1)))) (dO G (aD (acb 0 aX) (aD (aN 2) bQ))))
   (aL (aY (bA 2))))))
theorem BV:bG ["_law_pack_here","_law_sounds_here","_law_known","_law_found","_law_sound","_law_number","_law_marks"] ["_law_pack_here"] (aJ pM):=iM
include Z in
theorem Fy:Own P w K mg base "_law_stock" 2 ["_law_pack_here"] (xR K 1 mD):=by
 exact yj (k:=1) Z.Eh BV (λf cdv A outer s H E a hr G=>(fQ.u (ao (bI 1 (lr G (cU (Us (lg (bF [97]) (lg (bF [97,98]) (lg (bF [97,98]) (lg (bF [97,98,99]) (lg (bF [97,101,112,116]) (lg (bF [109,110,122]) Pz)))))))) (bf (jT 0 (d8 Z) G hr (az aX aq) (jW (aZ len0))))))
   (ao (bI 2 (cU (cT (az (bF [115,116,111,112]) (az (bF [115,116,111,112,115]) (az (bF [115]) (az (bF [111,112,101,110]) (az (bF [97,98,99,100,101,102,103,104]) aq))))))))
   (ao (jL 3 (cT aq))
   (ao (mX G (iT G (bA 1)) (aN 4) (ao (bI 5 (jT 0 (d8 Z) G hr (az aX aq) (jW (aZ len0))))
   (ao (bI 6 (z6 G Z.Al (bK (bf (cU (nO ["_law_pack_here","_law_sounds_here","_law_known","_law_found","_law_sound","_law_number","_law_marks","_law_k"] 7 jE G (tY Z.pZ (az aX aq) (aZ len0)) (λX1 h1=>by have G:=G.at h1;obtain⟨_,_,_,_,_,rfl⟩:=h1;exact(aN 7)) (λX1 h1=>by have G:=G.at h1;obtain⟨_,_,_,_,_,rfl⟩:=h1;exact(uX (Bt (qJ G) (gZ Wx (jm 5 Wu (bZ 7)) (bf aX)) (bf aX)))) (λX1 h1=>by have G:=G.at h1;obtain⟨_,_,_,_,_,rfl⟩:=h1;exact(fW 2 G (bZ 7)))))))))
   (aL (lF 3 G (bU (cD 4 (az (gb G Z.gk (bK (bf (Nt G (bA 6) uW (nG aX))))) aq))))))))
   (aL (aY (gb G Z.gk (bK (bZ 3)))))))))))
theorem zL:bG Zq5 Zq5 (aJ oH):=iM
include Z in
theorem tU:Own P w K mg base "_law_sounds" 1 Zq5 (jU K 1 jC):=by exact cJ (k:=0) Z.Bs zL (λf cdv A outer s H E hr G=>(fQ.u (aL (aY (xm G (bF []) (bf (cU (nO ["_law_stock_here","_law_sound","_law_marks"] 1 jE G (iT G (bA 0)) (λX1 h1=>by have G:=G.at h1;obtain⟨_,_,_,_,_,rfl⟩:=h1;exact(dO G (aD (aN 1) (aD (aN 2) bQ)))) (λX1 h1=>by have G:=G.at h1;obtain⟨_,_,_,_,_,rfl⟩:=h1;exact gh) (λX1 h1=>by have G:=G.at h1;obtain⟨_,_,_,_,_,rfl⟩:=h1;exact(bA 1))))))))))
theorem BW:bG ["_law_pack_here","_law_sounds_here","_law_number","_law_signs_here"] Vo (aJ pN):=iM
include Z in
theorem vY:Own P w K mg base "_law_signs" 2 Vo (xR K 2 iC):=by
 exact yj (k:=1) Z.Ei BW (λf cdv A outer s H E a hr G=>(fQ.u (ao (cY (Bt (qJ G) (jT 0 (d8 Z) G hr (az aX aq) (jW (aZ len0))) (bf aX)) (aL (aY jt)) cB)
   (ao (bI 2 (gZ (jZ G) aX (bf (jT 0 (d8 Z) G hr (az (gZ acw (gZ acx aX (bf (oE G Z.oM (bK (bZ 1))))) (bf aX)) aq) (jW (aZ len0))))))
   (ao (bI 3 (gZ (jZ G) (bF [35]) (bZ 1)))
   (aL (aY (gb G Z.gk (bK (bf (cU (nO ["_law_pack_here","_law_sounds_here","_law_number","_law_signs_here","_law_k"] 4 jE G (tY Z.pZ (az (oE G Z.oM (bK (bZ 3))) aq) (aZ len0)) (λX1 h1=>by have G:=G.at h1;obtain⟨_,_,_,_,_,rfl⟩:=h1;exact(aN 4)) (λX1 h1=>by have G:=G.at h1;obtain⟨_,_,_,_,_,rfl⟩:=h1;exact(uX (Bt (qJ G) (gZ Wx (jm 2 Wu (bZ 4)) (bf aX)) (bf aX)))) (λX1 h1=>by have G:=G.at h1;obtain⟨_,_,_,_,_,rfl⟩:=h1;exact(fW 3 G (bZ 4)))))))))))))))
theorem xW:bG ["_law_pack_here","_law_sounds_here","_law_found","_law_turn","_law_one","_law_others"] Vo (aJ mW):=iM
include Z in
theorem zO:Own P w K mg base "_law_changes" 2 Vo (xR K 2 iZ):=by
 exact yj (k:=1) Z.zG xW (λf cdv A outer s H E a hr G=>(fQ.u (ao (cY (Bt (qJ G) (jT 0 (d8 Z) G hr (az aX aq) (jW (aZ len0))) (bf aX)) (aL (aY (bU (az (bU (az (bF []) (az (fW 1 G (bf (jT 0 (d8 Z) G hr (az (oE G Z.oM (bK (bZ 1))) aq) (jW (aZ len0))))) aq))) aq)))) cB)
   (ao (jL 2 Lw)
   (ao (mX G (tY Z.pZ (az (gZ (jZ G) aX (bf (jT 0 (d8 Z) G hr (az aX aq) (jW (aZ len0))))) aq) (aZ len0)) (aN 3) (ao (bI 4 (fW 1 G (bf (jT 0 (d8 Z) G hr (az (oE G Z.oM (bK (bZ 1))) aq) (jW (aZ len0))))))
   (ao (aa1 ["_law_pack_here","_law_sounds_here","_law_found","_law_turn","_law_one","_law_others","_law_sound"] 6 5 jE G (iT G (gZ (jZ G) (Sg G Z.Ur (bK (bZ 1))) (bf (cU (cT (az (bF []) aq)))))) (λX1 h1=>by have G:=G.at h1;obtain⟨_,_,_,_,_,rfl⟩:=h1;exact(aN 6)) (λX1 h1=>by have G:=G.at h1;obtain⟨_,_,_,_,_,rfl⟩:=h1;exact(uX (fj 6 (RD G) (bZ 4)))) (λX1 h1=>by have G:=G.at h1;obtain⟨_,_,_,_,_,rfl⟩:=h1;exact(bA 6)))
   (aL (Td 2 G (bA 4) (fW 5 G (bf (jT 0 (d8 Z) G hr (az (oE G Z.oM (bK (bZ 5))) aq) (jW (aZ len0))))))))))
   (aL (aY (gb G Z.gk (bK (bf (cU (nO ["_law_pack_here","_law_sounds_here","_law_found","_law_turn","%4","_law_others","_law_one"] 6 jE G (iT G (z6 G Z.Al (bK (bZ 2)))) (λX1 h1=>by have G:=G.at h1;obtain⟨_,_,_,_,_,rfl⟩:=h1;exact(aN 6)) (λX1 h1=>by have G:=G.at h1;obtain⟨_,_,_,_,_,rfl⟩:=h1;exact gh) (λX1 h1=>by have G:=G.at h1;obtain⟨_,_,_,_,_,rfl⟩:=h1;exact(bU (cD 6 (az (lz 2 G (bZ 6)) aq))))))))))))))))
theorem Ew:bG ["_law_pack_here","_law_sounds_here","_law_how","_law_changes_here"] Vo (aJ rA):=iM
include Z in
theorem yp:Own P w K mg base "_law_rule" 3 Vo (xR K 2 je):=by
 exact yj (k:=2) Z.Hq Ew (λf cdv A outer s H E a hr G=>(fQ.u (ao (bI 2 (lr G (cU (cT (az (bF [111,110,99,101]) (az (bF [97,108,111,110,103]) aq)))) (bf (jT 0 (d8 Z) G hr (az aX aq) (jW (aZ len0))))))
   (ao (bI 3 (jT 0 (zO Z) G hr (cD 1 aq) (jW (aZ len0))))
   (aL (aY (bU (cD 2 (cD 3 (az (jT 0 (vY Z) G hr (cD 1 aq) (jW (aZ len0))) (az (jT 0 (vY Z) G hr (cD 1 aq) (jW (aZ len0))) aq)))))))))))
theorem qZ:bG ["_law_rule_here","_law_called","_law_changes_here","_law_near","_law_signs_here"] aal (aJ jr):=iM
include Z in
theorem lY:Own P w K mg base "_law_called_rule" 1 aal (jU K 2 ik):=by
 exact cJ (k:=0) Z.sS qZ (λf cdv A outer s H E hr G=>(fQ.u (ao (bI 2 (gb G Z.gk (bK (bf (cU (nO ["_law_rule_here","_law_called","_law_changes_here","_law_near","_law_signs_here","_law_one","_law_other"] 5 jE G (iT G (fW 0 G (bf aX))) (λX1 h1=>by have G:=G.at h1;obtain⟨_,_,_,_,_,rfl⟩:=h1;exact(dO G (aD (aN 5) (aD (aN 6) bQ)))) (λX1 h1=>by have G:=G.at h1;obtain⟨_,_,_,_,_,rfl⟩:=h1;exact gh) (λX1 h1=>by have G:=G.at h1;obtain⟨_,_,_,_,_,rfl⟩:=h1;exact(bU (az (lz 1 G (bZ 5)) (az (lz 1 G (bZ 6)) aq))))))))))
   (ao (jL 3 (cT aq))
   (ao (mX G (iT G (W2 G (bA 0) (nG aX) uW)) (aN 4) (ao (cY (fj 4 KJ (bf jt)) (aL (bI 4 (gb G Z.gk (bK (bf (cU (nO ["_law_rule_here","_law_called","_law_changes_here","_law_near","_law_signs_here","_law_sign"] 5 jE G (iT G (bA 4)) (λX1 h1=>by have G:=G.at h1;obtain⟨_,_,_,_,_,rfl⟩:=h1;exact(aN 5)) (λX1 h1=>by have G:=G.at h1;obtain⟨_,_,_,_,_,rfl⟩:=h1;exact gh) (λX1 h1=>by have G:=G.at h1;obtain⟨_,_,_,_,_,rfl⟩:=h1;exact(lz 1 G (bZ 5)))))))))) cB)
   (aL (lF 3 G (bA 4)))))
   (aL (aY (bU (az (fW 0 G (bf aX)) (cD 2 (az (fW 3 G (bf aX)) (az (fW 3 G (bf aX)) aq))))))))))))
theorem BX:bG ["_law_side","_law_rule_here","_law_other","_law_word","_law_wished","_law_behind_it","_law_alone","_law_both"] aak (aJ pO):=iM
include Z in
theorem Fz:Own P w K mg base "_law_shows" 5 aak (jU K 5 mF):=by
 exact cJ (k:=4) Z.Ej BX (λf cdv A outer s H E hr G=>(fQ.u (ao (bI 5 (bO (vg Z) G hr (cD 0 (cD 1 (cD 3 aq))) (aZ (aZ (aZ len0)))))
   (ao (bI 6 (xJ (RD G) (bO (vg Z) G hr (cD 0 (cD 2 (cD 3 aq))) (aZ (aZ (aZ len0)))) (bZ 3)))
   (ao (bI 7 (xJ (RD G) (bO (vg Z) G hr (cD 0 (cD 2 (cD 5 aq))) (aZ (aZ (aZ len0)))) (bZ 5)))
   (aL (aY (xJ (qJ G) (bU (cD 7 (cD 6 aq))) (bZ 4)))))))))
theorem Ey:bG Zq6 Zq6 (aJ rC):=iM
include Z in
theorem yq:Own P w K mg base "_law_like" 1 Zq6 (jU K 2 jf):=by
 exact cJ (k:=0) Z.Hs Ey (λf cdv A outer s H E hr G=>(fQ.u (ao (cY (o8 (JP (fj 0 Jj (bf jt)) (Ff (fj 1 Jj (bf jt))))) (aL (aY (JS (kJ 0 Jj (bf jt)) (kO (kJ 1 Jj (bf jt)))))) cB)
   (aL (aY (xJ (qJ G) (oE G Z.oM (bK (bZ 0))) (bf (oE G Z.oM (bK (bZ 1))))))))))
theorem BZ:bG ["_law_stock_here","_law_side","_law_rule_here","_law_other","_law_asked","_law_sides","_law_question","_law_found","_law_there","_law_wished","_law_sounds_here","_law_called","_law_near","_law_first","_law_named"] aaj (aJ pP):=iM
include Z BB in
theorem FJ:Own P w K mg base "_law_right" 9 aaj (spT (lA K tabs) (jU K 5 qg)):=by
 obtain⟨VF,VG,fH⟩:=Z.fH;obtain⟨Sv,Sx,dX⟩:=Z.dX;exact vf (k:=8) Z.Ek BZ (λf cdv A outer s H E hT hr G=>(fQ.u (ao (bI 5 (cU (Lq G (bF [108,101,102,116]) (bF [114,105,103,104,116]) (bF [114,105,103,104,116]) (bF [108,101,102,116]))))
   (ao (bI 6 (lr G (cU (cT (az (jV (pF "makes_way") rfl fH.1 fH.2.1 (λF=>fH.2.2 F)) (az (jV (pF "takes_from") rfl dX.1 dX.2.1 (λF=>dX.2.2 F)) aq)))) (bZ 4)))
   (ao (bI 7 (Hd 6 (pX Z BB) (oK Z BB) Z.fH Z.dX hT (ji K tabs) G hr (by rfl) (by rfl) (cD 0 (cD 1 (cD 2 (cD 3 aq)))) (aZ (aZ (aZ (aZ len0))))))
   (ao (bI 8 (Hd 6 (pX Z BB) (oK Z BB) Z.fH Z.dX hT (ji K tabs) G hr (by rfl) (by rfl) (cD 0 (az (lz 5 G (bZ 1)) (az (bO (tL Z) G hr (cD 2 aq) (aZ len0)) (az (bO (tL Z) G hr (cD 3 aq) (aZ len0)) aq)))) (aZ (aZ (aZ (aZ len0))))))
   (ao (cY (yd (d7 (bO (yq Z) G hr (cD 7 (cD 8 aq)) (aZ (aZ len0))))) (aL (aY iQ)) cB)
   (ao (bI 9 (lr G (cU (cT (az (bU (az iQ (az iQ aq))) (az (bU (az iQ (az iQ aq))) aq)))) (bZ 4)))
   (ao (cY (o8 (nA (fj 7 KJ (bf jt)) (nD (yd (d7 (bO (Fz Z) G hr (cD 1 (cD 2 (cD 3 (az (Bl (bA 8)) (cD 9 aq))))) (aZ (aZ (aZ (aZ (aZ len0))))))))))) (aL (aY iQ)) cB)
   (ao (bI 10 (bO (tU Z) G hr (cD 0 aq) (aZ len0)))
   (ao (bI 11 (Nu G Z.CK (bK (bf (gZ (jZ G) (cU (nO ["_law_stock_here","_law_side","_law_rule_here","_law_other","_law_asked","_law_sides","_law_question","_law_found","_law_there","_law_wished","_law_sounds_here","_law_called","_law_near","_law_first","_law_named","_law_k"] 15 jE G (tY Z.pZ (az (oE G Z.oM (bK (bZ 10))) aq) (aZ len0)) (λX1 h1=>by have G:=G.at h1;obtain⟨_,_,_,_,_,rfl⟩:=h1;exact(aN 15)) (λX1 h1=>by have G:=G.at h1;obtain⟨_,_,_,_,_,rfl⟩:=h1;exact gh) (λX1 h1=>by have G:=G.at h1;obtain⟨_,_,_,_,_,rfl⟩:=h1;exact(bU (az (fW 10 G (bZ 15)) (az (lr G (bF [100,104,107,118]) (bZ 15)) aq)))))) (bf (cU (cT (az (bU (az (bF []) (az (bF []) aq))) (az (bU (az (bF [35]) (az (bF [35]) aq))) aq))))))))))
   (ao (bI 12 (gb G Z.gk (bK (bf (cU (nO ["_law_stock_here","_law_side","_law_rule_here","_law_other","_law_asked","_law_sides","_law_question","_law_found","_law_there","_law_wished","_law_sounds_here","_law_called","_law_near","_law_first","_law_named","_law_sound","_law_marks"] 15 jE G (iT G (bA 0)) (λX1 h1=>by have G:=G.at h1;obtain⟨_,_,_,_,_,rfl⟩:=h1;exact(dO G (aD (aN 15) (aD (aN 16) bQ)))) (λX1 h1=>by have G:=G.at h1;obtain⟨_,_,_,_,_,rfl⟩:=h1;exact gh) (λX1 h1=>by have G:=G.at h1;obtain⟨_,_,_,_,_,rfl⟩:=h1;exact(bU (az (lz 11 G (bZ 15)) (cD 16 aq))))))))))
   (ao (bI 13 (bO (lY Z) G hr (cD 2 (cD 11 aq)) (aZ (aZ len0))))
   (ao (bI 14 (Hd 6 (pX Z BB) (oK Z BB) Z.fH Z.dX hT (ji K tabs) G hr (by rfl) (by rfl) (cD 12 (cD 1 (cD 13 (az (bO (lY Z) G hr (cD 3 (cD 11 aq)) (aZ (aZ len0))) aq)))) (aZ (aZ (aZ (aZ len0))))))
   (ao (cY (yd (d7 (bO (yq Z) G hr (cD 7 (cD 14 aq)) (aZ (aZ len0))))) (aL (aY iQ)) cB)
   (aL (aY (rE (kJ 14 Jj (bf jt)) (kO (Nv G Z.QJ (bK (bf (cU (nO ["_law_stock_here","_law_side","_law_rule_here","_law_other","_law_asked","_law_sides","_law_question","_law_found","_law_there","_law_wished","_law_sounds_here","_law_called","_law_near","_law_first","_law_named","_law_sound"] 15 jE G (iT G (bA 14)) (λX1 h1=>by have G:=G.at h1;obtain⟨_,_,_,_,_,rfl⟩:=h1;exact(aN 15)) (λX1 h1=>by have G:=G.at h1;obtain⟨_,_,_,_,_,rfl⟩:=h1;exact gh) (λX1 h1=>by have G:=G.at h1;obtain⟨_,_,_,_,_,rfl⟩:=h1;exact(kJ 15 (acu G) (bf (bF [100,104,107,118]))))))))))))))))))))))))))))
theorem Xo:bG ["_law_script","_law_pack_here","_law_stock_here","_law_sounds_here","_law_side","_law_rule_here","_law_other"] ["_law_script"] (aJ Oq):=iM
include Z BB in
theorem ZW{f:Addr}{fd:FuncData}(F:Ng K "law" "law" Oq f fd):j4 P w K mg base vO 10 f fd ["_law_script"] (spT (lA K tabs) (jU K 1 Ks)):=by
 exact vI (k:=9) F Xo (λcdv A outer s H E _ hT hr G=>(fQ.u (ao (jL 1 (Y5 (Ih Z) G hr (cD 0 (az aX aq)) (aZ (aZ len0))))
   (ao (bI 2 (jT 1 (Fy Z) G hr aq (jW len0)))
   (ao (bI 3 (bO (tU Z) G hr (cD 2 aq) (aZ len0)))
   (ao (bI 4 (lr G (cU (cT (az (bF [108,101,102,116]) (az (bF [114,105,103,104,116]) aq)))) (bf (jT 1 (d8 Z) G hr (az aX aq) (jW (aZ len0))))))
   (ao (bI 5 (jT 1 (yp Z) G hr (cD 3 aq) (jW (aZ len0))))
   (ao (bI 6 (jT 1 (yp Z) G hr (cD 3 aq) (jW (aZ len0))))
   (aL (aY (Nv G Z.QJ (bK (bf (cU (nO ["_law_script","_law_pack_here","_law_stock_here","_law_sounds_here","_law_side","_law_rule_here","_law_other","_law_asked"] 7 jE G (tY Z.pZ (az aX aq) (aZ len0)) (λX1 h1=>by have G:=G.at h1;obtain⟨_,_,_,_,_,rfl⟩:=h1;exact(aN 7)) (λX1 h1=>by have G:=G.at h1;obtain⟨_,_,_,_,_,rfl⟩:=h1;exact gh) (λX1 h1=>by have G:=G.at h1;have hT:=h1.tabs hT (ji K tabs);obtain⟨_,_,_,_,_,rfl⟩:=h1;exact(Bm (FJ Z BB) hT (ji K tabs) G hr (cD 2 (cD 4 (cD 5 (cD 6 (cD 7 aq))))) (aZ (aZ (aZ (aZ (aZ len0))))))))))))))))))))))
end
end oA
namespace fV
open Ev
def ql:cu:=bC (au cV (aa (gC 1 3 (il (aO 0)) (cj 2 (aG (aj 1) (aG (aj 2) cA))) dC (aO 1)) ak))
def gD:LD:=cH 1 ql
def lN:cu:=oA.lN
def bB:List D->Option (D×D):=lH 3 lN
def mK:cu:=aC (aP (aQ fJ (cG (aa (Zw [97]) (aa (Zw [97,98]) (aa (Zw [97,98]) (aa (Zw [97,98,99]) (aa (Zw [97,101,112,116]) (aa (Zw [109,110,122]) ak))))))) (f9 bB 0 (aa (Zi 6) ak))) (aj 1)) (aC (aP (cG (aa (Zw [115,116,111,112]) (aa (Zw [115,116,111,112,115]) (aa (Zw [115]) (aa (Zw [111,112,101,110]) (aa (Zw [97,98,99,100,101,102,103,104]) ak)))))) (aj 2)) (aC (dF 3 (cG ak)) (aC (iu (il (aO 1)) (aj 4) (aC (aP (f9 bB 0 (aa (Zi 32) ak)) (aj 5)) (aC (aP (au iH (aa (gC 7 8 (km (aa (Zi 5) ak)) (aj 7) (eF (aQ qz (aQ CW (aB zU 5 (bw 7)) (Zi 1)) (Zi 1))) (aB fJ 2 (bw 7))) ak)) (aj 6)) (eN 3 (bN (Zv 4 (aa (au cV (aa (vG (aO 6) wu (Dc (Zi 4))) ak)) ak))))))) (bC (au cV (aa (bw 3) ak))))))
def mD:List D->Option (D×D):=lH 7 mK
def o5:cu:=bC (aQ my (Zw []) (gC 1 3 (il (aO 0)) (cj 2 (aG (aj 1) (aG (aj 2) cA))) dC (aO 1)))
def jC:LD:=cH 1 o5
def jY:cu:=aC (fD (eF (aQ qz (f9 bB 0 (aa (Zi 2) ak)) (Zi 0))) (bC (jG .non)) cC) (aC (aP (aQ cW (Zi 1) (f9 bB 0 (aa (aQ Iv (aQ MJ (Zi 2) (au jN (aa (bw 1) ak))) (Zi 1)) ak))) (aj 2)) (aC (aP (aQ cW (Zw [35]) (bw 1)) (aj 3)) (bC (au cV (aa (gC 4 5 (km (aa (au jN (aa (bw 3) ak)) ak)) (aj 4) (eF (aQ qz (aQ CW (aB zU 2 (bw 4)) (Zi 1)) (Zi 1))) (aB fJ 3 (bw 4))) ak)))))
def iC:List D->Option (D×D):=lH 4 jY
def jc:cu:=aC (fD (eF (aQ qz (f9 bB 0 (aa (Zi 5) ak)) (Zi 0))) (bC (bN (aa (bN (aa (Zw []) (aa (aB fJ 1 (f9 bB 0 (aa (au jN (aa (bw 1) ak)) ak))) ak))) ak))) cC) (aC (dF 2 (Dh)) (aC (iu (km (aa (aQ cW (Zi 1) (f9 bB 0 (aa (Zi 3) ak))) ak)) (aj 3) (aC (aP (aB fJ 1 (f9 bB 0 (aa (au jN (aa (bw 1) ak)) ak))) (aj 4)) (aC (dF 5 (gC 6 7 (il (aQ cW (au Av (aa (bw 1) ak)) (cG (aa (Zw []) ak)))) (aj 6) (eF (aB IK 6 (bw 4))) (aO 6))) (qX 2 (aO 4) (aB fJ 5 (f9 bB 0 (aa (au jN (aa (bw 5) ak)) ak))))))) (bC (au cV (aa (gC 6 7 (il (au iH (aa (bw 2) ak))) (aj 6) dC (bN (Zv 6 (aa (aB eO 2 (bw 6)) ak)))) ak)))))
def iZ:List D->Option (D×D):=lH 6 jc
def o6:cu:=aC (aP (aQ fJ (cG (aa (Zw [111,110,99,101]) (aa (Zw [97,108,111,110,103]) ak))) (f9 bB 0 (aa (Zi 2) ak))) (aj 2)) (aC (aP (f9 iZ 0 (Zv 1 ak)) (aj 3)) (bC (bN (Zv 2 (Zv 3 (aa (f9 iC 0 (Zv 1 ak)) (aa (f9 iC 0 (Zv 1 ak)) ak)))))))
def je:List D->Option (D×D):=lH 4 o6
open Ev PySem L2
theorem qF{i:Int}{b:Nat}(h:i.natAbs<2^b):Builtin.Int.intBits i<=b:=by
 unfold Builtin.Int.intBits;split
 ·exact Qx0 _
 ·rename_i h0;have hz:i.natAbs≠0:=λz=>h0 (by rw[Int.natAbs_eq_zero.mp z];rfl);exact(Nat.log2_lt hz).mpr h
theorem rH{i j:Int}{a b:Nat}(h1:Builtin.Int.intBits i<=a)(h2:Builtin.Int.intBits j<=b)(h:a+b<=134217728):jR i j=true:=
 Qxj (by omega)
theorem Vb{α:Type}{xs:List α}{lo hi:Option Int}{x:α}(h:x∈cutD xs lo hi):x∈xs:=List.mem_of_mem_drop (List.mem_of_mem_take h)
theorem RK{α:Type}(x:α)(r:List α):wF (x::r) 0=some x:=kY (j:=0) rfl
def known:D:=.lst [.str [115,116,111,112],.str [115,116,111,112,115],.str [115],.str [111,112,101,110],.str [97,98,99,100,101,102,103,104]]
def xq:cu:=aP (au iH (aa (gC 7 8 (km (aa (Zi 5) ak)) (aj 7) (eF (aQ qz (aQ CW (aB zU 5 (bw 7)) (Zi 1)) (Zi 1))) (aB fJ 2 (bw 7))) ak)) (aj 6)
def mk(d:Nat):D:=match xq [Zn,Zn,Zf known,Zn,Zn,Zf (.int d),Zn] with
 | .nx e=>(match e[6]? with|some (some (_,z))=>z|_=>.non)
 | _=>.non
def AllB(P:Nat->Prop):Nat->Prop
 | 0=>True
 | n+1=>AllB P n/\P n
theorem RL{P:Nat->Prop}:∀{n:Nat},AllB P n->∀d,d<n->P d
 | 0,_,d,h=>absurd h (Nat.not_lt_zero d)
 | n+1,⟨a,b⟩,d,h=>by
  by_cases e:d=n
  ·subst e;exact b
  ·exact RL a d (by omega)
theorem marks(d:Nat)(hd:d<32)(a b c e f:OD):xq [a,b,Zf known,c,e,Zf (.int d),f] = .nx [a,b,Zf known,c,e,Zf (.int d),Zf (mk d)]:=by refine RL (P:=λd=>xq [a,b,Zf known,c,e,Zf (.int (d:Nat)),f] = .nx [a,b,Zf known,c,e,Zf (.int (d:Nat)),Zf (mk d)]) ?_ d hd;refine⟨⟨⟨⟨⟨⟨⟨⟨⟨⟨⟨⟨⟨⟨⟨⟨⟨⟨⟨⟨⟨⟨⟨⟨⟨⟨⟨⟨⟨⟨⟨⟨trivial,?_⟩,?_⟩,?_⟩,?_⟩,?_⟩,?_⟩,?_⟩,?_⟩,?_⟩,?_⟩,?_⟩,?_⟩,?_⟩,?_⟩,?_⟩,?_⟩,?_⟩,?_⟩,?_⟩,?_⟩,?_⟩,?_⟩,?_⟩,?_⟩,?_⟩,?_⟩,?_⟩,?_⟩,?_⟩,?_⟩,?_⟩,?_⟩<;>kernel_rfl
def abZ:D->Bool
 | .lst _=>true
 | _=>false
theorem Y6(d:Nat)(hd:d<32):∃zs,mk d = .lst zs:=by
 have h:((List.range 32).all λd=>abZ (mk d))=true:=by decide +kernel
 have h1:=Qx1.mp h d (Qjk.mpr hd);cases e:mk d with
 | lst zs=>exact⟨zs,rfl⟩
 | _=>rw[e] at h1;cases h1
inductive Rows:List D->List D->Prop where
 | nil:Rows [] []
 | cons {s m:D} {ss rs:List D}:Rows ss rs->Rows (s::ss) (.tup [s,m]::rs)
theorem Rows.snoc{ss rs:List D}(h:Rows ss rs)(s m:D):Rows (ss++[s]) (rs++[.tup [s,m]]):=by
 induction h with
 | nil=>exact .cons .nil
 | cons _ ih=>exact .cons ih
theorem Rows.len{ss rs:List D}(h:Rows ss rs):rs.length=ss.length:=by
 induction h with
 | nil=>rfl
 | cons _ ih=>rw[Qqy,Qqy,ih]
theorem cP{i:Nat}{a:Ev}{env e:Ev.Env}{d:D}{xs x0:List D}(h0:env[i]? = some (Zl x0))(h1:a env = .ok d e)(h2:e[i]? = some (Zl xs))(hz:xs.length<sizeLine):eN i a env = .nx (e.set i (Zl (xs++[d]))):=by unfold eN;rw[h0];show iG (a env) _=_;rw[h1];show(match e[i]? with|some (some (true,.lst xs))=>if xs.length<sizeLine then Out.nx (e.set i (Zl (xs++[d]))) else .stuck|_=>.stuck)=_;rw[h2];show(if xs.length<sizeLine then _ else _)=_;rw[if_pos hz]
def Ad:cu:=aC (aP (f9 bB 0 (aa (Zi 32) ak)) (aj 5)) (aC xq (eN 3 (bN (Zv 4 (aa (au cV (aa (vG (aO 6) wu (Dc (Zi 4))) ak)) ak)))))
theorem Hu(n:Int)(b v5 v6:OD)(acc:List D)(s:D)(ha:acc.length<=10):∃m v5' v6',Ad [Zl [.int n],b,Zf known,Zl acc,Zf s,v5,v6] = .nx [Zl [.int (n / 32)],b,Zf known,Zl (acc++[.tup [s,m]]),Zf s,v5',v6']:=by obtain⟨d,hd,e⟩:=dig n 32 (by decide);obtain⟨zs,hz⟩:=Y6 d hd;refine⟨.tup (cutD zs none (some 4)),Zf (.int d),Zf (.lst zs),?_⟩;unfold Ad;refine(aA (e:=[Zl [.int (n / 32)],b,Zf known,Zl acc,Zf s,Zf (.int (n % (32:Nat))),v6]) rfl).trans ?_;rw[e];refine(aA (marks d hd _ _ _ _ _)).trans ?_;rw[hz];exact cP (e:=[Zl [.int (n / 32)],b,Zf known,Zl acc,Zf s,Zf (.int d),Zf (.lst zs)]) rfl rfl rfl (Qw7 ha (by decide))
structure XOk(x:List Nat):Prop where
 len:x.length<=4
 pos:0<x.length
 nd:x.Nodup
 ne:35 ∉ x
inductive XSt
 | mk
def XS:XSt:=.mk
instance:Membership (List Nat) XSt:=⟨λ_ x=>XOk x⟩
theorem lO{x:List Nat}(h:x∈XS):XOk x:=h
theorem zy{x:List Nat}(h:XOk x):x∈XS:=h
theorem lQ:∀x∈XS,x.length<=4:=λ_ h=>(lO h).len
theorem zx{x:List Nat}(h:x∈XS):(∃a,x=[a])\/(∃a b,x=[a,b])\/(∃a b c,x=[a,b,c])\/∃a b c d,x=[a,b,c,d]:=by
 have h1:=(lO h).len;have h2:=(lO h).pos
 match x,h1,h2 with
 | [a],_,_=>exact .inl ⟨a,rfl⟩
 | [a,b],_,_=>exact .inr (.inl ⟨a,b,rfl⟩)
 | [a,b,c],_,_=>exact .inr (.inr (.inl ⟨a,b,c,rfl⟩))
 | [a,b,c,d],_,_=>exact .inr (.inr (.inr ⟨a,b,c,d,rfl⟩))
theorem stock(n:Int):∃x rows n',x∈XS/\mD [.lst [.int n]]=some (.tup rows,.lst [.int n'])/\Rows (ou x) rows:=by
 obtain⟨d,hd,e⟩:=dig n 6 (by decide);obtain⟨x,hx,h1⟩:∃x,x∈XS/\∀m:Int,(λ(k:Int) (m:Int)=>iG (ig (fJ (.lst [.str [97],.str [97,98],.str [97,98],.str [97,98,99],.str [97,101,112,116],.str [109,110,122]]) (.int k)) ([Zl [.int m],Zn,Zn,Zn,Zn,Zn,Zn]:Ev.Env)) λd aK=>QX (aj 1 d aK)) (d:Int) m = .nx [Zl [.int m],Zs x,Zn,Zn,Zn,Zn,Zn]:=by
  have hc:d=0\/d=1\/d=2\/d=3\/d=4\/d=5:=by omega
  rcases hc with rfl|rfl|rfl|rfl|rfl|rfl
  ·exact⟨[97],zy ⟨by decide,by decide,by decide,by decide⟩,λm=>rfl⟩
  ·exact⟨[97,98],zy ⟨by decide,by decide,by decide,by decide⟩,λm=>rfl⟩
  ·exact⟨[97,98],zy ⟨by decide,by decide,by decide,by decide⟩,λm=>rfl⟩
  ·exact⟨[97,98,99],zy ⟨by decide,by decide,by decide,by decide⟩,λm=>rfl⟩
  ·exact⟨[97,101,112,116],zy ⟨by decide,by decide,by decide,by decide⟩,λm=>rfl⟩
  ·exact⟨[109,110,122],zy ⟨by decide,by decide,by decide,by decide⟩,λm=>rfl⟩
 have hxl:x.length<=4:=lQ x hx;obtain⟨e',f1,n',acc,v4,v5,v6,rfl,hr⟩:=nW (g:=aj 4) (ou x) (λdone env=>∃n acc v4 v5 v6,env=[Zl [.int n],Zs x,Zf known,Zl acc,v4,v5,v6]/\Rows done acc)
  (λdone s rest hall env ⟨n,acc,v4,v5,v6,he,hr⟩=>by
   subst he;have hd:done.length<=4:=by have:=Qx5 List.length hall;unfold ou at this;rw[Qqw,Qqz,Qqy] at this;omega
   obtain⟨m,w5,w6,hb⟩:=Hu n (Zs x) v5 v6 acc s (by rw[hr.len];omega);exact⟨_,_,rfl,hb,n / 32,_,_,_,_,rfl,hr.snoc s m⟩)
  [Zl [.int (n / 6)],Zs x,Zf known,Zl [],Zn,Zn,Zn] ⟨_,[],_,_,_,rfl,.nil⟩
 let E0:Ev.Env:=[Zl [.int n'],Zs x,Zf known,Zl acc,v4,v5,v6]
 refine⟨x,acc,n',hx,lG (env:=E0) ?_ rfl,hr⟩;unfold mK;refine(aA (e:=[Zl [.int (n / 6)],Zs x,Zn,Zn,Zn,Zn,Zn]) ?_).trans ?_
 ·have h2:=h1 (n / 6);rw[<-e] at h2;exact h2
 refine(aA rfl).trans ?_;refine(aA rfl).trans ?_;refine(aA (e:=E0) ?_).trans ?_
 ·exact(ir rfl).trans f1
 ·rfl
theorem Tg{ss rs:List D}(h:Rows ss rs):∀(a v1 v2:OD),∃w1 w2,Ik (cj 2 (aG (aj 1) (aG (aj 2) cA))) dC (aO 1) rs [a,v1,v2] = .ok ss [a,w1,w2]:=by
 induction h with
 | nil=>exact λa v1 v2=>⟨v1,v2,rfl⟩
 | cons _ ih=>
  rename_i s m ss rs _;intro a v1 v2;obtain⟨w1,w2,e⟩:=ih a (Zf s) (Zf m);refine⟨w1,w2,?_⟩;unfold Ik;show bindR (Ik _ dC (aO 1) rs [a,Zf s,Zf m]) _=_;rw[e]
  rfl
theorem Af{x:List Nat}{rs:List D}(hx:x∈XS)(h:Rows (ou x) rs):gC 1 3 (il (aO 0)) (cj 2 (aG (aj 1) (aG (aj 2) cA))) dC (aO 1) [Zf (.tup rs)] = .ok (.lst (ou x)) [Zf (.tup rs)]:=by obtain⟨w1,w2,e⟩:=Tg h (Zf (.tup rs)) none none;exact uf (n:=3) (aK:=[Zf (.tup rs)]) rfl rfl (by exact e) (by unfold ou;rw[Qqw];exact Qq6 (lQ x hx) (by decide))
theorem sounds_of{x:List Nat}{rs:List D}(hx:x∈XS)(h:Rows (ou x) rs):gD [.tup rs]=some (.tup (ou x)):=
 bT (bH (aF (aH (Af hx h) bD) rfl))
theorem join_eq:∀x∈XS,my (.str []) (.lst (ou x))=some (.str x):=by intro x hx;rcases zx hx with ⟨a,rfl⟩|⟨a,b,rfl⟩|⟨a,b,c,rfl⟩|⟨a,b,c,d,rfl⟩<;>rfl
theorem yF{x:List Nat}{rs:List D}(hx:x∈XS)(h:Rows (ou x) rs):jC [.tup rs]=some (.str x):=
 bT (bH (bJ rfl (Af hx h) (join_eq x hx)))
theorem ue{a:dD}{env e:Ev.Env}{ds ys:List D}(h:a env = .ok ds e)(h':HN ds=some ys):km a env = .ok ys e:=by
 unfold km;rw[h];show ig (HN ds) e=_;rw[h']
 rfl
theorem lU(n:Int)(m:Nat)(h0:0<m)(h1:m<1073741824):bB [.lst [.int n],.int (m:Int)]=some (.int (n % m),.lst [.int (n / m)]):=by
 let E0:Ev.Env:=[Zl [.int (n / m)],Zf (.int m),Zf (.int (n % m))]
 refine lG (env:=E0) ?_ rfl;unfold lN;have g:t6 [.int n,.int (m:Int)]=some (.tup [.int (n / m),.int (n % m)]):=by show(if 0<(m:Int)/\(m:Int)<1073741824 then _ else _)=_;rw[if_pos (by omega)]
 refine(aA (e:=E0) ?_).trans rfl;exact bz (aF (by rfl) g) (by rfl)
def isT:Option D->Bool
 | some (.bl true)=>true
 | _=>false
theorem Zu{o:Option D}(h:isT o=true):o=some (.bl true):=by
 cases o with
 | none=>cases h
 | some d=>cases d with
  | bl b=>cases b with
   | true=>rfl
   | false=>cases h
  | _=>cases h
def M(x:List Nat):Nat:=2*2^x.length - 1
def Oi:cu:=aC (aP (aQ cW (Zw [35]) (bw 1)) (aj 3)) (bC (au cV (aa (gC 4 5 (km (aa (au jN (aa (bw 3) ak)) ak)) (aj 4) (eF (aQ qz (aQ CW (aB zU 2 (bw 4)) (Zi 1)) (Zi 1))) (aB fJ 3 (bw 4))) ak)))
def bit(d k:Nat):Bool:=Builtin.bitAnd ((1+(d:Int)) / 2^k) 1 == 1
def Lg(x:List Nat)(d:Nat):D:=.tup ((((List.range (x.length+1)).filter (bit d)).map λk=>(35::x).getD k 0).map λc=>.str [c])
def SG(x:List Nat):List D:=.non::(List.range (M x)).map (Lg x)
theorem S9(a:OD):∀x∈XS,∀d,d<M x->∃e3,Oi [a,Zs x,Zf (.int (1+(d:Int))),Zn] = .rt false (Lg x d) [a,Zs x,Zf (.int (1+(d:Int))),e3]:=by
 intro x hx d hd;have hl:=lQ x hx;refine⟨Zs (35::x),?_⟩;unfold Oi;refine(aA (bz (d:=.str (35::x)) (bJ rfl rfl ?_) rfl)).trans ?_
 ·unfold cW;exact if_pos (Qq6 (show 1+x.length<=5 by omega) (by decide))
 ·have h:gC 4 5 (km (aa (au jN (aa (bw 3) ak)) ak)) (aj 4) (eF (aQ qz (aQ CW (aB zU 2 (bw 4)) (Zi 1)) (Zi 1))) (aB fJ 3 (bw 4)) [a,Zs x,Zf (.int (1+(d:Int))),Zs (35::x)] = .ok (.lst (((List.range (x.length+1)).filter (bit d)).map λk=>.str [(35::x).getD k 0])) [a,Zs x,Zf (.int (1+(d:Int))),Zs (35::x)]:=by
   refine Ku (n:=5) (List.range (x.length+1)) (λ(k:Nat)=>.int (k:Int)) (bit d) (λk=>.str [(35::x).getD k 0]) ?_ rfl rfl (λk hk=>?_) (λk hk _=>?_) (by rw[List.length_range];exact Qq6 (show x.length+1<=5 by omega) (by decide))
   ·exact ue rfl (adJ (Qw7 (show(35::x).length<=5 by rw[Qqy];omega) (by decide)))
   ·refine eU (bJ (bJ (x:=.int ((1+(d:Int)) / 2^k)) ?_ rfl rfl) rfl rfl);refine bL (i:=2) rfl rfl rfl ?_;unfold zU gI;simp only;rw[if_pos (Qxj (Int.natCast_nonneg k)),Qkk]
   ·refine bL (i:=3) rfl rfl rfl ?_;show(wF (35::x) (k:Int)).map _=_;have hk':k<(35::x).length:=Qjk.mp hk;rw[kY (v:=(35::x).getD k 0) (by rw[Qw4,Qwk hk'];rfl)]
    rfl
  refine bH (aF (aH h bD) ?_);unfold Lg;rw[Qx7]
  rfl
theorem signs(n:Int)(x:List Nat)(hx:x∈XS):∃r n',iC [.lst [.int n],.str x]=some (r,.lst [.int n'])/\r∈SG x:=by
 obtain⟨d,hd,e⟩:=dig n 2 (by decide);have t:eF (aQ qz (f9 bB 0 (aa (Zi 2) ak)) (Zi 0)) [Zl [.int n],Zs x,Zn,Zn] = .ok ((d:Int) == 0) [Zl [.int (n / 2)],Zs x,Zn,Zn]:=by
  rw[<-e]
  rfl
 have hc:d=0\/d=1:=by omega
 rcases hc with rfl|rfl
 ·refine⟨.non,n / 2,lG (env:=[Zl [.int (n / 2)],Zs x,Zn,Zn]) ?_ rfl,Qqj ..⟩;unfold jY;refine(gO ?_).trans rfl;exact(gH t).trans rfl
 ·obtain⟨k,hk,ek⟩:=dig (n / 2) (M x) (by unfold M;have:0<2^x.length:=Nat.two_pow_pos _;omega);obtain⟨e3,h3⟩:=S9 (Zl [.int (n / 2 / (M x:Int))]) x hx k hk;refine⟨Lg x k,n / 2 / (M x:Int),lG (env:=[Zl [.int (n / 2 / (M x:Int))],Zs x,Zf (.int (1+(k:Int))),e3]) ?_ rfl,Qqq _ (Qwq.mpr ⟨k,Qjk.mpr hk,rfl⟩)⟩;unfold jY;refine(aA (e:=[Zl [.int (n / 2)],Zs x,Zn,Zn]) ?_).trans ?_
  ·exact(dZ t).trans rfl
  ·refine(aA (e:=[Zl [.int (n / 2 / (M x:Int))],Zs x,Zf (.int (1+n / 2 % (M x:Int))),Zn]) ?_).trans ?_
   ·have hM:aQ Iv (aQ MJ (Zi 2) (au jN (aa (bw 1) ak))) (Zi 1) [Zl [.int (n / 2)],Zs x,Zn,Zn] = .ok (.int (M x:Int)) [Zl [.int (n / 2)],Zs x,Zn,Zn]:=by
     have hl:=lQ x hx;refine bJ (x:=.int (2*2^x.length)) (bJ rfl rfl ?_) rfl ?_
     ·unfold MJ gI;simp only;rw[if_pos (Qxj ⟨Int.natCast_nonneg _,by omega,by decide⟩),Qkk]
     ·show some (D.int (2*2^x.length - 1))=_;have hp:0<2^x.length:=Nat.two_pow_pos _;have e:((M x:Nat):Int)=2*2^x.length - 1:=by
       unfold M;rw[Int.natCast_sub (by omega),Int.natCast_mul,Int.natCast_pow]
       rfl
      rw[e]
    have ht:bB [.lst [.int (n / 2)],.int (M x:Int)]=some (.int (n / 2 % (M x:Int)),.lst [.int (n / 2 / (M x:Int))]):=by have hl:=lQ x hx;have hp:0<2^x.length:=Nat.two_pow_pos _;have hq:2^x.length<=2^4:=Nat.pow_le_pow_right (by decide) hl;exact lU (n / 2) (M x) (by unfold M;omega) (by unfold M;omega)
    refine bz (bJ rfl (mG rfl (aH hM bD) rfl ht) rfl) rfl
   ·rw[ek];exact h3
def oth(x:List Nat)(c:Nat):List D:=((x.map (λa=>[a])++[[]]).filter λz=>z != [c]).map .str
def PV(x:List Nat):List (Nat×D):=x.flatMap λc=>(oth x c).map λv=>(c,v)
def one:cu:=aP (aB fJ 1 (f9 bB 0 (aa (au jN (aa (bw 1) ak)) ak))) (aj 4)
def others:cu:=dF 5 (gC 6 7 (il (aQ cW (au Av (aa (bw 1) ak)) (cG (aa (Zw []) ak)))) (aj 6) (eF (aB IK 6 (bw 4))) (aO 6))
def JT:cu:=qX 2 (aO 4) (aB fJ 5 (f9 bB 0 (aa (au jN (aa (bw 5) ak)) ak)))
theorem LR(a b v3 v5:OD):∀x∈XS,∀c∈x,others [a,Zs x,b,v3,Zs [c],v5] = .nx [a,Zs x,b,v3,Zs [c],Zl (oth x c)]:=by
 intro x hx c hc;have hl:=lQ x hx;unfold others;refine(xQ (e:=[a,Zs x,b,v3,Zs [c],v5]) ?_).trans rfl;have h5:(x.map (λa=>[a])++[[]]).length<=5:=by rw[Qqz,Qqw];exact Nat.succ_le_succ hl
 refine Ku (n:=7) (x.map (λa=>[a])++[[]]) D.str (λz=>z != [c]) D.str ?_ rfl rfl (λz hz=>rfl) (λz hz _=>rfl) (Qq6 h5 (by decide));refine ug (d:=.lst (((x.map λa=>[a])++[[]]).map D.str)) (bJ rfl rfl ?_) rfl;rw[Qx2,Qx7];refine Gp (a:=ou x) ?_;unfold ou;rw[Qqw];exact Qq6 (Nat.succ_le_succ hl) (by decide)
theorem Ui:∀x∈XS,∀c∈x,(oth x c).length=x.length:=by
 intro x hx c hc;have h1:=List.length_erase_of_mem hc;rw[(lO hx).nd.erase_eq_filter] at h1;have e:(λz:List Nat=>z != [c]) ∘ (λa=>[a])=λa=>a != c:=by
  funext a
  by_cases h:a=c
  ·subst h;show([a] != [a])=(a != a);rw[bne_self_eq_false,bne_self_eq_false]
  ·show([a] != [c])=(a != c);rw[bne_iff_ne.mpr h,bne_iff_ne.mpr λq=>h (Qzv q).1]
 unfold oth;rw[Qqw,List.filter_append,List.filter_map,e,Qqz,Qqw,h1];have:=(lO hx).pos;show x.length - 1+1=_;omega
theorem Dz:∀x∈XS,0<x.length:=λ_ h=>(lO h).pos
theorem Ld{i:Nat}{k a:Ev}{env e1 e2:Ev.Env}{d kd x0:D}{o:Bool}{q:Key}{kvs:List (D×D)}(h1:a env = .ok d e1)(h2:e1[i]? = some (some (o,x0)))(h3:k e1 = .ok kd e2)(h4:e2[i]? = some (Zt (.dct kvs)))(h5:jX kd=some q)(hz:kvs.length<sizeLine) :
  qX i k a env = .nx (e2.set i (Zt (.dct (putD kvs kd q d)))):=by
 unfold qX;rw[h1];simp only[iG];rw[h2];simp only;rw[h3];simp only;rw[h4,h5];simp only;rw[if_pos hz]
def P0(kvs:List (D×D))(p:Nat×D):List (D×D):=putD kvs (.str [p.1]) (.inr (strOf [p.1])) p.2
theorem round(n:Int)(x:List Nat)(hx:x∈XS)(kvs:List (D×D))(hk:kvs.length<=10)(v3 v4 v5:OD):∃p n' v4' v5',p∈PV x/\aC one (aC others JT) [Zl [.int n],Zs x,Zt (.dct kvs),v3,v4,v5] = .nx [Zl [.int n'],Zs x,Zt (.dct (P0 kvs p)),v3,v4',v5']:=by
 have hp:=Dz x hx;have hl4:=lQ x hx;obtain⟨d,hd,e⟩:=dig n x.length hp;have hc:x[d]∈x:=List.getElem_mem hd;have hol:=Ui x hx x[d] hc;obtain⟨d',hd',e'⟩:=dig (n / (x.length:Int)) x.length hp;have hv:d'<(oth x x[d]).length:=by rw[hol];exact hd'
 refine⟨(x[d],(oth x x[d])[d']),n / (x.length:Int) / (x.length:Int),Zs [x[d]],Zl (oth x x[d]),?_,?_⟩
 ·unfold PV;exact List.mem_flatMap.mpr ⟨x[d],hc,Qwq.mpr ⟨_,List.getElem_mem hv,rfl⟩⟩
 ·refine(aA (e:=[Zl [.int (n / (x.length:Int))],Zs x,Zt (.dct kvs),v3,Zs [x[d]],v5]) ?_).trans ?_
  ·unfold one;refine bz (e:=[Zl [.int (n / (x.length:Int))],Zs x,Zt (.dct kvs),v3,v4,v5]) ?_ (by rfl);refine bL (y:=.int (n % (x.length:Int))) (by rfl) ?_ (by rfl) ?_
   ·exact mG (e1:=[Zl [.int n],Zs x,Zt (.dct kvs),v3,v4,v5]) (by rfl) (by rfl) (by rfl) (lU n x.length hp (by omega))
   ·show(wF x (n % (x.length:Int))).map _=_;rw[e,Jk hd]
    rfl
  ·refine(aA (LR _ _ _ _ x hx x[d] hc)).trans ?_;unfold JT;refine(Ld (e1:=[Zl [.int (n / (x.length:Int) / (x.length:Int))],Zs x,Zt (.dct kvs),v3,Zs [x[d]],Zl (oth x x[d])])
    ?_ (by rfl) (by rfl) (by rfl) (by rfl) (Qw7 hk (by decide))).trans rfl
   refine bL (y:=.int (n / (x.length:Int) % (x.length:Int))) (by rfl) ?_ (by rfl) ?_
   ·refine mG (e1:=[Zl [.int (n / (x.length:Int))],Zs x,Zt (.dct kvs),v3,Zs [x[d]],Zl (oth x x[d])]) (by rfl) ?_ (by rfl) (lU _ x.length hp (by omega));refine aH ?_ bD;refine aF (by rfl) ?_;show some (D.int ((oth x x[d]).length:Int))=_;rw[hol]
   ·show wF (oth x x[d]) (n / (x.length:Int) % (x.length:Int))=_;rw[e',Jk hv]
def M3(kvs:List (D×D)):Option D:=match iH [.dct kvs] with
 | some (.lst ks)=>if (ks.all λk=>(eO (.dct kvs) k).isSome) then some (.tup (ks.map λk=>.tup [k,(eO (.dct kvs) k).getD .non])) else none
 | _=>none
def Z7:cu:=bC (au cV (aa (gC 6 7 (il (au iH (aa (bw 2) ak))) (aj 6) dC (bN (Zv 6 (aa (aB eO 2 (bw 6)) ak)))) ak))
theorem Gm{kvs:List (D×D)}{ks:List D}(h:iH [.dct kvs]=some (.lst ks)):ks.length<=64:=by
 obtain⟨zs,h1,h2⟩:=Qzx.mp h;split at h2
 ·rename_i hz;cases h2;rw[Qqw,(iw zs).length_eq];omega
 ·cases h2
theorem Dm{kvs:List (D×D)}{ch:D}(h:M3 kvs=some ch)(a b v3 v4 v5:OD):Z7 [a,b,Zt (.dct kvs),v3,v4,v5] = .rt false ch [a,b,Zt (.dct kvs),v3,v4,v5]:=by
 unfold M3 at h;split at h
 ·rename_i ks hs;split at h
  ·rename_i hall;cases h;obtain⟨env',h1,v6,rfl⟩:=xC (g:=aj 6) (e:=bN (Zv 6 (aa (aB eO 2 (bw 6)) ak))) (λenv=>∃v6,env=[a,b,Zt (.dct kvs),v3,v4,v5,v6]) (λk=>.tup [k,(eO (.dct kvs) k).getD .non]) ks [a,b,Zt (.dct kvs),v3,v4,v5,Zn] ⟨none,rfl⟩
    (λk hk env ⟨v6,he⟩=>by
     subst he;obtain⟨v,hv⟩:=Qx6.mp (Qx1.mp hall k hk);refine⟨_,[a,b,Zt (.dct kvs),v3,v4,v5,Zf k],rfl,?_,Zf k,rfl⟩;rw[hv];exact cZ (aH (d:=k) (by rfl) (aH (d:=v) (bL (y:=k) (by rfl) (by rfl) (by rfl) hv) bD)) Ev.Jt)
   refine bH (aF (ds:=[.lst (ks.map λk=>.tup [k,(eO (.dct kvs) k).getD .non])]) (aH ?_ bD) rfl);refine uf (n:=7) (aK:=[a,b,Zt (.dct kvs),v3,v4,v5]) ?_ (by rfl) h1 ?_
   ·exact ug (aF (by rfl) hs) rfl
   ·rw[Qqw];exact Qq6 (Gm hs) (by decide)
  ·cases h
 ·cases h
structure DN(x:List Nat)(kvs:List (D×D))(zs:List Nat):Prop where
 keys:kvs.map (·.1)=zs.map λc=>D.str [c]
 nd:zs.Nodup
 mem:∀c∈zs,c∈x
 vals:∀k v,(k,v)∈kvs->∃c,k = .str [c]/\(c,v)∈PV x
theorem jJ{a b:List Nat}(h:strOf a=strOf b):a=b:=by
 have:=Qx5 (λs:Str=>s.cps.toList) h
 simpa[strOf] using this
theorem uN(q:Key)(d:D):∀kvs:List (D×D),(qG kvs q d).map (·.1)=kvs.map (·.1)
 | []=>rfl
 | (k,e)::r=>by
  unfold qG;rw[Qq3,Qq3,uN q d r];split<;>rfl
theorem xU{q:Key}{d:D}:∀{kvs:List (D×D)} {k v:D},(k,v)∈qG kvs q d->(k,v)∈kvs\/(jX k=some q/\v=d)
 | [],_,_,h=>by simp[qG] at h
 | (k',e)::r,k,v,h=>by
  unfold qG at h;rcases Qq2.mp h with h|h
  ·split at h
   ·rename_i hk;cases h;exact .inr ⟨hk,rfl⟩
   ·cases h;exact .inl (Qqj ..)
  ·rcases xU h with h|h
   ·exact .inl (Qqq _ h)
   ·exact .inr h
theorem uG{q:Key}:∀{kvs:List (D×D)},dM kvs q=none->∀k v,(k,v)∈kvs->jX k≠some q
 | [],_,k,v,hm=>by simp at hm
 | (k',e)::r,h,k,v,hm=>by
  unfold dM at h;split at h
  ·cases h
  ·rename_i hk;rcases Qq2.mp hm with hm|hm
   ·cases hm;exact hk
   ·exact uG h k v hm
theorem kZ{q:Key}{d:D}:∀{kvs:List (D×D)},dM kvs q=some d->∃k,(k,d)∈kvs/\jX k=some q
 | [],h=>by simp[dM] at h
 | (k',e)::r,h=>by
  unfold dM at h;split at h
  ·rename_i hk;cases h;exact⟨k',Qqj ..,hk⟩
  ·obtain⟨k,h1,h2⟩:=kZ h;exact⟨k,Qqq _ h1,h2⟩
theorem DN.put{x:List Nat}{kvs:List (D×D)}{zs:List Nat}(h:DN x kvs zs){p:Nat×D}(hp:p∈PV x)(hx:p.1∈x):∃zs',DN x (P0 kvs p) zs'/\0<zs'.length/\zs'.length<=zs.length+1:=by
 unfold P0 putD;cases e:dM kvs (.inr (strOf [p.1])) with
 | none=>
  simp only[Option.isSome_none,Bool.false_eq_true,if_false];refine⟨zs++[p.1],⟨?_,?_,λc hc=>?_,λk v hm=>?_⟩,by simp,by simp⟩
  ·rw[Qx2,Qx2,h.keys];rfl
  ·refine List.nodup_append.mpr ⟨h.nd,Qxz.mpr ⟨Qwy,.nil⟩,λa ha b hb=>?_⟩;rcases Qq1.mp hb with rfl;rintro rfl;have hm:D.str [p.1]∈kvs.map (·.1):=by rw[h.keys];exact Qwq.mpr ⟨p.1,ha,rfl⟩
   obtain⟨⟨k,v⟩,h1,h2⟩:=Qwq.mp hm;have h2':k = .str [p.1]:=h2;subst h2';exact uG e _ _ h1 rfl
  ·rcases Qww.mp hc with hc|hc
   ·exact h.mem c hc
   ·rw[Qq1.mp hc];exact hx
  ·rcases Qww.mp hm with hm|hm
   ·exact h.vals k v hm
   ·have:=Qq1.mp hm;cases this;exact⟨p.1,rfl,hp⟩
 | some w=>
  simp only[Option.isSome_some,if_true];obtain⟨k0,hk0,_⟩:=kZ e;have hne:0<zs.length:=by have:=Qx5 List.length h.keys;rw[Qqw,Qqw] at this;rw[<-this];exact List.length_pos_of_mem hk0
  refine⟨zs,⟨by rw[uN];exact h.keys,h.nd,h.mem,λk v hm=>?_⟩,hne,Nat.le_succ _⟩;rcases xU hm with hm|⟨hk,rfl⟩
  ·exact h.vals k v hm
  ·have hin:k∈(qG kvs (.inr (strOf [p.1])) p.2).map (·.1):=Qwq.mpr ⟨_,hm,rfl⟩;rw[uN,h.keys] at hin;obtain⟨c,hc,rfl⟩:=Qwq.mp hin;have:strOf [c]=strOf [p.1]:=by
    have:=Qw0 hk;exact Sum.inr.inj this
   have e2:=jJ this;cases e2;exact⟨p.1,rfl,hp⟩
theorem DG{x:List Nat}{p:Nat×D}(h:p∈PV x):p.1∈x:=by unfold PV at h;obtain⟨c,hc,h⟩:=List.mem_flatMap.mp h;obtain⟨v,_,rfl⟩:=Qwq.mp h;exact hc
theorem qw(zs:List (List Nat)):jj (zs.map D.str)=some zs:=by
 induction zs with
 | nil=>rfl
 | cons z r ih=>
  rw[Qq3];unfold jj;rw[ih]
  rfl
theorem Lf{x:List Nat}{kvs:List (D×D)}{zs:List Nat}(h:DN x kvs zs)(h4:zs.length<=4):iH [.dct kvs]=some (.lst ((iU (zs.map λc=>[c])).map .str)):=by
 have e:kvs.map (·.1)=(zs.map λc=>[c]).map D.str:=by rw[h.keys,Qx7];rfl
 show(jj (kvs.map (·.1))).bind _=_;rw[e,qw];show(if _ then _ else _)=_;rw[if_pos];refine⟨by rw[Qqw];omega,λz hz=>?_⟩;obtain⟨c,_,rfl⟩:=Qwq.mp hz;show 1<=sizeLine
 decide
def prs(kvs:List (D×D))(ks:List D):List D:=ks.map λk=>.tup [k,(eO (.dct kvs) k).getD .non]
theorem CT{x:List Nat}{kvs:List (D×D)}{zs:List Nat}(h:DN x kvs zs)(k:D)(hk:k∈(iU (zs.map λc=>[c])).map D.str):∃c v,k = .str [c]/\eO (.dct kvs) k=some v/\(c,v)∈PV x:=by
 obtain⟨z,hz,rfl⟩:=Qwq.mp hk;obtain⟨c,hc,rfl⟩:=Qwq.mp ((iw _).mem_iff.mp hz);have hm:D.str [c]∈kvs.map (·.1):=by rw[h.keys];exact Qwq.mpr ⟨c,hc,rfl⟩
 obtain⟨⟨k,v⟩,h1,h2⟩:=Qwq.mp hm;have h2':k = .str [c]:=h2;subst h2';cases e:dM kvs (.inr (strOf [c])) with
 | none=>exact absurd rfl (uG e _ _ h1)
 | some w=>
  obtain⟨k',h3,h4⟩:=kZ e;obtain⟨c',rfl,h5⟩:=h.vals k' w h3;have e2:strOf [c']=strOf [c]:=Sum.inr.inj (Qw0 h4);cases jJ e2;exact⟨c,w,rfl,e,h5⟩
theorem Dn{x:List Nat}{kvs:List (D×D)}{zs:List Nat}(h:DN x kvs zs)(h4:zs.length<=4):M3 kvs=some (.tup (prs kvs ((iU (zs.map λc=>[c])).map D.str))):=by
 unfold M3;rw[Lf h h4];simp only;rw[if_pos]
 ·rfl
 ·refine Qx1.mpr λk hk=>?_;obtain⟨c,v,_,e,_⟩:=CT h k hk;rw[e];rfl
end fV
namespace K20
open Ev PySem L2
open fV (lU)
theorem Mv:∀(zs:List (List Nat)),yJ [] zs=zs.flatten
 | []=>rfl
 | x::r=>by
  show r.foldl (λacc y=>acc++[]++y) x=(x::r).flatten;have go:∀(r:List (List Nat)) (x:List Nat),r.foldl (λacc y=>acc++[]++y) x=x++r.flatten:=by
   intro r
   induction r with
   | nil=>intro x;simp
   | cons y r ih=>intro x;rw[List.foldl_cons,ih];simp
  rw[go];rfl
theorem qw(zs:List (List Nat)):jj (zs.map D.str)=some zs:=by
 induction zs with
 | nil=>rfl
 | cons z r ih=>
  rw[Qq3];unfold jj;rw[ih]
  rfl
theorem Ob{zs:List (List Nat)}{k:Nat}(h:∀z∈zs,z.length<=k):(zs.map List.length).sum<=zs.length*k:=by
 induction zs with
 | nil=>simp
 | cons z r ih=>
  rw[Qq3,List.sum_cons,Qqy,Nat.add_mul];have h1:=h z (Qqj ..);have h2:=ih λy hy=>h y (Qqq _ hy);omega
def texts(x:List Nat):List (List Nat):=[[],[x.headD 0],[x.getLastD 0],[x.headD 0,x.headD 0],[x.headD 0,x.getLastD 0]]
end K20
namespace iK
open Ev
def m7:cu:=oA.m7
def cX:LD:=cH 2 m7
def jb:cu:=oA.jb
def gQ:LD:=cH 5 jb
def gW:cu:=oA.gW
def eY:LD:=cH 1 gW
def fY:cu:=aC (aP (aO 0) (cj 4 (aG (aj 2) (aG (aj 3) (aG (aj 4) (aG (aj 5) cA)))))) (aC (aP (aQ fJ (aB fJ 3 (Zi 0)) (Zi 1)) (aj 6)) (aC (dF 7 (cG ak)) (aC (aP (Zw [35]) (aj 8)) (aC (iu (il (aB cW 1 (Zw [35]))) (aj 9) (aC (fD (ie (eF (au cX (Zv 4 (Zv 8 ak)))) (eF (au cX (Zv 5 (Zv 9 ak))))) (eN 7 (aO 6)) cC) (aC (eN 7 (aO 9)) (aP (aO 9) (aj 8))))) (bC (aQ my (Zw []) (vG (aO 7) wu (Dc (U4 UL (Zi 1))))))))))
def gV:LD:=cH 10 fY
def d9:cu:=aC (aP (aO 0) (cj 4 (aG (aj 2) (aG (aj 3) (aG (aj 4) (aG (aj 5) cA)))))) (aC (aP (au pq (aa (bw 3) ak)) (aj 6)) (aC (aP (aB cW 1 (Zw [35])) (aj 7)) (aC (dF 8 (cG ak)) (aC (aP (Zw [35]) (aj 9)) (aC (iu (Jb (Zv 1 ak)) (cj 2 (aG (aj 10) (aG (aj 11) cA))) (aC (aP (aO 11) (aj 12)) (aC (fD (ie (eF (aB vB 11 (bw 6))) (ie (eF (au cX (Zv 4 (Zv 9 ak)))) (eF (au cX (Zv 5 (aa (aB fJ 7 (aB cW 10 (Zi 1))) ak)))))) (aP (aB eO 6 (bw 11)) (aj 12)) cC) (aC (eN 8 (aO 12)) (fD (eF (aB qz 2 (Zw [111,110,99,101]))) (aP (aO 11) (aj 9)) (fD (eF (aB IK 12 (Zw []))) (aP (aO 12) (aj 9)) cC)))))) (bC (aQ my (Zw []) (bw 8))))))))
def gm:LD:=cH 13 d9
def dY:cu:=aC (fD (eF (au eY (Zv 0 ak))) (bC (au gV (Zv 0 (Zv 1 ak)))) cC) (bC (au gm (Zv 0 (Zv 1 ak))))
def fM:LD:=cH 2 dY
def gY:cu:=aC (fD (eF (aB qz 0 (Zw [114,105,103,104,116]))) (bC (nY (au fM (aa (au gQ (Zv 1 ak)) (aa (nY (aO 2)) ak))))) cC) (bC (au fM (Zv 1 (Zv 2 ak))))
def eZ:LD:=cH 3 gY
def o4:cu:=bC (bN (aa (aB fJ 0 (Zi 0)) (aa (aB fJ 0 (Zi 1)) (aa (aB fJ 0 (Zi 3)) (aa (aB fJ 0 (Zi 2)) ak)))))
open Ev PySem L2
abbrev XS:=fV.XS
open fV (Dz lQ DN PV SG M3 prs one others JT Dm CT P0 lU DG Dn)
theorem aas:∀x∈XS,∀p∈PV x,∃t,p.2 = .str t/\t.length<=1/\∀c∈t,c∈x:=by
 intro x hx p hp;obtain⟨c,hc,h⟩:=List.mem_flatMap.mp hp;obtain⟨v,hv,rfl⟩:=Qwq.mp h;obtain⟨t,ht,rfl⟩:=Qwq.mp hv;refine⟨t,rfl,?_⟩;rcases Qww.mp (List.mem_filter.mp ht).1 with h|h
 ·obtain⟨a,ha,rfl⟩:=Qwq.mp h;exact⟨Qq0 1,λc hc=>by rw[Qq1.mp hc];exact ha⟩
 ·rw[Qq1.mp h];exact⟨Qx0 1,λc hc=>absurd hc Qwy⟩
abbrev Pr:=Nat×List Nat
def encC(p:Pr):D:=.tup [.str [p.1],.str p.2]
inductive sr (x:List Nat):D->Prop
 | put {c:Nat}:c∈x->sr x (.tup [.tup [.str [],.str [c]]])
 | chg {ps:List Pr}:0<ps.length->ps.length<=4->(∀p∈ps,p.1∈x/\p.2.length<=1/\∀c∈p.2,c∈x)->sr x (.tup (ps.map encC))
theorem Cq{x:List Nat}{kvs:List (D×D)}(hx:x∈XS):∀(ks:List D),(∀k∈ks,∃c v,k = .str [c]/\eO (.dct kvs) k=some v/\(c,v)∈PV x)->∃ps:List Pr,prs kvs ks=ps.map encC/\ps.length=ks.length/\∀p∈ps,p.1∈x/\p.2.length<=1/\∀c∈p.2,c∈x
 | [],_=>⟨[],rfl,rfl,λp hp=>by simp at hp⟩
 | k::ks,h=>by
  obtain⟨c,v,rfl,e,hv⟩:=h k (Qqj ..);obtain⟨t,et,ht⟩:=aas x hx _ hv;obtain⟨ps,e1,e2,e3⟩:=Cq hx ks λk hk=>h k (Qqq _ hk);refine⟨(c,t)::ps,?_,by rw[Qqy,Qqy,e2],λp hp=>?_⟩
  ·unfold prs at e1 ⊢;rw[Qq3,e1,e];have et':v = .str t:=et;rw[et']
   rfl
  ·rcases Qq2.mp hp with rfl|hp
   ·exact⟨DG hv,ht⟩
   ·exact e3 p hp
structure jg(x:List Nat)(w ch l r:D):Prop where
 way:w = .str [111,110,99,101]\/w = .str [97,108,111,110,103]
 chg:sr x ch
 left:l∈SG x
 right:r∈SG x
def fit(l:D)(a:Nat):Bool:=fV.isT (cX [l,.str [a]])
theorem yK(a:Nat):∀z:List Nat,My (.str [a]) (z.map λc=>.str [c])=some (z.contains a)
 | []=>rfl
 | c::z=>by
  rw[Qq3];unfold My;rw[yK a z];show some (([c] == [a])||z.contains a)=_;rw[List.contains_cons]
  congr 2
  by_cases h:a=c
  ·subst h;simp
  ·rw[beq_false_of_ne h,beq_false_of_ne λq=>h (Qzv q).1.symm]
theorem fK:∀x∈XS,∀l∈SG x,∀a∈35::x,cX [l,.str [a]]=some (.bl (fit l a)):=by
 intro x hx l hl a ha;have h:∃b,cX [l,.str [a]]=some (.bl b):=by
  rcases Qq2.mp hl with rfl|hl
  ·exact⟨true,rfl⟩
  ·obtain⟨d,_,rfl⟩:=Qwq.mp hl;unfold fV.Lg;generalize(((List.range (x.length+1)).filter (fV.bit d)).map λk=>(35::x).getD k 0)=z;refine⟨z.contains a,bT (env:=[Zf (.tup (z.map λc=>.str [c])),Zs [a]]) (bH ?_)⟩;have e:aB Wj 1 (bw 0) [Zf (.tup (z.map λc=>.str [c])),Zs [a]] = .ok (.bl (z.contains a)) [Zf (.tup (z.map λc=>.str [c])),Zs [a]]:=by
    refine bL rfl rfl rfl ?_;show(Option.map D.bl (My (.str [a]) (z.map λc=>.str [c]))).or _=_;rw[yK]
    rfl
   exact(Dd rfl).trans e
 obtain⟨b,e⟩:=h;unfold fit;rw[e];cases b<;>rfl
open fV (SG cP)
theorem mz{a b:List Nat}(h:a.length+b.length<=100000):cW (.str a) (.str b)=some (.str (a++b)):=by show(if a.length+b.length<=sizeLine then _ else _)=_;rw[if_pos (Qq6 h (by decide))]
theorem iJ{a b:fZ}{env:Ev.Env}{p q:Bool}(h1:a env = .ok p env)(h2:b env = .ok q env):ie a b env = .ok (p&&q) env:=by
 unfold ie;rw[h1];cases p with
 | true=>exact h2
 | false=>rfl
theorem Q4{zs:List (List Nat)}(h1:zs.length<=80000)(h2:∀z∈zs,z.length<=2):my (.str []) (.lst (zs.map .str))=some (.str zs.flatten):=by
 have hf:joinFits [] zs=true:=by refine Qxj ?_;have:=K20.Ob h2;show _+zs.length*0<=_;omega
 show(match jj (zs.map D.str) with|some xs=>if joinFits [] xs=true then some (D.str (yJ [] xs)) else none|none=>none)=_;rw[K20.qw];show(if joinFits [] zs=true then _ else _)=_;rw[if_pos hf,K20.Mv]
theorem KQ{all done rest:List D}{d:D}(h:all=done++d::rest):all[done.length]? = some d:=by rw[h];simp
theorem getD_get{z:List Nat}{n:Nat}(h:n<z.length):z[n]? = some (z.getD n 0):=by rw[Qw4,Qwk h];rfl
theorem abW{z:List Nat}{n:Nat}(h:n<z.length):fJ (.str z) (.int (n:Int))=some (.str [z.getD n 0]):=by
 show(wF z (n:Int)).map _=_;rw[kY (getD_get h)]
 rfl
theorem Xm{z done rest:List _}{d:D}(h:ou z=done++d::rest):d = .str [z.getD done.length 0]/\done.length<z.length:=by have h1:=KQ h;unfold ou at h1;rw[Qw2] at h1;obtain⟨c,hc,rfl⟩:=Qwj.mp h1;have hl:done.length<z.length:=(Qqv.mp hc).1;rw[getD_get hl] at hc;cases hc;exact⟨rfl,hl⟩
theorem Rt{α:Type}(xs:List α):cutD xs none (some (-1))=xs.dropLast:=by
 unfold cutD;have e1:HT.fU xs.length xs.length (some (-1))=((-1:Int)+(xs.length:Int)).toNat:=rfl;have e2:HT.fU xs.length 0 none=0:=rfl;rw[e1,e2,List.drop_zero,List.dropLast_eq_take]
 congr 1
 omega
abbrev ed(w:List Nat):List Nat:=35::(w++[35])
abbrev sg(w:List Nat)(n:Nat):Nat:=(ed w).getD n 0
section
variable{x w:List Nat}{l r:D}
theorem ZZ:(ed w).length=w.length+2:=by simp
theorem BK(hw:∀c∈w,c∈x){n:Nat}(h:n<w.length+2):sg w n∈35::x:=by
 have h1:n<(ed w).length:=by rw[ZZ];exact h
 have:sg w n∈ed w:=Qxw (getD_get h1);rcases Qq2.mp this with e|e
 ·rw[e];exact Qqj ..
 ·rcases Qww.mp e with e|e
  ·exact Qqq _ (hw _ e)
  ·rw[Qq1.mp e];exact Qqj ..
def pc(l r:D)(c:Nat)(w:List Nat)(n:Nat):List (List Nat):=if (fit l (sg w n)&&fit r (sg w (n+1)))=true then [[c]] else []
def pin(l r:D)(c:Nat)(w:List Nat):Nat->List (List Nat)
 | 0=>[]
 | n+1=>pin l r c w n++(pc l r c w n++[[sg w (n+1)]])
theorem V5(c:Nat)(n:Nat):(pc l r c w n).length<=1/\∀z∈pc l r c w n,z.length=1:=by
 unfold pc;split
 ·exact⟨Qq0 _,λz hz=>by rw[Qq1.mp hz];rfl⟩
 ·exact⟨Qx0 _,λz hz=>by simp at hz⟩
theorem Cv(c:Nat):∀n,(pin l r c w n).length<=2*n/\∀z∈pin l r c w n,z.length=1
 | 0=>⟨Qq0 _,λz hz=>by simp[pin] at hz⟩
 | n+1=>by
  obtain⟨h1,h2⟩:=Cv c n;obtain⟨h3,h4⟩:=V5 (l:=l) (r:=r) (w:=w) c n;unfold pin;refine⟨by rw[Qqz,Qqz,Qq9];omega,λz hz=>?_⟩;rcases Qww.mp hz with hz|hz
  ·exact h2 z hz
  ·rcases Qww.mp hz with hz|hz
   ·exact h4 z hz
   ·rw[Qq1.mp hz];rfl
theorem acf{zs:List (List Nat)}(h:∀z∈zs,z.length=1):zs.flatten.length=zs.length:=by
 induction zs with
 | nil=>rfl
 | cons z t ih=>rw[List.flatten_cons,Qqz,h z (Qqj ..),ih λy hy=>h y (Qqq _ hy),Qqy];omega
def inn(l r:D)(c:Nat)(w:List Nat):List Nat:=(pin l r c w w.length++pc l r c w w.length).flatten
theorem yf(c:Nat):(pin l r c w (w.length+1)).dropLast=pin l r c w w.length++pc l r c w w.length:=by show(pin l r c w w.length++(pc l r c w w.length++[[sg w (w.length+1)]])).dropLast=_;rw[<-Qzq,List.dropLast_concat]
variable(hx:x∈XS)(hl:l∈SG x)(hr:r∈SG x)(hw:∀c∈w,c∈x)(hn:w.length<=30000)
def Nx:cu:=oA.nQ
include hx hl hr
theorem Ss{c a s:Nat}(ha:a∈35::x)(hs:s∈35::x)(acc:List D)(hac:acc.length<=80000)(a0 a1 a2 a3:OD) :
  Nx [a0,a1,a2,a3,Zf l,Zf r,Zs [c],Zl acc,Zs [a],Zs [s]] =
   .nx [a0,a1,a2,a3,Zf l,Zf r,Zs [c],Zl (acc++((if (fit l a&&fit r s)=true then [.str [c]] else [])++[.str [s]])),Zs [s],Zs [s]]:=by
 have t:ie (eF (au cX (Zv 4 (Zv 8 ak)))) (eF (au cX (Zv 5 (Zv 9 ak)))) [a0,a1,a2,a3,Zf l,Zf r,Zs [c],Zl acc,Zs [a],Zs [s]] = .ok (fit l a&&fit r s) [a0,a1,a2,a3,Zf l,Zf r,Zs [c],Zl acc,Zs [a],Zs [s]]:=
  iJ (eU (aF rfl (fK x hx l hl a ha))) (eU (aF rfl (fK x hx r hr s hs)))
 have tl:∀acc:List D,acc.length<=80001->aC (eN 7 (aO 9)) (aP (aO 9) (aj 8)) [a0,a1,a2,a3,Zf l,Zf r,Zs [c],Zl acc,Zs [a],Zs [s]] = .nx [a0,a1,a2,a3,Zf l,Zf r,Zs [c],Zl (acc++[.str [s]]),Zs [s],Zs [s]]:=λacc hac=>
  (aA (cP (i:=7) (e:=[a0,a1,a2,a3,Zf l,Zf r,Zs [c],Zl acc,Zs [a],Zs [s]]) rfl rfl rfl (Qw7 hac (by decide)))).trans rfl
 unfold Nx;cases hc:fit l a&&fit r s with
 | true=>
  rw[hc] at t;rw[if_pos rfl];refine(aA (e:=[a0,a1,a2,a3,Zf l,Zf r,Zs [c],Zl (acc++[.str [c]]),Zs [a],Zs [s]]) ?_).trans ?_
  ·exact(gH t).trans ((cP (i:=7) (e:=[a0,a1,a2,a3,Zf l,Zf r,Zs [c],Zl acc,Zs [a],Zs [s]]) rfl rfl rfl (Qw7 hac (by decide))).trans rfl)
  ·rw[tl _ (by rw[Qqz,Qq9];omega),Qzq]
 | false=>
  rw[hc] at t;rw[if_neg Qw8];exact(aA ((dZ t).trans rfl)).trans (tl acc (by omega))
theorem T6(c n:Nat):((pin l r c w (n+1)).map D.str)=(pin l r c w n).map D.str++((if (fit l (sg w n)&&fit r (sg w (n+1)))=true then [.str [c]] else [])++[.str [sg w (n+1)]]):=by show(pin l r c w n++(pc l r c w n++[[sg w (n+1)]])).map D.str=_;rw[Qx2,Qx2];unfold pc;split<;>rfl
include hw hn
theorem with_put_in(wy:D)(c:Nat):gV [.tup [wy,.tup [.tup [.str [],.str [c]]],l,r],.str w]=some (.str (inn l r c w)):=by
 generalize hR:D.tup [wy,.tup [.tup [.str [],.str [c]]],l,r]=R;generalize hC:D.tup [.tup [.str [],.str [c]]]=ch;obtain⟨e',f1,hd,a9,rfl⟩:=nW (g:=aj 9) (ou (w++[35]))
  (λdone env=>done.length<=w.length+1/\∃a9,env=[Zf R,Zs w,Zf wy,Zf ch,Zf l,Zf r,Zs [c],Zl ((pin l r c w done.length).map .str),Zs [sg w done.length],a9])
  (λdone s rest hall env ⟨hd,a9,he⟩=>by
   subst he;obtain⟨rfl,hdl⟩:=Xm hall;have agk:done.length<w.length+1:=by rw[Qqz,Qq9] at hdl;exact hdl
   have hp:=(Cv (l:=l) (r:=r) (w:=w) c done.length).1;refine⟨_,_,rfl,Ss hx hl hr (s:=sg w (done.length+1)) (BK (w:=w) hw (by omega)) (BK (w:=w) hw (by omega)) _ (by rw[Qqw];omega) _ _ _ _,by rw[Qqz,Qq9];omega,Zs [sg w (done.length+1)],?_⟩;rw[Qqz,Qq9,T6 hx hl hr])
  [Zf R,Zs w,Zf wy,Zf ch,Zf l,Zf r,Zs [c],Zl [],Zs [35],Zn] ⟨Qx0 _,Zn,rfl⟩
 have hlen:(ou (w++[35])).length=w.length+1:=by unfold ou;rw[Qqw,Qqz,Qq9]
 rw[hlen] at f1;have hp:=Cv (l:=l) (r:=r) (w:=w) c (w.length+1);refine bT (env:=[Zf R,Zs w,Zf wy,Zf ch,Zf l,Zf r,Zs [c],Zf (.lst ((pin l r c w (w.length+1)).map .str)),Zs [sg w (w.length+1)],a9]) ?_;unfold fY;refine(aA (e:=[Zf R,Zs w,Zf wy,Zf ch,Zf l,Zf r,Zn,Zn,Zn,Zn]) (by rw[<-hR,<-hC];rfl)).trans ?_;refine(aA (e:=[Zf R,Zs w,Zf wy,Zf ch,Zf l,Zf r,Zs [c],Zn,Zn,Zn]) (by rw[<-hC];rfl)).trans ?_;refine(aA rfl).trans ?_;refine(aA rfl).trans ?_;refine(aA ((ir ?_).trans f1)).trans ?_
 ·refine ug (bL rfl rfl rfl (mz (by show w.length+1<=100000;omega))) rfl
 ·refine bH (bJ rfl (y:=.lst ((pin l r c w w.length++pc l r c w w.length).map .str)) ?_ ?_)
  ·have ec:cutD ((pin l r c w (w.length+1)).map D.str) none (some (-1))=(pin l r c w w.length++pc l r c w w.length).map D.str:=by
    rw[Rt,<-List.map_dropLast,yf c]
   rw[<-ec]
   rfl
  ·rw[<-yf c];unfold inn;rw[<-yf c];refine Q4 ?_ λz hz=>?_
   ·rw[List.length_dropLast];omega
   ·rw[hp.2 z (List.dropLast_subset _ hz)];decide
end
def uD(x:List Nat)(kvs:List (D×D)):Prop:=∀k v,(k,v)∈kvs->∃t:List Nat,v = .str t/\t.length<=1/\∀c∈t,c∈x
theorem uD.put{x:List Nat}{kvs:List (D×D)}(h:uD x kvs)(k:D)(q:Key)(t:List Nat)(h1:t.length<=1)(h2:∀c∈t,c∈x):uD x (putD kvs k q (.str t)):=by
 intro k' v hm;unfold putD at hm;split at hm
 ·rcases fV.xU hm with hm|⟨_,rfl⟩
  ·exact h k' v hm
  ·exact⟨t,rfl,h1,h2⟩
 ·rcases Qww.mp hm with hm|hm
  ·exact h k' v hm
  ·cases Qq1.mp hm;exact⟨t,rfl,h1,h2⟩
theorem uD.all{x:List Nat}:∀(ps:List Pr) (kvs:List (D×D)),uD x kvs->(∀p∈ps,p.1∈x/\p.2.length<=1/\∀c∈p.2,c∈x)->uD x (eE kvs (ps.map λp=>(.str [p.1],.str p.2)))
 | [],kvs,h,_=>h
 | p::ps,kvs,h,hp=>by
  have h1:=hp p (Qqj ..);exact uD.all ps _ (h.put (.str [p.1]) (.inr (strOf [p.1])) p.2 h1.2.1 h1.2.2) λp hm=>hp p (Qqq _ hm)
theorem vd:∀(ps:List Pr),jw (ps.map encC)=some (ps.map λp=>(.str [p.1],.str p.2))
 | []=>rfl
 | p::ps=>by
  rw[Qq3];unfold jw;rw[vd ps]
  rfl
theorem uh{x:List Nat}{ps:List Pr}(hp:∀p∈ps,p.1∈x/\p.2.length<=1/\∀c∈p.2,c∈x):∃kvs,pq [.tup (ps.map encC)]=some (.dct kvs)/\uD x kvs:=by
 refine⟨eE [] (ps.map λp=>(.str [p.1],.str p.2)),?_,uD.all ps [] (λk v h=>by simp at h) hp⟩;show(jw (ps.map encC)).map _=_;rw[vd]
 rfl
def look(kvs:List (D×D))(s:Nat):Option (List Nat):=match dM kvs (.inr (strOf [s])) with
 | some (.str t)=>some t
 | _=>none
theorem xA{x:List Nat}{kvs:List (D×D)}(h:uD x kvs)(s:Nat):vB (.str [s]) (.dct kvs)=some (.bl (look kvs s).isSome):=by
 show some (D.bl (dM kvs (.inr (strOf [s]))).isSome)=_;unfold look;cases e:dM kvs (.inr (strOf [s])) with
 | none=>rfl
 | some v=>
  obtain⟨k,hk,_⟩:=fV.kZ e;obtain⟨t,rfl,_⟩:=h k v hk
  rfl
theorem jz{x:List Nat}{kvs:List (D×D)}(h:uD x kvs){s:Nat}{t:List Nat}(hs:look kvs s=some t):eO (.dct kvs) (.str [s])=some (.str t)/\t.length<=1/\∀c∈t,c∈x:=by
 unfold look at hs;split at hs
 ·rename_i u e;cases hs;obtain⟨k,hk,_⟩:=fV.kZ e;obtain⟨t',h1,h2⟩:=h k _ hk;cases h1;exact⟨e,h2⟩
 ·cases hs
section
variable{x w:List Nat}{l r:D}{kvs:List (D×D)}
def nw(kvs:List (D×D))(l r:D)(w:List Nat)(near n:Nat):List Nat:=if ((look kvs (sg w (n+1))).isSome&&(fit l near&&fit r (sg w (n+2))))=true then (look kvs (sg w (n+1))).getD [] else [sg w (n+1)]
def dI(al:Bool)(w:List Nat)(made:List (List Nat))(n:Nat):Nat:=if al=true then (35::made.flatten).getLastD 0 else sg w n
def cg(al:Bool)(kvs:List (D×D))(l r:D)(w:List Nat):Nat->List (List Nat)
 | 0=>[]
 | n+1=>cg al kvs l r w n++[nw kvs l r w (dI al w (cg al kvs l r w n) n) n]
theorem JL(hw:∀c∈w,c∈x){n:Nat}(h:n<w.length):sg w (n+1)=w.getD n 0/\sg w (n+1)∈x:=by
 have e:sg w (n+1)=w.getD n 0:=by show(w++[35]).getD n 0=_;rw[Qw4,Qw4,Qw1 h]
 exact⟨e,by rw[e];exact hw _ (Qxw (getD_get h))⟩
theorem Qz(hk:uD x kvs)(hw:∀c∈w,c∈x){n:Nat}(h:n<w.length)(near:Nat):(nw kvs l r w near n).length<=1/\∀c∈nw kvs l r w near n,c∈x:=by
 unfold nw;split
 ·cases e:look kvs (sg w (n+1)) with
  | none=>exact⟨Qx0 _,λc hc=>by simp at hc⟩
  | some t=>exact(jz hk e).2
 ·exact⟨Qq0 _,λc hc=>by rw[Qq1.mp hc];exact(JL hw h).2⟩
theorem Ba(al:Bool)(hk:uD x kvs)(hw:∀c∈w,c∈x):∀n,n<=w.length->(cg al kvs l r w n).length=n/\∀z∈cg al kvs l r w n,z.length<=1/\∀c∈z,c∈x
 | 0,_=>⟨rfl,λz hz=>by simp[cg] at hz⟩
 | n+1,h=>by
  obtain⟨h1,h2⟩:=Ba al hk hw n (by omega);unfold cg;refine⟨by rw[Qqz,Qq9,h1],λz hz=>?_⟩;rcases Qww.mp hz with hz|hz
  ·exact h2 z hz
  ·rw[Qq1.mp hz];exact Qz hk hw (by omega) _
theorem Ve(al:Bool)(hk:uD x kvs)(hw:∀c∈w,c∈x){n:Nat}(h:n<=w.length):(cg al kvs l r w n).flatten.length<=n:=by obtain⟨h1,h2⟩:=Ba (l:=l) (r:=r) al hk hw n h;rw[List.length_flatten];have:=K20.Ob (k:=1) λz hz=>(h2 z hz).1;omega
theorem Gh:∀(a:Nat) (z:List Nat),(a::z).getLastD 0∈a::z
 | a,[]=>Qqj ..
 | a,b::z=>Qqq _ (Gh b z)
theorem QG(al:Bool)(hk:uD x kvs)(hw:∀c∈w,c∈x){n:Nat}(h:n<=w.length):dI al w (cg al kvs l r w n) n∈35::x:=by
 unfold dI;split
 ·rcases Qq2.mp (Gh 35 (cg al kvs l r w n).flatten) with e|e
  ·rw[e];exact Qqj ..
  ·obtain⟨z,hz,hc⟩:=List.mem_flatten.mp e;exact Qqq _ (((Ba (l:=l) (r:=r) al hk hw n h).2 z hz).2 _ hc)
 ·exact BK hw (by omega)
theorem aeB(n:Nat):cW (.int (n:Int)) (.int 1)=some (.int ((n+1:Nat):Int)):=rfl
theorem yt(made:List (List Nat))(t:List Nat)(n:Nat)(h:t.length<=1):dI true w (made++[t]) (n+1)=if t=[] then dI true w made n else t.headD 0:=by
 unfold dI;rw[if_pos rfl,if_pos rfl]
 match t,h with
 | [],_=>rw[if_pos rfl];simp
 | [a],_=>
  rw[if_neg (by simp)];rw[Qj0];have:∀(b:Nat) (z:List Nat),(b::(z++[a])).getLastD 0=a:=by
   intro b z
   induction z generalizing b with
   | nil=>rfl
   | cons c z ih=>exact ih c
  exact this 35 _
def gf(al:Bool):D:=if al=true then .str [97,108,111,110,103] else .str [111,110,99,101]
def NQ:cu:=oA.mj
variable(hx:x∈XS)(hl:l∈SG x)(hr:r∈SG x)(hw:∀c∈w,c∈x)(hn:w.length<=30000)(hk:uD x kvs)
include hx hl hr hw hn hk
theorem Su(al:Bool)(n:Nat)(hnn:n<w.length)(a0 a1 a3 a12:OD) :
  ∃b12,NQ [a0,a1,Zf (gf al),a3,Zf l,Zf r,Zf (.dct kvs),Zs (w++[35]),Zl ((cg al kvs l r w n).map .str),Zs [dI al w (cg al kvs l r w n) n],Zf (.int (n:Int)),Zs [sg w (n+1)],a12] =
   .nx [a0,a1,Zf (gf al),a3,Zf l,Zf r,Zf (.dct kvs),Zs (w++[35]),Zl ((cg al kvs l r w (n+1)).map .str),Zs [dI al w (cg al kvs l r w (n+1)) (n+1)],Zf (.int (n:Int)),Zs [sg w (n+1)],b12]:=by
 have hcl:=(Ba (l:=l) (r:=r) al hk hw n (by omega)).1;have hnm:=QG (l:=l) (r:=r) al hk hw (n:=n) (by omega);have hno:=Qz (l:=l) (r:=r) hk hw hnn (dI al w (cg al kvs l r w n) n);have hcg:cg al kvs l r w (n+1)=cg al kvs l r w n++[nw kvs l r w (dI al w (cg al kvs l r w n) n) n]:=rfl;have i2:=abW (z:=w++[35]) (n:=n+1) (by rw[Qqz,Qq9];omega);have h2m:sg w (n+2)∈35::x:=BK hw (by omega);rw[hcg];generalize hM:cg al kvs l r w n=made at *;generalize hN:dI al w made n=near at *;have hnw:nw kvs l r w near n=if ((look kvs (sg w (n+1))).isSome&&(fit l near&&fit r (sg w (n+2))))=true then (look kvs (sg w (n+1))).getD [] else [sg w (n+1)]:=rfl
 generalize hT:nw kvs l r w near n=t at *;refine⟨Zs t,?_⟩;unfold NQ;refine(aA rfl).trans ?_;refine(aA (e:=[a0,a1,Zf (gf al),a3,Zf l,Zf r,Zf (.dct kvs),Zs (w++[35]),Zl (made.map .str),Zs [near],Zf (.int (n:Int)),Zs [sg w (n+1)],Zs t]) ?_).trans ?_
 ·have tt:ie (eF (aB vB 11 (bw 6))) (ie (eF (au cX (Zv 4 (Zv 9 ak)))) (eF (au cX (Zv 5 (aa (aB fJ 7 (aB cW 10 (Zi 1))) ak))))) [a0,a1,Zf (gf al),a3,Zf l,Zf r,Zf (.dct kvs),Zs (w++[35]),Zl (made.map .str),Zs [near],Zf (.int (n:Int)),Zs [sg w (n+1)],Zs [sg w (n+1)]] = .ok ((look kvs (sg w (n+1))).isSome&&(fit l near&&fit r (sg w (n+2)))) [a0,a1,Zf (gf al),a3,Zf l,Zf r,Zf (.dct kvs),Zs (w++[35]),Zl (made.map .str),Zs [near],Zf (.int (n:Int)),Zs [sg w (n+1)],Zs [sg w (n+1)]]:=by
   refine iJ (eU (bL rfl rfl rfl (xA hk _))) (iJ (eU (aF rfl (fK x hx l hl _ hnm))) (eU (aF ?_ (fK x hx r hr _ h2m))));refine aH (d:=r) rfl (aH ?_ bD);exact bL rfl (bL rfl rfl rfl (aeB n)) rfl i2
  cases hc:(look kvs (sg w (n+1))).isSome&&(fit l near&&fit r (sg w (n+2))) with
  | true=>
   rw[hc] at tt hnw;rw[if_pos rfl] at hnw;obtain⟨u,hu⟩:=Qx6.mp (Qjz.mp hc).1;rw[hu] at hnw;cases hnw;exact(gH tt).trans (bz (bL rfl rfl rfl (jz hk hu).1) rfl)
  | false=>
   rw[hc] at tt hnw;rw[if_neg Qw8] at hnw;rw[hnw];exact(dZ tt).trans rfl
 refine(aA (e:=[a0,a1,Zf (gf al),a3,Zf l,Zf r,Zf (.dct kvs),Zs (w++[35]),Zl ((made++[t]).map .str),Zs [near],Zf (.int (n:Int)),Zs [sg w (n+1)],Zs t]) ?_).trans ?_
 ·rw[Qx2];exact(cP (i:=8) (e:=[a0,a1,Zf (gf al),a3,Zf l,Zf r,Zf (.dct kvs),Zs (w++[35]),Zl (made.map .str),Zs [near],Zf (.int (n:Int)),Zs [sg w (n+1)],Zs t]) rfl rfl rfl (by rw[Qqw,hcl];exact Qw7 (show n<=30000 by omega) (by decide))).trans rfl
 cases al with
 | false=>exact(gH (e:=_) rfl).trans rfl
 | true=>
  refine(dZ (e:=_) rfl).trans ?_;rw[yt made t n hno.1,hN]
  match t,hno.1 with
  | [],_=>exact(dZ (e:=_) rfl).trans rfl
  | [a],_=>exact(gH (e:=_) rfl).trans rfl
theorem U6{done rest:List D}{d:D}(h:wA w=done++d::rest):d = .tup [.int (done.length:Int),.str [sg w (done.length+1)]]/\done.length<w.length:=by have h1:=KQ h;unfold wA at h1;rw[Qw2] at h1;obtain⟨p,hp,rfl⟩:=Qwj.mp h1;rw[List.getElem?_zipIdx] at hp;obtain⟨c,hc,rfl⟩:=Qwj.mp hp;have hl:done.length<w.length:=(Qqv.mp hc).1;rw[getD_get hl] at hc;cases hc;refine⟨?_,hl⟩;rw[(JL hw hl).1,Nat.zero_add]
def out(al:Bool)(kvs:List (D×D))(l r:D)(w:List Nat):List Nat:=(cg al kvs l r w w.length).flatten
theorem with_changes(al:Bool)(ch:D)(hd:pq [ch]=some (.dct kvs)):gm [.tup [gf al,ch,l,r],.str w]=some (.str (out al kvs l r w)):=by
 generalize hR:D.tup [gf al,ch,l,r]=R;obtain⟨e',f1,hdl,a10,a11,a12,rfl⟩:=nW (g:=cj 2 (aG (aj 10) (aG (aj 11) cA))) (wA w)
  (λdone env=>done.length<=w.length/\∃a10 a11 a12,env=[Zf R,Zs w,Zf (gf al),Zf ch,Zf l,Zf r,Zf (.dct kvs),Zs (w++[35]),Zl ((cg al kvs l r w done.length).map .str),Zs [dI al w (cg al kvs l r w done.length) done.length],a10,a11,a12])
  (λdone s rest hall env ⟨hdl,a10,a11,a12,he⟩=>by
   subst he;obtain⟨rfl,hdl⟩:=U6 hx hl hr hw hn hk hall;obtain⟨b12,hb⟩:=Su hx hl hr hw hn hk al done.length hdl (Zf R) (Zs w) (Zf ch) a12;refine⟨_,_,rfl,hb,by rw[Qqz,Qq9];omega,Zf (.int (done.length:Int)),Zs [sg w (done.length+1)],b12,?_⟩;rw[Qqz,Qq9])
  [Zf R,Zs w,Zf (gf al),Zf ch,Zf l,Zf r,Zf (.dct kvs),Zs (w++[35]),Zl [],Zs [35],Zn,Zn,Zn] ⟨Qx0 _,Zn,Zn,Zn,by cases al<;>rfl⟩
 have hlen:(wA w).length=w.length:=by unfold wA;rw[Qqw,List.length_zipIdx]
 rw[hlen] at f1;have hok:=Ba (l:=l) (r:=r) al hk hw w.length (Qq0 _);refine bT (env:=[Zf R,Zs w,Zf (gf al),Zf ch,Zf l,Zf r,Zf (.dct kvs),Zs (w++[35]),Zl ((cg al kvs l r w w.length).map .str),Zs [dI al w (cg al kvs l r w w.length) w.length],a10,a11,a12]) ?_;unfold d9;refine(aA (e:=[Zf R,Zs w,Zf (gf al),Zf ch,Zf l,Zf r,Zn,Zn,Zn,Zn,Zn,Zn,Zn]) (by rw[<-hR];rfl)).trans ?_;refine(aA (e:=[Zf R,Zs w,Zf (gf al),Zf ch,Zf l,Zf r,Zf (.dct kvs),Zn,Zn,Zn,Zn,Zn,Zn]) ?_).trans ?_
 ·exact bz (aF rfl hd) rfl
 refine(aA (e:=[Zf R,Zs w,Zf (gf al),Zf ch,Zf l,Zf r,Zf (.dct kvs),Zs (w++[35]),Zn,Zn,Zn,Zn,Zn]) ?_).trans ?_
 ·exact bz (bL rfl rfl rfl (mz (by show w.length+1<=100000;omega))) rfl
 refine(aA rfl).trans ?_;refine(aA rfl).trans ?_;refine(aA ((ir rfl).trans f1)).trans ?_;refine bH (bJ rfl rfl ?_);exact Q4 (by rw[hok.1];omega) λz hz=>Qq6 (hok.2 z hz).1 (by decide)
theorem Yl(al:Bool):(∀c∈out al kvs l r w,c∈x)/\(out al kvs l r w).length<=2*w.length+1:=by
 unfold out;refine⟨λc hc=>?_,?_⟩
 ·obtain⟨z,hz,hcz⟩:=List.mem_flatten.mp hc;exact((Ba (l:=l) (r:=r) al hk hw w.length (Qq0 _)).2 z hz).2 c hcz
 ·have:=Ve (l:=l) (r:=r) al hk hw (Qq0 _);omega
end
section
variable{x w:List Nat}{l r:D}
theorem V6{c:Nat}(hc:c∈x)(n:Nat):∀z∈pc l r c w n,∀d∈z,d∈x:=by
 unfold pc;split
 ·intro z hz d hd;rw[Qq1.mp hz] at hd;rw[Qq1.mp hd];exact hc
 ·intro z hz;simp at hz
theorem Qg{c:Nat}(hc:c∈x)(hw:∀c∈w,c∈x):∀n,n<=w.length->∀z∈pin l r c w n,∀d∈z,d∈x
 | 0,_=>λz hz=>by simp[pin] at hz
 | n+1,h=>by
  intro z hz d hd;unfold pin at hz;rcases Qww.mp hz with hz|hz
  ·exact Qg hc hw n (by omega) z hz d hd
  ·rcases Qww.mp hz with hz|hz
   ·exact V6 hc n z hz d hd
   ·rw[Qq1.mp hz] at hd;rw[Qq1.mp hd];exact(JL hw (by omega)).2
theorem ZD{c:Nat}(hc:c∈x)(hw:∀c∈w,c∈x):(∀d∈inn l r c w,d∈x)/\(inn l r c w).length<=2*w.length+1:=by
 unfold inn;refine⟨λd hd=>?_,?_⟩
 ·obtain⟨z,hz,hdz⟩:=List.mem_flatten.mp hd;rcases Qww.mp hz with hz|hz
  ·exact Qg hc hw w.length (Qq0 _) z hz d hdz
  ·exact V6 hc _ z hz d hdz
 ·have h1:=Cv (l:=l) (r:=r) (w:=w) c w.length;have h2:=V5 (l:=l) (r:=r) (w:=w) c w.length;rw[acf λz hz=>(Qww.mp hz).elim (h1.2 z) (h2.2 z),Qqz];omega
end
theorem aaP{w:D}(h:w = .str [111,110,99,101]\/w = .str [97,108,111,110,103]):∃al,w=gf al:=by
 rcases h with rfl|rfl
 ·exact⟨false,rfl⟩
 ·exact⟨true,rfl⟩
def sides:List D:=[.str [108,101,102,116],.str [114,105,103,104,116]]
theorem yO{x w:List Nat}{wy ch l r:D}(hx:x∈XS)(h:jg x wy ch l r)(hw:∀c∈w,c∈x)(hn:w.length<=30000):∃o:List Nat,fM [.tup [wy,ch,l,r],.str w]=some (.str o)/\(∀c∈o,c∈x)/\o.length<=2*w.length+1:=by
 obtain⟨al,rfl⟩:=aaP h.way;cases h.chg with
 | put hc=>
  rename_i c;refine⟨inn l r c w,?_,ZD hc hw⟩
  ·refine bT (env:=[Zf (.tup [gf al,.tup [.tup [.str [],.str [c]]],l,r]),Zs w]) ?_;unfold dY;refine gO ?_;refine(gH (eU (aF rfl rfl))).trans ?_;exact bH (aF rfl (with_put_in hx h.left h.right hw hn _ c))
 | chg h0 h4 hp=>
  rename_i ps;obtain⟨kvs,hd,hk⟩:=uh hp;refine⟨out al kvs l r w,?_,Yl hx h.left h.right hw hn hk al⟩;have hpi:eY [.tup [gf al,.tup (ps.map encC),l,r]]=some (.bl false):=by
   match ps,h0 with
   | p::ps,_=>
    refine bT (env:=[Zf (.tup [gf al,.tup ((p::ps).map encC),l,r])]) (bH ?_);refine bJ (x:=.str [p.1]) ?_ rfl rfl;refine bJ (x:=encC p) ?_ rfl rfl;refine bJ rfl rfl (kY (j:=0) rfl)
  refine bT (env:=[Zf (.tup [gf al,.tup (ps.map encC),l,r]),Zs w]) ?_;unfold dY;refine(aA ((dZ (eU (aF rfl hpi))).trans rfl)).trans ?_;exact bH (aF rfl (with_changes hx h.left h.right hw hn hk al _ hd))
theorem Rx{x w:List Nat}{wy ch l r:D}(hx:x∈XS)(h:jg x wy ch l r)(hw:∀c∈w,c∈x)(hn:w.length<=30000):∀s∈sides,∃o:List Nat,eZ [s,.tup [wy,ch,l,r],.str w]=some (.str o)/\(∀c∈o,c∈x)/\o.length<=2*w.length+1:=by
 intro s hs;rcases Qq2.mp hs with rfl|hs
 ·obtain⟨o,h1,h3⟩:=yO hx h hw hn;refine⟨o,?_,h3⟩
  ·refine bT (env:=[Zs [108,101,102,116],Zf (.tup [wy,ch,l,r]),Zs w]) ?_;unfold gY;refine(aA ((dZ (by rfl)).trans rfl)).trans ?_;exact bH (aF rfl h1)
 ·rw[Qq1.mp hs];obtain⟨o,h1,h3,h4⟩:=yO hx (⟨h.way,h.chg,h.right,h.left⟩:jg x wy ch r l) (λc hc=>hw c (Qj2.mp hc)) (by rw[Qkq];exact hn);have rev:∀{a:Ev} {env:Ev.Env},a env = .ok (.str o) env->nY a env = .ok (.str o.reverse) env:=λ{a env} e=>by unfold nY;rw[e];rfl
  refine⟨o.reverse,?_,λc hc=>h3 c (Qj2.mp hc),by rw[Qkq] at h4 ⊢;exact h4⟩
  ·refine bT (env:=[Zs [114,105,103,104,116],Zf (.tup [wy,ch,l,r]),Zs w]) ?_;unfold gY;refine gO ((gH rfl).trans (bH (rev ?_)));exact aF rfl h1
end iK
namespace DP
open Ev
def m7:cu:=oA.m7
def cX:LD:=cH 2 m7
def jb:cu:=oA.jb
def gQ:LD:=cH 5 jb
def gW:cu:=oA.gW
def eY:LD:=cH 1 gW
def fY:cu:=iK.fY
def gV:LD:=cH 10 fY
def d9:cu:=iK.d9
def gm:LD:=cH 13 d9
def dY:cu:=iK.dY
def fM:LD:=cH 2 dY
def gY:cu:=iK.gY
def eZ:LD:=cH 3 gY
open Ev PySem L2
open fV (cP)
open iK (XS sides jg mz)
def bV(x:List Nat)(R:D):Prop:=∃wy ch l r,R = .tup [wy,ch,l,r]/\jg x wy ch l r
def cF(s R:D)(w:List Nat):List Nat:=match iK.eZ [s,R,.str w] with
 | some (.str o)=>o
 | _=>[]
section
variable{x:List Nat}{s:D}
theorem aex(hx:x∈XS)(hs:s∈sides){R:D}(hR:bV x R){w:List Nat}(hw:∀c∈w,c∈x)(hn:w.length<=30000) :
  eZ [s,R,.str w]=some (.str (cF s R w))/\(∀c∈cF s R w,c∈x)/\(cF s R w).length<=2*w.length+1:=by
 obtain⟨wy,ch,l,r,rfl,h⟩:=hR;obtain⟨o,h1,h3⟩:=iK.Rx hx h hw hn s hs;have e:cF s (.tup [wy,ch,l,r]) w=o:=by unfold cF;rw[h1]
 rw[e];exact⟨h1,h3⟩
def fin(s:D)(Rs:List D)(w:List Nat):List Nat:=Rs.foldl (λv R=>cF s R v) w
variable(hx:x∈XS)(hs:s∈sides){Rs:List D}(hR:∀R∈Rs,bV x R)(h4:Rs.length<=10){w:List Nat}(hw:∀c∈w,c∈x)(hn:(w.length+1)*2^Rs.length<=301)
include hx hs hR h4 hw hn
end
end DP
namespace K10
open Ev PySem L2
open iK (XS sides jg sr mz fit fK sg ed pc pin inn nw dI cg out look uD encC gf Pr)
def J(g:Nat->Nat->List Nat):Nat->List Nat->Nat->List Nat
 | p,[],q=>g p q
 | p,a::t,q=>g p a++a::J g a t q
section
variable{x w:List Nat}{l r:D}{c:Nat}{kvs:List (D×D)}
theorem drop_cons{n:Nat}(h:n<w.length):w.drop n=sg w (n+1)::w.drop (n+1):=by
 have e:sg w (n+1)=w[n]:=by
  have:=(iK.JL (x:=w) (w:=w) (λc hc=>hc) h).1;rw[this,Qw4,Qwk h]
  rfl
 rw[e];exact Qj5 h
def gP(l r:D)(c a b:Nat):List Nat:=if (fit l a&&fit r b)=true then [c] else []
theorem J3(n:Nat):(pc l r c w n).flatten=gP l r c (sg w n) (sg w (n+1)):=by unfold pc gP;split<;>rfl
theorem Xn:sg w (w.length+1)=35:=by show(w++[35]).getD w.length 0=35;rw[Qw4];simp
theorem WX:∀n,n<=w.length->J (gP l r c) 35 w 35=(pin l r c w n).flatten++J (gP l r c) (sg w n) (w.drop n) 35
 | 0,_=>rfl
 | n+1,h=>by
  rw[WX n (by omega),drop_cons (by omega)];show _++(gP l r c (sg w n) (sg w (n+1))++sg w (n+1)::J (gP l r c) (sg w (n+1)) (w.drop (n+1)) 35)=(pin l r c w n++(pc l r c w n++[[sg w (n+1)]])).flatten++_;rw[Qj0,Qj0,J3];simp
theorem Wh:inn l r c w=J (gP l r c) 35 w 35:=by
 rw[WX w.length (Qq0 _),List.drop_length];unfold inn;rw[Qj0,J3,Xn]
 rfl
def hC(kvs:List (D×D))(l r:D)(a b d:Nat):List Nat:=if ((look kvs b).isSome&&(fit l a&&fit r d))=true then (look kvs b).getD [] else [b]
end
end K10
namespace eG
open Ev
def m7:cu:=oA.m7
def cX:LD:=cH 2 m7
def jb:cu:=oA.jb
def gQ:LD:=cH 5 jb
def gW:cu:=oA.gW
def eY:LD:=cH 1 gW
def jd:cu:=aC (aP (aO 0) (cj 2 (aG (aj 1) (aG (aj 2) cA)))) (aC (fD (eF (aB qz 1 (Zw [114,105,103,104,116]))) (bC (au cV (aa (gC 3 4 (il (aO 2)) (aj 3) dC (au gQ (Zv 3 ak))) ak))) cC) (bC (aO 2)))
def cQ:LD:=cH 3 jd
def jP:cu:=bC (au cV (aa (gC 1 5 (il (au cQ (Zv 0 ak))) (cj 4 (aG (aj 1) (aG (aj 2) (aG (aj 3) (aG (aj 4) cA))))) dC (bN (aa (au cX (Zv 3 (aa (Zw [35]) ak))) (aa (Zw []) ak)))) ak))
def bW:LD:=cH 1 jP
def fP:cu:=oA.fP
def dJ:LD:=cH 10 fP
def gR:cu:=oA.gR
def dR:LD:=cH 10 gR
def kW:cu:=aC (dF 3 (cG ak)) (aC (aP (jG (.bl false)) (aj 4)) (aC (iu (il (aO 2)) (aj 5) (aC (aP (aB fJ 1 (Zi 1)) (aj 6)) (aC (fD (eF (au eY (Zv 0 ak))) (aP (au dJ (Zv 0 (Zv 1 (Zv 5 ak)))) (cj 2 (aG (aj 1) (aG (aj 7) cA)))) (aP (au dR (Zv 0 (Zv 1 (Zv 5 ak)))) (cj 2 (aG (aj 1) (aG (aj 7) cA))))) (aC (aP (oV (aO 4) (aB IK 7 (bw 6))) (aj 4)) (eN 3 (aO 7)))))) (bC (bN (Zv 1 (aa (aQ my (Zw []) (bw 3)) (Zv 4 ak)))))))
def gK:LD:=cH 8 kW
def oY:cu:=aC (aP (aO 2) (aj 3)) (aC (dF 4 (cG ak)) (aC (dF 5 (cG ak)) (aC (iu (yP (aa (au cQ (Zv 0 ak)) (Zv 1 ak))) (cj 2 (aG (aj 6) (aG (aj 7) cA))) (aC (aP (au gK (Zv 6 (Zv 7 (Zv 3 ak)))) (cj 3 (aG (aj 8) (aG (aj 3) (aG (aj 9) cA))))) (aC (eN 4 (aO 8)) (eN 5 (aO 9))))) (bC (bN (aa (au cV (aa (bw 4) ak)) (Zv 3 (aa (au cV (aa (bw 5) ak)) ak))))))))
def gJ:LD:=cH 10 oY
def mJ:cu:=aC (aP (Zw []) (aj 2)) (aC (dF 3 (cG ak)) (aC (iu (yP (aa (au cQ (Zv 0 ak)) (Zv 1 ak))) (cj 2 (aG (aj 4) (aG (aj 5) cA))) (aC (aP (au gK (Zv 4 (Zv 5 (aa (aB cW 2 (Zw [35])) ak)))) (cj 3 (aG (aj 6) (aG (aj 2) (aG (aj 7) cA))))) (eN 3 (aO 7)))) (bC (bN (Zv 2 (aa (au cV (aa (bw 3) ak)) ak))))))
def fL:LD:=cH 8 mJ
def mL:cu:=oA.mL
def iD:LD:=cH 1 mL
def jO:cu:=aC (aP (Zi 0) (aj 2)) (aC (iu (il (cG (aa (aB cW 1 (Zi 1)) (Zv 1 ak)))) (aj 3) (aP (aQ cW (aB rN 2 (aQ Iw (Zi 10) (Zi 60))) (au iD (aa (aQ fJ (aQ cW (vG (aO 0) (Dc (aO 3)) (Dc (aB cW 3 (Zi 1)))) (cG (aa (aQ cW (aQ rN (Zi 7919) (bw 3)) (Zi 61)) ak))) (Zi 0)) ak))) (aj 2))) (xP (cG (Zv 2 ak))))
def oU:LD:=runN 4 jO
def o4:cu:=iK.o4
def CZ:LD:=cH 1 o4
open Ev PySem L2
open fV (SG cP)
open iK (XS sides jg mz fit fK uD look jz xA gf encC uh sr iJ)
open DP (bV)
abbrev St:=Bool×List Nat
def bj(s:St):D:=.tup [.bl s.1,.str s.2]
inductive Rl
 | put (c:Nat) (l r:D)
 | chg (al:Bool) (kvs:List (D×D)) (l r:D)
def uC(kvs:List (D×D))(s:Nat)(b:Bool):List Nat:=if b=true then (look kvs s).getD [s] else [s]
def RZ(al:Bool)(l:D)(s:Nat)(b:Bool)(p:List Nat):Bool:=if al=true then (if p=[] then b else fit l (p.headD 0)) else fit l s
def stp:Rl->St->Nat->St×List Nat
 | .put c l r,s,a=>((fit l a,[a]),s.2++(if (s.1&&fit r a)=true then [c] else []))
 | .chg al kvs l r,s,a=>match s.2 with
  | []=>((s.1,[a]),[])
  | h::_=>((RZ al l h s.1 (uC kvs h (s.1&&fit r a)),[a]),uC kvs h (s.1&&fit r a))
def rd(ρ:Rl):St->List Nat->St×List Nat
 | s,[]=>(s,[])
 | s,a::z=>((rd ρ (stp ρ s a).1 z).1,(stp ρ s a).2++(rd ρ (stp ρ s a).1 z).2)
theorem oJ(ρ:Rl):∀(z:List Nat) (s:St) (y:List Nat),rd ρ s (z++y)=((rd ρ (rd ρ s z).1 y).1,(rd ρ s z).2++(rd ρ (rd ρ s z).1 y).2)
 | [],s,y=>rfl
 | a::z,s,y=>by
  show((rd ρ (stp ρ s a).1 (z++y)).1,(stp ρ s a).2++(rd ρ (stp ρ s a).1 (z++y)).2)=_;rw[oJ ρ z];show _=((rd ρ (rd ρ (stp ρ s a).1 z).1 y).1,((stp ρ s a).2++(rd ρ (stp ρ s a).1 z).2)++_);rw[Qzq]
  rfl
theorem rD(ρ:Rl)(s:St)(a:Nat):rd ρ s [a]=stp ρ s a:=by show((stp ρ s a).1,(stp ρ s a).2++[])=_;rw[Qxv]
theorem tD(ρ:Rl)(s:St)(z:List Nat)(a:Nat):rd ρ s (z++[a])=((stp ρ (rd ρ s z).1 a).1,(rd ρ s z).2++(stp ρ (rd ρ s z).1 a).2):=by rw[oJ,rD]
inductive Is (x:List Nat):D->Rl->Prop
 | put {wy l r:D} {c:Nat}:c∈x->l∈SG x->r∈SG x->Is x (.tup [wy,.tup [.tup [.str [],.str [c]]],l,r]) (.put c l r)
 | chg {al:Bool} {ps:List iK.Pr} {kvs:List (D×D)} {l r:D}:0<ps.length->pq [.tup (ps.map encC)]=some (.dct kvs)->uD x kvs->l∈SG x->r∈SG x->Is x (.tup [gf al,.tup (ps.map encC),l,r]) (.chg al kvs l r)
theorem W4{w:D}(h:w = .str [111,110,99,101]\/w = .str [97,108,111,110,103]):∃al,w=gf al:=by
 rcases h with rfl|rfl
 ·exact⟨false,rfl⟩
 ·exact⟨true,rfl⟩
theorem Ke{x:List Nat}{R:D}(h:bV x R):∃ρ,Is x R ρ:=by
 obtain⟨wy,ch,l,r,rfl,h⟩:=h;obtain⟨h1,h2,h3,h4⟩:=h;cases h2 with
 | put hc=>exact⟨_,.put hc h3 h4⟩
 | chg hp hp4 hps=>
  obtain⟨al,rfl⟩:=W4 h1;obtain⟨kvs,hd,hk⟩:=uh hps;exact⟨_,.chg hp hd hk h3 h4⟩
def kj(x:List Nat)(s:St):Prop:=s.2.length<=1/\∀c∈s.2,c∈35::x
theorem JV{x:List Nat}{kvs:List (D×D)}(hk:uD x kvs)(s:Nat)(hs:s∈35::x)(b:Bool):(uC kvs s b).length<=1/\∀c∈uC kvs s b,c∈35::x:=by
 unfold uC;split
 ·cases e:look kvs s with
  | none=>exact⟨Qq0 _,λc hc=>by rw[Qq1.mp hc];exact hs⟩
  | some t=>exact⟨(jz hk e).2.1,λc hc=>Qqq _ ((jz hk e).2.2 c hc)⟩
 ·exact⟨Qq0 _,λc hc=>by rw[Qq1.mp hc];exact hs⟩
theorem Oc{x:List Nat}{R:D}{ρ:Rl}(hR:Is x R ρ){s:St}(hs:kj x s){a:Nat}(ha:a∈35::x):kj x (stp ρ s a).1/\(stp ρ s a).2.length<=2/\∀c∈(stp ρ s a).2,c∈35::x:=by
 have h1:∀b:Bool,kj x (b,[a]):=λb=>⟨Qq0 _,λc hc=>by rw[Qq1.mp hc];exact ha⟩;cases hR with
 | put hc hl hr=>
  refine⟨h1 _,?_,?_⟩
  ·show(s.2++_).length<=2;have:=hs.1;rw[Qqz];split
   ·rw[Qq9];omega
   ·rw[Qjw];omega
  ·intro c hm;rcases Qww.mp hm with hm|hm
   ·exact hs.2 c hm
   ·split at hm
    ·rw[Qq1.mp hm];exact Qqq _ hc
    ·simp at hm
 | chg hp hd hk hl hr=>
  obtain⟨b,h⟩:=s
  match h,hs with
  | [],hs=>exact⟨h1 _,Qx0 _,λc hc=>by simp[stp] at hc⟩
  | s::h,hs=>
   exact⟨h1 _,Qq6 (JV hk s (hs.2 s (Qqj ..)) _).1 (by decide),(JV hk s (hs.2 s (Qqj ..)) _).2⟩
theorem Ai{x:List Nat}{R:D}{ρ:Rl}(hR:Is x R ρ):∀(z:List Nat) {s:St},kj x s->(∀a∈z,a∈35::x)->kj x (rd ρ s z).1/\(rd ρ s z).2.length<=2*z.length/\∀c∈(rd ρ s z).2,c∈35::x
 | [],s,hs,_=>⟨hs,Qq0 _,λc hc=>by simp[rd] at hc⟩
 | a::z,s,hs,hz=>by
  obtain⟨h1,h2,h3⟩:=Oc hR hs (hz a (Qqj ..));obtain⟨h4,h5,h6⟩:=Ai hR z h1 λb hb=>hz b (Qqq _ hb);refine⟨h4,?_,?_⟩
  ·show((stp ρ s a).2++(rd ρ (stp ρ s a).1 z).2).length<=_;rw[Qqz,Qqy];omega
  ·intro c hc;rcases Qww.mp (show c∈(stp ρ s a).2++(rd ρ (stp ρ s a).1 z).2 from hc) with hc|hc
   ·exact h3 c hc
   ·exact h6 c hc
theorem aee{x:List Nat}{kvs:List (D×D)}(hk:uD x kvs)(s:Nat):Rh (.dct kvs) (.str [s]) (.str [s])=some (.str ((look kvs s).getD [s])):=by
 show some ((dM kvs (.inr (strOf [s]))).getD (.str [s]))=_;unfold look;cases e:dM kvs (.inr (strOf [s])) with
 | none=>rfl
 | some v=>
  obtain⟨k,hm,_⟩:=fV.kZ e;obtain⟨t,rfl,_⟩:=hk k v hm
  rfl
theorem MN{a b c:Ev}{env e1 e2 e3:Ev.Env}{kvs:List (D×D)}{k t d:D}(h1:a env = .ok (.dct kvs) e1)(h2:b e1 = .ok k e2)(h3:c e2 = .ok t e3)(h:Rh (.dct kvs) k t=some d):Dg a b c env = .ok d e3:=by
 unfold Dg;rw[h1];simp only[bindR];rw[h2];simp only;rw[h3];simp only;rw[h]
 rfl
theorem Vd(wy ch l r:D)(b:Bool)(a:Nat):dR [.tup [wy,ch,l,r],bj (b,[]),.str [a]]=some (.tup [bj (b,[a]),.str []]):=rfl
section
variable{x:List Nat}{l r:D}(hx:x∈XS)(hl:l∈SG x)(hr:r∈SG x)
include hx hl hr
theorem O3(wy:D)(c:Nat)(b:Bool)(h:List Nat)(hh:h.length<=1)(a:Nat)(ha:a∈35::x) :
  dJ [.tup [wy,.tup [.tup [.str [],.str [c]]],l,r],bj (b,h),.str [a]]=some (.tup [bj (stp (.put c l r) (b,h) a).1,.str (stp (.put c l r) (b,h) a).2]):=by
 generalize hR:D.tup [wy,.tup [.tup [.str [],.str [c]]],l,r]=R;generalize hS:bj (b,h)=S;have fl:=fK x hx l hl a ha;have fr:=fK x hx r hr a ha;show _=some (D.tup [.tup [.bl (fit l a),.str [a]],.str (h++(if (b&&fit r a)=true then [c] else []))]);generalize hP:(h++(if (b&&fit r a)=true then [c] else []))=p;refine bT (env:=[Zf R,Zf S,Zs [a],Zf wy,Zf (.tup [.tup [.str [],.str [c]]]),Zf l,Zf r,Zb b,Zs h,Zs p]) ?_;unfold fP;refine(aA (e:=[Zf R,Zf S,Zs [a],Zf wy,Zf (.tup [.tup [.str [],.str [c]]]),Zf l,Zf r,Zn,Zn,Zn]) (by rw[<-hR];rfl)).trans ?_;refine(aA (e:=[Zf R,Zf S,Zs [a],Zf wy,Zf (.tup [.tup [.str [],.str [c]]]),Zf l,Zf r,Zb b,Zs h,Zn]) (by rw[<-hS];rfl)).trans ?_;refine(aA rfl).trans ?_;refine(aA (e:=[Zf R,Zf S,Zs [a],Zf wy,Zf (.tup [.tup [.str [],.str [c]]]),Zf l,Zf r,Zb b,Zs h,Zs p]) ?_).trans ?_
 ·have t:ie (eF (aO 7)) (eF (au cX (Zv 6 (Zv 2 ak)))) [Zf R,Zf S,Zs [a],Zf wy,Zf (.tup [.tup [.str [],.str [c]]]),Zf l,Zf r,Zb b,Zs h,Zs h] = .ok (b&&fit r a) [Zf R,Zf S,Zs [a],Zf wy,Zf (.tup [.tup [.str [],.str [c]]]),Zf l,Zf r,Zb b,Zs h,Zs h]:=
   iJ rfl (eU (aF rfl fr))
  cases hc:b&&fit r a with
  | true=>
   rw[hc] at t hP;rw[if_pos rfl] at hP;rw[<-hP];exact(gH t).trans (bz (bL rfl rfl rfl (mz (by show h.length+1<=100000;omega))) rfl)
  | false=>
   rw[hc] at t hP;rw[if_neg Qw8,Qxv] at hP;rw[<-hP];exact(dZ t).trans rfl
 ·refine bH (cZ (aH (cZ (aH (aF (by rfl) fl) (aH (by rfl) bD)) Ev.Jt) (aH (by rfl) bD)) Ev.Jt)
theorem O4(al:Bool){kvs:List (D×D)}(hk:uD x kvs)(ch:D)(hd:pq [ch]=some (.dct kvs))(b:Bool)(s:Nat)(hs:s∈35::x)(a:Nat)(ha:a∈35::x) :
  dR [.tup [gf al,ch,l,r],bj (b,[s]),.str [a]]=some (.tup [bj (stp (.chg al kvs l r) (b,[s]) a).1,.str (stp (.chg al kvs l r) (b,[s]) a).2]):=by
 generalize hR:D.tup [gf al,ch,l,r]=R;generalize hS:bj (b,[s])=S;have fs:=fK x hx l hl s hs;have fr:=fK x hx r hr a ha;have hp:=JV hk s hs (b&&fit r a);show _=some (D.tup [.tup [.bl (RZ al l s b (uC kvs s (b&&fit r a))),.str [a]],.str (uC kvs s (b&&fit r a))]);have hP:uC kvs s (b&&fit r a)=if (b&&fit r a)=true then (look kvs s).getD [s] else [s]:=rfl
 generalize uC kvs s (b&&fit r a)=p at *;refine bT (env:=[Zf R,Zf S,Zs [a],Zf (gf al),Zf ch,Zf l,Zf r,Zb b,Zs [s],Zs p]) ?_;unfold gR;refine(aA (e:=[Zf R,Zf S,Zs [a],Zf (gf al),Zf ch,Zf l,Zf r,Zn,Zn,Zn]) (by rw[<-hR];rfl)).trans ?_;refine(aA (e:=[Zf R,Zf S,Zs [a],Zf (gf al),Zf ch,Zf l,Zf r,Zb b,Zs [s],Zn]) (by rw[<-hS];rfl)).trans ?_;refine(aA ((dZ (by rfl)).trans rfl)).trans ?_;refine(aA rfl).trans ?_;refine(aA (e:=[Zf R,Zf S,Zs [a],Zf (gf al),Zf ch,Zf l,Zf r,Zb b,Zs [s],Zs p]) ?_).trans ?_
 ·have t:ie (eF (aO 7)) (eF (au cX (Zv 6 (Zv 2 ak)))) [Zf R,Zf S,Zs [a],Zf (gf al),Zf ch,Zf l,Zf r,Zb b,Zs [s],Zs [s]] = .ok (b&&fit r a) [Zf R,Zf S,Zs [a],Zf (gf al),Zf ch,Zf l,Zf r,Zb b,Zs [s],Zs [s]]:=
   iJ rfl (eU (aF rfl fr))
  cases hc:b&&fit r a with
  | true=>
   rw[hc] at t hP;rw[if_pos rfl] at hP;rw[hP];exact(gH t).trans (bz (MN (aF rfl hd) rfl rfl (aee hk s)) rfl)
  | false=>
   rw[hc] at t hP;rw[if_neg Qw8] at hP;rw[hP];exact(dZ t).trans rfl
 ·cases al with
  | false=>
   refine(gO ?_).trans rfl;refine(gH rfl).trans ?_;refine bH (cZ (aH (cZ (aH (aF rfl fs) (aH rfl bD)) Ev.Jt) (aH rfl bD)) Ev.Jt)
  | true=>
   refine(aA ((dZ (by rfl)).trans rfl)).trans ?_
   match p,hp with
   | [],_=>rfl
   | [q],hp=>
    have fq:=fK x hx l hl q (hp.2 q (Qqj ..));refine(aA ((dZ (by rfl)).trans rfl)).trans ?_;exact bH (cZ (aH (cZ (aH (aF rfl fq) (aH rfl bD)) Ev.Jt) (aH rfl bD)) Ev.Jt)
   | _::_::_,hp=>exact absurd hp.1 (by simp)
end
theorem De{a b:Ev}{env:Ev.Env}{p q:Bool}(h1:a env = .ok (.bl p) env)(h2:b env = .ok (.bl q) env):oV a b env = .ok (.bl (p||q)) env:=by
 cases p with
 | true=>rw[ZX h1];rfl
 | false=>rw[Dd h1,h2];rfl
theorem BJ:∀{y z:List Nat},ou y=ou z->y=z
 | [],[],_=>rfl
 | [],_::_,h=>by cases h
 | _::_,[],h=>by cases h
 | a::y,b::z,h=>by
  have h1:D.str [a]::ou y=D.str [b]::ou z:=h;injection h1 with h2 h3
  injection h2 with h4
  injection h4 with h5
  rw[h5,BJ h3]
theorem Er(y:List Nat)(a:Nat):ou (y++[a])=ou y++[.str [a]]:=by unfold ou;rw[Qx2];rfl
theorem JK{z:List Nat}{done rest:List D}{d:D}(h:ou z=done++d::rest):∃a,d = .str [a]/\a∈z/\done.length<z.length:=by
 have hm:d∈ou z:=by rw[h];exact Qxq _ (Qqj ..)
 obtain⟨a,ha,rfl⟩:=Qwq.mp hm;have:=Qx5 List.length h;unfold ou at this;rw[Qqw,Qqz,Qqy] at this;exact⟨a,rfl,ha,by omega⟩
theorem Rc(ρ:Rl)(s:St)(a:Nat):(stp ρ s a).1.2=[a]:=by
 cases ρ with
 | put c l r=>rfl
 | chg al kvs l r=>
  obtain⟨b,h⟩:=s;cases h<;>rfl
theorem Ri{ps:List iK.Pr}(hp:0<ps.length){env:Ev.Env}{wy l r:D}(h:env[0]? = some (Zf (.tup [wy,.tup (ps.map encC),l,r]))):aQ qz (aQ fJ (aQ fJ (aB fJ 0 (Zi 1)) (Zi 0)) (Zi 0)) (Zw []) env = .ok (.bl false) env:=by
 match ps,hp with
 | p::ps,_=>
  refine bJ (x:=.str [p.1]) ?_ rfl rfl;refine bJ (x:=encC p) ?_ rfl rfl;refine bJ (x:=.tup ((p::ps).map encC)) ?_ rfl (kY (j:=0) rfl);exact bL h rfl h rfl
section
variable{x:List Nat}{R:D}{ρ:Rl}(hx:x∈XS)(hR:Is x R ρ)
include hx hR
theorem one_sign{s:St}(hs:kj x s){a:Nat}(ha:a∈35::x) :
  (eY [R]=some (.bl true)/\dJ [R,bj s,.str [a]]=some (.tup [bj (stp ρ s a).1,.str (stp ρ s a).2]))\/(eY [R]=some (.bl false)/\dR [R,bj s,.str [a]]=some (.tup [bj (stp ρ s a).1,.str (stp ρ s a).2])):=by
 cases hR with
 | put hc hl hr=>exact .inl ⟨rfl,O3 hx hl hr _ _ s.1 s.2 hs.1 a ha⟩
 | chg hp hd hk hl hr=>
  rename_i al ps kvs l r;refine .inr ⟨?_,?_⟩
  ·exact bT (bH (Ri hp rfl))
  ·obtain⟨b,h⟩:=s
   match h,hs with
   | [],hs=>exact Vd _ _ _ _ _ _
   | [s],hs=>exact O4 hx hl hr al hk _ hd b s (hs.2 s (Qqj ..)) a ha
   | _::_::_,hs=>exact absurd hs.1 (by simp)
def HH:cu:=oA.pg
end
theorem qC{g:GV}{b:cu}{d:D}{ds:List D}{env e1 e2:Ev.Env}(h1:g d env=some e1)(h2:b e1 = .nx e2):iY g b (d::ds) env=iY g b ds e2:=by
 conv=>lhs;unfold iY
 rw[h1];simp only;rw[h2]
def tn:D->D
 | .tup [wy,ch,l,r]=>.tup [wy,ch,r,l]
 | d=>d
def lf:D->D
 | .tup [_,_,l,_]=>l
 | d=>d
def rt:D->Bool
 | .str (114::_)=>true
 | _=>false
def lay(s:D)(Rs:List D):List D:=if rt s=true then Rs.map tn else Rs
theorem Aa{x:List Nat}{R:D}(h:bV x R):bV x (tn R)/\gQ [R]=some (tn R)/\CZ [R]=some (tn R):=by obtain⟨wy,ch,l,r,rfl,h1,h2,h3,h4⟩:=h;exact⟨⟨wy,ch,r,l,rfl,h1,h2,h4,h3⟩,rfl,rfl⟩
theorem CP(s:D)(Rs:List D):(lay s Rs).length=Rs.length:=by
 unfold lay;split
 ·rw[Qqw]
 ·rfl
theorem Il{x:List Nat}{s:D}{Rs:List D}(h:∀R∈Rs,bV x R):∀R∈lay s Rs,bV x R:=by
 unfold lay;split
 ·intro R hR;obtain⟨Q,hQ,rfl⟩:=Qwq.mp hR;exact(Aa (h Q hQ)).1
 ·exact h
noncomputable def dh(x:List Nat)(R:D):Rl:=open Classical in if h:∃ρ,Is x R ρ then h.choose else .put 0 .non .non
theorem pU{x:List Nat}{R:D}(h:bV x R):Is x R (dh x R):=by unfold dh;rw[dif_pos (Ke h)];exact(Ke h).choose_spec
noncomputable def vV(x:List Nat):List D->List St->List Nat->List St×List Nat
 | R::Rs,s::ss,z=>((rd (dh x R) s z).1::(vV x Rs ss (rd (dh x R) s z).2).1,(vV x Rs ss (rd (dh x R) s z).2).2)
 | _,_,z=>([],z)
noncomputable def Nk(x:List Nat):List D->List St->List Nat->List Nat
 | R::Rs,s::ss,z=>Nk x Rs ss (rd (dh x R) s (z++[35])).2
 | _,_,z=>z
def fss(Rs:List D):List St:=Rs.map λR=>(fit (lf R) 35,[])
section
variable{x:List Nat}{s:D}(hx:x∈XS)(hs:s∈sides){Rs:List D}(hR:∀R∈Rs,bV x R)(h4:Rs.length<=10)
include hx hs hR h4
theorem reading_rules:cQ [.tup [s,.tup Rs]]=some (.tup (lay s Rs)):=by
 rcases Qq2.mp hs with rfl|hs
 ·rfl
 ·cases Qq1.mp hs;obtain⟨env',g1,v5,rfl⟩:=xC (g:=aj 3) (e:=au gQ (Zv 3 ak)) (λenv=>∃v5,env=[Zf (.tup [.str [114,105,103,104,116],.tup Rs]),Zs [114,105,103,104,116],Zf (.tup Rs),v5]) tn Rs
   [Zf (.tup [.str [114,105,103,104,116],.tup Rs]),Zs [114,105,103,104,116],Zf (.tup Rs),Zn] ⟨none,rfl⟩
   (λd hd env ⟨v5,he⟩=>by
    subst he;exact⟨[Zf (.tup [.str [114,105,103,104,116],.tup Rs]),Zs [114,105,103,104,116],Zf (.tup Rs),Zf d],_,rfl,aF rfl (Aa (hR d hd)).2.1,_,rfl⟩)
  let E0:Ev.Env:=[Zf (.tup [.str [114,105,103,104,116],.tup Rs]),Zs [114,105,103,104,116],Zf (.tup Rs)]
  refine bT (env:=E0) ?_;unfold jd;refine(aA rfl).trans ?_;refine(gO ?_).trans rfl;refine(gH rfl).trans ?_;refine bH (aF (ds:=[.lst (Rs.map tn)]) (aH ?_ bD) rfl);exact uf (n:=4) (aK:=E0) rfl rfl g1 (by rw[Qqw];exact Qq6 h4 (by decide))
theorem first_standing:bW [.tup [s,.tup Rs]]=some (.tup ((fss (lay s Rs)).map bj)):=by
 have h1:=reading_rules hx hs hR h4;have h2:=Il (s:=s) hR;have h3:=CP s Rs;generalize lay s Rs=Ls at *;generalize D.tup [s,.tup Rs]=O at *;obtain⟨env',g1,v1,v2,v3,v4,rfl⟩:=xC (g:=cj 4 (aG (aj 1) (aG (aj 2) (aG (aj 3) (aG (aj 4) cA))))) (e:=bN (aa (au cX (Zv 3 (aa (Zw [35]) ak))) (aa (Zw []) ak))) (λenv=>∃v1 v2 v3 v4,env=[Zf O,v1,v2,v3,v4]) (λR=>bj (fit (lf R) 35,[])) Ls
  [Zf O,Zn,Zn,Zn,Zn] ⟨none,Zn,Zn,Zn,rfl⟩
  (λd hd env ⟨v1,v2,v3,v4,he⟩=>by
   subst he;obtain⟨wy,ch,l,r,rfl,hro⟩:=h2 d hd;exact⟨[Zf O,Zf wy,Zf ch,Zf l,Zf r],[Zf O,Zf wy,Zf ch,Zf l,Zf r],rfl,cZ (aH (aF rfl (fK x hx l hro.left 35 (Qqj ..))) rfl) Ev.Jt,_,_,_,_,rfl⟩)
 refine bT (env:=[Zf O]) (bH (aF (ds:=[.lst (Ls.map λR=>bj (fit (lf R) 35,[]))]) (aH ?_ bD) ?_))
 ·exact uf (n:=5) (aK:=[Zf O]) (ug (aF rfl h1) rfl) rfl g1 (by rw[Qqw,h3];exact Qq6 h4 (by decide))
 ·unfold fss;rw[Qx7]
  rfl
end
def Hg:cu:=oA.qM
def Hh:cu:=oA.qd
section
variable{x:List Nat}(hx:x∈XS)
theorem Kr{n m k:Nat}(h:(n+2)*2^(k+1)<=150)(hm:m<=2*(n+1)):(m+2)*2^k<=150/\n<=73:=by
 have h1:(n+2)*2^(k+1)=(2*(n+1)+2)*2^k:=by
  rw[Nat.pow_succ,<-Nat.mul_assoc,Nat.mul_right_comm]
  congr 1
  omega
 have h2:(m+2)*2^k<=(2*(n+1)+2)*2^k:=Nat.mul_le_mul_right _ (by omega);have h3:1<=2^k:=Nat.one_le_two_pow;have h4:2*(n+1)+2<=(2*(n+1)+2)*2^k:=Nat.le_mul_of_pos_right _ h3;omega
include hx
end
open iK (XS sides jg mz sr)
open fV (Dz lQ DN PV SG M3 prs one others JT Dm CT P0 lU DG qw Dn)
open iK (Cq)
def QL(i:Int):Int:=i*915965594177219015054603514932384110774149374281672134266497 % 10^60
theorem Uu(i:Int):(QL i).natAbs<2^200:=by
 unfold QL;have h1:0<=i*915965594177219015054603514932384110774149374281672134266497 % 10^60:=Int.emod_nonneg _ (by decide);have h2:i*915965594177219015054603514932384110774149374281672134266497 % 10^60<10^60:=Int.emod_lt_of_pos _ (by decide);have h3:(10:Int)^60<=2^200:=by decide
 omega
theorem mixed{i:Int}(h:Builtin.Int.intBits i<=2^20):iD [.int i]=some (.int (QL i)):=by
 have hm:jR i 915965594177219015054603514932384110774149374281672134266497=true:=fV.rH h (fV.qF (b:=200) (by decide)) (by decide);have e1:aB rN 0 (Zi 915965594177219015054603514932384110774149374281672134266497) [Zf (.int i)] = .ok (.int (i*915965594177219015054603514932384110774149374281672134266497)) [Zf (.int i)]:=by
  show ig (gI jR (λi j=>D.int (i*j)) (.int i) (.int _)) _=_;unfold gI;simp only;rw[if_pos hm]
  rfl
 show(match bC _ [Zf (.int i)] with|.rt false d _=>some d|.nx _=>some .non|_=>none)=_;rw[bH];unfold aQ;rw[e1]
 rfl
def lJ:cu:=aP (aQ cW (aB rN 2 (aQ Iw (Zi 10) (Zi 60))) (au iD (aa (aQ fJ (aQ cW (vG (aO 0) (Dc (aO 3)) (Dc (aB cW 3 (Zi 1)))) (cG (aa (aQ cW (aQ rN (Zi 7919) (bw 3)) (Zi 61)) ak))) (Zi 0)) ak))) (aj 2)
theorem Aj(ns:List Int)(hl:ns.length<=63)(hb:Ni ns)(k a f:Int)(ha:a.natAbs<2^10)(hf:Builtin.Int.intBits f<=2^20) :
  ∃f':Int,lJ [Zf (.arr (ns.map .int)),Zf (.int k),Zf (.int f),Zf (.int a)] = .nx [Zf (.arr (ns.map .int)),Zf (.int k),Zf (.int f'),Zf (.int a)]/\(f=0->f'.natAbs<2^200):=by
 generalize hE:([Zf (.arr (ns.map .int)),Zf (.int k),Zf (.int f),Zf (.int a)]:Ev.Env)=env;have m1:jR 7919 a=true:=fV.rH (a:=20) (fV.qF (by decide)) (fV.qF ha) (by decide);have m2:jR f (10^(60:Int).toNat)=true:=fV.rH (b:=200) hf (fV.qF (by decide)) (by decide);have e1:vG (aO 0) (Dc (aO 3)) (Dc (aB cW 3 (Zi 1))) env = .ok (.lst (cutD (ns.map .int) (some a) (some (a+1)))) env:=by rw[<-hE];rfl
 have e2:cG (aa (aQ cW (aQ rN (Zi 7919) (bw 3)) (Zi 61)) ak) env = .ok (.lst [.int (7919*a+61)]) env:=by refine Rm (aH (bJ (bJ rfl (by rw[<-hE];rfl) (Km m1)) rfl rfl) bD) Ev.zz1
 generalize hL:cutD (ns.map D.int) (some a) (some (a+1))=L at e1;have hLl:L.length<=63:=by rw[<-hL];exact Qq6 (qi _ _ _) (by rw[Qqw];exact hl)
 have e3:aQ cW (vG (aO 0) (Dc (aO 3)) (Dc (aB cW 3 (Zi 1)))) (cG (aa (aQ cW (aQ rN (Zi 7919) (bw 3)) (Zi 61)) ak)) env = .ok (.lst (L++[.int (7919*a+61)])) env:=by exact bJ e1 e2 (Gp (by show L.length+1<=sizeLine;exact Qq6 (Nat.succ_le_succ hLl) (by decide)))
 obtain⟨c,hc,hcb⟩:∃c:Int,wF (L++[.int (7919*a+61)]) 0=some (.int c)/\Builtin.Int.intBits c<=2^20:=by
  cases hLc:L with
  | nil=>
   refine⟨7919*a+61,rfl,Qq6 (fV.qF (b:=30) ?_) (by decide)⟩;omega
  | cons y r=>
   have hy:y∈ns.map D.int:=fV.Vb (by rw[hL,hLc];exact Qqj ..);obtain⟨i,hi,rfl⟩:=Qwq.mp hy;exact⟨i,fV.RK _ _,hb i hi⟩
 have e4:au iD (aa (aQ fJ (aQ cW (vG (aO 0) (Dc (aO 3)) (Dc (aB cW 3 (Zi 1)))) (cG (aa (aQ cW (aQ rN (Zi 7919) (bw 3)) (Zi 61)) ak))) (Zi 0)) ak) env = .ok (.int (QL c)) env:=by exact aF (aH (bJ e3 rfl hc) bD) (mixed hcb)
 refine⟨f*10^(60:Int).toNat+QL c,?_,λh0=>?_⟩
 ·unfold lJ;refine bz (e:=env) ?_ (by rw[<-hE];rfl);have e5:aB rN 2 (aQ Iw (Zi 10) (Zi 60)) env = .ok (.int (f*10^(60:Int).toNat)) env:=by
   rw[<-hE];exact bL rfl rfl rfl (Km m2)
  exact bJ e5 e4 rfl
 ·rw[h0,Int.zero_mul,Int.zero_add];exact Uu c
theorem pack(ns:List Int)(hl:ns.length<=63)(hb:Ni ns)(k:Int)(h0:0<=k)(h1:k<=500):∃p:Int,oU [.arr (ns.map .int),.int k]=some (.lst [.int p]):=by
 obtain⟨f1,e1,b1⟩:=Aj ns hl hb k (k+1) 0 (by omega) (by decide);obtain⟨f2,e2,_⟩:=Aj ns hl hb k k f1 (by omega) (Qq6 (fV.qF (b1 rfl)) (by decide));refine⟨f2,?_⟩;have h:jO [Zf (.arr (ns.map .int)),Zf (.int k),Zn,Zn] = .rt true (.lst [.int f2]) [Zf (.arr (ns.map .int)),Zf (.int k),Zf (.int f2),Zf (.int k)]:=by
  unfold jO;refine(aA rfl).trans ?_;refine(aA (e:=[Zf (.arr (ns.map .int)),Zf (.int k),Zf (.int f2),Zf (.int k)]) ?_).trans rfl;refine(ir rfl).trans ?_;show iY (aj 3) lJ [.int (k+1),.int k] _=_;unfold iY;show(match lJ [Zf (.arr (ns.map .int)),Zf (.int k),Zf (.int 0),Zf (.int (k+1))] with|.nx e2=>iY (aj 3) lJ [.int k] e2|.ct e2=>_|.bk e2=>_|.rt o d e2=>_|.stuck=>_)=_;rw[e1];simp only;unfold iY;show(match lJ [Zf (.arr (ns.map .int)),Zf (.int k),Zf (.int f1),Zf (.int k)] with|.nx e2=>iY (aj 3) lJ [] e2|.ct e2=>_|.bk e2=>_|.rt o d e2=>_|.stuck=>_)=_;rw[e2]
  rfl
 show(match jO _ with|.rt true d _=>some d|_=>none)=_;have e:envOf 4 [D.arr (ns.map .int),.int k]=[Zf (.arr (ns.map .int)),Zf (.int k),Zn,Zn]:=rfl;rw[e,h]
theorem changes(n:Int)(x:List Nat)(hx:x∈XS):∃ch n',fV.iZ [.lst [.int n],.str x]=some (ch,.lst [.int n'])/\sr x ch:=by
 obtain⟨d,hd,e⟩:=dig n 5 (by decide);have hp:=Dz x hx;have hl4:=lQ x hx;have t:eF (aQ qz (f9 fV.bB 0 (aa (Zi 5) ak)) (Zi 0)) [Zl [.int n],Zs x,Zn,Zn,Zn,Zn] = .ok ((d:Int) == 0) [Zl [.int (n / 5)],Zs x,Zn,Zn,Zn,Zn]:=by
  rw[<-e]
  rfl
 by_cases h0:d=0
 ·subst h0;obtain⟨j,hj,ej⟩:=dig (n / 5) x.length hp;refine⟨.tup [.tup [.str [],.str [x[j]]]],n / 5 / (x.length:Int),lG (env:=[Zl [.int (n / 5 / (x.length:Int))],Zs x,Zn,Zn,Zn,Zn]) ?_ rfl,.put (List.getElem_mem hj)⟩;unfold fV.jc;refine(gO ?_).trans rfl;refine(gH t).trans ?_;refine bH (cZ (aH (cZ (aH rfl (aH ?_ bD)) Ev.Jt) bD) Ev.zz1);refine bL (y:=.int (n / 5 % (x.length:Int))) rfl ?_ rfl ?_
  ·exact mG (e1:=[Zl [.int (n / 5)],Zs x,Zn,Zn,Zn,Zn]) rfl rfl rfl (lU _ x.length hp (by omega))
  ·show(wF x (n / 5 % (x.length:Int))).map _=_;rw[ej,Jk hj]
   rfl
 ·have t0:((d:Int) == 0)=false:=by rw[Qzw];omega
  rw[t0] at t;obtain⟨j,hj,ej⟩:=dig (n / 5) 3 (by decide);obtain⟨ds,hds,hl1,hl2⟩:∃ds,HN [.int (1+(j:Int))]=some ds/\0<ds.length/\ds.length<=4:=by
   have hc:j=0\/j=1\/j=2:=by omega
   rcases hc with rfl|rfl|rfl
   ·exact⟨_,rfl,by decide,by decide⟩
   ·exact⟨_,rfl,by decide,by decide⟩
   ·exact⟨_,rfl,by decide,by decide⟩
  obtain⟨e',f1,n',kvs,zs,v3,v4,v5,rfl,hk,hz1,hz2⟩:=nW (g:=aj 3) ds
   (λdone env=>∃n kvs zs v3 v4 v5,env=[Zl [.int n],Zs x,Zt (.dct kvs),v3,v4,v5]/\DN x kvs zs/\zs.length<=done.length/\(0<done.length->0<zs.length))
   (λdone s rest hall env ⟨n,kvs,zs,v3,v4,v5,he,hk,hz1,hz2⟩=>by
    subst he;have hdl:done.length<=4:=by have:=Qx5 List.length hall;rw[Qqz,Qqy] at this;omega
    have hkl:kvs.length=zs.length:=by
     have:=Qx5 List.length hk.keys
     rwa [Qqw,Qqw] at this
    obtain⟨p,n',w4,w5,hpv,hb⟩:=fV.round n x hx kvs (by omega) (Zf s) v4 v5;obtain⟨zs',hk',z1,z2⟩:=hk.put hpv (DG hpv);exact⟨_,_,rfl,hb,n',_,zs',_,_,_,rfl,hk',by rw[Qqz,Qq9];omega,λ_=>z1⟩)
   [Zl [.int (n / 5 / 3)],Zs x,Zt (.dct []),Zn,Zn,Zn] ⟨_,[],[],_,_,_,rfl,⟨rfl,.nil,λc hc=>by simp at hc,λk v h=>by simp at h⟩,Qq0 _,λh=>h⟩
  have hz3:zs.length<=4:=Qq6 hz1 hl2;have hok:sr x (.tup (prs kvs ((iU (zs.map λc=>[c])).map D.str))):=by
   obtain⟨ps,e1,e2,e3⟩:=Cq hx _ (CT hk);have hl:ps.length=zs.length:=by rw[e2,Qqw,(iw _).length_eq,Qqw]
   rw[e1];have:=hz2 hl1;exact .chg (by omega) (by omega) e3
  let E0:Ev.Env:=[Zl [.int n'],Zs x,Zt (.dct kvs),v3,v4,v5]
  refine⟨_,n',lG (env:=E0) ?_ rfl,hok⟩;unfold fV.jc;refine(aA ((dZ t).trans rfl)).trans ?_;refine(aA (e:=[Zl [.int (n / 5)],Zs x,Zt (.dct []),Zn,Zn,Zn]) rfl).trans ?_;refine(aA (e:=E0) ?_).trans ?_
  ·refine(ir ?_).trans f1;have a1:aa (aQ cW (Zi 1) (f9 fV.bB 0 (aa (Zi 3) ak))) ak [Zl [.int (n / 5)],Zs x,Zt (.dct []),Zn,Zn,Zn] = .ok [.int (1+n / 5 % 3)] [Zl [.int (n / 5 / 3)],Zs x,Zt (.dct []),Zn,Zn,Zn]:=by rfl
   unfold km;rw[a1];show ig (HN [.int (1+n / 5 % ((3:Nat):Int))]) _=_;rw[ej,hds]
   rfl
  ·exact Dm (Dn hk hz3) _ _ _ _ _
theorem rule(n:Int)(x:List Nat)(hx:x∈XS):∃w ch l r n',fV.je [.lst [.int n],.str x]=some (.tup [w,ch,l,r],.lst [.int n'])/\jg x w ch l r:=by
 obtain⟨d,hd,e⟩:=dig n 2 (by decide);obtain⟨w,hw,h1⟩:∃w,(w = .str [111,110,99,101]\/w = .str [97,108,111,110,103])/\fJ (.lst [.str [111,110,99,101],.str [97,108,111,110,103]]) (.int (d:Int))=some w:=by
  have hc:d=0\/d=1:=by omega
  rcases hc with rfl|rfl
  ·exact⟨_,.inl rfl,rfl⟩
  ·exact⟨_,.inr rfl,rfl⟩
 obtain⟨ch,n1,h2,h3⟩:=changes (n / 2) x hx;obtain⟨l,n2,h5,h6⟩:=fV.signs n1 x hx;obtain⟨r,n3,h7,h8⟩:=fV.signs n2 x hx;refine⟨w,ch,l,r,n3,lG (env:=[Zl [.int n3],Zs x,Zf w,Zf ch]) ?_ rfl,⟨hw,h3,h6,h8⟩⟩;unfold fV.o6
 let E2:Ev.Env:=[Zl [.int (n / 2)],Zs x,Zf w,Zn]
 refine(aA (e:=E2) ?_).trans ?_
 ·refine bz (d:=w) (e:=[Zl [.int (n / 2)],Zs x,Zn,Zn]) ?_ rfl;refine bJ rfl rfl ?_;have e2:n % 2=(d:Int):=e;rw[e2];exact h1
 let E1:Ev.Env:=[Zl [.int n1],Zs x,Zf w,Zf ch]
 refine(aA (e:=E1) ?_).trans ?_
 ·exact bz (mG (e1:=E2) rfl rfl rfl h2) rfl
 ·let E0:Ev.Env:=[Zl [.int n2],Zs x,Zf w,Zf ch]
  refine bH (cZ (aH (d:=w) rfl (aH rfl (aH (d:=l) (e1:=E0) ?_ (aH (d:=r) ?_ bD)))) Ev.zz4)
  ·exact mG (e1:=E1) rfl rfl rfl h5
  ·exact mG (e1:=E0) rfl rfl rfl h7
open iK (XS sides jg mz fit fK)
theorem Gs{a:dD}{env e:Ev.Env}{x y:List D}(h:a env = .ok [.tup x,.tup y] e):yP a env = .ok (xH x y) e:=by unfold yP;rw[h];rfl
structure GR(x:List Nat)(s:D)(Rs:List D)(ss:List St):Prop where
 hx:x∈XS
 hs:s∈sides
 hR:∀R∈Rs,bV x R
 h4:Rs.length<=4
 hl:ss.length=Rs.length
 hS:∀t∈ss,kj x t
theorem aaS{n m:Nat}(h:n<=4)(hm:m<=7):(m+2)*2^n<=150:=by have h1:2^n<=2^4:=Nat.pow_le_pow_right (by decide) h;have h2:(m+2)*2^n<=9*2^4:=Nat.mul_le_mul (by omega) h1;omega
end eG
namespace Bk
open Ev PySem L2
open fV (SG cP)
open iK (XS sides jg mz fit fK uD look jz gf encC sg ed nw dI cg out inn pc pin)
open DP (bV cF fin)
open eG (Rl stp rd oJ tD rD Is Ke dh pU vV Nk fss lay tn lf uC RZ bj kj GR rt)
open K10 (J gP Wh)
section
variable{l r:D}{c:Nat}{kvs:List (D×D)}
theorem O6:∀(w:List Nat) (p:Nat) (h:List Nat) (q:Nat),(rd (.put c l r) (fit l p,h) (w++[q])).2=h++J (gP l r c) p w q
 | [],p,h,q=>by
  show(rd (.put c l r) (fit l p,h) [q]).2=_;rw[rD]
  rfl
 | a::t,p,h,q=>by
  show(stp (.put c l r) (fit l p,h) a).2++(rd (.put c l r) (fit l a,[a]) (t++[q])).2=h++(gP l r c p a++a::J (gP l r c) a t q);rw[O6 t a [a] q];show(h++gP l r c p a)++([a]++_)=_;simp
theorem abv(w:List Nat)(near n:Nat):uC kvs (sg w (n+1)) (fit l near&&fit r (sg w (n+2)))=nw kvs l r w near n:=by
 unfold uC nw;cases look kvs (sg w (n+1)) with
 | none=>
  simp
 | some t=>
  cases fit l near&&fit r (sg w (n+2))<;>rfl
theorem JC(w:List Nat){n:Nat}(h:n<(w++[35]).length):(w++[35]).take (n+1)=(w++[35]).take n++[sg w (n+1)]:=by
 have e:sg w (n+1)=(w++[35])[n]:=by
  show(w++[35]).getD n 0=_;rw[Qw4,Qwk h]
  rfl
 rw[e,List.take_succ_eq_append_getElem h]
theorem O7(al:Bool){x w:List Nat}(hk:uD x kvs)(hw:∀c∈w,c∈x):∀n,n<=w.length->rd (.chg al kvs l r) (fit l 35,[]) ((w++[35]).take (n+1))=((fit l (dI al w (cg al kvs l r w n) n),[sg w (n+1)]),(cg al kvs l r w n).flatten)
 | 0,_=>by
  rw[JC w (by rw[Qqz];exact Nat.succ_pos _),List.take_zero,List.nil_append,rD];show((fit l 35,[sg w 1]),([]:List Nat))=((fit l (dI al w [] 0),[sg w 1]),([]:List (List Nat)).flatten);cases al<;>rfl
 | n+1,h=>by
  have hl:n+1<(w++[35]).length:=by rw[Qqz,Qq9];omega
  rw[JC w hl,tD,O7 al hk hw n (by omega)];have hno:=iK.Qz (l:=l) (r:=r) hk hw (n:=n) (by omega) (dI al w (cg al kvs l r w n) n);show((RZ al l (sg w (n+1)) (fit l (dI al w (cg al kvs l r w n) n)) (uC kvs (sg w (n+1)) (fit l (dI al w (cg al kvs l r w n) n)&&fit r (sg w (n+2)))),[sg w (n+2)]),(cg al kvs l r w n).flatten++uC kvs (sg w (n+1)) (fit l (dI al w (cg al kvs l r w n) n)&&fit r (sg w (n+2))))=((fit l (dI al w (cg al kvs l r w n++[nw kvs l r w (dI al w (cg al kvs l r w n) n) n]) (n+1)),[sg w (n+2)]),(cg al kvs l r w n++[nw kvs l r w (dI al w (cg al kvs l r w n) n) n]).flatten);rw[abv];generalize cg al kvs l r w n=made at *;generalize hN:dI al w made n=near at *;generalize nw kvs l r w near n=t at *;have h2:RZ al l (sg w (n+1)) (fit l near) t=fit l (dI al w (made++[t]) (n+1)):=by
   cases al with
   | false=>rfl
   | true=>
    rw[iK.yt made t n hno.1,hN];unfold RZ;rw[if_pos rfl];split<;>rfl
  rw[h2,Qj0];simp
end
section
variable{x:List Nat}{R:D}(hx:x∈XS)(hR:bV x R){w:List Nat}(hw:∀c∈w,c∈x)(hn:w.length<=30000)
noncomputable def RX(x:List Nat)(R:D)(w:List Nat):List Nat:=(rd (dh x R) (fit (lf R) 35,[]) (w++[35])).2
include hx hR hw hn
theorem from_left:iK.fM [R,.str w]=some (.str (RX x R w)):=by
 have hi:=pU hR;unfold RX;generalize dh x R=ρ at *;cases hi with
 | put hc hl hr=>
  rename_i wy l r c;have e:(rd (.put c l r) (fit (lf (.tup [wy,.tup [.tup [.str [],.str [c]]],l,r])) 35,[]) (w++[35])).2=inn l r c w:=by rw[Wh];exact O6 w 35 [] 35
  rw[e];refine bT (env:=[Zf (.tup [wy,.tup [.tup [.str [],.str [c]]],l,r]),Zs w]) ?_;unfold iK.dY;refine gO ?_;refine(gH (eU (aF rfl rfl))).trans ?_;exact bH (aF rfl (iK.with_put_in hx hl hr hw hn _ c))
 | chg hp hd hk hl hr=>
  rename_i al ps kvs l r;have e:(rd (.chg al kvs l r) (fit (lf (.tup [gf al,.tup (ps.map encC),l,r])) 35,[]) (w++[35])).2=out al kvs l r w:=by
   have h1:=O7 (l:=l) (r:=r) al hk hw w.length (Qq0 _);rw[List.take_of_length_le (by rw[Qqz];exact Qq0 _)] at h1;show(rd (.chg al kvs l r) (fit l 35,[]) (w++[35])).2=_;rw[h1]
   rfl
  rw[e];refine bT (env:=[(Zf (.tup [gf al,.tup (ps.map encC),l,r])),Zs w]) ?_;unfold iK.dY;have hpi:iK.eY [.tup [gf al,.tup (ps.map encC),l,r]]=some (.bl false):=bT (bH (eG.Ri hp rfl));refine(aA ((dZ (eU (aF rfl hpi))).trans rfl)).trans ?_;exact bH (aF rfl (iK.with_changes hx hl hr hw hn hk al _ hd))
theorem Uw:cF (.str [108,101,102,116]) R w=RX x R w:=by
 have h1:=from_left hx hR hw hn;have h2:iK.eZ [.str [108,101,102,116],R,.str w]=some (.str (RX x R w)):=by refine bT (env:=[Zs [108,101,102,116],Zf R,Zs w]) ?_;unfold iK.gY;refine(aA ((dZ (by rfl)).trans rfl)).trans ?_;exact bH (aF rfl h1)
 unfold cF;rw[h2]
theorem Oz:cF (.str [114,105,103,104,116]) R w=(RX x (tn R) w.reverse).reverse:=by
 obtain⟨t1,t2,t3⟩:=eG.Aa hR;have h1:=from_left hx t1 (λc hc=>hw c (Qj2.mp hc)) (by rw[Qkq];exact hn);generalize RX x (tn R) w.reverse=o at *;have h2:iK.eZ [.str [114,105,103,104,116],R,.str w]=some (.str o.reverse):=by
  have rev:∀{a:Ev} {env:Ev.Env} {o:List Nat},a env = .ok (.str o) env->nY a env = .ok (.str o.reverse) env:=λ{a env o} e=>by unfold nY;rw[e];rfl
  refine bT (env:=[Zs [114,105,103,104,116],Zf R,Zs w]) ?_;unfold iK.gY;refine gO ((gH rfl).trans (bH (rev ?_)));refine aF (aH (aF rfl t2) (aH (rev rfl) bD)) h1
 unfold cF;rw[h2]
end
def dq(s:D)(w:List Nat):List Nat:=if rt s=true then w.reverse else w
theorem mH(s:D)(w:List Nat):dq s (dq s w)=w:=by
 unfold dq;split
 ·rw[List.reverse_reverse]
 ·rfl
end Bk
namespace WW
open Ev PySem L2
open fV (SG)
open iK (XS sides mz fit)
open DP (bV fin)
open eG (bj GR kj vV Nk fss lay tn lf rt BJ Er JK)
open Bk (dq mH)
def qS(ss:List eG.St):NK:=.tup (ss.map λs=>.tup [.num (if s.1 then 1 else 0),.txt (strOf s.2)])
theorem Pk:∀(ss tt:List eG.St),(ss.map λs=>NK.tup [.num (if s.1 then 1 else 0),.txt (strOf s.2)])=(tt.map λs=>NK.tup [.num (if s.1 then 1 else 0),.txt (strOf s.2)])->ss=tt
 | [],[],_=>rfl
 | [],_::_,h=>by cases h
 | _::_,[],h=>by cases h
 | (b,z)::ss,(c,y)::tt,h=>by
  rw[Qq3,Qq3] at h;obtain⟨h1,h2⟩:=Qzv h;have h3:=NK.tup.inj h1;obtain⟨h4,h5⟩:=Qzv h3;obtain⟨h6,_⟩:=Qzv h5;have h7:z=y:=SX.jJ (NK.txt.inj h6);have h8:=NK.num.inj h4;simp only at h8;have h9:b=c:=by cases b<;>cases c<;>first|rfl|(simp at h8)
  rw[h9,h7,Pk ss tt h2]
theorem Pn{ss tt:List eG.St}(h:qS ss=qS tt):ss=tt:=Pk ss tt (NK.tup.inj h)
theorem Gw{i:Nat}{k a:Ev}{env e1 e2:Ev.Env}{d kd z:D}{o:Bool}{q:NK}{kvs:List (D×D)}(h1:a env = .ok d e1)(h0:e1[i]? = some (some (o,z)))(h2:k e1 = .ok kd e2)(h3:e2[i]? = some (Zt (.jl kvs)))(h4:Mm kd=some q)(h5:kvs.length<sizeLine):sV i k a env = .nx (e2.set i (Zt (.jl (vW kvs kd q d)))):=by unfold sV;simp only[h1,iG,h0,h2,h3,h4,if_pos h5]
end WW
namespace KB
section
variable{P:Type}(L:P->Nat->P)(S:P->Bool)(x:List Nat)(p0:P)
def pl(w:List Nat):P:=w.foldl L p0
theorem xx(w:List Nat)(a:Nat):pl L p0 (w++[a])=L (pl L p0 w) a:=by unfold pl;rw[List.foldl_append];rfl
structure DQ(n:Nat)(ps:List P)(ws:List (List Nat)):Prop where
 len:ws.length=ps.length
 nd:ps.Nodup
 z0:ps[0]? = some p0
 w0:ws[0]? = some []
 plo:∀(i:Nat) p w,ps[i]? = some p->ws[i]? = some w->pl L p0 w=p/\(∀a∈w,a∈x)/\w.length<=i
 sf:∀p∈ps,S p=false
 mono:∀(i j:Nat) v w,i<=j->ws[i]? = some v->ws[j]? = some w->v.length<=w.length
 clo:∀(i:Nat) p w a,i<n->ps[i]? = some p->ws[i]? = some w->a∈x->∃(j:Nat) (v:List Nat),ps[j]? = some (L p a)/\ws[j]? = some v/\v.length<=w.length+1
 last:∀w,ws[n]? = some w->∀(j:Nat) v,ws[j]? = some v->v.length<=w.length+1
variable{L S x p0}
theorem iW{α:Type}{l:List α}{a b:α}{i:Nat}(h:(l++[a])[i]? = some b):l[i]? = some b\/(i=l.length/\b=a):=by
 by_cases hi:i<l.length
 ·rw[Qw1 hi] at h;exact .inl h
 ·rw[Qxk (by omega)] at h;have:i - l.length=0:=by
   have:=(Qqv.mp h).1;rw[Qq9] at this;omega
  rw[this] at h;cases h;exact .inr ⟨by omega,rfl⟩
theorem mq{α:Type}{l:List α}{a b:α}{i:Nat}(h:l[i]? = some b):(l++[a])[i]? = some b:=by rw[Qw1 (Qqv.mp h).1];exact h
theorem Kl{α:Type}{l:List α}{a:α}:(l++[a])[l.length]? = some a:=by rw[Qxk (Qq0 _),Nat.sub_self];rfl
theorem DQ.start(h:S p0=false):DQ L S x p0 0 [p0] [[]]:=by
 have one:∀{α:Type} {a b:α} {i:Nat},[a][i]? = some b->i=0/\b=a:=λ{α a b i} h=>by
  cases i with
  | zero=>cases h;exact⟨rfl,rfl⟩
  | succ i=>simp at h
 refine⟨rfl,Qxz.mpr ⟨by simp,.nil⟩,rfl,rfl,λi p w h1 h2=>?_,λp hp=>?_,λi j v w _ h1 h2=>?_,λi p w a hi=>absurd hi (Nat.not_lt_zero _),λw h1 j v h2=>?_⟩
 ·obtain⟨rfl,rfl⟩:=one h1;obtain⟨_,rfl⟩:=one h2;exact⟨rfl,λa ha=>by simp at ha,Qq0 _⟩
 ·rw[Qq1.mp hp];exact h
 ·obtain⟨_,rfl⟩:=one h1;exact Qx0 _
 ·obtain⟨_,rfl⟩:=one h2;exact Qx0 _
theorem DQ.add{n:Nat}{ps:List P}{ws:List (List Nat)}(B:DQ L S x p0 n ps ws){p:P}{w:List Nat}(hp:ps[n]? = some p)(hw:ws[n]? = some w){a:Nat}(ha:a∈x)(hn:L p a ∉ ps)(hs:S (L p a)=false) :
  DQ L S x p0 n (ps++[L p a]) (ws++[w++[a]]):=by
 have hn1:n<ps.length:=(Qqv.mp hp).1;obtain⟨q1,q2,q3⟩:=B.plo n p w hp hw;refine⟨by rw[Qqz,Qqz,B.len];rfl,?_,mq B.z0,mq B.w0,λi q v h1 h2=>?_,λq hq=>?_,λi j v u hij h1 h2=>?_,λi q v b hi h1 h2 hb=>?_,λv h1 j u h2=>?_⟩
 ·rw[List.nodup_append];refine⟨B.nd,Qxz.mpr ⟨by simp,.nil⟩,λy hy z hz e=>?_⟩;rw[Qq1.mp hz] at e;exact hn (e ▸ hy)
 ·rcases iW h1 with h1|⟨e1,e2⟩
  ·rcases iW h2 with h2|⟨e1,e2⟩
   ·exact B.plo i q v h1 h2
   ·have:=(Qqv.mp h1).1;rw[B.len] at e1;omega
  ·rcases iW h2 with h2|⟨_,e3⟩
   ·have:=(Qqv.mp h2).1;rw[B.len] at this;omega
   ·subst e2 e3;refine⟨by rw[xx,q1],λb hb=>?_,by rw[Qqz,Qq9];omega⟩;rcases Qww.mp hb with hb|hb
    ·exact q2 b hb
    ·rw[Qq1.mp hb];exact ha
 ·rcases Qww.mp hq with hq|hq
  ·exact B.sf q hq
  ·rw[Qq1.mp hq];exact hs
 ·rcases iW h1 with h1|⟨e1,e2⟩
  ·rcases iW h2 with h2|⟨e3,e4⟩
   ·exact B.mono i j v u hij h1 h2
   ·subst e4;rw[Qqz,Qq9];exact B.last w hw i v h1
  ·rcases iW h2 with h2|⟨e3,e4⟩
   ·have:=(Qqv.mp h2).1;omega
   ·subst e2 e4;exact Qq0 _
 ·have hi1:i<ps.length:=by omega
  rcases iW h1 with h1|⟨e1,_⟩
  ·rcases iW h2 with h2|⟨e1,_⟩
   ·obtain⟨j,u,g1,g2,g3⟩:=B.clo i q v b hi h1 h2 hb;exact⟨j,u,mq g1,mq g2,g3⟩
   ·rw[B.len] at e1;omega
  ·omega
 ·have h1':ws[n]? = some v:=by
   rcases iW h1 with h1|⟨e1,_⟩
   ·exact h1
   ·rw[B.len] at e1;omega
  rw[hw] at h1';cases h1';rcases iW h2 with h2|⟨_,e4⟩
  ·exact B.last w hw j u h2
  ·subst e4;rw[Qqz];exact Qq0 _
theorem DQ.next{n:Nat}{ps:List P}{ws:List (List Nat)}(B:DQ L S x p0 n ps ws){p:P}{w:List Nat}(hp:ps[n]? = some p)(hw:ws[n]? = some w)
  (hc:∀a∈x,∃(j:Nat) (v:List Nat),ps[j]? = some (L p a)/\ws[j]? = some v/\v.length<=w.length+1):DQ L S x p0 (n+1) ps ws:=by
 refine⟨B.len,B.nd,B.z0,B.w0,B.plo,B.sf,B.mono,λi q v a hi h1 h2 ha=>?_,λu hu j v hv=>?_⟩
 ·by_cases hin:i=n
  ·subst hin;rw[hp] at h1;cases h1;rw[hw] at h2;cases h2;exact hc a ha
  ·exact B.clo i q v a (by omega) h1 h2 ha
 ·have h1:=B.last w hw j v hv;have h2:=B.mono n (n+1) w u (by omega) hw hu;omega
theorem DQ.found{n:Nat}{ps:List P}{ws:List (List Nat)}(B:DQ L S x p0 n ps ws){w:List Nat}(hw:ws[n]? = some w) :
  ∀(m:Nat) (v:List Nat),v.length=m->(∀a∈v,a∈x)->v.length<=w.length->∃(j:Nat) (u:List Nat),ps[j]? = some (pl L p0 v)/\ws[j]? = some u/\u.length<=v.length:=by
 intro m
 induction m with
 | zero=>
  intro v hv _ _;have:v=[]:=List.length_eq_zero_iff.mp hv;subst this;exact⟨0,[],B.z0,B.w0,Qq0 _⟩
 | succ m ih=>
  intro v hv hx hl;rcases List.eq_nil_or_concat v with rfl|⟨v',a,rfl⟩
  ·simp at hv
  ·rw[List.concat_eq_append] at *;rw[Qqz,Qq9] at hv hl;obtain⟨i,u,g1,g2,g3⟩:=ih v' (by omega) (λb hb=>hx b (Qj6 _ hb)) (by omega);have hin:i<n:=by
    by_cases h:i<n
    ·exact h
    ·have:=B.mono n i w u (by omega) hw g2;omega
   obtain⟨j,t,k1,k2,k3⟩:=B.clo i _ u a hin g1 g2 (hx a (Qxq _ (Qq1.mpr rfl)));exact⟨j,t,by rw[xx];exact k1,k2,by rw[Qqz,Qq9];omega⟩
theorem DQ.least{n:Nat}{ps:List P}{ws:List (List Nat)}(B:DQ L S x p0 n ps ws){w:List Nat}(hw:ws[n]? = some w)(v:List Nat)(hx:∀a∈v,a∈x)(hl:v.length<w.length+1):S (pl L p0 v)=false:=by obtain⟨j,u,g1,_⟩:=B.found hw v.length v rfl hx (by omega);exact B.sf _ (Qxw g1)
theorem DQ.none{n:Nat}{ps:List P}{ws:List (List Nat)}(B:DQ L S x p0 n ps ws)(hn:ps.length<=n):∀(m:Nat) (v:List Nat),v.length=m->(∀a∈v,a∈x)->pl L p0 v∈ps:=by
 intro m
 induction m with
 | zero=>
  intro v hv _;have:v=[]:=List.length_eq_zero_iff.mp hv;subst this;exact Qxw B.z0
 | succ m ih=>
  intro v hv hx;rcases List.eq_nil_or_concat v with rfl|⟨v',a,rfl⟩
  ·simp at hv
  ·rw[List.concat_eq_append] at *;rw[Qqz,Qq9] at hv;obtain⟨i,hi⟩:=List.mem_iff_getElem?.mp (ih v' (by omega) λb hb=>hx b (Qj6 _ hb));have hil:i<ps.length:=(Qqv.mp hi).1;have ad7:i<ws.length:=by rw[B.len];exact hil
   have hw:ws[i]? = some ws[i]:=Qwk ad7;obtain⟨j,t,k1,_⟩:=B.clo i _ _ a (by omega) hi hw (hx a (Qxq _ (Qq1.mpr rfl)));rw[xx];exact Qxw k1
theorem tV{α:Type}[DecidableEq α]:∀(U ps:List α),ps.Nodup->(∀p∈ps,p∈U)->ps.length<=U.length
 | U,[],_,_=>Qx0 _
 | U,p::ps,hn,hs=>by
  have hp:=hs p (Qqj ..);have h:=tV (U.erase p) ps (Qxz.mp hn).2 λq hq=>by
   have hne:q≠p:=λe=>(Qxz.mp hn).1 (e ▸ hq);exact(List.mem_erase_of_ne hne).mpr (hs q (Qqq _ hq))
  have h2:=List.length_erase_of_mem hp;have h3:0<U.length:=List.length_pos_of_mem hp;rw[Qqy];omega
end
open Ev PySem L2
open fV (cP)
open iK (sides)
open eG (rt)
open Bk (dq)
open WW (Gw)
section
def jF:cu:=oA.jF
def gq:LD:=cH 2 jF
def lb(Φ:Stmt->List D->LD):cu:=aC (aP (kE Φ 3 (aa (aB fJ 5 (bw 8)) (Zv 9 ak))) (aj 10)) (aC (fD (wk (eF (aB IV 10 (jG .non))) (eF (aB IW 10 (bw 7)))) ((λenv=>.ct env)) cC) (aC (fD (eF (kE Φ 4 (Zv 10 ak))) (bC (au gq (Zv 1 (aa (aQ cW (aB fJ 6 (bw 8)) (bw 9)) ak)))) cC) (aC (sV 7 (aO 10) (jG (.bl true))) (aC (eN 5 (aO 10)) (eN 6 (aQ cW (aB fJ 6 (bw 8)) (bw 9)))))))
def wb(so:LD)(Φ:Stmt->List D->LD):cu:=aC (iu (il (au so (Zv 0 ak))) (aj 9) (lb Φ)) (JF 8 (Zi 1))
def di(so:LD)(Φ:Stmt->List D->LD):cu:=aC (fD (eF (kE Φ 4 (Zv 2 ak))) (bC (Zw [])) cC) (aC (dF 5 (cG (Zv 2 ak))) (aC (dF 6 (cG (aa (Zw []) ak))) (aC (dF 7 (yS (aO 2) (jG (.bl true)))) (aC (aP (Zi 0) (aj 8)) (aC (gF (eF (aB Wi 8 (au jN (aa (bw 5) ak)))) (wb so Φ) 7000) (bC (jG .non)))))))
end
theorem yU{Φ:Stmt->List D->LD}{i:Nat}{a:dD}{env e1:Ev.Env}{st:Stmt}{kh ds:List D}{d:D}(h0:env[i]? = some (Zf (.clo st kh)))(h1:a env = .ok ds e1)(h2:Φ st kh ds=some d):kE Φ i a env = .ok d e1:=by
 unfold kE;rw[h0];show bindR (a env) _=_;rw[h1];show ig (Φ st kh ds) e1=_;rw[h2]
 rfl
theorem Od{a b:cu}{env e:Ev.Env}(h:a env = .ct e):aC a b env = .ct e:=by unfold aC;rw[h]
theorem Wk{a b:List Nat}(h:a.length+b.length<=sizeLine):cW (.str a) (.str b)=some (.str (a++b)):=by unfold cW;exact if_pos h
theorem stands{side:D}(hs:side∈sides)(w:List Nat):gq [side,.str w]=some (.str (dq side w)):=by simp only[sides,Qq2,Qwy,Qz2] at hs;rcases hs with rfl|rfl<;>rfl
section
variable{P:Type}[DecidableEq P]{Φ:Stmt->List D->LD}{sl ss:Stmt}{cl cs:List D}{x:List Nat}{fC side:D}{so:LD}{en:P->D}{key:P->NK}{L:P->Nat->P}{S:P->Bool}{Ok:P->Prop}{U:List P}{p0:P}
structure Gives(Φ:Stmt->List D->LD)(sl ss:Stmt)(cl cs:List D)(x:List Nat)(en:P->D)(key:P->NK)(L:P->Nat->P)(S:P->Bool)(Ok:P->Prop)(U:List P):Prop where
 lead:∀p a,Ok p->a∈x->Φ sl cl [en p,.str [a]]=some (en (L p a))/\Ok (L p a)
 shows:∀p,Ok p->Φ ss cs [en p]=some (.bl (S p))
 nk:∀p,Mm (en p)=some (key p)
 inj:∀p q,key p=key q->p=q
 all:∀p,Ok p->p∈U
 few:U.length<=6998
def kn(en:P->D)(ps:List P):List (D×D):=ps.map λp=>(en p,.bl true)
variable(G:Gives Φ sl ss cl cs x en key L S Ok U)
include G
theorem QZ(ps:List P)(q:P):(pH (kn en ps) (key q)).isSome=decide (q∈ps):=by
 unfold pH kn;rw[Qkv];by_cases h:q∈ps
 ·rw[Qxj h,List.find?_isSome];exact⟨(en q,.bl true),Qwq.mpr ⟨q,h,rfl⟩,by simp only[(vh (G.nk q)).1,decide_true]⟩
 ·rw[Qw3 h];cases e:List.find? (λp=>decide (wg p.1=some (key q))) (ps.map λp=>(en p,D.bl true)) with
  | none=>rfl
  | some r=>
   have h1:=List.find?_some e;have h2:=List.mem_of_find?_eq_some e;obtain⟨p,hp,rfl⟩:=Qwq.mp h2;have h3:wg (en p)=some (key q):=Qw6 h1;rw[(vh (G.nk p)).1] at h3;cases G.inj p q (Qw0 h3);exact absurd hp h
theorem Zd(ps:List P)(q:P)(h:q ∉ ps):vW (kn en ps) (en q) (key q) (.bl true)=kn en (ps++[q]):=by unfold vW;rw[QZ G,Qw3 h];simp[kn]
omit G [DecidableEq P] in
abbrev En(sl ss:Stmt)(cl cs:List D)(en:P->D)(fC side:D)(f:P)(ps:List P)(ws:List (List Nat))(n:Nat)(a9 a10:OD):Ev.Env:=
 [Zf fC,Zf side,Zf (en f),Zf (.clo sl cl),Zf (.clo ss cs),Zl (ps.map en),Zl (ws.map .str),(Zt (.jl (kn en ps))),(Zf (.int (n:Int))),a9,a10]
theorem Mi(yL:side∈sides){n:Nat}{ps:List P}{ws:List (List Nat)}(B:DQ L S x p0 n ps ws)(hok:∀p∈ps,Ok p){p:P}{w:List Nat}(hp:ps[n]? = some p)(hw:ws[n]? = some w){a:Nat}(ha:a∈x)(f:P)(a10:OD) :
  (L p a∈ps/\lb Φ (En sl ss cl cs en fC side f ps ws n (Zs [a]) a10) = .ct (En sl ss cl cs en fC side f ps ws n (Zs [a]) (Zf (en (L p a)))))\/
  (L p a ∉ ps/\S (L p a)=true/\∃e,lb Φ (En sl ss cl cs en fC side f ps ws n (Zs [a]) a10) = .rt false (.str (dq side (w++[a]))) e)\/
  (L p a ∉ ps/\S (L p a)=false/\lb Φ (En sl ss cl cs en fC side f ps ws n (Zs [a]) a10) = .nx (En sl ss cl cs en fC side f (ps++[L p a]) (ws++[w++[a]]) n (Zs [a]) (Zf (en (L p a))))):=by
 have hn1:n<ps.length:=(Qqv.mp hp).1;obtain⟨g1,g2⟩:=G.lead p a (hok p (Qxw hp)) ha;have hlen:ps.length<=6998:=Qq6 (tV U ps B.nd λq hq=>G.all q (hok q hq)) G.few;obtain⟨_,_,hwl⟩:=B.plo n p w hp hw;generalize hq:L p a=q at *;have s1:aP (kE Φ 3 (aa (aB fJ 5 (bw 8)) (Zv 9 ak))) (aj 10) (En sl ss cl cs en fC side f ps ws n (Zs [a]) a10) = .nx (En sl ss cl cs en fC side f ps ws n (Zs [a]) (Zf (en q))):=by
  let E0:Ev.Env:=En sl ss cl cs en fC side f ps ws n (Zs [a]) a10
  refine bz (e:=E0) (yU rfl ?_ g1) rfl;refine aH (e1:=E0) ?_ (aH rfl bD);refine bL rfl rfl rfl (kY ?_);rw[Qw2,hp];rfl
 have is0:IV (en q) .non=some (.bl false):=by obtain⟨_,_,xs,e⟩:=vh (G.nk q);rw[e];rfl
 have in0:IW (en q) (.jl (kn en ps))=some (.bl (decide (q∈ps))):=by show(Mm (en q)).map _=_;rw[G.nk q];show some (D.bl (pH (kn en ps) (key q)).isSome)=_;rw[QZ G]
 have t1:wk (eF (aB IV 10 (jG .non))) (eF (aB IW 10 (bw 7))) (En sl ss cl cs en fC side f ps ws n (Zs [a]) (Zf (en q))) = .ok (decide (q∈ps)) (En sl ss cl cs en fC side f ps ws n (Zs [a]) (Zf (en q))):=by refine(U5 (eU (bL rfl rfl rfl is0))).trans ?_;exact eU (bL rfl rfl rfl in0)
 have wa:aQ cW (aB fJ 6 (bw 8)) (bw 9) (En sl ss cl cs en fC side f ps ws n (Zs [a]) (Zf (en q))) = .ok (.str (w++[a])) (En sl ss cl cs en fC side f ps ws n (Zs [a]) (Zf (en q))):=by
  refine bJ (e1:=En sl ss cl cs en fC side f ps ws n (Zs [a]) (Zf (en q))) ?_ rfl (Wk ?_)
  ·refine bL rfl rfl rfl (kY ?_);rw[Qw2,hw];rfl
  ·exact Qq6 (show w.length+1<=7000 by omega) (by decide)
 unfold lb;rw[aA s1];by_cases hm:q∈ps
 ·rw[Qxj hm] at t1;exact .inl ⟨hm,Od (gH t1)⟩
 ·rw[Qw3 hm] at t1;have u1:fD (wk (eF (aB IV 10 (jG .non))) (eF (aB IW 10 (bw 7)))) (λenv=>.ct env) cC (En sl ss cl cs en fC side f ps ws n (Zs [a]) (Zf (en q))) = .nx (En sl ss cl cs en fC side f ps ws n (Zs [a]) (Zf (en q))):=dZ t1;rw[aA u1];have t2:eF (kE Φ 4 (Zv 10 ak)) (En sl ss cl cs en fC side f ps ws n (Zs [a]) (Zf (en q))) = .ok (S q) (En sl ss cl cs en fC side f ps ws n (Zs [a]) (Zf (en q))):=
   eU (yU rfl (aH rfl bD) (G.shows q g2))
  cases hs:S q with
  | true=>
   rw[hs] at t2;refine .inr (.inl ⟨hm,rfl,En sl ss cl cs en fC side f ps ws n (Zs [a]) (Zf (en q)),gO ((gH t2).trans (bH (aF (aH rfl (aH wa bD)) (stands yL _))))⟩)
  | false=>
   rw[hs] at t2;refine .inr (.inr ⟨hm,rfl,?_⟩);have u2:fD (eF (kE Φ 4 (Zv 10 ak))) (bC (au gq (Zv 1 (aa (aQ cW (aB fJ 6 (bw 8)) (bw 9)) ak)))) cC (En sl ss cl cs en fC side f ps ws n (Zs [a]) (Zf (en q))) = .nx (En sl ss cl cs en fC side f ps ws n (Zs [a]) (Zf (en q))):=dZ t2;rw[aA u2];have s4:=Gw (i:=7) (k:=aO 10) (a:=jG (.bl true)) (e1:=En sl ss cl cs en fC side f ps ws n (Zs [a]) (Zf (en q))) rfl rfl rfl rfl (G.nk q)
    (by rw[kn,Qqw];exact Qw7 hlen (by decide))
   rw[Zd G ps q hm] at s4;rw[aA s4];refine(aA (cP (i:=5) (e:=[Zf fC,Zf side,Zf (en f),Zf (.clo sl cl),Zf (.clo ss cs),Zl (ps.map en),Zl (ws.map .str),(Zt (.jl (kn en (ps++[q])))),(Zf (.int (n:Int))),Zs [a],Zf (en q)]) rfl rfl rfl (by rw[Qqw];exact Qw7 hlen (by decide)))).trans ?_;have e5:ps.map en++[en q]=(ps++[q]).map en:=by rw[Qx2];rfl
   have e6:ws.map D.str++[.str (w++[a])]=(ws++[w++[a]]).map D.str:=by rw[Qx2];rfl
   have wa2:aQ cW (aB fJ 6 (bw 8)) (bw 9) [Zf fC,Zf side,Zf (en f),Zf (.clo sl cl),Zf (.clo ss cs),Zl (ps.map en++[en q]),Zl (ws.map .str),(Zt (.jl (kn en (ps++[q])))),(Zf (.int (n:Int))),Zs [a],Zf (en q)] = .ok (.str (w++[a])) [Zf fC,Zf side,Zf (en f),Zf (.clo sl cl),Zf (.clo ss cs),Zl (ps.map en++[en q]),Zl (ws.map .str),(Zt (.jl (kn en (ps++[q])))),(Zf (.int (n:Int))),Zs [a],Zf (en q)]:=by
    refine bJ (e1:=[Zf fC,Zf side,Zf (en f),Zf (.clo sl cl),Zf (.clo ss cs),Zl (ps.map en++[en q]),Zl (ws.map .str),(Zt (.jl (kn en (ps++[q])))),(Zf (.int (n:Int))),Zs [a],Zf (en q)]) ?_ rfl (Wk ?_)
    ·refine bL rfl rfl rfl (kY ?_);rw[Qw2,hw];rfl
    ·exact Qq6 (show w.length+1<=7000 by omega) (by decide)
   refine(cP (i:=6) rfl wa2 rfl (by rw[Qqw,B.len];exact Qw7 hlen (by decide))).trans ?_;rw[e5,e6]
   rfl
end
section
variable{P:Type}[DecidableEq P]{Φ:Stmt->List D->LD}{sl ss:Stmt}{cl cs:List D}{x:List Nat}{fC side:D}{so:LD}{en:P->D}{key:P->NK}{L:P->Nat->P}{S:P->Bool}{Ok:P->Prop}{U:List P}{p0:P}
variable(G:Gives Φ sl ss cl cs x en key L S Ok U)
def KY(side:D)(L:P->Nat->P)(S:P->Bool)(x:List Nat)(p0:P)(r:D):Prop:=∃w,r = .str (dq side w)/\(∀a∈w,a∈x)/\S (pl L p0 w)=true/\∀v,(∀a∈v,a∈x)->v.length<w.length->S (pl L p0 v)=false
theorem U0{g:GV}{b:cu}{d:D}{ds:List D}{env e1 e2:Ev.Env}(h1:g d env=some e1)(h2:b e1 = .ct e2):iY g b (d::ds) env=iY g b ds e2:=by
 conv=>lhs;unfold iY
 rw[h1];simp only;rw[h2]
theorem UW{g:GV}{b:cu}{d:D}{ds:List D}{env e1 e2:Ev.Env}(h1:g d env=some e1)(h2:b e1 = .nx e2):iY g b (d::ds) env=iY g b ds e2:=by
 conv=>lhs;unfold iY
 rw[h1];simp only;rw[h2]
theorem UT{g:GV}{b:cu}{d d':D}{ds:List D}{env e1 e2:Ev.Env}{o:Bool}(h1:g d env=some e1)(h2:b e1 = .rt o d' e2):iY g b (d::ds) env = .rt o d' e2:=by
 conv=>lhs;unfold iY
 rw[h1];simp only;rw[h2]
theorem aaR{t:fZ}{b:cu}{m:Nat}{env e1 e2:Ev.Env}(h:t env = .ok true e1)(h2:b e1 = .nx e2):gF t b (m+1) env=gF t b m e2:=by
 conv=>lhs;unfold gF
 rw[h];simp only[iG,if_true];rw[h2]
theorem aaQ{t:fZ}{b:cu}{m:Nat}{env e1 e2:Ev.Env}{o:Bool}{d:D}(h:t env = .ok true e1)(h2:b e1 = .rt o d e2):gF t b (m+1) env = .rt o d e2:=by
 conv=>lhs;unfold gF
 rw[h];simp only[iG,if_true];rw[h2]
theorem adl{t:fZ}{b:cu}{m:Nat}{env e1:Ev.Env}(h:t env = .ok false e1):gF t b (m+1) env = .nx e1:=by
 conv=>lhs;unfold gF
 rw[h];rfl
include G
theorem ZV(yL:side∈sides){n:Nat}{p:P}{w:List Nat}(f:P):∀(rest done:List Nat) (ps:List P) (ws:List (List Nat)) (a9 a10:OD),x=done++rest->DQ L S x p0 n ps ws->(∀q∈ps,Ok q)->ps[n]? = some p->ws[n]? = some w->
  (∀a∈done,∃(j:Nat) (v:List Nat),ps[j]? = some (L p a)/\ws[j]? = some v/\v.length<=w.length+1)->
  (∃r e,iY (aj 9) (lb Φ) (rest.map λa=>.str [a]) (En sl ss cl cs en fC side f ps ws n a9 a10) = .rt false r e/\KY side L S x p0 r)\/
  (∃ps' ws' b9 b10,iY (aj 9) (lb Φ) (rest.map λa=>.str [a]) (En sl ss cl cs en fC side f ps ws n a9 a10) = .nx (En sl ss cl cs en fC side f ps' ws' n b9 b10)/\DQ L S x p0 (n+1) ps' ws'/\(∀q∈ps',Ok q)/\ps'[n]? = some p):=by
 intro rest
 induction rest with
 | nil=>
  intro done ps ws a9 a10 hx B hok hp hw hc;rw[Qxv] at hx;exact .inr ⟨ps,ws,a9,a10,rfl,B.next hp hw (by rw[hx];exact hc),hok,hp⟩
 | cons a rest ih=>
  intro done ps ws a9 a10 hx B hok hp hw hc;have ha:a∈x:=by rw[hx];simp
  have hx':x=(done++[a])++rest:=by rw[hx];simp
  have hg:aj 9 (.str [a]) (En sl ss cl cs en fC side f ps ws n a9 a10)=some (En sl ss cl cs en fC side f ps ws n (Zs [a]) a10):=rfl;rw[Qq3];rcases Mi G yL B hok hp hw ha f a10 with ⟨hm,h⟩|⟨hm,hs,e,h⟩|⟨hm,hs,h⟩
  ·rw[U0 hg h];refine ih (done++[a]) ps ws _ _ hx' B hok hp hw λb hb=>?_;rcases Qww.mp hb with hb|hb
   ·exact hc b hb
   ·rw[Qq1.mp hb];obtain⟨j,hj⟩:=List.mem_iff_getElem?.mp hm;have hj2:j<ws.length:=by rw[B.len];exact(Qqv.mp hj).1
    have hwj:ws[j]? = some ws[j]:=Qwk hj2;exact⟨j,_,hj,hwj,B.last w hw j _ hwj⟩
  ·rw[UT hg h];obtain⟨q1,q2,_⟩:=B.plo n p w hp hw;refine .inl ⟨_,_,rfl,w++[a],rfl,λb hb=>?_,by rw[xx,q1];exact hs,λv hv hl=>B.least hw v hv (by rw[Qqz] at hl;exact hl)⟩;rcases Qww.mp hb with hb|hb
   ·exact q2 b hb
   ·rw[Qq1.mp hb];exact ha
  ·rw[UW hg h];refine ih (done++[a]) (ps++[L p a]) (ws++[w++[a]]) _ _ hx' (B.add hp hw ha hm hs) (λq hq=>?_) (mq hp) (mq hw) λb hb=>?_
   ·rcases Qww.mp hq with hq|hq
    ·exact hok q hq
    ·rw[Qq1.mp hq];exact(G.lead p a (hok p (Qxw hp)) ha).2
   ·rcases Qww.mp hb with hb|hb
    ·obtain⟨j,v,g1,g2,g3⟩:=hc b hb;exact⟨j,v,mq g1,mq g2,g3⟩
    ·rw[Qq1.mp hb];exact⟨ps.length,w++[a],Kl,by rw[<-B.len];exact Kl,by rw[Qqz];exact Qq0 _⟩
theorem Nz(yL:side∈sides)(hso:so [fC]=some (.tup (x.map λa=>.str [a])))(f:P):∀(m n:Nat) (ps:List P) (ws:List (List Nat)) (a9 a10:OD),n+m=7000->n<=ps.length->DQ L S x p0 n ps ws->(∀q∈ps,Ok q)->
  (∃r e,gF (eF (aB Wi 8 (au jN (aa (bw 5) ak)))) (wb so Φ) m (En sl ss cl cs en fC side f ps ws n a9 a10) = .rt false r e/\KY side L S x p0 r)\/
  (∃e,gF (eF (aB Wi 8 (au jN (aa (bw 5) ak)))) (wb so Φ) m (En sl ss cl cs en fC side f ps ws n a9 a10) = .nx e/\∀v,(∀a∈v,a∈x)->S (pl L p0 v)=false):=by
 intro m
 induction m with
 | zero=>
  intro n ps ws a9 a10 hm hn B hok;have:=Qq6 (tV U ps B.nd λq hq=>G.all q (hok q hq)) G.few;omega
 | succ m ih=>
  intro n ps ws a9 a10 hm hn B hok;have ht:eF (aB Wi 8 (au jN (aa (bw 5) ak))) (En sl ss cl cs en fC side f ps ws n a9 a10) = .ok (decide (n<ps.length)) (En sl ss cl cs en fC side f ps ws n a9 a10):=by
   refine eU (bL rfl rfl rfl ?_);rw[Qqw];show some (D.bl (decide ((n:Int)<(ps.length:Int))))=_
   congr 2
   simp
  by_cases hlt:n<ps.length
  ·rw[Qxj hlt] at ht;have hp:ps[n]? = some ps[n]:=Qwk hlt;have hlt2:n<ws.length:=by rw[B.len];exact hlt
   have hw:ws[n]? = some ws[n]:=Qwk hlt2;have hit:il (au so (Zv 0 ak)) (En sl ss cl cs en fC side f ps ws n a9 a10) = .ok (x.map λa=>.str [a]) (En sl ss cl cs en fC side f ps ws n a9 a10):=
    ug (aF (aH rfl bD) hso) rfl
   rcases ZV G yL f x [] ps ws a9 a10 rfl B hok hp hw (λa ha=>by simp at ha) with ⟨r,e,h1,h2⟩|⟨ps',ws',b9,b10,h1,B',hok',hp'⟩
   ·have hb:wb so Φ (En sl ss cl cs en fC side f ps ws n a9 a10) = .rt false r e:=gO ((ir hit).trans h1);exact .inl ⟨r,e,aaQ ht hb,h2⟩
   ·have hb:wb so Φ (En sl ss cl cs en fC side f ps ws n a9 a10) = .nx (En sl ss cl cs en fC side f ps' ws' (n+1) b9 b10):=(aA ((ir hit).trans h1)).trans rfl;have hn':n+1<=ps'.length:=(Qqv.mp hp').1;rw[aaR ht hb];exact ih (n+1) ps' ws' b9 b10 (by omega) hn' B' hok'
  ·rw[Qw3 hlt] at ht;exact .inr ⟨_,adl ht,λv hv=>B.sf _ (B.none (by omega) v.length v rfl hv)⟩
theorem sought(yL:side∈sides)(hso:so [fC]=some (.tup (x.map λa=>.str [a])))(h0:Ok p0) :
  ∃r,cH 11 (di so Φ) [fC,side,en p0,.clo sl cl,.clo ss cs]=some r/\((r = .non/\∀v,(∀a∈v,a∈x)->S (pl L p0 v)=false)\/KY side L S x p0 r):=by
 have t0:eF (kE Φ 4 (Zv 2 ak)) [Zf fC,Zf side,Zf (en p0),Zf (.clo sl cl),Zf (.clo ss cs),Zn,Zn,Zn,Zn,Zn,Zn] = .ok (S p0) [Zf fC,Zf side,Zf (en p0),Zf (.clo sl cl),Zf (.clo ss cs),Zn,Zn,Zn,Zn,Zn,Zn]:=
  eU (yU rfl (aH rfl bD) (G.shows p0 h0))
 cases hS:S p0 with
 | true=>
  rw[hS] at t0;refine⟨.str [],bT (env:=[Zf fC,Zf side,Zf (en p0),Zf (.clo sl cl),Zf (.clo ss cs),Zn,Zn,Zn,Zn,Zn,Zn]) ?_,.inr ⟨[],?_,λa ha=>by simp at ha,hS,λv _ hv=>absurd hv (Nat.not_lt_zero _)⟩⟩
  ·exact gO ((gH t0).trans rfl)
  ·unfold dq;split<;>rfl
 | false=>
  rw[hS] at t0;have u0:fD (eF (kE Φ 4 (Zv 2 ak))) (bC (Zw [])) cC [Zf fC,Zf side,Zf (en p0),Zf (.clo sl cl),Zf (.clo ss cs),Zn,Zn,Zn,Zn,Zn,Zn] = .nx [Zf fC,Zf side,Zf (en p0),Zf (.clo sl cl),Zf (.clo ss cs),Zn,Zn,Zn,Zn,Zn,Zn]:=dZ t0;have u3:dF 7 (yS (aO 2) (jG (.bl true))) [Zf fC,Zf side,Zf (en p0),Zf (.clo sl cl),Zf (.clo ss cs),Zl [en p0],(Zl [.str []]),Zn,Zn,Zn,Zn] = .nx [Zf fC,Zf side,Zf (en p0),Zf (.clo sl cl),Zf (.clo ss cs),Zl [en p0],(Zl [.str []]),(Zt (.jl [(en p0,.bl true)])),Zn,Zn,Zn]:=by refine xQ (e:=[Zf fC,Zf side,Zf (en p0),Zf (.clo sl cl),Zf (.clo ss cs),Zl [en p0],(Zl [.str []]),Zn,Zn,Zn,Zn]) ?_;unfold yS;show(match Mm (en p0) with|some _=>_|none=>_)=_;rw[G.nk p0]
  have hb:∀o,aC (gF (eF (aB Wi 8 (au jN (aa (bw 5) ak)))) (wb so Φ) 7000) (bC (jG .non)) (En sl ss cl cs en fC side p0 [p0] [[]] 0 none none)=o->di so Φ (envOf 11 [fC,side,en p0,.clo sl cl,.clo ss cs])=o:=by intro o ho;rw[<-ho];unfold di;refine(aA u0).trans ?_;refine(aA rfl).trans ?_;refine(aA rfl).trans ?_;refine(aA u3).trans ?_;exact aA rfl
  rcases Nz G yL hso p0 7000 0 [p0] [[]] none none rfl (Qx0 _) (DQ.start hS) (λq hq=>by rw[Qq1.mp hq];exact h0) with ⟨r,e,h1,h2⟩|⟨e,h1,h2⟩
  ·exact⟨r,bT (hb _ (gO h1)),.inr h2⟩
  ·exact⟨.non,bT (hb _ ((aA h1).trans rfl)),.inl ⟨rfl,h2⟩⟩
end
end KB
namespace KW
open Ev PySem L2 eG
open fV (SG cP)
open iK (XS sides jg mz fit fK)
open DP (bV)
def ac(ρ:Rl):eG.St->List Nat->Bool
 | _,[]=>false
 | s,a::z=>!((stp ρ s a).2 == s.2)||ac ρ (stp ρ s a).1 z
theorem rW(ρ:Rl):∀(z:List Nat) (s:eG.St) (y:List Nat),ac ρ s (z++y)=(ac ρ s z||ac ρ (rd ρ s z).1 y)
 | [],s,y=>rfl
 | a::z,s,y=>by
  show(_||ac ρ (stp ρ s a).1 (z++y))=((_||ac ρ (stp ρ s a).1 z)||ac ρ (rd ρ (stp ρ s a).1 z).1 y);rw[rW ρ z,Bool.or_assoc]
theorem Vn(ρ:Rl)(s:eG.St)(z:List Nat)(a:Nat):ac ρ s (z++[a])=(ac ρ s z || !((stp ρ (rd ρ s z).1 a).2 == (rd ρ s z).1.2)):=by rw[rW];show(_||(_||false))=_;rw[Bool.or_false]
noncomputable def acs(x:List Nat):List D->List eG.St->List Nat->List Bool
 | R::Rs,s::ss,z=>ac (dh x R) s z::acs x Rs ss (rd (dh x R) s z).2
 | _,_,_=>[]
noncomputable def aes(x:List Nat):List D->List eG.St->List Nat->List Bool
 | R::Rs,s::ss,z=>ac (dh x R) s (z++[35])::aes x Rs ss (rd (dh x R) s (z++[35])).2
 | _,_,_=>[]
section
variable{x:List Nat}{R:D}{ρ:Rl}(hx:x∈XS)(hR:Is x R ρ)
include hx hR
theorem Ox{s:eG.St}(hs:kj x s){a:Nat}(ha:a∈35::x)(A2 a6 a7:OD)(ps:List D)(hp:ps.length<=400)(t:Bool) :
  HH [Zf R,Zf (bj s),A2,Zl ps,Zb t,Zs [a],a6,a7] = .nx [Zf R,(Zf (bj (stp ρ s a).1)),A2,(Zl (ps++[.str (stp ρ s a).2])),(Zb (t||(!((stp ρ s a).2 == s.2)))),Zs [a],Zs s.2,(Zs ((stp ρ s a).2))]:=by
 have hu:IK (.str (stp ρ s a).2) (.str s.2)=some (.bl (!((stp ρ s a).2 == s.2))):=rfl;generalize(!((stp ρ s a).2 == s.2))=u at *;have h1:=one_sign hx hR hs ha;generalize hq:(stp ρ s a).2=q at *;generalize hs':(stp ρ s a).1=s' at *;unfold HH
 let E0:Ev.Env:=[Zf R,Zf (bj s),A2,Zl ps,Zb t,Zs [a],Zs s.2,a7]
 refine(aA (e:=E0) rfl).trans ?_
 let E2:Ev.Env:=[Zf R,Zf (bj s'),A2,Zl ps,Zb t,Zs [a],Zs s.2,Zs q]
 refine(aA (e:=E2) ?_).trans ?_
 ·rcases h1 with ⟨g1,g2⟩|⟨g1,g2⟩
  ·refine(gH (e:=E0) (eU (aF (ds:=[R]) rfl g1))).trans ?_;exact bz (e:=E0) (aF (ds:=[R,bj s,.str [a]]) rfl g2) rfl
  ·refine(dZ (e:=E0) (eU (aF (ds:=[R]) rfl g1))).trans ?_;exact bz (e:=E0) (aF (ds:=[R,bj s,.str [a]]) rfl g2) rfl
 let E1:Ev.Env:=[Zf R,Zf (bj s'),A2,Zl ps,Zb (t||u),Zs [a],Zs s.2,Zs q]
 refine(aA (e:=E1) ?_).trans ?_
 ·refine bz (d:=.bl (t||u)) (e:=E2) (De rfl ?_) rfl;exact ach (x:=.str q) (y:=.str s.2) rfl rfl rfl hu
 ·exact(Ev.JG (i:=3) (xs:=ps) (d:=.str q) (e:=E1) rfl rfl rfl (Qw7 hp (by decide))).trans rfl
theorem vU{s:eG.St}(hs:kj x s){z:List Nat}(hz:∀a∈z,a∈35::x)(hn:z.length<=150):gK [R,bj s,.str z]=some (.tup [bj (rd ρ s z).1,.str (rd ρ s z).2,.bl (ac ρ s z)]):=by
 obtain⟨e',f1,hd,dz,pl,a5,a6,a7,e1,hdz,e2,e3,e4,rfl⟩:=nW (g:=aj 5) (b:=HH) (ou z)
  (λdone env=>done.length<=z.length/\∃dz pl a5 a6 a7,done=ou dz/\(∀a∈dz,a∈35::x)/\pl.flatten=(rd ρ s dz).2/\pl.length=done.length/\(∀q∈pl,q.length<=2)/\env=[Zf R,(Zf (bj (rd ρ s dz).1)),Zs z,Zl (pl.map .str),Zb (ac ρ s dz),a5,a6,a7])
  (λdone d rest hall env ⟨hd,dz,pl,a5,a6,a7,e1,hdz,e2,e3,e4,he⟩=>by
   subst he;obtain⟨a,rfl,ha,hl⟩:=JK hall;have hok:=Ai hR dz hs hdz;have hst:=Oc hR hok.1 (hz a ha);have hb:=Ox hx hR hok.1 (hz a ha) (Zs z) a6 a7 (pl.map .str) (by rw[Qqw];omega) (ac ρ s dz);refine⟨_,_,rfl,hb,by rw[Qqz,Qq9];omega,dz++[a],pl++[(stp ρ (rd ρ s dz).1 a).2],Zs [a],(Zs ((rd ρ s dz).1.2)),(Zs ((stp ρ (rd ρ s dz).1 a).2)),by rw[Er,e1],?_,?_,?_,?_,?_⟩
   ·intro b hb;rcases Qww.mp hb with hb|hb
    ·exact hdz b hb
    ·rw[Qq1.mp hb];exact hz a ha
   ·rw[tD,Qj0,e2];simp
   ·rw[Qqz,Qqz,e3]
    rfl
   ·intro q hq;rcases Qww.mp hq with hq|hq
    ·exact e4 q hq
    ·rw[Qq1.mp hq];exact hst.2.1
   ·rw[tD,Vn,Qx2]
    rfl)
  [Zf R,Zf (bj s),Zs z,Zl [],Zb false,Zn,Zn,Zn] ⟨Qx0 _,[],[],Zn,Zn,Zn,rfl,λa ha=>by simp at ha,rfl,rfl,λq hq=>by simp at hq,rfl⟩
 have hzz:=BJ e1;subst hzz;refine bT (env:=[Zf R,(Zf (bj (rd ρ s z).1)),Zs z,Zl (pl.map .str),Zb (ac ρ s z),a5,a6,a7]) ?_;unfold kW;refine(aA (e:=[Zf R,Zf (bj s),Zs z,Zl [],Zn,Zn,Zn,Zn]) rfl).trans ?_
 let E0:Ev.Env:=[Zf R,Zf (bj s),Zs z,Zl [],Zb false,Zn,Zn,Zn]
 refine(aA (e:=E0) rfl).trans ?_;refine(aA ((ir (ds:=ou z) (e:=E0) rfl).trans f1)).trans ?_;have hj:my (.str []) (.lst (pl.map .str))=some (.str (rd ρ s z).2):=by rw[iK.Q4 (by rw[e3];omega) e4,e2]
 exact bH (cZ (ds:=[bj (rd ρ s z).1,.str (rd ρ s z).2,.bl (ac ρ s z)]) (aH rfl (aH (bJ (x:=.str []) (y:=.lst (pl.map .str)) rfl rfl hj) (aH rfl bD))) Ev.zz3)
end
section
variable{x:List Nat}(hx:x∈XS)
include hx
theorem Ny(A0 A1 A2:OD):∀(Rs:List D) (ss:List eG.St) (z:List Nat) (acc ts:List D) (v6 v7 v8 v9:OD),Rs.length=ss.length->(∀R∈Rs,bV x R)->(∀s∈ss,kj x s)->(∀a∈z,a∈35::x)->(z.length+2)*2^Rs.length<=150->acc.length+Rs.length<=100->ts.length+Rs.length<=100->
  ∃w6 w7 w8 w9,iY (cj 2 (aG (aj 6) (aG (aj 7) cA))) Hg (xH Rs (ss.map bj)) [A0,A1,A2,Zs z,Zl acc,Zl ts,v6,v7,v8,v9] = .nx [A0,A1,A2,(Zs ((vV x Rs ss z).2)),(Zl (acc++(vV x Rs ss z).1.map bj)),(Zl (ts++(acs x Rs ss z).map .bl)),w6,w7,w8,w9]/\(∀s∈(vV x Rs ss z).1,kj x s)/\(vV x Rs ss z).1.length=Rs.length
 | [],[],z,acc,ts,v6,v7,v8,v9,_,_,_,_,_,_,ht=>by
  refine⟨v6,v7,v8,v9,?_,λs hs=>by simp[vV] at hs,rfl⟩;show Ev.Out.nx _=Ev.Out.nx [A0,A1,A2,Zs z,Zl (acc++[]),Zl (ts++[]),v6,v7,v8,v9];rw[Qxv,Qxv]
 | [],_::_,_,_,_,_,_,_,_,h,_,_,_,_,_,_=>by simp at h
 | _::_,[],_,_,_,_,_,_,_,h,_,_,_,_,_,_=>by simp at h
 | R::Rs,s::ss,z,acc,ts,v6,v7,v8,v9,h,hR,hS,hz,hn,ha,ht=>by
  have hRi:=pU (hR R (Qqj ..));have hso:=hS s (Qqj ..);obtain⟨o1,o2,o3⟩:=Ai hRi z hso hz;obtain⟨n1,n2⟩:=Kr hn (m:=(rd (dh x R) s z).2.length) (by omega);have hrs:=vU hx hRi hso hz (by omega);rw[Qqy] at ha ht;obtain⟨w6,w7,w8,w9,g1,g2,g3⟩:=Ny A0 A1 A2 Rs ss (rd (dh x R) s z).2 (acc++[bj (rd (dh x R) s z).1]) (ts++[.bl (ac (dh x R) s z)]) (Zf R) (Zf (bj s)) (Zf (bj (rd (dh x R) s z).1)) (Zb (ac (dh x R) s z)) (by simpa using h) (λQ hQ=>hR Q (Qqq _ hQ)) (λq hq=>hS q (Qqq _ hq)) o3 n1 (by rw[Qqz,Qq9];omega) (by rw[Qqz,Qq9];omega);refine⟨w6,w7,w8,w9,?_,?_,?_⟩
  ·show iY _ Hg (.tup [R,bj s]::xH Rs (ss.map bj)) _=Ev.Out.nx [A0,A1,A2,(Zs ((vV x Rs ss (rd (dh x R) s z).2).2)),(Zl (acc++(bj (rd (dh x R) s z).1::(vV x Rs ss (rd (dh x R) s z).2).1.map bj))),(Zl (ts++(.bl (ac (dh x R) s z)::(acs x Rs ss (rd (dh x R) s z).2).map .bl))),w6,w7,w8,w9]
   let E2:Ev.Env:=[A0,A1,A2,Zs z,Zl acc,Zl ts,Zf R,Zf (bj s),v8,v9]
   rw[qC (e1:=E2) (e2:=[A0,A1,A2,(Zs ((rd (dh x R) s z).2)),(Zl (acc++[bj (rd (dh x R) s z).1])),(Zl (ts++[.bl (ac (dh x R) s z)])),Zf R,Zf (bj s),(Zf (bj (rd (dh x R) s z).1)),(Zb (ac (dh x R) s z))]) rfl ?_,g1,Qzq,Qzq]
   ·rfl
   ·generalize(rd (dh x R) s z).2=q at *;generalize(rd (dh x R) s z).1=s' at *;generalize ac (dh x R) s z=t at *;unfold Hg
    let E1:Ev.Env:=[A0,A1,A2,Zs q,Zl acc,Zl ts,Zf R,Zf (bj s),Zf (bj s'),Zb t]
    refine(aA (e:=E1) (bz (e:=E2) (aF (ds:=[R,bj s,.str z]) rfl hrs) rfl)).trans ?_
    let E0:Ev.Env:=[A0,A1,A2,Zs q,Zl (acc++[bj s']),Zl ts,Zf R,Zf (bj s),Zf (bj s'),Zb t]
    refine(aA (e:=E0) ?_).trans ?_
    ·exact(Ev.JG (i:=4) (xs:=acc) (d:=bj s') (e:=E1) rfl rfl rfl (Qw7 (show acc.length<=100 by omega) (by decide))).trans rfl
    ·exact(Ev.JG (i:=5) (xs:=ts) (d:=.bl t) (e:=E0) rfl rfl rfl (Qw7 (show ts.length<=100 by omega) (by decide))).trans rfl
  ·intro q hq;rcases Qq2.mp (show q∈(rd (dh x R) s z).1::(vV x Rs ss (rd (dh x R) s z).2).1 from hq) with rfl|hq
   ·exact o1
   ·exact g2 q hq
  ·show(_::(vV x Rs ss (rd (dh x R) s z).2).1).length=_;rw[Qqy,g3,Qqy]
theorem NP(A0 A1:OD):∀(Rs:List D) (ss:List eG.St) (z:List Nat) (ts:List D) (v6 v7 v8 v9:OD),Rs.length=ss.length->(∀R∈Rs,bV x R)->(∀s∈ss,kj x s)->(∀a∈z,a∈35::x)->(z.length+2)*2^Rs.length<=150->ts.length+Rs.length<=100->
  ∃w6 w7 w8 w9,iY (cj 2 (aG (aj 4) (aG (aj 5) cA))) Hh (xH Rs (ss.map bj)) [A0,A1,Zs z,Zl ts,v6,v7,v8,v9] = .nx [A0,A1,Zs (Nk x Rs ss z),(Zl (ts++(aes x Rs ss z).map .bl)),w6,w7,w8,w9]
 | [],[],z,ts,v6,v7,v8,v9,_,_,_,_,_,ht=>⟨v6,v7,v8,v9,by show Ev.Out.nx _=Ev.Out.nx [A0,A1,Zs z,Zl (ts++[]),v6,v7,v8,v9];rw[Qxv]⟩
 | [],_::_,_,_,_,_,_,_,h,_,_,_,_,_=>by simp at h
 | _::_,[],_,_,_,_,_,_,h,_,_,_,_,_=>by simp at h
 | R::Rs,s::ss,z,ts,v6,v7,v8,v9,h,hR,hS,hz,hn,ht=>by
  have hRi:=pU (hR R (Qqj ..));have hso:=hS s (Qqj ..);have hz':∀a∈z++[35],a∈35::x:=λa ha=>by
   rcases Qww.mp ha with ha|ha
   ·exact hz a ha
   ·rw[Qq1.mp ha];exact Qqj ..
  have hzl:(z++[35]).length=z.length+1:=by rw[Qqz,Qq9]
  obtain⟨o1,o2,o3⟩:=Ai hRi (z++[35]) hso hz';obtain⟨n1,n2⟩:=Kr hn (m:=(rd (dh x R) s (z++[35])).2.length) (by omega);have hrs:=vU hx hRi hso hz' (by omega);rw[Qqy] at ht;obtain⟨w6,w7,w8,w9,g1⟩:=NP A0 A1 Rs ss (rd (dh x R) s (z++[35])).2 (ts++[.bl (ac (dh x R) s (z++[35]))]) (Zf R) (Zf (bj s)) (Zf (bj (rd (dh x R) s (z++[35])).1)) (Zb (ac (dh x R) s (z++[35]))) (by simpa using h) (λQ hQ=>hR Q (Qqq _ hQ)) (λq hq=>hS q (Qqq _ hq)) o3 n1 (by rw[Qqz,Qq9];omega);refine⟨w6,w7,w8,w9,?_⟩;show iY _ Hh (.tup [R,bj s]::xH Rs (ss.map bj)) _=Ev.Out.nx [A0,A1,(Zs (Nk x Rs ss (rd (dh x R) s (z++[35])).2)),(Zl (ts++(.bl (ac (dh x R) s (z++[35]))::(aes x Rs ss (rd (dh x R) s (z++[35])).2).map .bl))),w6,w7,w8,w9]
  let E1:Ev.Env:=[A0,A1,Zs z,Zl ts,Zf R,Zf (bj s),v8,v9]
  rw[qC (e1:=E1) (e2:=[A0,A1,(Zs ((rd (dh x R) s (z++[35])).2)),(Zl (ts++[.bl (ac (dh x R) s (z++[35]))])),Zf R,Zf (bj s),(Zf (bj (rd (dh x R) s (z++[35])).1)),(Zb (ac (dh x R) s (z++[35])))]) rfl ?_,g1,Qzq]
  ·rfl
  generalize(rd (dh x R) s (z++[35])).2=q at *;generalize(rd (dh x R) s (z++[35])).1=s' at *;generalize ac (dh x R) s (z++[35])=t at *;unfold Hh
  let E0:Ev.Env:=[A0,A1,Zs q,Zl ts,Zf R,Zf (bj s),Zf (bj s'),Zb t]
  refine(aA (e:=E0) (bz (e:=E1) (aF (ds:=[R,bj s,.str (z++[35])]) (aH rfl (aH rfl (aH (ach (x:=.str z) (y:=.str [35]) rfl rfl rfl (mz (by show z.length+1<=100000;omega))) bD))) hrs) rfl)).trans ?_;exact(Ev.JG (i:=3) (xs:=ts) (d:=.bl t) (e:=E0) rfl rfl rfl (Qw7 (show ts.length<=100 by omega) (by decide))).trans rfl
end
section
variable{x:List Nat}{s:D}{Rs:List D}{ss:List eG.St}(o:GR x s Rs ss){z:List Nat}(hz:∀a∈z,a∈35::x)(hn:z.length<=7)
include o hz hn
theorem uE:gJ [.tup [s,.tup Rs],.tup (ss.map bj),.str z]=some (.tup [.tup ((vV x (lay s Rs) ss z).1.map bj),.str (vV x (lay s Rs) ss z).2,.tup ((acs x (lay s Rs) ss z).map .bl)])/\GR x s Rs (vV x (lay s Rs) ss z).1:=by
 have h1:=reading_rules o.hx o.hs o.hR (Qq6 o.h4 (by decide));have h2:=Il (s:=s) o.hR;have h3:=CP s Rs;have h4:=o.h4;have hl:=o.hl;have hx:=o.hx;have hS:=o.hS;have hs:=o.hs;have hR:=o.hR;generalize lay s Rs=Ls at *;generalize D.tup [s,.tup Rs]=O at *;obtain⟨w6,w7,w8,w9,g1,g2,g3⟩:=Ny hx (Zf O) (Zf (.tup (ss.map bj))) (Zs z) Ls ss z [] [] none none none none (by omega) h2 hS hz (aaS (by omega) hn) (by rw[Qjw];omega) (by rw[Qjw];omega);refine⟨bT (env:=[Zf O,(Zf (.tup (ss.map bj))),Zs z,(Zs ((vV x Ls ss z).2)),(Zl ([]++(vV x Ls ss z).1.map bj)),(Zl ([]++(acs x Ls ss z).map .bl)),w6,w7,w8,w9]) ?_,hx,hs,hR,h4,by omega,g2⟩;unfold oY;refine(aA (e:=[Zf O,(Zf (.tup (ss.map bj))),Zs z,Zs z,Zn,Zn,Zn,Zn,Zn,Zn]) rfl).trans ?_;refine(aA (e:=[Zf O,(Zf (.tup (ss.map bj))),Zs z,Zs z,Zl [],Zn,Zn,Zn,Zn,Zn]) rfl).trans ?_
 let E0:Ev.Env:=[Zf O,(Zf (.tup (ss.map bj))),Zs z,Zs z,Zl [],Zl [],Zn,Zn,Zn,Zn]
 refine(aA (e:=E0) rfl).trans ?_;refine(aA ((ir (ds:=xH Ls (ss.map bj)) (e:=E0) ?_).trans g1)).trans ?_
 ·exact Gs (aH (aF (ds:=[O]) rfl h1) rfl)
 ·rw[List.nil_append,List.nil_append];exact bH (cZ (ds:=[.tup ((vV x Ls ss z).1.map bj),.str (vV x Ls ss z).2,.tup ((acs x Ls ss z).map .bl)]) rfl Ev.zz3)
omit hz hn
theorem qU:fL [.tup [s,.tup Rs],.tup (ss.map bj)]=some (.tup [.str (Nk x (lay s Rs) ss []),.tup ((aes x (lay s Rs) ss []).map .bl)]):=by
 have h1:=reading_rules o.hx o.hs o.hR (Qq6 o.h4 (by decide));have h2:=Il (s:=s) o.hR;have h3:=CP s Rs;have h4:=o.h4;have hl:=o.hl;have hx:=o.hx;have hS:=o.hS;generalize lay s Rs=Ls at *;generalize D.tup [s,.tup Rs]=O at *;obtain⟨w6,w7,w8,w9,g1⟩:=NP hx (Zf O) (Zf (.tup (ss.map bj))) Ls ss [] [] none none none none (by omega) h2 hS (λa ha=>by simp at ha) (aaS (m:=0) (by omega) (by decide)) (by rw[Qjw];omega);refine bT (env:=[Zf O,(Zf (.tup (ss.map bj))),Zs (Nk x Ls ss []),(Zl ([]++(aes x Ls ss []).map .bl)),w6,w7,w8,w9]) ?_;unfold mJ;refine(aA (e:=[Zf O,(Zf (.tup (ss.map bj))),Zs [],Zn,Zn,Zn,Zn,Zn]) rfl).trans ?_
 let E0:Ev.Env:=[Zf O,(Zf (.tup (ss.map bj))),Zs [],Zl [],Zn,Zn,Zn,Zn]
 refine(aA (e:=E0) rfl).trans ?_;refine(aA ((ir (ds:=xH Ls (ss.map bj)) (e:=E0) ?_).trans g1)).trans ?_
 ·exact Gs (aH (aF (ds:=[O]) rfl h1) rfl)
 ·rw[List.nil_append];exact bH (cZ (ds:=[.str (Nk x Ls ss []),.tup ((aes x Ls ss []).map .bl)]) rfl Ev.Jt)
end
end KW
namespace KT
open Ev PySem L2
open iK (XS sides fit)
open DP (bV)
open eG (bj kj Rl rd dh vV fss lay lf GR Ai)
open KW (ac acs aes uE qU)
open Bk (dq)
abbrev Pl:=eG.St×eG.St×eG.St×Bool×Bool
def en(p:Pl):D:=.tup [.tup [bj p.1,bj p.2.1],.tup [bj p.2.2.1],.bl p.2.2.2.1,.bl p.2.2.2.2]
def key(p:Pl):NK:=.tup [WW.qS [p.1,p.2.1],WW.qS [p.2.2.1],.num (if p.2.2.2.1 then 1 else 0),.num (if p.2.2.2.2 then 1 else 0)]
theorem ack(p:Pl):Mm (en p)=some (key p):=by
 have h:wg (en p)=some (key p):=by unfold en key;simp only[wg,Ml,bj,WW.qS,Option.map_some,Qq3,List.map_nil]
 unfold Mm en;unfold en at h;simp only[h,Option.bind_some];rw[if_pos];simp[key,WW.qS,NK.dep,NK.xg]
theorem Ux(p q:Pl)(h:key p=key q):p=q:=by
 obtain⟨a,b,c,d,e⟩:=p;obtain⟨a',b',c',d',e'⟩:=q;unfold key at h;have h0:=NK.tup.inj h;obtain⟨h1,h0⟩:=Qzv h0;obtain⟨h2,h0⟩:=Qzv h0;obtain⟨h3,h0⟩:=Qzv h0;obtain⟨h4,h0⟩:=Qzv h0;have j1:=WW.Pn h1;have j2:=WW.Pn h2;obtain⟨k1,j3⟩:=Qzv j1;obtain⟨k3,_⟩:=Qzv j3;obtain⟨k2,_⟩:=Qzv j2;have tf:∀{u v:Bool},NK.num (if u=true then 1 else 0)=NK.num (if v=true then 1 else 0)->u=v:=λ{u v} h=>by
  cases u<;>cases v<;>first|rfl|(have:=NK.num.inj h;simp at this)
 have k4:=tf h3;have k5:=tf h4;simp only at k1 k2 k3 k4 k5;subst k1 k2 k3 k4 k5
 rfl
def prod{α β:Type}(A:List α)(B:List β):List (α×β):=A.flatMap λa=>B.map λb=>(a,b)
theorem Fq{α β:Type}(B:List β):∀A:List α,(prod A B).length=A.length*B.length
 | []=>by simp[prod]
 | a::A=>by
  have:=Fq B A;unfold prod at *;rw[List.flatMap_cons,Qqz,this,Qqw,Qqy,Nat.succ_mul,Nat.add_comm]
theorem p6{α β:Type}{A:List α}{B:List β}{a:α}{b:β}(h1:a∈A)(h2:b∈B):(a,b)∈prod A B:=List.mem_flatMap.mpr ⟨a,h1,Qwq.mpr ⟨b,h2,rfl⟩⟩
def SU(x:List Nat):List eG.St:=prod [false,true] ([]::(35::x).map λa=>[a])
theorem Ii{x:List Nat}{s:eG.St}(h:kj x s):s∈SU x:=by
 obtain⟨b,z⟩:=s;refine p6 (by cases b<;>simp) ?_;obtain⟨h1,h2⟩:=h
 match z,h1,h2 with
 | [],_,_=>exact Qqj ..
 | [a],_,h2=>exact Qqq _ (Qwq.mpr ⟨a,h2 a (Qqj ..),rfl⟩)
 | _::_::_,h1,_=>simp at h1
def U(x:List Nat):List Pl:=prod (SU x) (prod (SU x) (prod (SU x) (prod [false,true] [false,true])))
theorem WL{x:List Nat}(h:x∈XS):(U x).length<=6998:=by
 have h4:x.length<=4:=fV.lQ x h;unfold U SU;simp only[Fq,Qqy,Qqw,Qjw];have h5:(0+1+1)*(x.length+1+1)<=12:=by omega
 generalize(0+1+1)*(x.length+1+1)=m at *;have a1:m*((0+1+1)*(0+1+1))<=12*4:=Nat.mul_le_mul h5 (by decide);have a2:=Nat.mul_le_mul h5 a1;have a3:=Nat.mul_le_mul h5 a2;omega
def Ok(x:List Nat)(p:Pl):Prop:=kj x p.1/\kj x p.2.1/\kj x p.2.2.1
theorem Wa{x:List Nat}{p:Pl}(h:Ok x p):p∈U x:=by obtain⟨a,b,c,d,e⟩:=p;exact p6 (Ii h.1) (p6 (Ii h.2.1) (p6 (Ii h.2.2) (p6 (by cases d<;>simp) (by cases e<;>simp))))
def go(ρ1 ρ2:Rl)(p:Pl)(z:List Nat):Pl:=((rd ρ1 p.1 z).1,(rd ρ2 p.2.1 (rd ρ1 p.1 z).2).1,(rd ρ2 p.2.2.1 z).1,p.2.2.2.1||ac ρ2 p.2.1 (rd ρ1 p.1 z).2,p.2.2.2.2||ac ρ2 p.2.2.1 z)
def LP(ρ1 ρ2:Rl)(p:Pl)(a:Nat):Pl:=go ρ1 ρ2 p [a]
def E1(ρ1 ρ2:Rl)(p:Pl):Bool:=p.2.2.2.1||ac ρ2 p.2.1 ((rd ρ1 p.1 [35]).2++[35])
def E2(ρ2:Rl)(p:Pl):Bool:=p.2.2.2.2||ac ρ2 p.2.2.1 [35]
def SP(ρ1 ρ2:Rl)(b c:Bool)(p:Pl):Bool:=(E1 ρ1 ρ2 p == b)&&(E2 ρ2 p == c)
section
def zf:cu:=aC (aP (aO 0) (cj 4 (aG (aj 4) (aG (aj 5) (aG (aj 6) (aG (aj 7) cA)))))) (aC (aP (au eG.gJ (Zv 3 (Zv 4 (Zv 1 ak)))) (cj 3 (aG (aj 4) (aG (aj 8) (aG (aj 9) cA))))) (aC (aP (au eG.gJ (Zv 2 (Zv 5 (Zv 1 ak)))) (cj 3 (aG (aj 5) (aG (aj 8) (aG (aj 10) cA))))) (bC (bN (Zv 4 (Zv 5 (aa (oV (aO 6) (aB fJ 9 (Zi 1))) (aa (oV (aO 7) (aB fJ 10 (Zi 0))) ak))))))))
def uw:cu:=aC (aP (aO 0) (cj 4 (aG (aj 5) (aG (aj 6) (aG (aj 7) (aG (aj 8) cA)))))) (aC (aP (oV (aO 7) (aQ fJ (aQ fJ (au eG.fL (Zv 2 (Zv 5 ak))) (Zi 1)) (Zi 1))) (aj 9)) (aC (aP (oV (aO 8) (aQ fJ (aQ fJ (au eG.fL (Zv 1 (Zv 6 ak))) (Zi 1)) (Zi 0))) (aj 10)) (bC (Kw (aB qz 9 (bw 3)) (aB qz 10 (bw 4))))))
end
section
variable{x:List Nat}{s R O:D}(hx:x∈XS)(hs:s∈sides)(hR:bV x R)(hO:bV x O)
def ly(s R:D):D:=if eG.rt s=true then eG.tn R else R
theorem Za:lay s [R,O]=[ly s R,ly s O]:=by unfold lay ly;split<;>rfl
theorem Zc:lay s [O]=[ly s O]:=by unfold lay ly;split<;>rfl
include hx hs hR hO
theorem or2{s1 s2:eG.St}(h1:kj x s1)(h2:kj x s2):GR x s [R,O] [s1,s2]:=
 ⟨hx,hs,λQ hQ=>by simp only[Qq2,Qwy,Qz2] at hQ;rcases hQ with rfl|rfl;exact hR;exact hO,by show 2<=4;decide,rfl,λt ht=>by simp only[Qq2,Qwy,Qz2] at ht;rcases ht with rfl|rfl;exact h1;exact h2⟩
omit hR in
theorem or1{s3:eG.St}(h3:kj x s3):GR x s [O] [s3]:=
 ⟨hx,hs,λQ hQ=>by simp only[Qq2,Qwy,Qz2] at hQ;rw[hQ];exact hO,by show 1<=4;decide,rfl,λt ht=>by simp only[Qq2,Qwy,Qz2] at ht;rw[ht];exact h3⟩
theorem J9{p:Pl}(hp:Ok x p){a:Nat}(ha:a∈x):runC 2 11 zf [.tup [s,.tup [O]],.tup [s,.tup [R,O]]] [en p,.str [a]]=some (en (LP (dh x (ly s R)) (dh x (ly s O)) p a))/\Ok x (LP (dh x (ly s R)) (dh x (ly s O)) p a):=by
 obtain⟨s1,s2,s3,b1,b2⟩:=p;have hz:∀b ∈ [a],b∈35::x:=λb hb=>by rw[Qq1.mp hb];exact Qqq _ ha
 obtain⟨w1,o1⟩:=uE (or2 hx hs hR hO hp.1 hp.2.1) hz (by show 1<=7;decide);obtain⟨w2,o2⟩:=uE (or1 hx hs hO hp.2.2) hz (by show 1<=7;decide);rw[Za] at w1 o1;rw[Zc] at w2 o2;generalize hO1:D.tup [s,.tup [R,O]]=B at *;generalize hO2:D.tup [s,.tup [O]]=I at *;have k1:eG.gJ [B,.tup [bj s1,bj s2],.str [a]]=some (.tup [.tup [bj (go (dh x (ly s R)) (dh x (ly s O)) (s1,s2,s3,b1,b2) [a]).1,bj (go (dh x (ly s R)) (dh x (ly s O)) (s1,s2,s3,b1,b2) [a]).2.1],.str (vV x [ly s R,ly s O] [s1,s2] [a]).2,.tup [.bl (ac (dh x (ly s R)) s1 [a]),.bl (ac (dh x (ly s O)) s2 (rd (dh x (ly s R)) s1 [a]).2)]]):=w1;have k2:eG.gJ [I,.tup [bj s3],.str [a]]=some (.tup [.tup [bj (go (dh x (ly s R)) (dh x (ly s O)) (s1,s2,s3,b1,b2) [a]).2.2.1],.str (vV x [ly s O] [s3] [a]).2,.tup [.bl (ac (dh x (ly s O)) s3 [a])]]):=w2;refine⟨?_,o1.hS _ (Qqj ..),o1.hS _ (Qqq _ (Qqj ..)),o2.hS _ (Qqj ..)⟩;unfold LP;generalize hg:go (dh x (ly s R)) (dh x (ly s O)) (s1,s2,s3,b1,b2) [a]=g at *;have e4:g.2.2.2.1=(b1||ac (dh x (ly s O)) s2 (rd (dh x (ly s R)) s1 [a]).2):=by rw[<-hg];rfl
 have e5:g.2.2.2.2=(b2||ac (dh x (ly s O)) s3 [a]):=by rw[<-hg];rfl
 clear hg;generalize ac (dh x (ly s O)) s2 (rd (dh x (ly s R)) s1 [a]).2=t2 at *;generalize ac (dh x (ly s O)) s3 [a]=t3 at *;generalize ac (dh x (ly s R)) s1 [a]=t1 at *;generalize(vV x [ly s R,ly s O] [s1,s2] [a]).2=y1 at *;generalize(vV x [ly s O] [s3] [a]).2=y2 at *;clear w1 w2 o1 o2;obtain⟨g1,g2,g3,g4,g5⟩:=g;simp only at e4 e5;unfold runC;rw[if_pos (show [en (s1,s2,s3,b1,b2),D.str [a]].length=2 from rfl)];have hb:zf (envOf 11 ([en (s1,s2,s3,b1,b2),.str [a]]++[I,B])) = .rt false (en (g1,g2,g3,g4,g5)) [(Zf (en (s1,s2,s3,b1,b2))),Zs [a],Zf I,Zf B,Zf (.tup [bj g1,bj g2]),Zf (.tup [bj g3]),Zb b1,Zb b2,Zs y2,Zf (.tup [.bl t1,.bl t2]),Zf (.tup [.bl t3])]:=by
  unfold zf
  let E1:Ev.Env:=[(Zf (en (s1,s2,s3,b1,b2))),Zs [a],Zf I,Zf B,Zf (.tup [bj s1,bj s2]),Zf (.tup [bj s3]),Zb b1,Zb b2,Zn,Zn,Zn]
  refine(aA (e:=E1) rfl).trans ?_
  let E0:Ev.Env:=[(Zf (en (s1,s2,s3,b1,b2))),Zs [a],Zf I,Zf B,Zf (.tup [bj g1,bj g2]),Zf (.tup [bj s3]),Zb b1,Zb b2,Zs y1,Zf (.tup [.bl t1,.bl t2]),Zn]
  refine(aA (e:=E0) (bz (e:=E1) (aF (ds:=[B,.tup [bj s1,bj s2],.str [a]]) rfl k1) rfl)).trans ?_;refine(aA (e:=[(Zf (en (s1,s2,s3,b1,b2))),Zs [a],Zf I,Zf B,Zf (.tup [bj g1,bj g2]),Zf (.tup [bj g3]),Zb b1,Zb b2,Zs y2,Zf (.tup [.bl t1,.bl t2]),Zf (.tup [.bl t3])]) (bz (e:=E0) (aF (ds:=[I,.tup [bj s3],.str [a]]) rfl k2) rfl)).trans ?_;subst e4 e5;cases b1<;>cases b2<;>rfl
 rw[hb]
theorem Oh(b c:Bool){p:Pl}(hp:Ok x p):runC 1 11 uw [.tup [s,.tup [O]],.tup [s,.tup [R,O]],.bl b,.bl c] [en p]=some (.bl (SP (dh x (ly s R)) (dh x (ly s O)) b c p)):=by
 obtain⟨s1,s2,s3,b1,b2⟩:=p;have w1:=qU (or2 hx hs hR hO hp.1 hp.2.1);have w2:=qU (or1 hx hs hO hp.2.2);rw[Za] at w1;rw[Zc] at w2;generalize hO1:D.tup [s,.tup [R,O]]=B at *;generalize hO2:D.tup [s,.tup [O]]=I at *;have k1:eG.fL [B,.tup [bj s1,bj s2]]=some (.tup [.str (eG.Nk x [ly s R,ly s O] [s1,s2] []),.tup [.bl (ac (dh x (ly s R)) s1 [35]),.bl (ac (dh x (ly s O)) s2 ((rd (dh x (ly s R)) s1 [35]).2++[35]))]]):=w1;have k2:eG.fL [I,.tup [bj s3]]=some (.tup [.str (eG.Nk x [ly s O] [s3] []),.tup [.bl (ac (dh x (ly s O)) s3 [35])]]):=w2;unfold SP E1 E2;simp only;generalize ac (dh x (ly s O)) s2 ((rd (dh x (ly s R)) s1 [35]).2++[35])=t2 at *;generalize ac (dh x (ly s O)) s3 [35]=t3 at *;generalize ac (dh x (ly s R)) s1 [35]=t1 at *;generalize eG.Nk x [ly s R,ly s O] [s1,s2] []=y1 at *;generalize eG.Nk x [ly s O] [s3] []=y2 at *;clear w1 w2;unfold runC;rw[if_pos (show [en (s1,s2,s3,b1,b2)].length=1 from rfl)];have hb:uw (envOf 11 ([en (s1,s2,s3,b1,b2)]++[I,B,.bl b,.bl c])) = .rt false (.bl (((b1||t2) == b)&&((b2||t3) == c))) [(Zf (en (s1,s2,s3,b1,b2))),Zf I,Zf B,Zb b,Zb c,Zf (.tup [bj s1,bj s2]),Zf (.tup [bj s3]),Zb b1,Zb b2,Zb (b1||t2),Zb (b2||t3)]:=by
  unfold uw
  let E1:Ev.Env:=[(Zf (en (s1,s2,s3,b1,b2))),Zf I,Zf B,Zb b,Zb c,Zf (.tup [bj s1,bj s2]),Zf (.tup [bj s3]),Zb b1,Zb b2,Zn,Zn]
  refine(aA (e:=E1) rfl).trans ?_
  let E0:Ev.Env:=[(Zf (en (s1,s2,s3,b1,b2))),Zf I,Zf B,Zb b,Zb c,Zf (.tup [bj s1,bj s2]),Zf (.tup [bj s3]),Zb b1,Zb b2,Zb (b1||t2),Zn]
  refine(aA (e:=E0) (bz (e:=E1) (eG.De rfl ?_) rfl)).trans ?_
  ·exact bJ (x:=.tup [.bl t1,.bl t2]) (y:=.int 1) (bJ (x:=.tup [.str y1,.tup [.bl t1,.bl t2]]) (y:=.int 1) (aF (ds:=[B,.tup [bj s1,bj s2]]) rfl k1) rfl rfl) rfl rfl
  refine(aA (e:=[(Zf (en (s1,s2,s3,b1,b2))),Zf I,Zf B,Zb b,Zb c,Zf (.tup [bj s1,bj s2]),Zf (.tup [bj s3]),Zb b1,Zb b2,Zb (b1||t2),Zb (b2||t3)]) (bz (e:=E0) (eG.De rfl ?_) rfl)).trans ?_
  ·exact bJ (x:=.tup [.bl t3]) (y:=.int 0) (bJ (x:=.tup [.str y2,.tup [.bl t3]]) (y:=.int 1) (aF (ds:=[I,.tup [bj s3]]) rfl k2) rfl rfl) rfl rfl
  generalize(b1||t2)=u1;generalize(b2||t3)=u2;cases u1<;>cases u2<;>cases b<;>cases c<;>rfl
 rw[hb]
end
open eG (bj kj Rl rd dh vV fss lay lf GR Ai stp oJ)
open KW (ac rW)
open KB (pl KY sought)
theorem VR(ρ1 ρ2:Rl)(p:Pl):∀v:List Nat,pl (LP ρ1 ρ2) p v=go ρ1 ρ2 p v:=by
 intro v
 induction v generalizing p with
 | nil=>
  obtain⟨a,b,c,d,e⟩:=p;show(a,b,c,d,e)=(a,b,c,d||false,e||false);rw[Bool.or_false,Bool.or_false]
 | cons a v ih=>
  show pl (LP ρ1 ρ2) (LP ρ1 ρ2 p a) v=_;rw[ih];unfold LP go;obtain⟨s1,s2,s3,b1,b2⟩:=p;have e1:=oJ ρ1 [a] s1 v;have e2:=oJ ρ2 [a] s3 v;rw[List.singleton_append] at e1 e2;have e3:=oJ ρ2 (rd ρ1 s1 [a]).2 s2 (rd ρ1 (rd ρ1 s1 [a]).1 v).2;have e4:=rW ρ2 (rd ρ1 s1 [a]).2 s2 (rd ρ1 (rd ρ1 s1 [a]).1 v).2;have e5:=rW ρ2 [a] s3 v;rw[List.singleton_append] at e5;simp only[e1,e2,e3,e4,e5,Bool.or_assoc]
def ini(ρl:D):eG.St:=(fit ρl 35,[])
noncomputable abbrev T:=Bk.RX
noncomputable def p0(R1 R2:D):Pl:=(ini (lf R1),ini (lf R2),ini (lf R2),false,false)
theorem aau(x:List Nat)(R1 R2:D)(v:List Nat):E1 (dh x R1) (dh x R2) (pl (LP (dh x R1) (dh x R2)) (p0 R1 R2) v)=ac (dh x R2) (ini (lf R2)) (T x R1 v++[35]):=by rw[VR];unfold E1 go p0 T Bk.RX ini;simp only;rw[Bool.false_or,<-rW,oJ,Qzq]
theorem aat(x:List Nat)(R1 R2:D)(v:List Nat):E2 (dh x R2) (pl (LP (dh x R1) (dh x R2)) (p0 R1 R2) v)=ac (dh x R2) (ini (lf R2)) (v++[35]):=by rw[VR];unfold E2 go p0;simp only;rw[Bool.false_or,<-rW]
theorem aai(al:Bool)(kvs:List (D×D))(l r:D):∀(z:List Nat) (s:eG.St),s.2.length<=1->z≠[]->(∀h,(eG.uC kvs h true).length<=1)->
  (rd (.chg al kvs l r) s z).2.length<=(s.2++z).dropLast.length/\((rd (.chg al kvs l r) s z).2=(s.2++z).dropLast↔ac (.chg al kvs l r) s z=false):=by
 intro z
 induction z with
 | nil=>intro s _ h;exact absurd rfl h
 | cons a z ih=>
  intro s hs _ hp;have hpt:∀h b,(eG.uC kvs h b).length<=1:=λh b=>by
   cases b with
   | true=>exact hp h
   | false=>exact Qq0 _
  have ho:(stp (.chg al kvs l r) s a).2.length<=s.2.length:=by
   obtain⟨b,h⟩:=s;cases h with
   | nil=>exact Qq0 _
   | cons h t=>
    have:(eG.uC kvs h (b&&fit r a)).length<=1:=hpt _ _;show(eG.uC kvs h (b&&fit r a)).length<=_;rw[Qqy];omega
  have hh:(stp (.chg al kvs l r) s a).1.2=[a]:=eG.Rc _ _ _;cases z with
  | nil=>
   have e1:(rd (.chg al kvs l r) s [a]).2=(stp (.chg al kvs l r) s a).2:=by rw[eG.rD]
   have e2:(s.2++[a]).dropLast=s.2:=List.dropLast_concat;rw[e1,e2];refine⟨ho,?_⟩;show _↔(!((stp (.chg al kvs l r) s a).2 == s.2)||false)=false;rw[Bool.or_false,Bool.not_eq_false',beq_iff_eq]
  | cons c z=>
   obtain⟨i1,i2⟩:=ih (stp (.chg al kvs l r) s a).1 (by rw[hh];exact Qq0 _) (by simp) hp;rw[hh] at i1 i2;have e1:(rd (.chg al kvs l r) s (a::c::z)).2=(stp (.chg al kvs l r) s a).2++(rd (.chg al kvs l r) (stp (.chg al kvs l r) s a).1 (c::z)).2:=rfl;have e2:(s.2++a::c::z).dropLast=s.2++([a]++c::z).dropLast:=by
    rw[List.dropLast_append_of_ne_nil (by simp)]
    rfl
   rw[e1,e2,Qqz,Qqz];refine⟨by omega,?_⟩;show _↔(!((stp (.chg al kvs l r) s a).2 == s.2)||ac (.chg al kvs l r) (stp (.chg al kvs l r) s a).1 (c::z))=false;rw[Bool.or_eq_false_iff,Bool.not_eq_false',beq_iff_eq,<-i2];constructor
   ·intro h;have hl:=Qx5 List.length h;rw[Qqz,Qqz] at hl;exact List.append_inj h (by omega)
   ·rintro⟨h1,h2⟩;rw[h1,h2]
theorem aag(c:Nat)(l r:D):∀(z:List Nat) (s:eG.St),z≠[]->
  (s.2++z).dropLast.length<=(rd (.put c l r) s z).2.length/\((rd (.put c l r) s z).2=(s.2++z).dropLast↔ac (.put c l r) s z=false):=by
 intro z
 induction z with
 | nil=>intro s h;exact absurd rfl h
 | cons a z ih=>
  intro s _;have ho:s.2.length<=(stp (.put c l r) s a).2.length:=by show s.2.length<=(s.2++_).length;rw[Qqz];omega
  have hh:(stp (.put c l r) s a).1.2=[a]:=rfl;cases z with
  | nil=>
   have e1:(rd (.put c l r) s [a]).2=(stp (.put c l r) s a).2:=by rw[eG.rD]
   have e2:(s.2++[a]).dropLast=s.2:=List.dropLast_concat;rw[e1,e2];refine⟨ho,?_⟩;show _↔(!((stp (.put c l r) s a).2 == s.2)||false)=false;rw[Bool.or_false,Bool.not_eq_false',beq_iff_eq]
  | cons d z=>
   obtain⟨i1,i2⟩:=ih (stp (.put c l r) s a).1 (by simp);rw[hh] at i1 i2;have e1:(rd (.put c l r) s (a::d::z)).2=(stp (.put c l r) s a).2++(rd (.put c l r) (stp (.put c l r) s a).1 (d::z)).2:=rfl;have e2:(s.2++a::d::z).dropLast=s.2++([a]++d::z).dropLast:=by
    rw[List.dropLast_append_of_ne_nil (by simp)]
    rfl
   rw[e1,e2,Qqz,Qqz];refine⟨by omega,?_⟩;show _↔(!((stp (.put c l r) s a).2 == s.2)||ac (.put c l r) (stp (.put c l r) s a).1 (d::z))=false;rw[Bool.or_eq_false_iff,Bool.not_eq_false',beq_iff_eq,<-i2];constructor
   ·intro h;have hl:=Qx5 List.length h;rw[Qqz,Qqz] at hl;exact List.append_inj h (by omega)
   ·rintro⟨h1,h2⟩;rw[h1,h2]
noncomputable def A(x:List Nat)(R:D)(w:List Nat):Bool:=!(T x R w == w)
theorem aah{x:List Nat}{R:D}{ρ:Rl}(hI:eG.Is x R ρ)(i:eG.St)(hi:i.2=[])(w:List Nat):(rd ρ i (w++[35])).2=w↔ac ρ i (w++[35])=false:=by
 have e0:(i.2++(w++[35])).dropLast=w:=by rw[hi,List.nil_append];exact List.dropLast_concat
 cases hI with
 | @put wy l r c hc hl hr=>
  have:=(aag c l r (w++[35]) i (by simp)).2;rw[e0] at this;exact this
 | @chg al ps kvs l r hp hd hk hl hr=>
  have hlen:∀h,(eG.uC kvs h true).length<=1:=λh=>by
   show((iK.look kvs h).getD [h]).length<=1;cases e:iK.look kvs h with
   | none=>exact Qq0 _
   | some t=>exact(iK.jz hk e).2.1
  have:=(aai al kvs l r (w++[35]) i (by rw[hi];exact Qx0 _) (by simp) hlen).2;rw[e0] at this;exact this
theorem Wy{x:List Nat}{R:D}(hR:bV x R)(w:List Nat):ac (dh x R) (ini (lf R)) (w++[35])=A x R w:=by
 have key:=aah (eG.pU hR) (ini (lf R)) rfl w;unfold A T Bk.RX;cases h:ac (dh x R) (ini (lf R)) (w++[35]) with
 | false=>
  have z:=key.mpr h;unfold ini at z;rw[z];simp
 | true=>
  have:(rd (dh x R) (fit (lf R) 35,[]) (w++[35])).2≠w:=λz=>by rw[key.mp z] at h;cases h
  simp[this]
noncomputable def W(x:List Nat)(R1 R2:D)(b c:Bool)(v:List Nat):Bool:=(A x R2 (T x R1 v) == b)&&(A x R2 v == c)
theorem acA{x:List Nat}{R1 R2:D}(h2:bV x R2)(b c:Bool)(v:List Nat):SP (dh x R1) (dh x R2) b c (pl (LP (dh x R1) (dh x R2)) (p0 R1 R2) v)=W x R1 R2 b c v:=by unfold SP W;rw[aau,aat,Wy h2,Wy h2]
noncomputable def Dt(sl ss:Stmt)(g:LD):cu:=aC (aP (bN (Zv 1 (aa (bN (Zv 2 (Zv 3 ak))) ak))) (aj 6)) (aC (aP (bN (Zv 1 (aa (bN (Zv 3 ak)) ak))) (aj 7)) (uM sl ss [7,6] [7,6,4,5] 8 9 g (aO 0) (aO 1) (bN (aa (au eG.bW (Zv 6 ak)) (aa (au eG.bW (Zv 7 ak)) (aa (jG (.bl false)) (aa (jG (.bl false)) ak)))))))
theorem An{x:List Nat}{s R:D}(h:bV x R):bV x (ly s R):=by
 unfold ly;split
 ·exact(eG.Aa h).1
 ·exact h
theorem NB{x:List Nat}{s R O fC:D}{Φ:Stmt->List D->LD}{sl ss:Stmt}{so:LD}(hx:x∈XS)(hs:s∈sides)(hR:bV x R)(hO:bV x O)(hl:Φ sl=runC 2 11 zf)(hw:Φ ss=runC 1 11 uw)(hso:so [fC]=some (.tup (x.map λa=>.str [a])))(b c:Bool) :
  ∃r,cH 10 (Dt sl ss (cH 11 (KB.di so Φ))) [fC,s,R,O,.bl b,.bl c]=some r/\((r = .non/\∀v,(∀a∈v,a∈x)->W x (ly s R) (ly s O) b c v=false)\/
   ∃w,r = .str (dq s w)/\(∀a∈w,a∈x)/\W x (ly s R) (ly s O) b c w=true/\∀v,(∀a∈v,a∈x)->v.length<w.length->W x (ly s R) (ly s O) b c v=false):=by
 have hG:KB.Gives Φ sl ss [.tup [s,.tup [O]],.tup [s,.tup [R,O]]] [.tup [s,.tup [O]],.tup [s,.tup [R,O]],.bl b,.bl c] x en key (LP (dh x (ly s R)) (dh x (ly s O))) (SP (dh x (ly s R)) (dh x (ly s O)) b c) (Ok x) (U x):=
  ⟨λp a hp ha=>by rw[hl];exact J9 hx hs hR hO hp ha,λp hp=>by rw[hw];exact Oh hx hs hR hO b c hp,ack,Ux,λp hp=>Wa hp,WL hx⟩
 have z0:∀Q:D,kj x (ini (lf Q)):=λQ=>⟨Qx0 _,λc hc=>by simp[ini] at hc⟩;obtain⟨r,h1,h2⟩:=sought hG (fC:=fC) (side:=s) (so:=so) (p0:=p0 (ly s R) (ly s O)) hs hso ⟨z0 _,z0 _,z0 _⟩;have f1:eG.bW [.tup [s,.tup [R,O]]]=some (.tup [bj (ini (lf (ly s R))),bj (ini (lf (ly s O)))]):=by have:=eG.first_standing hx hs (Rs:=[R,O]) (λQ hQ=>by simp only[Qq2,Qwy,Qz2] at hQ;rcases hQ with rfl|rfl;exact hR;exact hO) (by show 2<=10;decide);rw[Za] at this;exact this
 have f2:eG.bW [.tup [s,.tup [O]]]=some (.tup [bj (ini (lf (ly s O)))]):=by have:=eG.first_standing hx hs (Rs:=[O]) (λQ hQ=>by simp only[Qq2,Qwy,Qz2] at hQ;rw[hQ];exact hO) (by show 1<=10;decide);rw[Zc] at this;exact this
 have hsc:JM r=true:=by rcases h2 with ⟨rfl,_⟩|⟨w,rfl,_⟩<;>rfl
 refine⟨r,bT (env:=[Zf fC,Zf s,Zf R,Zf O,Zb b,Zb c,Zf (.tup [s,.tup [R,O]]),Zf (.tup [s,.tup [O]]),Zn,Zn]) ?_,?_⟩
 ·unfold Dt;refine(aA (e:=[Zf fC,Zf s,Zf R,Zf O,Zb b,Zb c,Zf (.tup [s,.tup [R,O]]),Zn,Zn,Zn]) rfl).trans ?_;refine(aA (e:=[Zf fC,Zf s,Zf R,Zf O,Zb b,Zb c,Zf (.tup [s,.tup [R,O]]),Zf (.tup [s,.tup [O]]),Zn,Zn]) rfl).trans ?_;unfold uM;have ea:aa (aO 0) (aa (aO 1) (aa (bN (aa (au eG.bW (aa (aO 6) ak)) (aa (au eG.bW (aa (aO 7) ak)) (aa (jG (.bl false)) (aa (jG (.bl false)) ak))))) ak)) [Zf fC,Zf s,Zf R,Zf O,Zb b,Zb c,Zf (.tup [s,.tup [R,O]]),Zf (.tup [s,.tup [O]]),Zn,Zn] = .ok [fC,s,en (p0 (ly s R) (ly s O))] [Zf fC,Zf s,Zf R,Zf O,Zb b,Zb c,Zf (.tup [s,.tup [R,O]]),Zf (.tup [s,.tup [O]]),Zn,Zn]:=by
   refine aH (e1:=[Zf fC,Zf s,Zf R,Zf O,Zb b,Zb c,Zf (.tup [s,.tup [R,O]]),Zf (.tup [s,.tup [O]]),Zn,Zn]) rfl (aH (e1:=[Zf fC,Zf s,Zf R,Zf O,Zb b,Zb c,Zf (.tup [s,.tup [R,O]]),Zf (.tup [s,.tup [O]]),Zn,Zn]) rfl (aH ?_ bD));refine cZ (ds:=[.tup [bj (ini (lf (ly s R))),bj (ini (lf (ly s O)))],.tup [bj (ini (lf (ly s O)))],.bl false,.bl false]) ?_ Ev.zz4;exact aH (aF (ds:=[.tup [s,.tup [R,O]]]) rfl f1) (aH (aF (ds:=[.tup [s,.tup [O]]]) rfl f2) rfl)
  show iG (aa _ _ [Zf fC,Zf s,Zf R,Zf O,Zb b,Zb c,Zf (.tup [s,.tup [R,O]]),Zf (.tup [s,.tup [O]]),Zn,Zn]) _=_;rw[ea];show(match cH 11 (KB.di so Φ) [fC,s,en (p0 (ly s R) (ly s O)),.clo sl [.tup [s,.tup [O]],.tup [s,.tup [R,O]]],.clo ss [.tup [s,.tup [O]],.tup [s,.tup [R,O]],.bl b,.bl c]] with|some d=>if JM d=true then Out.rt false d _ else Out.stuck|none=>Out.stuck)=_;rw[h1];simp only[hsc,if_true]
 ·have wi:=λv=>acA (x:=x) (R1:=ly s R) (An (s:=s) hO) b c v;rcases h2 with ⟨h2,h3⟩|⟨w,h2,h3,h4,h5⟩
  ·exact .inl ⟨h2,λv hv=>by rw[<-wi v];exact h3 v hv⟩
  ·exact .inr ⟨w,h2,h3,by rw[<-wi w];exact h4,λv hv hl=>by rw[<-wi v];exact h5 v hv hl⟩
end KT
namespace oA
open Ev PySem L2
open fV (SG Lg bit)
open iK (XS sides jg fit uD look encC gf sr)
open DP (bV)
open eG (Rl stp rd oJ tD rD Is Ke dh pU uC RZ lf tn rt)
open KT (T A W ly)
theorem Bo{q q':Key}{d:D}(h:q≠q'):∀kvs:List (D×D),dM (qG kvs q d) q'=dM kvs q'
 | []=>rfl
 | (k,e)::r=>by
  unfold qG;by_cases hk:jX k=some q
  ·have h2:jX k≠some q':=λz=>h (Qw0 (hk.symm.trans z));rw[if_pos hk];unfold dM;rw[if_neg h2,if_neg h2];exact Bo h r
  ·rw[if_neg hk];unfold dM;rw[Bo h r]
theorem Jy{q:Key}{d:D}:∀kvs:List (D×D),(dM kvs q).isSome=true->dM (qG kvs q d) q=some d
 | [],h=>by cases h
 | (k,e)::r,h=>by
  unfold qG;by_cases hk:jX k=some q
  ·rw[if_pos hk];unfold dM;rw[if_pos hk]
  ·rw[if_neg hk];unfold dM at h ⊢;rw[if_neg hk] at h ⊢;exact Jy r h
theorem Ea(q:Key)(k d:D):∀kvs:List (D×D),dM (kvs++[(k,d)]) q=(dM kvs q).or (if jX k=some q then some d else none)
 | []=>by show dM [(k,d)] q=_;unfold dM;split<;>rfl
 | (j,e)::r=>by
  rw[List.cons_append];unfold dM;by_cases hk:jX j=some q
  ·rw[if_pos hk,if_pos hk];rfl
  ·rw[if_neg hk,if_neg hk];exact Ea q k d r
theorem DY{k d:D}{q:Key}(hk:jX k=some q)(kvs:List (D×D))(q':Key):dM (putD kvs k q d) q'=if q=q' then some d else dM kvs q':=by
 unfold putD;split
 ·rename_i h;by_cases e:q=q'
  ·subst e;rw[if_pos rfl];exact Jy kvs h
  ·rw[if_neg e];exact Bo e kvs
 ·rename_i h;rw[Ea,hk];by_cases e:q=q'
  ·subst e;have:dM kvs q=none:=by cases z:dM kvs q with
    | none=>rfl
    | some o=>rw[z] at h;exact absurd rfl h
   rw[this,if_pos rfl,if_pos rfl];rfl
  ·rw[if_neg e,if_neg λz=>e (Qw0 z)];cases dM kvs q'<;>rfl
def lk(ps:List iK.Pr)(s:Nat)(o:Option (List Nat)):Option (List Nat):=ps.foldl (λacc p=>if p.1=s then some p.2 else acc) o
theorem QR(kvs:List (D×D))(p:iK.Pr)(s:Nat):look (putD kvs (.str [p.1]) (.inr (strOf [p.1])) (.str p.2)) s=if p.1=s then some p.2 else look kvs s:=by
 unfold look;rw[DY (k:=.str [p.1]) rfl];by_cases e:p.1=s
 ·subst e;rw[if_pos rfl,if_pos rfl]
 ·have:(Sum.inr (strOf [p.1]):Key) ≠ .inr (strOf [s]):=λz=>e (Qzv (fV.jJ (Sum.inr.inj z))).1;rw[if_neg this,if_neg e]
theorem Gd(s:Nat):∀(ps:List iK.Pr) (kvs:List (D×D)),look (eE kvs (ps.map λp=>(.str [p.1],.str p.2))) s=lk ps s (look kvs s)
 | [],kvs=>rfl
 | p::ps,kvs=>by
  show look (eE (putD kvs (.str [p.1]) (.inr (strOf [p.1])) (.str p.2)) (ps.map λp=>(.str [p.1],.str p.2))) s=_;rw[Gd s ps,QR]
  rfl
theorem J8{ps:List iK.Pr}{kvs:List (D×D)}(h:pq [.tup (ps.map encC)]=some (.dct kvs))(s:Nat):look kvs s=lk ps s none:=by
 have e:pq [.tup (ps.map encC)]=some (.dct (eE [] (ps.map λp=>(.str [p.1],.str p.2)))):=by
  show(jw (ps.map encC)).map _=_;rw[iK.vd]
  rfl
 rw[e] at h;cases h;rw[Gd]
 rfl
theorem Kq(z:List Nat)(a:Nat):fit (.tup (z.map λc=>.str [c])) a=z.contains a:=by
 have h:iK.cX [.tup (z.map λc=>.str [c]),.str [a]]=some (.bl (z.contains a)):=by
  refine bT (env:=[Zf (.tup (z.map λc=>.str [c])),Zs [a]]) (bH ?_);have e:aB Wj 1 (bw 0) [Zf (.tup (z.map λc=>.str [c])),Zs [a]] = .ok (.bl (z.contains a)) [Zf (.tup (z.map λc=>.str [c])),Zs [a]]:=by
   refine bL rfl rfl rfl ?_;show(Option.map D.bl (My (.str [a]) (z.map λc=>.str [c]))).or _=_;rw[iK.yK]
   rfl
  exact(Dd rfl).trans e
 unfold fit;rw[h];cases z.contains a<;>rfl
structure Ren(x y:List Nat)(φ:Nat->Nat):Prop where
 ed:φ 35=35
 mp:x.map φ=y
 inj:∀a∈35::x,∀b∈35::x,φ a=φ b->a=b
def sZ(φ:Nat->Nat):D->D
 | .tup ds=>.tup (ds.map λd=>match d with
  | .str z=>.str (z.map φ)
  | d=>d)
 | d=>d
def rnC(φ:Nat->Nat):D->D
 | .tup [.str a,.str b]=>.tup [.str (a.map φ),.str (b.map φ)]
 | d=>d
def Ag(φ:Nat->Nat):D->D
 | .tup [wy,.tup cs,l,r]=>.tup [wy,.tup (cs.map (rnC φ)),sZ φ l,sZ φ r]
 | d=>d
theorem xY(φ:Nat->Nat)(z:List Nat):sZ φ (.tup (z.map λc=>.str [c])) = .tup ((z.map φ).map λc=>.str [c]):=by
 show D.tup ((z.map λc=>D.str [c]).map _)=_;rw[Qx7,Qx7]
 rfl
section
variable{x y:List Nat}{φ:Nat->Nat}(N:Ren x y φ)
include N
theorem Th{k:Nat}(hk:k<x.length+1):(35::y).getD k 0=φ ((35::x).getD k 0):=by
 have e:35::y=(35::x).map φ:=by rw[Qq3,N.ed,N.mp]
 rw[e,Qw4,Qw4,Qw2];rw[Qwk (by rw[Qqy];exact hk)]
 rfl
theorem Xr(d:Nat):Lg y d=sZ φ (Lg x d):=by
 have hl:y.length=x.length:=by rw[<-N.mp,Qqw]
 have e:(((List.range (x.length+1)).filter (bit d)).map λk=>(35::y).getD k 0)=(((List.range (x.length+1)).filter (bit d)).map λk=>(35::x).getD k 0).map φ:=by rw[Qx7];refine Qj8 λk hk=>?_;exact Th N (Qjk.mp (List.mem_filter.mp hk).1)
 unfold Lg;rw[xY,hl,e]
theorem mY{l:D}(h:l∈SG x):sZ φ l∈SG y/\∀a∈35::x,fit (sZ φ l) (φ a)=fit l a:=by
 have hl:y.length=x.length:=by rw[<-N.mp,Qqw]
 rcases Qq2.mp h with rfl|h
 ·exact⟨Qqj ..,λa ha=>rfl⟩
 ·obtain⟨d,hd,rfl⟩:=Qwq.mp h;refine⟨Qqq _ (Qwq.mpr ⟨d,?_,Xr N d⟩),λa ha=>?_⟩
  ·unfold fV.M at hd ⊢;rw[hl];exact hd
  ·unfold Lg;rw[xY,Kq,Kq];have hz:∀c∈(((List.range (x.length+1)).filter (bit d)).map λk=>(35::x).getD k 0),c∈35::x:=λc hc=>by
    obtain⟨k,hk,rfl⟩:=Qwq.mp hc;have h1:=Qjk.mp (List.mem_filter.mp hk).1;rw[Qw4,Qwk (by rw[Qqy];exact h1)];exact List.getElem_mem _
   generalize(((List.range (x.length+1)).filter (bit d)).map λk=>(35::x).getD k 0)=z at hz;rw[Qj1,List.contains_iff_mem,List.contains_iff_mem];constructor
   ·intro h;obtain⟨c,hc,e⟩:=Qwq.mp h;rw[<-N.inj c (hz c hc) a ha e];exact hc
   ·exact λh=>Qwq.mpr ⟨a,h,rfl⟩
def rnP(φ:Nat->Nat)(p:iK.Pr):iK.Pr:=(φ p.1,p.2.map φ)
omit N in
theorem Ci(ps:List iK.Pr):(ps.map encC).map (rnC φ)=(ps.map (rnP φ)).map encC:=by
 rw[Qx7,Qx7]
 rfl
theorem xu{a:Nat}(h:a∈x):φ a∈y:=by rw[<-N.mp];exact Qwq.mpr ⟨a,h,rfl⟩
theorem uV{R:D}(h:bV x R):bV y (Ag φ R):=by
 obtain⟨wy,ch,l,r,rfl,h1,h2,h3,h4⟩:=h;cases h2 with
 | put hc=>exact⟨_,_,_,_,rfl,h1,.put (xu N hc),(mY N h3).1,(mY N h4).1⟩
 | @chg ps hp hp4 hps=>
  refine⟨wy,.tup ((ps.map encC).map (rnC φ)),_,_,rfl,h1,?_,(mY N h3).1,(mY N h4).1⟩;rw[Ci];refine .chg (by rw[Qqw];exact hp) (by rw[Qqw];exact hp4) λp hm=>?_;obtain⟨q,hq,rfl⟩:=Qwq.mp hm;obtain⟨g1,g2,g3⟩:=hps q hq;refine⟨xu N g1,by show(q.2.map φ).length<=1;rw[Qqw];exact g2,λc hc=>?_⟩;obtain⟨c',hc',rfl⟩:=Qwq.mp hc;exact xu N (g3 c' hc')
omit N in
theorem Xq{R:D}(h:bV x R):tn (Ag φ R)=Ag φ (tn R):=by obtain⟨wy,ch,l,r,rfl,h1,h2,h3,h4⟩:=h;cases h2<;>rfl
theorem OJ{s R:D}(h:bV x R):ly s (Ag φ R)=Ag φ (ly s R):=by
 unfold ly;split
 ·exact Xq h
 ·rfl
theorem QS{s:Nat}(hs:s∈35::x):∀(ps:List iK.Pr) (o:Option (List Nat)),(∀p∈ps,p.1∈x)->lk (ps.map (rnP φ)) (φ s) (o.map (List.map φ))=(lk ps s o).map (List.map φ)
 | [],o,_=>rfl
 | p::ps,o,h=>by
  have h0:=h p (Qqj ..);show lk (ps.map (rnP φ)) (φ s) (if φ p.1=φ s then some (p.2.map φ) else o.map (List.map φ))=(lk ps s (if p.1=s then some p.2 else o)).map (List.map φ);rw[<-QS hs ps _ λq hq=>h q (Qqq _ hq)]
  congr 1
  by_cases e:p.1=s
  ·rw[if_pos e,if_pos (by rw[e])];rfl
  ·rw[if_neg e,if_neg λz=>e (N.inj _ (Qqq _ h0) _ hs z)]
def Sim(x:List Nat)(φ:Nat->Nat)(ρ ρ':Rl):Prop:=∀(b:Bool) (h:List Nat) (a:Nat),(∀c∈h,c∈35::x)->a∈35::x->
 stp ρ' (b,h.map φ) (φ a)=(((stp ρ (b,h) a).1.1,(stp ρ (b,h) a).1.2.map φ),(stp ρ (b,h) a).2.map φ)/\(∀c∈(stp ρ (b,h) a).1.2,c∈35::x)/\∀c∈(stp ρ (b,h) a).2,c∈35::x
theorem S7{c:Nat}{l r:D}(hc:c∈x)(hl:l∈SG x)(hr:r∈SG x):Sim x φ (.put c l r) (.put (φ c) (sZ φ l) (sZ φ r)):=by
 intro b h a hh ha;refine⟨?_,λc hc=>by rw[Qq1.mp hc];exact ha,λd hd=>?_⟩
 ·show((fit (sZ φ l) (φ a),[φ a]),h.map φ++(if (b&&fit (sZ φ r) (φ a))=true then [φ c] else []))=((fit l a,[φ a]),(h++(if (b&&fit r a)=true then [c] else [])).map φ);rw[(mY N hl).2 a ha,(mY N hr).2 a ha,Qx2]
  congr 2
  split<;>rfl
 ·rcases Qww.mp hd with hd|hd
  ·exact hh d hd
  ·split at hd
   ·rw[Qq1.mp hd];exact Qqq _ hc
   ·simp at hd
theorem S8{al:Bool}{kvs kvs':List (D×D)}{l r:D}(hk:uD x kvs)(hl:l∈SG x)(hr:r∈SG x)(he:∀s∈35::x,look kvs' (φ s)=(look kvs s).map (List.map φ)):Sim x φ (.chg al kvs l r) (.chg al kvs' (sZ φ l) (sZ φ r)):=by
 intro b h a hh ha;have pe:∀s∈35::x,∀t:Bool,uC kvs' (φ s) t=(uC kvs s t).map φ:=λs hs t=>by
  unfold uC;split
  ·rw[he s hs];cases look kvs s<;>rfl
  ·rfl
 cases h with
 | nil=>exact⟨rfl,λc hc=>by rw[Qq1.mp hc];exact ha,λc hc=>by cases hc⟩
 | cons k t=>
  have hk0:=hh k (Qqj ..);have po:=eG.JV hk k hk0 (b&&fit r a);refine⟨?_,λc hc=>by rw[Qq1.mp hc];exact ha,po.2⟩;show((RZ al (sZ φ l) (φ k) b (uC kvs' (φ k) (b&&fit (sZ φ r) (φ a))),[φ a]),uC kvs' (φ k) (b&&fit (sZ φ r) (φ a)))=((RZ al l k b (uC kvs k (b&&fit r a)),[φ a]),(uC kvs k (b&&fit r a)).map φ);rw[(mY N hr).2 a ha,pe k hk0];generalize uC kvs k (b&&fit r a)=p at po
  congr 2
  unfold RZ;cases al with
  | false=>exact(mY N hl).2 k hk0
  | true=>
   rw[if_pos rfl,if_pos rfl];cases p with
   | nil=>rfl
   | cons c q=>
    rw[if_neg (by simp),if_neg (by simp)];exact(mY N hl).2 c (po.2 c (Qqj ..))
theorem Xl{R:D}(h:bV x R):Sim x φ (dh x R) (dh y (Ag φ R)):=by
 have i1:=pU h;have i2:=pU (uV N h);generalize dh x R=ρ at i1;generalize dh y (Ag φ R)=ρ' at i2;cases i1 with
 | @put wy l r c hc hl hr=>
  generalize e:Ag φ (.tup [wy,.tup [.tup [.str [],.str [c]]],l,r])=R' at i2;cases i2 with
  | @put wy' l' r' c' _ _ _=>cases e;exact S7 N hc hl hr
  | @chg al ps kvs l' r' hp hd hk _ _=>
   exfalso;injection e with e
   injection e with _ e
   injection e with e _
   injection e with e
   cases ps with
   | nil=>cases e
   | cons p ps=>
    rw[Qq3,Qq3] at e;injection e with e _
    unfold rnC encC at e;injection e with e
    injection e with e _
    injection e with e
    cases e
 | @chg al ps kvs l r hp hd hk hl hr=>
  generalize e:Ag φ (.tup [gf al,.tup (ps.map encC),l,r])=R' at i2;have hps:∀p∈ps,p.1∈x:=by
   obtain⟨wy,ch,l',r',e',h1,h2,_,_⟩:=h;cases e';generalize ec:D.tup (ps.map encC)=ch at h2;cases h2 with
   | put hc=>
    injection ec with ec
    cases ps with
    | nil=>cases ec
    | cons p ps=>
     rw[Qq3] at ec;injection ec with ec _
     unfold encC at ec;injection ec with ec
     injection ec with ec _
     injection ec with ec
     cases ec
   | @chg ps2 _ _ hps=>
    injection ec with ec
    have inj:∀(a b:List iK.Pr),a.map encC=b.map encC->a=b:=by
     intro a
     induction a with
     | nil=>intro b h;cases b with
      | nil=>rfl
      | cons=>cases h
     | cons p a ih=>intro b h;cases b with
      | nil=>cases h
      | cons q b=>
       rw[Qq3,Qq3] at h;injection h with h1 h2
       rw[ih b h2];unfold encC at h1;injection h1 with h1
       injection h1 with h1 h3
       injection h3 with h3 _
       injection h1 with h1
       injection h3 with h3
       injection h1 with h1 _
       rw[show p=q from Prod.ext h1 h3]
    rw[inj _ _ ec];exact λp hp=>(hps p hp).1
  cases i2 with
  | @put wy' l' r' c' _ _ _=>
   exfalso;injection e with e
   injection e with _ e
   injection e with e _
   injection e with e
   rw[Ci] at e;cases ps with
   | nil=>cases e
   | cons p ps=>
    rw[Qq3,Qq3] at e;injection e with e _
    unfold encC at e;injection e with e
    injection e with e _
    injection e with e
    cases e
  | @chg al' ps' kvs' l' r' hp' hd' hk' _ _=>
   injection e with e
   injection e with e1 e
   injection e with e2 e
   injection e with e3 e
   injection e with e4 _
   injection e2 with e2
   subst e3 e4;have ea:al=al':=by unfold gf at e1;cases al<;>cases al'<;>simp at e1 ⊢
   subst ea;refine S8 N hk hl hr λs hs=>?_;rw[<-e2,Ci] at hd';rw[J8 hd,J8 hd'];exact QS N hs ps none hps
end
section
variable{x y:List Nat}{φ:Nat->Nat}
theorem O5{ρ ρ':Rl}(S:Sim x φ ρ ρ'):∀(z:List Nat) (b:Bool) (h:List Nat),(∀c∈h,c∈35::x)->(∀c∈z,c∈35::x)->
  (rd ρ' (b,h.map φ) (z.map φ)).2=(rd ρ (b,h) z).2.map φ/\∀c∈(rd ρ (b,h) z).2,c∈35::x
 | [],b,h,_,_=>⟨rfl,λc hc=>by cases hc⟩
 | a::z,b,h,hh,hz=>by
  obtain⟨s1,s2,s3⟩:=S b h a hh (hz a (Qqj ..));obtain⟨i1,i2⟩:=O5 S z (stp ρ (b,h) a).1.1 (stp ρ (b,h) a).1.2 s2 λc hc=>hz c (Qqq _ hc);refine⟨?_,λc hc=>?_⟩
  ·show(stp ρ' (b,h.map φ) (φ a)).2++(rd ρ' (stp ρ' (b,h.map φ) (φ a)).1 (z.map φ)).2=((stp ρ (b,h) a).2++(rd ρ (stp ρ (b,h) a).1 z).2).map φ;rw[s1,Qx2];exact Qx5 _ i1
  ·rcases Qww.mp hc with hc|hc
   ·exact s3 c hc
   ·exact i2 c hc
theorem WM(N:Ren x y φ){R:D}(h:bV x R){w:List Nat}(hw:∀c∈w,c∈35::x):T y (Ag φ R) (w.map φ)=(T x R w).map φ/\∀c∈T x R w,c∈35::x:=by
 have hl:fit (lf (Ag φ R)) 35=fit (lf R) 35:=by obtain⟨wy,ch,l,r,rfl,h1,h2,h3,h4⟩:=h;have:=(mY N h3).2 35 (Qqj ..);rw[N.ed] at this;cases h2<;>exact this
 have:=O5 (Xl N h) (w++[35]) (fit (lf R) 35) [] (λc hc=>by cases hc) λc hc=>by
  rcases Qww.mp hc with hc|hc
  ·exact hw c hc
  ·rw[Qq1.mp hc];exact Qqj ..
 rw[Qx2,List.map_singleton,N.ed] at this;unfold T Bk.RX;rw[hl];exact this
theorem map_inj(N:Ren x y φ):∀{u v:List Nat},(∀c∈u,c∈35::x)->(∀c∈v,c∈35::x)->u.map φ=v.map φ->u=v
 | [],[],_,_,_=>rfl
 | [],_::_,_,_,h=>by cases h
 | _::_,[],_,_,h=>by cases h
 | a::u,b::v,hu,hv,h=>by
  rw[Qq3,Qq3] at h;injection h with h1 h2
  rw[N.inj a (hu a (Qqj ..)) b (hv b (Qqj ..)) h1,map_inj N (λc hc=>hu c (Qqq _ hc)) (λc hc=>hv c (Qqq _ hc)) h2]
theorem W0(N:Ren x y φ){R:D}(h:bV x R){w:List Nat}(hw:∀c∈w,c∈35::x):A y (Ag φ R) (w.map φ)=A x R w:=by
 obtain⟨e,hi⟩:=WM N h hw;unfold A;rw[e]
 congr 1
 rw[Qj1,beq_iff_eq,beq_iff_eq];exact⟨map_inj N hi hw,λz=>by rw[z]⟩
theorem WK(N:Ren x y φ){R O:D}(hR:bV x R)(hO:bV x O)(b c:Bool){v:List Nat}(hv:∀a∈v,a∈x):W y (Ag φ R) (Ag φ O) b c (v.map φ)=W x R O b c v:=by have hv':∀a∈v,a∈35::x:=λa ha=>Qqq _ (hv a ha);obtain⟨e,hi⟩:=WM N hR hv';unfold W;rw[e,W0 N hO hi,W0 N hO hv']
theorem back(N:Ren x y φ):∀v:List Nat,(∀a∈v,a∈y)->∃u:List Nat,(∀a∈u,a∈x)/\u.map φ=v
 | [],_=>⟨[],λa h=>(by cases h),rfl⟩
 | a::v,h=>by
  obtain⟨u,hu,e⟩:=back N v λc hc=>h c (Qqq _ hc);have ha:=h a (Qqj ..);rw[<-N.mp] at ha;obtain⟨c,hc,e2⟩:=Qwq.mp ha;refine⟨c::u,λd hd=>?_,by rw[Qq3,e,e2]⟩;rcases Qq2.mp hd with rfl|hd
  ·exact hc
  ·exact hu d hd
end
def Fnd(x:List Nat)(s:D)(Q:List Nat->Bool)(r:D):Prop:=(r = .non/\∀v,(∀a∈v,a∈x)->Q v=false)\/∃w,r = .str (Bk.dq s w)/\(∀a∈w,a∈x)/\w.length<=7000/\Q w=true/\∀v,(∀a∈v,a∈x)->v.length<w.length->Q v=false
theorem nZ(s:D)(w:List Nat):(Bk.dq s w).length=w.length:=by
 unfold Bk.dq;split
 ·exact Qkq ..
 ·rfl
theorem alike{x y:List Nat}{s t r q:D}{P Q:List Nat->Bool}(h1:Fnd x s P r)(h2:Fnd y t Q q)(f:∀v:List Nat,(∀a∈v,a∈x)->∃u:List Nat,(∀a∈u,a∈y)/\u.length=v.length/\Q u=P v)(g:∀u:List Nat,(∀a∈u,a∈y)->∃v:List Nat,(∀a∈v,a∈x)/\v.length=u.length/\P v=Q u) :
  (r = .non/\q = .non)\/∃w u,r = .str (Bk.dq s w)/\q = .str (Bk.dq t u)/\w.length=u.length/\w.length<=7000/\(∀a∈w,a∈x)/\(∀a∈u,a∈y)/\P w=true/\Q u=true:=by
 rcases h1 with ⟨rfl,n1⟩|⟨w,rfl,w1,wl,w2,w3⟩
 ·rcases h2 with ⟨rfl,_⟩|⟨u,rfl,u1,ul,u2,u3⟩
  ·exact .inl ⟨rfl,rfl⟩
  ·obtain⟨v,v1,v2,v3⟩:=g u u1;rw[n1 v v1,u2] at v3;cases v3
 ·rcases h2 with ⟨rfl,n2⟩|⟨u,rfl,u1,ul,u2,u3⟩
  ·obtain⟨v,v1,v2,v3⟩:=f w w1;rw[n2 v v1,w2] at v3;cases v3
  ·refine .inr ⟨w,u,rfl,rfl,?_,wl,w1,u1,w2,u2⟩;obtain⟨v,v1,v2,v3⟩:=f w w1;obtain⟨v',v1',v2',v3'⟩:=g u u1;by_cases c1:u.length<w.length
   ·have:=w3 v' v1' (by omega);rw[this,u2] at v3';cases v3'
   ·by_cases c2:w.length<u.length
    ·have:=u3 v v1 (by omega);rw[this,w2] at v3;cases v3
    ·omega
open iK (XS sides)
open eG (dh tn rt)
open KT (T A W ly LP SP p0 U Pl)
open KB (pl)
theorem short{P:Type}[DecidableEq P]{L:P->Nat->P}{S:P->Bool}{p:P}{x:List Nat}{U:List P}(hU:∀v:List Nat,(∀a∈v,a∈x)->pl L p v∈U){w:List Nat}(hw:∀a∈w,a∈x)(h:S (pl L p w)=true)
  (hs:∀v:List Nat,(∀a∈v,a∈x)->v.length<w.length->S (pl L p v)=false):w.length<=U.length:=by
 have nd:((List.range (w.length+1)).map λi=>pl L p (w.take i)).Nodup:=by
  refine List.pairwise_map.mpr ?_;refine List.pairwise_lt_range.imp_of_mem λ{i j} hi hj hij e=>?_;have hj':=Qjk.mp hj;have e1:pl L p (w.take i++w.drop j)=pl L p w:=by
   have h1:pl L p (w.take i++w.drop j)=(w.drop j).foldl L (pl L p (w.take i)):=by unfold pl;rw[List.foldl_append]
   have h2:pl L p (w.take j++w.drop j)=(w.drop j).foldl L (pl L p (w.take j)):=by unfold pl;rw[List.foldl_append]
   rw[h1,e,<-h2,List.take_append_drop]
  have:=hs (w.take i++w.drop j) (λa ha=>by
   rcases Qww.mp ha with ha|ha
   ·exact hw a (List.mem_of_mem_take ha)
   ·exact hw a (List.mem_of_mem_drop ha)) (by rw[Qqz,Qx8,Qzj];omega)
  rw[e1,h] at this;cases this
 have:=KB.tV U _ nd λq hq=>by
  obtain⟨i,_,rfl⟩:=Qwq.mp hq;exact hU _ λa ha=>hw a (List.mem_of_mem_take ha)
 rw[Qqw,List.length_range] at this;omega
theorem K4:gn=cH 10 (KT.Dt aW aV (cH 11 (KB.di fV.gD K1))):=rfl
theorem abN:aV≠aW:=λh=>by
 have h2:=Qx5 Ev.defName h;have h3:Ev.defName aV≠Ev.defName aW:=by decide +kernel
 exact h3 h2
theorem abz:K1 aW=runC 2 11 KT.zf:=if_pos rfl
theorem aby:K1 aV=runC 1 11 KT.uw:=(if_neg abN).trans (if_pos rfl)
section
variable{x:List Nat}{s R O fC:D}(hx:x∈XS)(hs:s∈sides)(hR:bV x R)(hO:bV x O)(hso:fV.gD [fC]=some (.tup (x.map λa=>.str [a])))
include hx hs hR hO
theorem VP:∀v:List Nat,(∀a∈v,a∈x)->∀p,KT.Ok x p->KT.Ok x (pl (LP (dh x (ly s R)) (dh x (ly s O))) p v)
 | [],_,p,hp=>hp
 | a::v,h,p,hp=>VP v (λc hc=>h c (Qqq _ hc)) _ (KT.J9 hx hs hR hO hp (h a (Qqj ..))).2
include hso
theorem seek(b c:Bool):∃r,gn [fC,s,R,O,.bl b,.bl c]=some r/\Fnd x s (W x (ly s R) (ly s O) b c) r:=by
 rw[K4];obtain⟨r,h1,h2⟩:=KT.NB (Φ:=K1) (sl:=aW) (ss:=aV) (so:=fV.gD) hx hs hR hO abz aby hso b c;refine⟨r,h1,?_⟩;rcases h2 with h2|⟨w,e,w1,w2,w3⟩
 ·exact .inl h2
 ·refine .inr ⟨w,e,w1,?_,w2,w3⟩;have z0:∀Q:D,eG.kj x (KT.ini (eG.lf Q)):=λQ=>⟨Qx0 _,λc hc=>by simp[KT.ini] at hc⟩;have hW:=λv=>KT.acA (x:=x) (R1:=ly s R) (R2:=ly s O) (KT.An hO) b c v;have:=short (U:=KT.U x) (L:=LP (dh x (ly s R)) (dh x (ly s O))) (S:=SP (dh x (ly s R)) (dh x (ly s O)) b c) (p:=p0 (ly s R) (ly s O)) (λv hv=>KT.Wa (VP hx hs hR hO v hv _ ⟨z0 _,z0 _,z0 _⟩)) w1 (by rw[hW];exact w2) (λv hv hl=>by rw[hW];exact w3 v hv hl);exact Qq6 this (Qq6 (KT.WL hx) (by decide))
theorem way:∃r,jk [fC,s,R,O]=some r/\Fnd x s (W x (ly s R) (ly s O) true false) r:=by obtain⟨r,e,h⟩:=seek hx hs hR hO hso true false;exact⟨r,bT (env:=[Zf fC,Zf s,Zf R,Zf O]) (bH (aF (ds:=[fC,s,R,O,.bl true,.bl false]) rfl e)),h⟩
theorem takes:∃r,iI [fC,s,R,O]=some r/\Fnd x s (W x (ly s R) (ly s O) false true) r:=by obtain⟨r,e,h⟩:=seek hx hs hR hO hso false true;exact⟨r,bT (env:=[Zf fC,Zf s,Zf R,Zf O]) (bH (aF (ds:=[fC,s,R,O,.bl false,.bl true]) rfl e)),h⟩
end
open fV (Rows SG Lg bit cP)
open iK (XS sides fit encC sr)
open DP (bV cF)
open eG (tn rt)
open Bk (dq mH)
theorem ne_is(s:D)(x:List Nat)(Q:D)(w:List Nat):(!(dq s (T x Q (dq s w)) == w))=A x Q (dq s w):=by
 unfold A;generalize T x Q (dq s w)=t
 congr 1
 by_cases h:t=dq s w
 ·rw[h,mH];simp
 ·have h2:dq s t≠w:=λe=>h (by rw[<-e,mH]);rw[Qzw.mpr h,Qzw.mpr h2]
section
variable{x:List Nat}{s R O:D}(hx:x∈XS)(hs:s∈sides)(hR:bV x R)(hO:bV x O){w:List Nat}(hw:∀c∈w,c∈x)
include hx hs hR hw
theorem chd(hn:w.length<=30000):eZ [s,R,.str w]=some (.str (dq s (T x (ly s R) (dq s w))))/\(∀c∈dq s (T x (ly s R) (dq s w)),c∈x)/\(dq s (T x (ly s R) (dq s w))).length<=2*w.length+1:=by
 have h:=DP.aex hx hs hR hw hn;have e:cF s R w=dq s (T x (ly s R) (dq s w)):=by
  simp only[sides,Qq2,Qwy,Qz2] at hs;rcases hs with rfl|rfl
  ·exact Bk.Uw hx hR hw hn
  ·exact Bk.Oz hx hR hw hn
 rw[e] at h;exact h
include hO
theorem shows(b c:Bool)(hn:w.length<=14000):mF [s,R,O,.str w,.tup [.bl b,.bl c]]=some (.bl (W x (ly s R) (ly s O) b c (dq s w))):=by
 obtain⟨h1,h2,h3⟩:=chd hx hs hR hw (by omega);obtain⟨g1,_,_⟩:=chd hx hs hO hw (by omega);obtain⟨k1,_,_⟩:=chd hx hs hO h2 (by omega);have e1:=ne_is s x (ly s O) w;have e2:=ne_is s x (ly s O) (dq s (T x (ly s R) (dq s w)));unfold W;rw[mH] at e2 k1;generalize dq s (T x (ly s O) (T x (ly s R) (dq s w)))=z2 at *;generalize hA2:A x (ly s O) (T x (ly s R) (dq s w))=a2 at *;generalize hA1:A x (ly s O) (dq s w)=a1 at *;generalize dq s (T x (ly s O) (dq s w))=z1 at *;generalize dq s (T x (ly s R) (dq s w))=u at *
 let E0:Ev.Env:=[Zf s,Zf R,Zf O,Zs w,Zf (.tup [.bl b,.bl c]),Zs u,Zb a1,Zb a2]
 refine bT (env:=E0) ?_;unfold wC
 let E2:Ev.Env:=[Zf s,Zf R,Zf O,Zs w,Zf (.tup [.bl b,.bl c]),Zs u,Zn,Zn]
 refine(aA (e:=E2) (bz (e:=[Zf s,Zf R,Zf O,Zs w,Zf (.tup [.bl b,.bl c]),Zn,Zn,Zn]) (aF (ds:=[s,R,.str w]) rfl h1) rfl)).trans ?_
 let E1:Ev.Env:=[Zf s,Zf R,Zf O,Zs w,Zf (.tup [.bl b,.bl c]),Zs u,Zb a1,Zn]
 refine(aA (e:=E1) ?_).trans ?_
 ·exact(bz (g:=aj 6) (d:=.bl a1) (e:=E2) (bJ (x:=.str z1) (y:=.str w) (aF (ds:=[s,O,.str w]) rfl g1) rfl (show IK (.str z1) (.str w)=some (.bl a1) by rw[<-e1];rfl)) rfl)
 refine(aA (e:=E0) ?_).trans ?_
 ·exact(bz (g:=aj 7) (d:=.bl a2) (e:=E1) (bJ (x:=.str z2) (y:=.str u) (aF (ds:=[s,O,.str u]) rfl k1) rfl (show IK (.str z2) (.str u)=some (.bl a2) by rw[<-e2];rfl)) rfl)
 refine bH (bJ (x:=.tup [.bl a2,.bl a1]) (y:=.tup [.bl b,.bl c]) (cZ (ds:=[.bl a2,.bl a1]) rfl Ev.Jt) rfl ?_);cases a2<;>cases a1<;>cases b<;>cases c<;>rfl
end
theorem Gf:jf [.non,.non]=some (.bl true):=rfl
theorem Ge{a b:List Nat}(h:a.length=b.length):jf [.str a,.str b]=some (.bl true):=by
 let E0:Ev.Env:=[Zs a,Zs b]
 refine bT (env:=E0) ?_;unfold zg;refine(aA (e:=E0) rfl).trans ?_;refine bH (bJ (x:=.int a.length) (y:=.int b.length) (aF (ds:=[.str a]) rfl rfl) (aF (ds:=[.str b]) rfl rfl) ?_);rw[h];show some (D.bl (decide _))=_;simp
def ph(x:List Nat)(c:Nat):Nat:=((x.zip [100,104,107,118]).lookup c).getD c
theorem Q8:∀{l:List Nat} {f:Nat->Nat},(l.map f).Nodup->∀a∈l,∀b∈l,f a=f b->a=b
 | [],_,_,a,h,_,_,_=>by cases h
 | c::l,f,nd,a,ha,b,hb,e=>by
  rw[Qq3] at nd;obtain⟨n1,n2⟩:=Qxz.mp nd;rcases Qq2.mp ha with rfl|ha'
  ·rcases Qq2.mp hb with rfl|hb'
   ·rfl
   ·exact absurd (Qwq.mpr ⟨b,hb',e.symm⟩) n1
  ·rcases Qq2.mp hb with rfl|hb'
   ·exact absurd (show f b∈l.map f from Qwq.mpr ⟨a,ha',e⟩) n1
   ·exact Q8 n2 a ha' b hb' e
theorem Cw{x:List Nat}(hx:x∈XS):x.map (ph x)=[100,104,107,118].take x.length/\ph x 35=35:=by have nd:=(fV.lO hx).nd;have ne:=(fV.lO hx).ne;rcases fV.zx hx with ⟨a,rfl⟩|⟨a,b,rfl⟩|⟨a,b,c,rfl⟩|⟨a,b,c,d,rfl⟩<;>simp[ph,Qxx] at nd ne ⊢<;>grind
theorem Xu{x:List Nat}(hx:x∈XS):[100,104,107,118].take x.length∈XS/\Ren x ([100,104,107,118].take x.length) (ph x):=by
 obtain⟨h1,h2⟩:=Cw hx;have hl:=(fV.lO hx).len;have hp:=(fV.lO hx).pos;refine⟨?_,h2,h1,Q8 ?_⟩
 ·have h:∀n,0<n->n<=4->([100,104,107,118].take n:List Nat)∈XS:=λn h0 h4=>by
   have hc:n=1\/n=2\/n=3\/n=4:=by omega
   rcases hc with rfl|rfl|rfl|rfl<;>exact fV.zy ⟨by decide,by decide,by decide,by decide⟩
  exact h x.length hp hl
 ·rw[Qq3,h2,h1];have h:∀n,0<n->n<=4->(35::[100,104,107,118].take n:List Nat).Nodup:=λn h0 h4=>by
   have hc:n=1\/n=2\/n=3\/n=4:=by omega
   rcases hc with rfl|rfl|rfl|rfl<;>decide
  exact h x.length hp hl
abbrev Tx:=List Nat×List Nat
def zB(p:Tx):D:=.tup [.str p.1,.str p.2]
def QV(ps:List Tx)(k:List Nat)(o:Option D):Option D:=ps.foldl (λacc p=>if p.1=k then some (.str p.2) else acc) o
theorem Jx(k:List Nat):∀(ps:List Tx) (kvs:List (D×D)),dM (eE kvs (ps.map λp=>(.str p.1,.str p.2))) (.inr (strOf k))=QV ps k (dM kvs (.inr (strOf k)))
 | [],kvs=>rfl
 | p::ps,kvs=>by
  show dM (eE (putD kvs (.str p.1) (.inr (strOf p.1)) (.str p.2)) (ps.map λp=>(.str p.1,.str p.2))) _=_;rw[Jx k ps,DY (k:=.str p.1) rfl];show QV ps k _=QV ps k (if p.1=k then some (.str p.2) else dM kvs (.inr (strOf k)))
  congr 1
  by_cases e:p.1=k
  ·rw[if_pos e,if_pos (by rw[e])]
  ·rw[if_neg e,if_neg λz=>e (fV.jJ (Sum.inr.inj z))]
theorem J4:∀(ps:List Tx),jw (ps.map zB)=some (ps.map λp=>(.str p.1,.str p.2))
 | []=>rfl
 | p::ps=>by
  rw[Qq3];unfold jw;rw[J4 ps]
  rfl
theorem Uv(ps qs:List Tx)(k:List Nat)(o:Option D):QV (ps++qs) k o=QV qs k (QV ps k o):=by unfold QV;rw[List.foldl_append]
theorem CN(f:Nat->Nat)(k:List Nat):∀(x:List Nat) (o:Option D),(∀a∈x,[a]≠k)->QV (x.map λa=>([a],[f a])) k o=o
 | [],o,_=>rfl
 | a::x,o,h=>by
  show QV (x.map λa=>([a],[f a])) k (if [a]=k then some (.str [f a]) else o)=o;rw[if_neg (h a (Qqj ..))];exact CN f k x o λb hb=>h b (Qqq _ hb)
theorem QT(f:Nat->Nat)(c:Nat):∀(x:List Nat) (o:Option D),c∈x->QV (x.map λa=>([a],[f a])) [c] o=some (.str [f c])
 | a::x,o,h=>by
  show QV (x.map λa=>([a],[f a])) [c] (if [a]=[c] then some (.str [f a]) else o)=_;by_cases hc:c∈x
  ·exact QT f c x _ hc
  ·have:a=c:=by
    rcases Qq2.mp h with h|h
    ·exact h.symm
    ·exact absurd h hc
   subst this;rw[if_pos rfl];exact CN f _ x _ λb hb e=>hc (by injection e with e;rw[<-e];exact hb)
def cal(x:List Nat):List Tx:=x.map (λa=>([a],[ph x a]))++[([],[]),([35],[35])]
def vL(x:List Nat):List (D×D):=eE [] ((cal x).map λp=>(.str p.1,.str p.2))
def G1(x z:List Nat):Prop:=z=[]\/∃a∈35::x,z=[a]
theorem Dr{x:List Nat}(hx:x∈XS){z:List Nat}(hz:G1 x z):eO (.dct (vL x)) (.str z)=some (.str (z.map (ph x))):=by
 show dM (vL x) (.inr (strOf z))=_;have ne:=(fV.lO hx).ne;unfold vL;rw[Jx];unfold cal;rw[Uv];rcases hz with rfl|⟨a,ha,rfl⟩
 ·rw[CN _ _ _ _ (λa _ e=>by cases e)]
  rfl
 ·rcases Qq2.mp ha with rfl|ha
  ·have:=(Cw hx).2;rw[CN _ _ _ _ (λb hb e=>by injection e with e;exact ne (by rw[<-e];exact hb))];show some (D.str [35])=some (.str [ph x 35]);rw[this]
  ·rw[QT _ _ _ _ ha];show(if ([35]:List Nat)=[a] then some (D.str [35]) else if ([]:List Nat)=[a] then some (.str []) else some (.str [ph x a]))=_;rw[if_neg (λe=>by injection e with e;exact ne (by rw[e];exact ha)),if_neg (λe=>by cases e)]
   rfl
theorem aer{x:List Nat}{ch:D}(h:sr x ch):∃qs:List Tx,ch = .tup (qs.map zB)/\qs.length<=4/\∀q∈qs,G1 x q.1/\G1 x q.2:=by
 cases h with
 | @put c hc=>exact⟨[([],[c])],rfl,by show 1<=4;decide,λq hq=>by rw[Qq1.mp hq];exact⟨.inl rfl,.inr ⟨c,Qqq _ hc,rfl⟩⟩⟩
 | @chg ps hp hp4 hps=>
  refine⟨ps.map λp=>([p.1],p.2),by rw[Qx7];rfl,by rw[Qqw];exact hp4,λq hq=>?_⟩;obtain⟨p,hp,rfl⟩:=Qwq.mp hq;obtain⟨h1,h2,h3⟩:=hps p hp;refine⟨.inr ⟨p.1,Qqq _ h1,rfl⟩,?_⟩;show G1 x p.2;cases e:p.2 with
  | nil=>exact .inl rfl
  | cons c t=>
   rw[e] at h2 h3;cases t with
   | nil=>exact .inr ⟨c,Qqq _ (h3 c (Qqj ..)),rfl⟩
   | cons d t=>rw[Qqy,Qqy] at h2;omega
theorem adF{x:List Nat}{l:D}(h:l∈SG x):l = .non\/∃z:List Nat,l = .tup (z.map λc=>.str [c])/\z.length<=x.length+1/\∀c∈z,c∈35::x:=by
 rcases Qq2.mp h with rfl|h
 ·exact .inl rfl
 ·obtain⟨d,hd,rfl⟩:=Qwq.mp h;refine .inr ⟨_,rfl,?_,λc hc=>?_⟩
  ·rw[Qqw];exact Qq6 (List.length_filter_le ..) (by rw[List.length_range];exact Qq0 _)
  ·obtain⟨k,hk,rfl⟩:=Qwq.mp hc;have h1:=Qjk.mp (List.mem_filter.mp hk).1;rw[Qw4,Qwk (by rw[Qqy];exact h1)];exact List.getElem_mem _
section
variable{x:List Nat}{φ:Nat->Nat}{C:D}(hC:∀z,G1 x z->eO C (.str z)=some (.str (z.map φ)))(h4:x.length<=4)
include hC h4
theorem Aq{l:D}(hl:l∈SG x)(R v2:OD)(acc:List D)(ha:acc.length<=10) :
  iB [R,Zf C,v2,Zl acc,Zf l] = .nx [R,Zf C,v2,Zl (acc++[sZ φ l]),Zf (sZ φ l)]:=by
 unfold iB;refine(aA (e:=[R,Zf C,v2,Zl acc,Zf (sZ φ l)]) ?_).trans (cP (e:=[R,Zf C,v2,Zl acc,Zf (sZ φ l)]) rfl rfl rfl (Qw7 ha (by decide)));rcases adF hl with rfl|⟨z,rfl,hz,hm⟩
 ·exact(dZ rfl).trans rfl
 ·rw[xY];refine(gH rfl).trans ?_;have e:iy [R,Zf C,v2,Zl acc,Zf (.tup (z.map λc=>.str [c]))] = .ok (.lst (z.map λc=>.str [φ c])) [R,Zf C,v2,Zl acc,Zf (.tup (z.map λc=>.str [c]))]:=by
   unfold iy;refine rP z (λc=>.str [c]) (λc=>.str [φ c]) rfl rfl rfl (λc hc=>?_) (Qq6 hz (Qq6 (Nat.succ_le_succ h4) (by decide)));exact bL rfl rfl rfl (hC [c] (.inr ⟨c,hm c hc,rfl⟩))
  refine bz (d:=.tup ((z.map φ).map λc=>.str [c])) (e:=[R,Zf C,v2,Zl acc,Zf (.tup (z.map λc=>.str [c]))]) (aF (ds:=[.lst (z.map λc=>.str [φ c])]) (aH e bD) ?_) rfl;rw[Qx7]
  rfl
theorem vR{R:D}(hR:bV x R):ik [R,C]=some (Ag φ R):=by
 obtain⟨wy,ch,l,r,rfl,h1,h2,h3,h5⟩:=hR;obtain⟨qs,rfl,hq,hg⟩:=aer h2;have e0:(qs.map zB).map (rnC φ)=qs.map λq=>.tup [.str (q.1.map φ),.str (q.2.map φ)]:=by rw[Qx7];rfl
 have e1:Ag φ (.tup [wy,.tup (qs.map zB),l,r]) = .tup [wy,.tup (qs.map λq=>.tup [.str (q.1.map φ),.str (q.2.map φ)]),sZ φ l,sZ φ r]:=by show D.tup [wy,.tup ((qs.map zB).map (rnC φ)),sZ φ l,sZ φ r]=_;rw[e0]
 rw[e1];have lc1:iz [Zf (.tup [wy,.tup (qs.map zB),l,r]),Zf C,Zn,Zn,Zn] = .ok (.lst (qs.map λq=>.tup [.str (q.1.map φ),.str (q.2.map φ)])) [Zf (.tup [wy,.tup (qs.map zB),l,r]),Zf C,Zn,Zn,Zn]:=by
  unfold iz
  let E0:Ev.Env:=[Zf (.tup [wy,.tup (qs.map zB),l,r]),Zf C,Zn,Zn,Zn]
  have:=Df (lo:=5) (n:=7) (it:=il (aB fJ 0 (Zi 1))) (g:=cj 2 (aG (aj 5) (aG (aj 6) cA))) (c:=dC) (e:=bN (aa (aB eO 1 (bw 5)) (aa (aB eO 1 (bw 6)) ak))) (env:=E0) (aK:=E0)
   qs zB (λq=>[Zs q.1,Zs q.2]) (λ_=>true) (λq=>.tup [.str (q.1.map φ),.str (q.2.map φ)]) rfl rfl (λq hm=>⟨rfl,λvs hv=>match vs,hv with|[_,_],_=>rfl,rfl,λ_=>?_⟩) (Qq6 hq (by decide))
  ·rw[List.filter_eq_self.mpr (λ_ _=>rfl)] at this;exact this
  ·exact cZ (ds:=[.str (q.1.map φ),.str (q.2.map φ)]) (aH (bL rfl rfl rfl (hC _ (hg q hm).1)) (aH (bL rfl rfl rfl (hC _ (hg q hm).2)) bD)) Ev.Jt
 generalize hch:(qs.map λq=>(D.tup [.str (q.1.map φ),.str (q.2.map φ)]))=Ws at *;have b1:=Aq hC h4 h3 (Zf (.tup [wy,.tup (qs.map zB),l,r])) (Zf (.tup Ws)) [] (by decide);have b2:=Aq hC h4 h5 (Zf (.tup [wy,.tup (qs.map zB),l,r])) (Zf (.tup Ws)) [sZ φ l] (by show 1<=10;decide)
 let E1:Ev.Env:=[Zf (.tup [wy,.tup (qs.map zB),l,r]),Zf C,Zf (.tup Ws),Zl [sZ φ l,sZ φ r],Zf (sZ φ r)]
 refine bT (env:=E1) ?_;unfold mO;refine(aA (e:=[Zf (.tup [wy,.tup (qs.map zB),l,r]),Zf C,Zf (.tup Ws),Zn,Zn]) (bz (d:=.tup Ws) (e:=[Zf (.tup [wy,.tup (qs.map zB),l,r]),Zf C,Zn,Zn,Zn]) (aF (ds:=[.lst Ws]) (aH lc1 bD) rfl) rfl)).trans ?_
 let E2:Ev.Env:=[Zf (.tup [wy,.tup (qs.map zB),l,r]),Zf C,Zf (.tup Ws),Zl [],Zn]
 refine(aA (e:=E2) rfl).trans ?_;refine(aA (e:=E1) ?_).trans ?_
 ·refine(ir (ds:=[l,r]) (e:=E2) rfl).trans ?_;refine(eG.qC rfl b1).trans ?_;exact(eG.qC rfl b2).trans rfl
 ·exact bH (cZ (ds:=[wy,.tup Ws,sZ φ l,sZ φ r]) rfl Ev.zz4)
end
theorem JN:∀{x:List Nat} {rs:List D},Rows (ou x) rs->∃ms:List (Nat×D),rs=ms.map (λp=>.tup [.str [p.1],p.2])/\ms.map (·.1)=x
 | [],rs,h=>by cases h;exact⟨[],rfl,rfl⟩
 | a::x,rs,h=>by
  generalize e:ou (a::x)=ss at h;cases h with
  | nil=>cases e
  | @cons s m ss' rs' h=>
   injection e with e1 e2
   subst e1 e2;obtain⟨ms,rfl,h2⟩:=JN (x:=x) h;exact⟨(a,m)::ms,rfl,by rw[Qq3,h2]⟩
theorem J6(φ:Nat->Nat):∀ms:List (Nat×D),Rows (ou ((ms.map (·.1)).map φ)) (ms.map λp=>.tup [.str [φ p.1],p.2])
 | []=>.nil
 | p::ms=>.cons (J6 φ ms)
abbrev En(a0 a1 a2 a3 a4 a5 a6 a7 a8 a9 a10 a11 a12 a13 a14:OD):Ev.Env:=[a0,a1,a2,a3,a4,a5,a6,a7,a8,a9,a10,a11,a12,a13,a14]
theorem yQ{n1 n2 n:Str}{g1 g2:LD}{i:Nat}{a:dD}{env e1:Ev.Env}{ds:List D}{d:D}(h0:env[i]? = some (Zf (pF n)))(h1:a env = .ok ds e1)(h2:(if n=n1 then g1 ds else if n=n2 then g2 ds else none)=some d):yR n1 n2 g1 g2 i a env = .ok d e1:=by
 unfold yR;rw[h0];show bindR (a env) _=_;rw[h1];show ig _ e1=_;rw[h2]
 rfl
def os(s:D):D:=if rt s=true then .str [108,101,102,116] else .str [114,105,103,104,116]
def sd:D:=.dct [(.str [108,101,102,116],.str [114,105,103,104,116]),(.str [114,105,103,104,116],.str [108,101,102,116])]
theorem Wc:(Sum.inr (strOf [108,101,102,116]):Key) ≠ .inr (strOf [114,105,103,104,116]):=λz=>by have:=fV.jJ (Sum.inr.inj z);revert this;decide
theorem abD{s:D}(hs:s∈sides):os s∈sides/\eO sd s=some (os s)/\(∀w,(dq (os s) w).reverse=dq s w):=by
 simp only[sides,Qq2,Qwy,Qz2] at hs;rcases hs with rfl|rfl
 ·refine⟨by unfold sides os;simp[rt],?_,λw=>by show w.reverse.reverse=w;exact List.reverse_reverse w⟩;show dM _ (.inr (strOf [108,101,102,116]))=_;unfold dM;exact if_pos rfl
 ·refine⟨by unfold sides os;simp[rt],?_,λw=>rfl⟩;show dM _ (.inr (strOf [114,105,103,104,116]))=_;unfold dM;refine(if_neg λz=>Wc (Qw0 z)).trans ?_;unfold dM;exact if_pos rfl
theorem V7{x:List Nat}{s R:D}(hs:s∈sides)(hR:bV x R):ly (os s) (tn R)=ly s R:=by obtain⟨wy,ch,l,r,rfl,_⟩:=hR;simp only[sides,Qq2,Qwy,Qz2] at hs;rcases hs with rfl|rfl<;>rfl
theorem aem(E:Ev.Env):Jc (Zw [108,101,102,116]) (Zw [114,105,103,104,116]) (Zw [114,105,103,104,116]) (Zw [108,101,102,116]) E = .ok sd E:=by show(if (Sum.inr (strOf [108,101,102,116]):Key) = .inr (strOf [114,105,103,104,116]) then Ev.R.stuck else .ok sd E) = .ok sd E;exact if_neg Wc
theorem Vy(f:Nat->Nat):∀x:List Nat,((x.zip (x.map f)).map λp=>D.tup [.str [p.1],.str [p.2]])=(x.map λa=>([a],[f a])).map zB
 | []=>rfl
 | a::x=>by rw[Qq3,List.zip_cons_cons,Qq3,Qq3,Qq3,Vy f x];rfl
theorem Wt:∀w:List Nat,qj (w.map λ_=>D.bl true)=some (w.map λ_=>true)
 | []=>rfl
 | a::w=>by rw[Qq3];unfold qj;rw[Wt w];rfl
section
variable{x:List Nat}(hx:x∈XS)
include hx
theorem M6(a0 a1 a2 a3 a4 a5 a6 a7 a8 a9 a11 a12 a13 a14:OD):au yM (aa (aQ cW (jB) (cG (aa (bN (aa (Zw []) (aa (Zw []) ak))) (aa (bN (aa (Zw [35]) (aa (Zw [35]) ak))) ak)))) ak) (En a0 a1 a2 a3 a4 a5 a6 a7 a8 a9 (Zs x) a11 a12 a13 a14) = .ok (.dct (vL x)) (En a0 a1 a2 a3 a4 a5 a6 a7 a8 a9 (Zs x) a11 a12 a13 a14):=by
 have e1:jB (En a0 a1 a2 a3 a4 a5 a6 a7 a8 a9 (Zs x) a11 a12 a13 a14) = .ok (.lst ((x.zip ([100,104,107,118].take x.length)).map λp=>.tup [.str [p.1],.str [p.2]])) (En a0 a1 a2 a3 a4 a5 a6 a7 a8 a9 (Zs x) a11 a12 a13 a14):=by
  unfold jB;rcases fV.zx hx with ⟨a,rfl⟩|⟨a,b,rfl⟩|⟨a,b,c,rfl⟩|⟨a,b,c,d,rfl⟩
  ·exact rP [((0:Int),a,100)] (λp=>.int p.1) (λp=>.tup [.str [p.2.1],.str [p.2.2]]) (fV.ue (ds:=[.int 1]) rfl rfl) rfl rfl (λp hp=>by simp only[Qq2,Qwy,Qz2] at hp;rcases hp with rfl;exact rfl) Ev.zz1
  ·exact rP [((0:Int),a,100),(1,b,104)] (λp=>.int p.1) (λp=>.tup [.str [p.2.1],.str [p.2.2]]) (fV.ue (ds:=[.int 2]) rfl rfl) rfl rfl (λp hp=>by simp only[Qq2,Qwy,Qz2] at hp;rcases hp with rfl|rfl<;>exact rfl) Ev.Jt
  ·exact rP [((0:Int),a,100),(1,b,104),(2,c,107)] (λp=>.int p.1) (λp=>.tup [.str [p.2.1],.str [p.2.2]]) (fV.ue (ds:=[.int 3]) rfl rfl) rfl rfl (λp hp=>by simp only[Qq2,Qwy,Qz2] at hp;rcases hp with rfl|rfl|rfl<;>exact rfl) Ev.zz3
  ·exact rP [((0:Int),a,100),(1,b,104),(2,c,107),(3,d,118)] (λp=>.int p.1) (λp=>.tup [.str [p.2.1],.str [p.2.2]]) (fV.ue (ds:=[.int 4]) rfl rfl) rfl rfl (λp hp=>by simp only[Qq2,Qwy,Qz2] at hp;rcases hp with rfl|rfl|rfl|rfl<;>exact rfl) Ev.zz4
 have e2:((x.zip ([100,104,107,118].take x.length)).map λp=>D.tup [.str [p.1],.str [p.2]])=(x.map λa=>([a],[ph x a])).map zB:=by rw[<-(Cw hx).1];exact Vy (ph x) x
 rw[e2] at e1;refine aF (ds:=[.lst ((cal x).map zB)]) (aH (bJ (x:=.lst ((x.map λa=>([a],[ph x a])).map zB)) (y:=.lst [.tup [.str [],.str []],.tup [.str [35],.str [35]]]) e1 rfl ?_) bD) ?_
 ·have:((cal x).map zB)=((x.map λa=>([a],[ph x a])).map zB)++[.tup [.str [],.str []],.tup [.str [35],.str [35]]]:=by unfold cal;rw[Qx2];rfl
  rw[this];show(if _ then _ else _)=_;rw[if_pos];rw[Qqw,Qqw];exact Qq6 (Nat.add_le_add_right (fV.lO hx).len 2) (by decide)
 ·show(jw ((cal x).map zB)).map _=_;rw[J4]
  rfl
theorem near_is{rs:List D}(hr:Rows (ou x) rs)(a1 a2 a3 a4 a5 a6 a7 a8 a9 a10 a12 a13 a14:OD):∃qs,Rows (ou ([100,104,107,118].take x.length)) qs/\au cV (aa (lL) ak) (En (Zf (.tup rs)) a1 a2 a3 a4 a5 a6 a7 a8 a9 a10 (Zf (.dct (vL x))) a12 a13 a14) = .ok (.tup qs) (En (Zf (.tup rs)) a1 a2 a3 a4 a5 a6 a7 a8 a9 a10 (Zf (.dct (vL x))) a12 a13 a14):=by
 obtain⟨ms,rfl,hm⟩:=JN hr;have hget:∀p∈ms,eO (.dct (vL x)) (.str [p.1])=some (.str [ph x p.1]):=λp hp=>Dr hx (.inr ⟨p.1,Qqq _ (by rw[<-hm];exact Qwq.mpr ⟨p,hp,rfl⟩),rfl⟩);have hlen:ms.length<=4:=by have:=Qx5 List.length hm;rw[Qqw] at this;rw[this];exact(fV.lO hx).len
 refine⟨ms.map λp=>.tup [.str [ph x p.1],p.2],?_,?_⟩
 ·rw[<-(Cw hx).1];have:=J6 (ph x) ms;rw[hm] at this;exact this
 ·generalize vL x=kvs at *;refine aF (ds:=[.lst (ms.map λp=>.tup [.str [ph x p.1],p.2])]) (aH ?_ bD) rfl;unfold lL;have:=Df (lo:=15) (n:=17) (it:=il (aO 0)) (g:=cj 2 (aG (aj 15) (aG (aj 16) cA))) (c:=dC) (e:=bN (aa (aB eO 11 (bw 15)) (Zv 16 ak))) (env:=En (Zf (.tup (ms.map λp=>.tup [.str [p.1],p.2]))) a1 a2 a3 a4 a5 a6 a7 a8 a9 a10 (Zf (.dct kvs)) a12 a13 a14) (aK:=En (Zf (.tup (ms.map λp=>.tup [.str [p.1],p.2]))) a1 a2 a3 a4 a5 a6 a7 a8 a9 a10 (Zf (.dct kvs)) a12 a13 a14)
   ms (λp=>.tup [.str [p.1],p.2]) (λp=>[Zs [p.1],Zf p.2]) (λ_=>true) (λp=>.tup [.str [ph x p.1],p.2]) rfl rfl (λp hp=>⟨rfl,λvs hv=>match vs,hv with|[_,_],_=>rfl,rfl,λ_=>?_⟩) (Qq6 hlen (by decide))
  ·rw[List.filter_eq_self.mpr (λ_ _=>rfl)] at this;exact this
  ·exact cZ (ds:=[.str [ph x p.1],p.2]) (aH (bL rfl rfl rfl (hget p hp)) (aH rfl bD)) Ev.Jt
theorem aad{w:List Nat}(hw:∀a∈w,a ∈ [100,104,107,118].take x.length)(hl:w.length<=7000)(a0 a1 a2 a3 a4 a5 a6 a7 a8 a9 a10 a11 a12 a13:OD):au Ja (aa (jA) ak) (En a0 a1 a2 a3 a4 a5 a6 a7 a8 a9 a10 a11 a12 a13 (Zs w)) = .ok (.bl true) (En a0 a1 a2 a3 a4 a5 a6 a7 a8 a9 a10 a11 a12 a13 (Zs w)):=by
 have hin:∀a∈w,Wj (.str [a]) (.str [100,104,107,118])=some (.bl true):=λa ha=>by
  have h:=List.mem_of_mem_take (hw a ha);have hh:([100,104,107,118].all λa=>fV.isT (Wj (.str [a]) (.str [100,104,107,118])))=true:=by decide +kernel
  exact fV.Zu (Qx1.mp hh a h)
 refine aF (ds:=[.lst (w.map λ_=>.bl true)]) (aH ?_ bD) ?_
 ·unfold jA;exact rP w (λc=>.str [c]) (λ_=>.bl true) rfl rfl rfl (λc hc=>bL rfl rfl rfl (hin c hc)) (Qq6 hl (by decide))
 ·show(qj (w.map λ_=>D.bl true)).map _=_;rw[Wt];show some (D.bl ((w.map λ_=>true).all id))=_;rw[Qx1.mpr λb hb=>by obtain⟨_,_,rfl⟩:=Qwq.mp hb;rfl]
end
structure Ask(i:Int)(n:Str)(b c:Bool):Prop where
 q:fJ (.lst [pF "makes_way",pF "takes_from"]) (.int i)=some (pF n)
 w:fJ (.lst [.tup [.bl true,.bl false],.tup [.bl false,.bl true]]) (.int i)=some (.tup [.bl b,.bl c])
 f:∀{x:List Nat} {s R O fC:D},x∈XS->s∈sides->bV x R->bV x O->fV.gD [fC]=some (.tup (x.map λa=>.str [a]))->
  ∃r,(if n = "makes_way" then jk [fC,s,R,O] else if n = "takes_from" then iI [fC,s,R,O] else none)=some r/\Fnd x s (W x (ly s R) (ly s O) b c) r
theorem aeA:Ask 0 "makes_way" true false:=⟨rfl,rfl,λhx hs hR hO hso=>by rw[if_pos rfl];exact way hx hs hR hO hso⟩
theorem aez:Ask 1 "takes_from" false true:=⟨rfl,rfl,λhx hs hR hO hso=>by rw[if_neg (by decide),if_pos rfl];exact takes hx hs hR hO hso⟩
theorem right{x:List Nat}{s R O:D}{rs:List D}{i:Int}{n:Str}{b c:Bool}(K:Ask i n b c)(hx:x∈XS)(hs:s∈sides)(hR:bV x R)(hO:bV x O)(hr:Rows (ou x) rs):qg [.tup rs,s,R,O,.int i]=some (.bl true):=by
 have hso:=fV.sounds_of hx hr;have hls:=fV.yF hx hr;obtain⟨o1,o2,o3⟩:=abD hs;obtain⟨tR,tR2,_⟩:=eG.Aa hR;obtain⟨tO,tO2,_⟩:=eG.Aa hO;obtain⟨r1,f1,F1⟩:=K.f hx hs hR hO hso;obtain⟨r2,f2,F2⟩:=K.f hx o1 tR tO hso;rw[V7 hs hR,V7 hs hO] at F2;obtain⟨hy,N⟩:=Xu hx;obtain⟨qs,hq,near⟩:=near_is hx hr (Zf s) (Zf R) (Zf O) (Zf (.int i)) (Zf sd) (Zf (pF n)) (Zf r1) (Zf r2) (Zf (.tup [.bl b,.bl c])) (Zs x) none none none;have ad4:=fV.sounds_of hy hq;obtain⟨r3,f3,F3⟩:=K.f hy hs (uV N hR) (uV N hO) ad4;rw[OJ N hR,OJ N hO] at F3;have cR:=vR (φ:=ph x) (C:=.dct (vL x)) (λz hz=>Dr hx hz) (fV.lO hx).len hR;have cO:=vR (φ:=ph x) (C:=.dct (vL x)) (λz hz=>Dr hx hz) (fV.lO hx).len hO;have A1:=alike F1 F2 (λv hv=>⟨v,hv,rfl,rfl⟩) (λv hv=>⟨v,hv,rfl,rfl⟩);have A2:=alike F1 F3 (λv hv=>⟨v.map (ph x),λa ha=>by obtain⟨c,hc,rfl⟩:=Qwq.mp ha;exact xu N (hv c hc),Qqw _,WK N (KT.An hR) (KT.An hO) b c hv⟩)
  (λu hu=>by
   obtain⟨v,hv,e⟩:=back N u hu;exact⟨v,hv,by rw[<-e,Qqw],by rw[<-e];exact(WK N (KT.An hR) (KT.An hO) b c hv).symm⟩)
 have abU:jf [r1,r2]=some (.bl true):=by
  rcases A1 with ⟨rfl,rfl⟩|⟨w,u,rfl,rfl,e,_⟩
  ·exact Gf
  ·exact Ge (by rw[nZ,nZ,e])
 have abT:jf [r1,r3]=some (.bl true):=by
  rcases A2 with ⟨rfl,rfl⟩|⟨w,u,rfl,rfl,e,_⟩
  ·exact Gf
  ·exact Ge (by rw[nZ,nZ,e])
 have aev:=M6 hx (Zf (.tup rs)) (Zf s) (Zf R) (Zf O) (Zf (.int i)) (Zf sd) (Zf (pF n)) (Zf r1) (Zf r2) (Zf (.tup [.bl b,.bl c])) none none none none;have test2:ie (eF (aB vA 7 (jG .non))) (rO (eF (au mF (Zv 1 (Zv 2 (Zv 3 (aa (nY (aO 8)) (Zv 9 ak))))))))
   (En (Zf (.tup rs)) (Zf s) (Zf R) (Zf O) (Zf (.int i)) (Zf sd) (Zf (pF n)) (Zf r1) (Zf r2) (Zf (.tup [.bl b,.bl c])) none none none none none) = .ok false (En (Zf (.tup rs)) (Zf s) (Zf R) (Zf O) (Zf (.int i)) (Zf sd) (Zf (pF n)) (Zf r1) (Zf r2) (Zf (.tup [.bl b,.bl c])) none none none none none):=by
  rcases A1 with ⟨rfl,rfl⟩|⟨w,u,rfl,rfl,e,hl,w1,u1,w2,u2⟩
  ·rfl
  ·have hu:∀c∈dq s u,c∈x:=λc hc=>by
    unfold dq at hc;split at hc
    ·exact u1 c (Qj2.mp hc)
    ·exact u1 c hc
   have sh:=shows hx hs hR hO hu b c (by rw[nZ];omega);rw[mH,u2] at sh;have ea:aa (aO 1) (aa (aO 2) (aa (aO 3) (aa (nY (aO 8)) (aa (aO 9) ak)))) (En (Zf (.tup rs)) (Zf s) (Zf R) (Zf O) (Zf (.int i)) (Zf sd) (Zf (pF n)) (Zs (dq s w)) (Zs (dq (os s) u)) (Zf (.tup [.bl b,.bl c])) none none none none none) = .ok [s,R,O,.str (dq (os s) u).reverse,.tup [.bl b,.bl c]] (En (Zf (.tup rs)) (Zf s) (Zf R) (Zf O) (Zf (.int i)) (Zf sd) (Zf (pF n)) (Zs (dq s w)) (Zs (dq (os s) u)) (Zf (.tup [.bl b,.bl c])) none none none none none):=rfl;rw[o3] at ea;exact iK.iJ (p:=true) (q:=false) rfl (vH (b:=true) (eU (aF ea sh)))
 have last:oV (aB IV 14 (jG .non)) (au Ja (aa (jA) ak)) (En (Zf (.tup rs)) (Zf s) (Zf R) (Zf O) (Zf (.int i)) (Zf sd) (Zf (pF n)) (Zf r1) (Zf r2) (Zf (.tup [.bl b,.bl c])) (Zs x) (Zf (.dct (vL x))) (Zf (.tup qs)) (Zf (Ag (ph x) R)) (Zf r3))
   = .ok (.bl true) (En (Zf (.tup rs)) (Zf s) (Zf R) (Zf O) (Zf (.int i)) (Zf sd) (Zf (pF n)) (Zf r1) (Zf r2) (Zf (.tup [.bl b,.bl c])) (Zs x) (Zf (.dct (vL x))) (Zf (.tup qs)) (Zf (Ag (ph x) R)) (Zf r3)):=by
  rcases A2 with ⟨rfl,rfl⟩|⟨w,u,rfl,rfl,e,hl,w1,u1,w2,u2⟩
  ·rfl
  ·have hu:∀c∈dq s u,c ∈ [100,104,107,118].take x.length:=λc hc=>by
    unfold dq at hc;split at hc
    ·exact u1 c (Qj2.mp hc)
    ·exact u1 c hc
   exact(Dd rfl).trans (aad hx hu (by rw[nZ,<-e];exact hl) _ _ _ _ _ _ _ _ _ _ _ _ _ _)
 generalize hcd:D.dct (vL x)=cd at *;generalize hR':Ag (ph x) R=R' at *;generalize hO':Ag (ph x) O=O' at *;clear A1 A2 F1 F2 F3
 let E0:Ev.Env:=En (Zf (.tup rs)) (Zf s) (Zf R) (Zf O) (Zf (.int i)) (Zf sd) (Zf (pF n)) (Zf r1) (Zf r2) (Zf (.tup [.bl b,.bl c])) (Zs x) (Zf cd) (Zf (.tup qs)) (Zf R') (Zf r3)
 refine bT (env:=E0) ?_;unfold wD;refine(aA (e:=En (Zf (.tup rs)) (Zf s) (Zf R) (Zf O) (Zf (.int i)) (Zf sd) none none none none none none none none none) (bz (d:=sd) (aem _) rfl)).trans ?_;refine(aA (e:=En (Zf (.tup rs)) (Zf s) (Zf R) (Zf O) (Zf (.int i)) (Zf sd) (Zf (pF n)) none none none none none none none none) ?_).trans ?_
 ·exact(bz (d:=pF n) (bJ (x:=.lst [pF "makes_way",pF "takes_from"]) (y:=.int i) rfl rfl K.q) rfl)
 refine(aA (e:=En (Zf (.tup rs)) (Zf s) (Zf R) (Zf O) (Zf (.int i)) (Zf sd) (Zf (pF n)) (Zf r1) none none none none none none none) ?_).trans ?_
 ·exact(bz (d:=r1) (yQ (n:=n) (ds:=[.tup rs,s,R,O]) rfl rfl f1) rfl)
 let E2:Ev.Env:=En (Zf (.tup rs)) (Zf s) (Zf R) (Zf O) (Zf (.int i)) (Zf sd) (Zf (pF n)) (Zf r1) (Zf r2) none none none none none none
 refine(aA (e:=E2) ?_).trans ?_
 ·exact(bz (d:=r2) (yQ (n:=n) (ds:=[.tup rs,os s,tn R,tn O]) rfl (aH rfl (aH (bL rfl rfl rfl o2) (aH (aF (ds:=[R]) rfl tR2) (aH (aF (ds:=[O]) rfl tO2) bD)))) f2) rfl)
 refine(aA (e:=E2) ((dZ (vH (b:=true) (eU (aF (ds:=[r1,r2]) rfl abU)))).trans rfl)).trans ?_
 let E1:Ev.Env:=En (Zf (.tup rs)) (Zf s) (Zf R) (Zf O) (Zf (.int i)) (Zf sd) (Zf (pF n)) (Zf r1) (Zf r2) (Zf (.tup [.bl b,.bl c])) none none none none none
 refine(aA (e:=E1) ?_).trans ?_
 ·exact(bz (d:=.tup [.bl b,.bl c]) (bJ (x:=.lst [.tup [.bl true,.bl false],.tup [.bl false,.bl true]]) (y:=.int i) rfl rfl K.w) rfl)
 refine(aA (e:=E1) ((dZ test2).trans rfl)).trans ?_;refine(aA (e:=En (Zf (.tup rs)) (Zf s) (Zf R) (Zf O) (Zf (.int i)) (Zf sd) (Zf (pF n)) (Zf r1) (Zf r2) (Zf (.tup [.bl b,.bl c])) (Zs x) none none none none) (bz (d:=.str x) (aF (ds:=[.tup rs]) rfl hls) rfl)).trans ?_;refine(aA (e:=En (Zf (.tup rs)) (Zf s) (Zf R) (Zf O) (Zf (.int i)) (Zf sd) (Zf (pF n)) (Zf r1) (Zf r2) (Zf (.tup [.bl b,.bl c])) (Zs x) (Zf cd) none none none) (bz (d:=cd) aev rfl)).trans ?_;refine(aA (e:=En (Zf (.tup rs)) (Zf s) (Zf R) (Zf O) (Zf (.int i)) (Zf sd) (Zf (pF n)) (Zf r1) (Zf r2) (Zf (.tup [.bl b,.bl c])) (Zs x) (Zf cd) (Zf (.tup qs)) none none) (bz (d:=.tup qs) near rfl)).trans ?_;refine(aA (e:=En (Zf (.tup rs)) (Zf s) (Zf R) (Zf O) (Zf (.int i)) (Zf sd) (Zf (pF n)) (Zf r1) (Zf r2) (Zf (.tup [.bl b,.bl c])) (Zs x) (Zf cd) (Zf (.tup qs)) (Zf R') none) (bz (d:=R') (aF (ds:=[R,cd]) rfl cR) rfl)).trans ?_;refine(aA (e:=E0) ?_).trans ?_
 ·exact(bz (d:=r3) (yQ (n:=n) (ds:=[.tup qs,s,R',O']) rfl (aH rfl (aH rfl (aH rfl (aH (aF (ds:=[O,cd]) rfl cO) bD)))) f3) rfl)
 refine(aA (e:=E0) ((dZ (vH (b:=true) (eU (aF (ds:=[r1,r3]) rfl abT)))).trans rfl)).trans ?_;exact bH last
theorem N5:∀ns:List Int,ns.length<=63->Ni ns->Ks [.arr (ns.map .int)]=some (.bl true):=by
 intro ns hl hb;obtain⟨p,hp⟩:=eG.pack ns hl hb 0 (by decide) (by decide);obtain⟨x,rows,n0,hx,h1,hr⟩:=fV.stock p;have h2:=fV.yF hx hr;obtain⟨d,hd,e⟩:=dig n0 2 (by decide);obtain⟨s,hs,h3⟩:∃s,s∈sides/\fJ (.lst [.str [108,101,102,116],.str [114,105,103,104,116]]) (.int (d:Int))=some s:=by
  have hc:d=0\/d=1:=by omega
  rcases hc with rfl|rfl
  ·exact⟨.str [108,101,102,116],Qqj ..,rfl⟩
  ·exact⟨.str [114,105,103,104,116],Qqq _ (Qqj ..),rfl⟩
 obtain⟨w1,ch1,l1,r1,n1,h4,k1⟩:=eG.rule (n0 / 2) x hx;obtain⟨w2,ch2,l2,r2,n2,h5,k2⟩:=eG.rule n1 x hx;have hR:bV x (.tup [w1,ch1,l1,r1]):=⟨_,_,_,_,rfl,k1⟩;have hO:bV x (.tup [w2,ch2,l2,r2]):=⟨_,_,_,_,rfl,k2⟩;have g0:=right aeA hx hs hR hO hr;have g1:=right aez hx hs hR hO hr;have h4':je [.lst [.int (n0 / 2)],.str x]=some (.tup [w1,ch1,l1,r1],.lst [.int n1]):=h4;have h5':je [.lst [.int n1],.str x]=some (.tup [w2,ch2,l2,r2],.lst [.int n2]):=h5;clear h4 h5;generalize D.tup [w1,ch1,l1,r1]=R at *;generalize D.tup [w2,ch2,l2,r2]=O at *
 let E0:Ev.Env:=[Zf (.arr (ns.map .int)),Zl [.int n2],Zf (.tup rows),Zs x,Zf s,Zf R,Zf O]
 refine bT (env:=E0) ?_;unfold Ww
 let E5:Ev.Env:=[Zf (.arr (ns.map .int)),Zl [.int p],Zn,Zn,Zn,Zn,Zn]
 refine(aA (e:=E5) (xQ (d:=.lst [.int p]) (e:=[Zf (.arr (ns.map .int)),Zn,Zn,Zn,Zn,Zn,Zn]) (aF (ds:=[.arr (ns.map .int),.int 0]) rfl hp))).trans ?_
 let E4:Ev.Env:=[Zf (.arr (ns.map .int)),Zl [.int n0],Zf (.tup rows),Zn,Zn,Zn,Zn]
 refine(aA (e:=E4) ?_).trans ?_
 ·exact(bz (d:=.tup rows) (e:=[Zf (.arr (ns.map .int)),Zl [.int n0],Zn,Zn,Zn,Zn,Zn]) (Ev.Kv (x:=.lst [.int p]) (ds:=[]) (e1:=E5) rfl rfl rfl h1) rfl)
 let E1:Ev.Env:=[Zf (.arr (ns.map .int)),Zl [.int n0],Zf (.tup rows),Zs x,Zn,Zn,Zn]
 refine(aA (e:=E1) (bz (d:=.str x) (e:=E4) (aF (ds:=[.tup rows]) rfl h2) rfl)).trans ?_
 let E3:Ev.Env:=[Zf (.arr (ns.map .int)),Zl [.int (n0 / 2)],Zf (.tup rows),Zs x,Zf s,Zn,Zn]
 refine(aA (e:=E3) ?_).trans ?_
 ·refine bz (d:=s) (e:=[Zf (.arr (ns.map .int)),Zl [.int (n0 / 2)],Zf (.tup rows),Zs x,Zn,Zn,Zn]) ?_ rfl;refine bJ (x:=.lst [.str [108,101,102,116],.str [114,105,103,104,116]]) (y:=.int (n0 % 2)) (e1:=E1) rfl ?_ ?_
  ·exact Ev.Kv (x:=.lst [.int n0]) (ds:=[.int 2]) (e1:=E1) rfl rfl rfl (fV.lU _ 2 (by decide) (by decide))
  ·have:n0 % 2=(d:Int):=e;rw[this];exact h3
 let E2:Ev.Env:=[Zf (.arr (ns.map .int)),Zl [.int n1],Zf (.tup rows),Zs x,Zf s,Zf R,Zn]
 refine(aA (e:=E2) ?_).trans ?_
 ·exact(bz (d:=R) (e:=[Zf (.arr (ns.map .int)),Zl [.int n1],Zf (.tup rows),Zs x,Zf s,Zn,Zn]) (Ev.Kv (x:=.lst [.int (n0 / 2)]) (ds:=[.str x]) (e1:=E3) rfl rfl rfl h4') rfl)
 refine(aA (e:=E0) ?_).trans ?_
 ·exact(bz (d:=O) (e:=[Zf (.arr (ns.map .int)),Zl [.int n2],Zf (.tup rows),Zs x,Zf s,Zf R,Zn]) (Ev.Kv (x:=.lst [.int n1]) (ds:=[.str x]) (e1:=E2) rfl rfl rfl h5') rfl)
 refine bH (aF (ds:=[.lst [.bl true,.bl true]]) (aH ?_ bD) rfl);unfold Gg;exact rP [0,1] (λi:Int=>.int i) (λ_=>.bl true) (aK:=E0) rfl rfl rfl (λi hi=>by
  rcases Qq2.mp hi with rfl|hi
  ·exact aF (ds:=[.tup rows,s,R,O,.int 0]) rfl g0
  ·cases Qq1.mp hi;exact aF (ds:=[.tup rows,s,R,O,.int 1]) rfl g1) (by decide)
open PySem PySem.Spec PyProof.Rows L2 Ev
theorem all_mk{P:Program}{w:World}{K:Fg}{h:Heap}{mg:Str->Option Value}{fa:Addr}(X:K.In h)(G:h.Ns mainGlobals mg)(hfa:mg "law" = some (.ref fa))
  {Xc:Tok}
  (VD:PySem.W.nsIn K mainGlobals "all" = some none) (Nr:PySem.W.nsIn K mainGlobals "dict" = some none) (DW:PySem.W.nsIn K mainGlobals "divmod" = some none) (vP:PySem.W.nsIn K mainGlobals "enumerate" = some none) (VB:PySem.W.nsIn K mainGlobals "len" = some none) (Nq:PySem.W.nsIn K mainGlobals "list" = some none) (Jv:PySem.W.nsIn K mainGlobals "range" = some none) (DR:PySem.W.nsIn K mainGlobals "sorted" = some none) (Ju:PySem.W.nsIn K mainGlobals "tuple" = some none) (Vz:PySem.W.nsIn K mainGlobals "zip" = some none) (Iu:PySem.W.nsIn K mainGlobals "EDGE" = some (some (.str "#" Xc))) (wH:FA K "sounds_of" pK) (qt:FA K "as_it_stands" lE) (GQ:FA K "turned" xX) (pC:FA K "reading_rules" j7) (Bg:FA K "puts_in" uR) (RM:FA K "fits" HD) (mQ:FA K "read_putting_in" jq) (pD:FA K "read_changing" j8) (ux:FA K "read_signs" oG) (zj:FA K "watch_on" rm) (wG:FA K "watch_end" pJ) (pB:FA K "shortest_word" j6) (n8:FA K "first_standing" jM) (jQ:FC K "shortest_where" jK) (qp:FA K "makes_way" pL) (o7:FA K "takes_from" oF) (qP:FA K "with_put_in" mV) (qm:FA K "with_changes" lD) (wN:FA K "from_left" pR) (Bh:FA K "changed" uT) (wM:FA K "_law_mixed" pQ) (zq:FA K "_law_pack" rB) (zm:FA K "_law_take" rn) (wI:FA K "_law_stock" pM) (uy:FA K "_law_sounds" oH) (wJ:FA K "_law_signs" pN) (qQ:FA K "_law_changes" mW) (zp:FA K "_law_rule" rA) (mR:FA K "_law_called_rule" jr) (wK:FA K "_law_shows" pO) (zr:FA K "_law_like" rC) (wL:FA K "_law_right" pP) (Wz:FA K "law" Oq) :
  (∀y∈tabs,∃cp,PySem.W.tabIn K y.1=some cp)/\∃fd:FuncData,(∀(s:Shared) (v:Value),BindsTo s fd ⟨[v],[]⟩ [("_law_script",v)])/\∀base:Heap,K.In base->base.Ns mainGlobals mg->(∀y∈tabs,zZ base mg (jo K y.1).1 (jo K y.1).2)->j4 P w K mg base vO 10 fa fd ["_law_script"] (spT (lA K tabs) (jU K 1 Ks)):=
 ⟨(λy hy=>by rcases Qq2.mp (show y ∈ [(("shortest_where" : Str),cM)] from hy) with rfl|hy;exact jQ.tab;cases hy),Wz.adU X G hfa (λs v=>.of_eq rfl) λbase hB F=>ZW ⟨zP X G VD,
  zP X G Nr,
  zP X G DW,
  zP X G vP,
  zP X G VB,
  zP X G Nq,
  zP X G Jv,
  zP X G DR,
  zP X G Ju,
  zP X G Vz,
  UJ X G Iu (by decide +kernel) (by decide),
  qp.val X G,
  o7.val X G,
  wH.at X G (fun|[_],_=>rfl),
  qt.at X G (fun|[_,_],_=>rfl),
  GQ.at X G (fun|[_],_=>rfl),
  pC.at X G (fun|[_],_=>rfl),
  Bg.at X G (fun|[_],_=>rfl),
  RM.at X G (fun|[_,_],_=>rfl),
  mQ.at X G (fun|[_,_,_],_=>rfl),
  pD.at X G (fun|[_,_,_],_=>rfl),
  ux.at X G (fun|[_,_,_],_=>rfl),
  zj.at X G (fun|[_,_,_],_=>rfl),
  wG.at X G (fun|[_,_],_=>rfl),
  pB.at X G (fun|[_,_,_,_,_],_=>rfl),
  n8.at X G (fun|[_],_=>rfl),
  jQ.at X G (fun|[_,_,_,_,_,_],_=>rfl),
  qp.at X G (fun|[_,_,_,_],_=>rfl),
  o7.at X G (fun|[_,_,_,_],_=>rfl),
  qP.at X G (fun|[_,_],_=>rfl),
  qm.at X G (fun|[_,_],_=>rfl),
  wN.at X G (fun|[_,_],_=>rfl),
  Bh.at X G (fun|[_,_,_],_=>rfl),
  wM.at X G (fun|[_],_=>rfl),
  zq.at X G (fun|[_,_],_=>rfl),
  zm.at X G (fun|[_,_],_=>rfl),
  wI.at X G (fun|[_],_=>rfl),
  uy.at X G (fun|[_],_=>rfl),
  wJ.at X G (fun|[_,_],_=>rfl),
  qQ.at X G (fun|[_,_],_=>rfl),
  zp.at X G (fun|[_,_],_=>rfl),
  mR.at X G (fun|[_,_],_=>rfl),
  wK.at X G (fun|[_,_,_,_,_],_=>rfl),
  zr.at X G (fun|[_,_],_=>rfl),
  wL.at X G (fun|[_,_,_,_,_],_=>rfl)⟩ hB F⟩
end oA
theorem PySem.W.Fast.tw17104327669005625770:True:=trivial
theorem PySem.W.Fast.tw7520506589539625519:True:=trivial
theorem PySem.W.Fast.tw14328516056142560082:True:=trivial
theorem PySem.W.Fast.tw9366025042698164776:True:=trivial
theorem PySem.W.Fast.tw7147914438337964289:True:=trivial
theorem PySem.W.Fast.tw6505279771338428432:True:=trivial
theorem PySem.W.Fast.tw17800174597731252864:True:=trivial
theorem PySem.W.Fast.tw11766011504735278468:True:=trivial
theorem PySem.W.Fast.tw7741311711981605523:True:=trivial
theorem PySem.W.Fast.tw13376808896994106388:True:=trivial
theorem PySem.W.Fast.tw7451599950333859135:True:=trivial
theorem PySem.W.Fast.tw3388019302906458954:True:=trivial
theorem PySem.W.Fast.tw8084878680589529069:True:=trivial
theorem PySem.W.Fast.tw14024782863565796690:True:=trivial
theorem PySem.W.Fast.tw14190222587759806283:True:=trivial
theorem PySem.W.Fast.tw9315770264144479305:True:=trivial
theorem PySem.W.Fast.tw1197339715125926155:True:=trivial
theorem PySem.W.Fast.tw3189739382257758103:True:=trivial
theorem PySem.W.Fast.tw16754089300999717500:True:=trivial
theorem PySem.W.Fast.tw15226306364618816792:True:=trivial
theorem PySem.W.Fast.tw17374927452863018554:True:=trivial
theorem PySem.W.Fast.tw14186936651746947263:True:=trivial
theorem PySem.W.Fast.tw10976701415477860620:True:=trivial
theorem PySem.W.Fast.tw1653154820705622821:True:=trivial
theorem PySem.W.Fast.tw17737346024220896160:True:=trivial
theorem PySem.W.Fast.tw1332223747719774814:True:=trivial
theorem PySem.W.Fast.tw673417748623866350:True:=trivial
theorem PySem.W.Fast.tw13236122200812422353:True:=trivial
theorem PySem.W.Fast.tw12919393990246176278:True:=trivial
theorem PySem.W.Fast.tw16107909611942036639:True:=trivial
theorem PySem.W.Fast.tw9369034166167781488:True:=trivial
theorem PySem.W.Fast.tw15570371288957235167:True:=trivial
theorem PySem.W.Fast.tw10296388533768812052:True:=trivial
theorem PySem.W.Fast.tw983937199073334047:True:=trivial
theorem PySem.W.Fast.tw11697953068001839076:True:=trivial
theorem PySem.W.Fast.tw5868377640246561671:True:=trivial
theorem PySem.W.Fast.tw4467607184907328520:True:=trivial
theorem PySem.W.Fast.tw7544412327840485214:True:=trivial
theorem PySem.W.Fast.tw6682656818689593294:True:=trivial
theorem PySem.W.Fast.tw963976095426730650:True:=trivial
theorem PySem.W.Fast.tw14151276786192903239:True:=trivial
theorem PySem.W.Fast.tw8049522861164017686:True:=trivial
theorem PySem.W.Fast.tw17255803211692466675:True:=trivial
theorem PySem.W.Fast.tw5583747504890772543:True:=trivial
open PySem PySem.W PyProof.Rows
set_option maxRecDepth 100000 in
set_option maxHeartbeats 0 in
theorem PySem.Challenge.cw_soundrules_k38_whole_sides_and_sounds_tu_holds : PySem.Challenge.rw_soundrules_k38_whole_sides_and_sounds_tu.Holds := by
 w_on;o_law;k_head;(case hw=>w_witness2)
 k_fill
 refine Ev.W5 (l:=PySem.Challenge.rw_soundrules_k38_whole_sides_and_sounds_tu) (k:=10) (x:="_law_script") (f:=oA.Ks) oA.tabs rfl (by decide) rfl ⟨rfl,by decide,by decide⟩ (λw h Y=>PySem.W.km_in_of Y) oA.N5 (λw=>by kernel_rfl) (λy hy=>by rcases Qq2.mp (show y ∈ [(("shortest_where" : Str),oA.cM)] from hy) with rfl|hy;exact⟨_,rfl⟩;cases hy) ?F
 case F=>
  intro w mg fa h KX G hmg
  refine' oA.all_mk KX G hmg ?VD ?Nr ?DW ?vP ?VB ?Nq ?Jv ?DR ?Ju ?Vz ?Iu ?wH ?qt ?GQ ?pC ?Bg ?RM ?mQ ?pD ?ux ?zj ?wG ?pB ?n8 ?jQ ?qp ?o7 ?qP ?qm ?wN ?Bh ?wM ?zq ?zm ?wI ?uy ?wJ ?qQ ?zp ?mR ?wK ?zr ?wL ?Wz
  (case Iu=>k_is)
  all_goals first|k_is|(refine' Ev.FA.mk ?a ?l ?c ?k;(case a=>k_is);(case l=>k_is);(case c=>k_is);(case k=>k_is))|(refine' Ev.FC.mk ?a ?l ?c ?k ?lc ?v;(case a=>k_is);(case l=>k_is);(case c=>k_is);(case k=>k_is);(case lc=>k_is);(case v=>exact rfl))
