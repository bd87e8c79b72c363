import PyProof.Rows.All
import Wide.All
import OpenK.AllK
import Wide.FinOn
import Lean
import PyProof.EqAt
import PyProof.EqKinds
import PyProof.TupleCall
import PyProof.TupleKey
import PyProof.DictRoadsH
import PyProof.FactsAll.bool_1
import PyProof.AttrMissHeap
import KE.KDictOf
import PyProof.ListMulRoad
import PyProof.FactsAll.tuple_2
import KE.KSortTup
import PyProof.TupleOfSeq
import PyProof.Rows.SortRuns
import PyProof.ListRange
import PyProof.DictTable
import PyProof.Rows.TupTab
import PyProof.FactsAll.range_1
import KE.KDictList
import PyProof.SetRoads
import PyProof.DictTruth
import PyProof.RulesTry
import PySem.Challenge.RW_soundrules_k18_whole_sides_turned
noncomputable section
set_option Elab.async false
set_option linter.all false
set_option maxRecDepth 100000
set_option maxHeartbeats 4000000
theorem Qqq:type_of% @Array.length_toList:=@Array.length_toList
theorem Qqx:type_of% @PySem.wpAny_bind:=@PySem.wpAny_bind
theorem Qqz:type_of% @List.mem_cons_self:=@List.mem_cons_self
theorem Qqj:type_of% @List.mem_cons_of_mem:=@List.mem_cons_of_mem
theorem Qqk:type_of% @List.length_append:=@List.length_append
theorem Qqv:type_of% @List.length_cons:=@List.length_cons
theorem Qqw:type_of% @PySem.Heap.get?_push_of_some:=@PySem.Heap.get?_push_of_some
theorem Qqy:type_of% @List.length_map:=@List.length_map
theorem Qq0:type_of% @Nat.le_refl:=@Nat.le_refl
theorem Qq1:type_of% @List.mem_singleton:=@List.mem_singleton
theorem Qq2:type_of% @List.getElem?_eq_getElem:=@List.getElem?_eq_getElem
theorem Qq3:type_of% @Nat.le_trans:=@Nat.le_trans
theorem Qq4:type_of% @List.size_toArray:=@List.size_toArray
theorem Qq5:type_of% @List.getElem?_eq_some_iff:=@List.getElem?_eq_some_iff
theorem Qq6:type_of% @PySem.wpAny_pure:=@PySem.wpAny_pure
theorem Qq7:type_of% @List.getD_eq_getElem?_getD:=@List.getD_eq_getElem?_getD
theorem Qq8:type_of% @List.mem_cons:=@List.mem_cons
theorem Qq9:type_of% @decide_eq_false:=@decide_eq_false
theorem Qwq:type_of% @PySem.Heap.lt_size:=@PySem.Heap.lt_size
theorem Qwx:type_of% @List.map_cons:=@List.map_cons
theorem Qwz:type_of% @Nat.lt_of_lt_of_le:=@Nat.lt_of_lt_of_le
theorem Qwj:type_of% @Option.map_eq_some_iff:=@Option.map_eq_some_iff
theorem Qwk:type_of% @List.length_singleton:=@List.length_singleton
theorem Qwv:type_of% @List.getElem?_set_ne:=@List.getElem?_set_ne
theorem Qww:type_of% @decide_eq_true:=@decide_eq_true
theorem Qwy:type_of% @List.append_assoc:=@List.append_assoc
theorem Qw0:type_of% @List.mem_append:=@List.mem_append
theorem Qw1:type_of% @PySem.Heap.get?_push_size:=@PySem.Heap.get?_push_size
theorem Qw2:type_of% @List.getElem?_set_self:=@List.getElem?_set_self
theorem Qw3:type_of% @List.length_take:=@List.length_take
theorem Qw4:type_of% @Option.some.inj:=@Option.some.inj
theorem Qw5:type_of% @List.mem_map:=@List.mem_map
theorem Qw6:type_of% @Nat.lt_of_le_of_lt:=@Nat.lt_of_le_of_lt
theorem Qw7:type_of% @Option.some.injEq:=@Option.some.injEq
theorem Qw8:type_of% @congrArg:=@congrArg
theorem Qw9:type_of% @Nat.ne_of_lt:=@Nat.ne_of_lt
theorem Qxq:type_of% @List.getElem?_append_left:=@List.getElem?_append_left
theorem Qxx:type_of% @Bool.false_ne_true:=@Bool.false_ne_true
theorem Qxz:type_of% @List.mem_append_right:=@List.mem_append_right
theorem Qxj:type_of% @List.length_drop:=@List.length_drop
theorem Qxk:type_of% @Nat.zero_le:=@Nat.zero_le
theorem Qxv:type_of% @Nat.le_of_lt:=@Nat.le_of_lt
theorem Qxw:type_of% @List.all_eq_true:=@List.all_eq_true
theorem Qxy:type_of% @List.getElem?_map:=@List.getElem?_map
theorem Qx0:type_of% @of_decide_eq_true:=@of_decide_eq_true
theorem Qx1:type_of% @List.append_nil:=@List.append_nil
theorem Qx2:type_of% @List.length_reverse:=@List.length_reverse
theorem Qx3:type_of% @List.getElem_mem:=@List.getElem_mem
theorem Qx4:type_of% @List.drop_eq_getElem_cons:=@List.drop_eq_getElem_cons
theorem Qx5:type_of% @List.not_mem_nil:=@List.not_mem_nil
theorem Qx6:type_of% @List.map_append:=@List.map_append
theorem Qx7:type_of% @List.length_set:=@List.length_set
theorem Qx8:type_of% @Option.bind_eq_some_iff:=@Option.bind_eq_some_iff
theorem Qx9:type_of% @List.lookup_cons:=@List.lookup_cons
theorem Qzq:type_of% @Option.isSome_iff_exists:=@Option.isSome_iff_exists
theorem Qzx:type_of% @List.nodup_cons:=@List.nodup_cons
theorem Qzz:type_of% @List.length_replicate:=@List.length_replicate
theorem Qzj:type_of% @List.getElem?_append_right:=@List.getElem?_append_right
theorem Qzk:type_of% @List.pairwise_cons:=@List.pairwise_cons
theorem Qzv:type_of% @List.length_nil:=@List.length_nil
theorem Qzw:type_of% @List.find?_cons:=@List.find?_cons
theorem Qzy:type_of% @Bool.and_eq_true:=@Bool.and_eq_true
theorem Qz0:type_of% @beq_eq_false_iff_ne:=@beq_eq_false_iff_ne
theorem Qz1:type_of% @PySem.Heap.size_push:=@PySem.Heap.size_push
theorem Qz2:type_of% @PyProof.Rows.callWith_type1:=@PyProof.Rows.callWith_type1
theorem Qz3:type_of% @Nat.lt_irrefl:=@Nat.lt_irrefl
theorem Qz4:type_of% @PySem.wpAny_field:=@PySem.wpAny_field
theorem Qz5:type_of% @List.getElem?_replicate:=@List.getElem?_replicate
theorem Qz6:type_of% @List.mem_of_getElem?:=@List.mem_of_getElem?
theorem Qz7:type_of% @PySem.wpAny_mono:=@PySem.wpAny_mono
theorem Qz8:type_of% @PySem.wpAny_call_entry:=@PySem.wpAny_call_entry
theorem Qz9:type_of% @List.map_congr_left:=@List.map_congr_left
theorem Qjq:type_of% @PySem.wpAny_holding:=@PySem.wpAny_holding
theorem Qjx:type_of% @Nat.le_of_ble_eq_true:=@Nat.le_of_ble_eq_true
theorem Qjz:type_of% @List.getElem?_take_of_lt:=@List.getElem?_take_of_lt
theorem Qjj:type_of% @List.mem_append_left:=@List.mem_append_left
theorem Qjk:type_of% @PySem.wpAny_callSpecial?_slot:=@PySem.wpAny_callSpecial?_slot
theorem Qjv:type_of% @Nat.ne_of_gt:=@Nat.ne_of_gt
theorem Qjw:type_of% @PySem.wpAny_seqItems:=@PySem.wpAny_seqItems
theorem Qjy:type_of% @PySem.wpAny_newObj_type:=@PySem.wpAny_newObj_type
theorem Qj0:type_of% @List.flatten_append:=@List.flatten_append
theorem Qj1:type_of% @PySem.sizeLine_eq:=@PySem.sizeLine_eq
theorem Qj2:type_of% @List.take_of_length_le:=@List.take_of_length_le
theorem Qj3:type_of% @List.mem_flatMap:=@List.mem_flatMap
theorem Qj4:type_of% @List.mem_reverse:=@List.mem_reverse
theorem Qj5:type_of% @List.map_map:=@List.map_map
theorem Qj6:type_of% @PySem.wpAny_setField_rec:=@PySem.wpAny_setField_rec
theorem Qj7:type_of% @Array.getElem?_toList:=@Array.getElem?_toList
theorem Qj8:type_of% @List.forIn_nil:=@List.forIn_nil
theorem Qj9:type_of% @Bool.and_eq_true_iff:=@Bool.and_eq_true_iff
theorem Qkq:type_of% @PySem.wpAny_passesOwn:=@PySem.wpAny_passesOwn
theorem Qkx:type_of% @Int.toNat_natCast:=@Int.toNat_natCast
theorem Qkz:type_of% @PySem.mem_of_lookup:=@PySem.mem_of_lookup
theorem Qkj:type_of% @PySem.wpAny_rule:=@PySem.wpAny_rule
theorem Qkk:type_of% @Nat.not_lt_zero:=@Nat.not_lt_zero
theorem Qkv:type_of% @List.forIn_cons:=@List.forIn_cons
theorem Qkw:type_of% @Bool.eq_iff_iff:=@Bool.eq_iff_iff
theorem Qky:type_of% @Nat.le_of_succ_le:=@Nat.le_of_succ_le
theorem Qk0:type_of% @List.mem_range:=@List.mem_range
theorem Qk1:type_of% @or_false:=@or_false
abbrev mZ(x:PySem.Str):Prop:=(x == ("__debug__" : PySem.Str))=false
abbrev vp(x:PySem.Str):Prop:=(x == ("__classdict__" : PySem.Str))=false
open PySem PySem.Spec PyProof.Rows in
abbrev Ma(e:Expr)(E:PySem.Env):Prop:=starEach [e] E=(false,eval e E)::starEach [] E
namespace L2
open PySem PySem.Spec PyProof.Rows
inductive NK where
 | num (i:Int)
 | txt (x:Str)
 | tup (xs:List NK)
noncomputable instance:DecidableEq NK:=λ_ _=>Classical.propDecidable _
mutual
def ym(h:Heap):NK->Value->Prop
 | .num i,v=>(∃t,v = .int i t)\/∃b:Bool,v = .bool b/\i=if b then 1 else 0
 | .txt x,v=>∃t,v = .str x t
 | .tup ks,v=>∃a o items n,v = .ref a/\h.get? a=some o/\o.cls = .type "tuple"/\o.data = .seq items n/\my h ks items.toList
def my(h:Heap):List NK->List Value->Prop
 | [],vs=>vs=[]
 | k::ks,vs=>∃v r,vs=v::r/\ym h k v/\my h ks r
end
mutual
def NK.dep:NK->Nat
 | .num _=>0
 | .txt _=>0
 | .tup ks=>1+NK.qy ks
def NK.qy:List NK->Nat
 | []=>0
 | k::ks=>max (NK.dep k) (NK.qy ks)
end
mutual
def NK.draws:NK->Nat
 | .num _=>1
 | .txt _=>1
 | .tup ks=>NK.nH ks+1
def NK.nH:List NK->Nat
 | []=>0
 | k::ks=>NK.draws k+NK.nH ks
end
section
variable(P:Program)(w:World)
mutual
def NK.hash:NK->Int
 | .num i=>hashInt i
 | .txt x=>(strKind P w).hash x
 | .tup ks=>reduceHash (Builtin.Tuple.tupleHashOf (NK.hashes ks))
def NK.hashes:List NK->List Int
 | []=>[]
 | k::ks=>NK.hash k::NK.hashes ks
end
end
theorem my.length{h:Heap}:∀{ks:List NK} {vs:List Value},my h ks vs->vs.length=ks.length
 | [],_,e=>by cases e;rfl
 | k::ks,_,e=>by obtain⟨v,r,rfl,_,q⟩:=e;rw[Qqv,Qqv,q.length]
theorem my.get{h:Heap}:∀{ks:List NK} {vs:List Value} {j:Nat} {v:Value},my h ks vs->vs[j]? = some v->∃k,ks[j]? = some k/\ym h k v
 | [],_,_,_,e,g=>by cases e;simp at g
 | k::ks,_,j,v,e,g=>by
  obtain⟨u,r,rfl,h1,h2⟩:=e;cases j with
  | zero=>simp at g;subst g;exact⟨k,rfl,h1⟩
  | succ j=>obtain⟨k',e1,e2⟩:=my.get h2 (j:=j) (by simpa using g);exact⟨k',by simpa using e1,e2⟩
theorem NK.xQ:∀{ks:List NK} {j:Nat} {k:NK},ks[j]? = some k->k.dep<=NK.qy ks
 | [],_,_,e=>by simp at e
 | c::ks,j,k,e=>by
  unfold NK.qy;cases j with
  | zero=>simp at e;subst e;exact Nat.le_max_left _ _
  | succ j=>exact Qq3 (NK.xQ (j:=j) (by simpa using e)) (Nat.le_max_right _ _)
mutual
theorem ym.inj{h:Heap}:∀{x y:NK} {v:Value},ym h x v->ym h y v->x=y
 | .num i,.num j,v,a,b=>by
  rcases a with ⟨t,rfl⟩|⟨c,rfl,rfl⟩
  ·rcases b with ⟨t',e⟩|⟨c,e,_⟩
   ·cases e;rfl
   ·cases e
  ·rcases b with ⟨t',e⟩|⟨c,e,rfl⟩
   ·cases e
   ·cases e;rfl
 | .num i,.txt x,v,a,b=>by obtain⟨t,rfl⟩:=b;rcases a with ⟨t',e⟩|⟨c,e,_⟩<;>cases e
 | .num i,.tup ks,v,a,b=>by obtain⟨_,_,_,_,rfl,_⟩:=b;rcases a with ⟨t',e⟩|⟨c,e,_⟩<;>cases e
 | .txt x,.num i,v,a,b=>by obtain⟨t,rfl⟩:=a;rcases b with ⟨t',e⟩|⟨c,e,_⟩<;>cases e
 | .txt x,.txt y,v,a,b=>by obtain⟨t,rfl⟩:=a;obtain⟨t',e⟩:=b;cases e;rfl
 | .txt x,.tup ks,v,a,b=>by obtain⟨t,rfl⟩:=a;obtain⟨_,_,_,_,e,_⟩:=b;cases e
 | .tup ks,.num i,v,a,b=>by obtain⟨_,_,_,_,rfl,_⟩:=a;rcases b with ⟨t',e⟩|⟨c,e,_⟩<;>cases e
 | .tup ks,.txt y,v,a,b=>by obtain⟨_,_,_,_,rfl,_⟩:=a;obtain⟨t',e⟩:=b;cases e
 | .tup ks,.tup ls,v,a,b=>by
  obtain⟨p,o,items,n,rfl,h1,_,h3,h4⟩:=a;obtain⟨p',o',items',n',e,h1',_,h3',h4'⟩:=b;cases e;rw[h1] at h1';cases h1';rw[h3] at h3';cases h3';rw[my.inj h4 h4']
theorem my.inj{h:Heap}:∀{x y:List NK} {v:List Value},my h x v->my h y v->x=y
 | [],[],_,_,_=>rfl
 | [],k::ks,_,a,b=>by cases a;obtain⟨_,_,e,_⟩:=b;cases e
 | k::ks,[],_,a,b=>by cases b;obtain⟨_,_,e,_⟩:=a;cases e
 | k::ks,l::ls,_,a,b=>by
  obtain⟨v,r,rfl,h1,h2⟩:=a;obtain⟨v',r',e,h1',h2'⟩:=b;cases e;rw[ym.inj h1 h1',my.inj h2 h2']
end
mutual
theorem ym.keeps{h h':Heap}{d:Addr}{o:Obj}{es ep}(ho:h.get? d=some o)(hd:o.data = .dict es ep)(hs:Heap.SameBut d h h'):∀{k:NK} {v:Value},ym h k v->ym h' k v
 | .num _,_,e=>e
 | .txt _,_,e=>e
 | .tup ks,_,e=>by
  obtain⟨a,o',items,n,rfl,h1,h2,h3,h4⟩:=e;have hne:a≠d:=by rintro rfl;rw[h1] at ho;cases ho;rw[h3] at hd;cases hd
  exact⟨a,o',items,n,rfl,(hs.2 a hne).trans h1,h2,h3,my.keeps ho hd hs h4⟩
theorem my.keeps{h h':Heap}{d:Addr}{o:Obj}{es ep}(ho:h.get? d=some o)(hd:o.data = .dict es ep)(hs:Heap.SameBut d h h'):∀{ks:List NK} {vs:List Value},my h ks vs->my h' ks vs
 | [],_,e=>e
 | k::ks,_,e=>by obtain⟨v,r,rfl,h1,h2⟩:=e;exact⟨v,r,rfl,ym.keeps ho hd hs h1,my.keeps ho hd hs h2⟩
end
section
variable{P:Program}{w:World}
theorem Ld{A:Around}{E:Value->Shared->Prop}{s:Shared}{b:Bool}{Q:Int->Shared->Prop}(h:Q (hashInt (if b then 1 else 0)) { s with toks:=s.toks+1 }):wpAny (model P w) A (pyHash (.bool b)) Q E s:=by
 have hT:s.TypeIs (.bool b) "bool":=rfl;have hr:=rawHash_range (if b then 1 else 0);unfold pyHash;have hv:[Value.bool b].any Value.onHeap=false:=rfl;refine Qqx ?_;rw[cRoomFor,if_neg (by rw[hv];exact Qxx)];refine Qq6 ?_;refine Qqx (wpAny_specialOf hT F.slot_bool_hash.lookup ?_);show wpAny _ _ (if (some (Value.builtin "int.__hash__") == some Value.none)=true then _ else _) Q E s;rw[if_neg (by rw[beq_builtin_none];exact Qxx)];refine Qqx (wpAny_specialOf hT F.slot_bool_hash.lookup ?_);show wpAny _ _ (callSpecialIfBoundUnlessNone? (.bool b) "__hash__" _ >>= _) Q E s;refine Qqx (wpAny_callSpecialIfBoundUnlessNone?_slot hT F.slot_bool_hash
  (Qz8 F.slot_bool_hash hT entry_int_hash
   (show wpAny _ _ (do ret (<-mkInt (rawHash (if b then 1 else 0)))) _ _ s from wpAny_ret_mkInt ?_) (args_int_hash _)))
 show wpAny _ _ (if (decide (-(2:Int)^63<=rawHash (if b then 1 else 0))&&decide (rawHash (if b then 1 else 0)<2^63))=true then _ else _) Q E _;rw[if_pos (by rw[Qww hr.1,Qww hr.2];rfl)];exact Qq6 h
mutual
theorem Pu:∀(k:NK) (v:Value) (A:Around) (E:Value->Shared->Prop) (s:Shared) (Q:Int->Shared->Prop),A.units+k.dep<cLine->ym s.heap k v->Q (k.hash P w) { s with toks:=s.toks+k.draws }->wpAny (model P w) A (pyHash v) Q E s
 | .num i,v,A,E,s,Q,hu,e,h=>by
  rcases e with ⟨t,rfl⟩|⟨b,rfl,rfl⟩
  ·exact wpAny_pyHash_int h
  ·exact Ld h
 | .txt x,v,A,E,s,Q,hu,e,h=>by
  obtain⟨t,rfl⟩:=e;exact wpAny_pyHash_str h
 | .tup ks,v,A,E,s,Q,hu,e,h=>by
  obtain⟨a,o,items,n,rfl,ho,hc,hd,hi⟩:=e;have hT:s.TypeIs (.ref a) "tuple":=⟨o,ho,hc⟩;have Zd:(NK.tup ks).dep=1+NK.qy ks:=by rw[NK.dep]
  rw[Zd] at hu;have hu0:A.units<cLine:=by omega
  have hin:A.in1.units+NK.qy ks<cLine:=by show A.units+1+NK.qy ks<cLine;omega
  unfold pyHash
  first|unfold pyHashByItsType|skip
  first|refine Qqx (wpAny_cRoomFor_or (.inr hu0) ?_)|skip
  refine Qqx (wpAny_specialOf hT F.slot_tuple_hash.lookup ?_);show wpAny _ _ (if (some (Value.builtin "tuple.__hash__") == some Value.none)=true then _ else _) Q E s;rw[if_neg (by rw[beq_builtin_none];exact Qxx)];refine Qqx (wpAny_specialOf hT F.slot_tuple_hash.lookup ?_);show wpAny _ _ (callSpecialIfBoundUnlessNone? (.ref a) "__hash__" _ >>= _) Q E s;refine Qqx (wpAny_callSpecialIfBoundUnlessNone?_slot hT F.slot_tuple_hash (Qz8 F.slot_tuple_hash hT F.entry_tuple_hash ?_ (F.args_tuple_hash_1 _)));show wpAny _ _ (Builtin.Tuple.tupleItemsOf (.ref a) >>= _) _ _ s;refine Qqx (wpAny_tupleItemsOf ho hd ?_);refine Qqx ?_;rw[<-Array.forIn_toList];refine DG ks items.toList A.in1 _ s _ _ #[] hin hi (λx b s' R q=>?_) ?_
  ·first
    | exact Qqx (Qz7 q (λz s2 hz=>Qq6 hz) λ_ _ z=>z)
    | exact Qqx (Qz7 q (λz s2 hz=>Qqx (Qq6 (Qq6 hz))) λ_ _ z=>z)
  ·show wpAny _ _ (retInt (Builtin.Tuple.tupleHashOf ((#[]:Array Int).toList++NK.hashes P w ks))) _ _ _;have hh:(NK.tup ks).hash P w=reduceHash (Builtin.Tuple.tupleHashOf (NK.hashes P w ks)):=by rw[NK.hash]
   have hdr:(NK.tup ks).draws=NK.nH ks+1:=by rw[NK.draws]
   rw[hh,hdr] at h;rw[show(#[]:Array Int).toList++NK.hashes P w ks=NK.hashes P w ks from rfl];refine wpAny_ret_mkInt ?_;show wpAny _ _ (if (decide (-(2:Int)^63<=Builtin.Tuple.tupleHashOf (NK.hashes P w ks))&&decide (Builtin.Tuple.tupleHashOf (NK.hashes P w ks)<2^63))=true then _ else _) Q E _;unfold reduceHash at h;by_cases hr:(decide (-(2:Int)^63<=Builtin.Tuple.tupleHashOf (NK.hashes P w ks))&&decide (Builtin.Tuple.tupleHashOf (NK.hashes P w ks)<2^63))=true
   ·rw[if_pos hr];rw[if_pos hr] at h;exact Qq6 (by simpa[Nat.add_assoc] using h)
   ·rw[if_neg hr];rw[if_neg hr] at h;exact Qqx (Qkj (Qq6 (by simpa[Nat.add_assoc] using h)))
theorem DG:∀(ks:List NK) (vs:List Value) (A:Around) (E:Value->Shared->Prop) (s:Shared) (body:Value->Array Int->Sem (ForInStep (Array Int))) (Q:Array Int->Shared->Prop) (acc:Array Int),A.units+NK.qy ks<cLine->my s.heap ks vs->
  (∀x b s' (R:ForInStep (Array Int)->Shared->Prop),wpAny (model P w) A (pyHash x) (λz s2=>R (.yield (b.push z)) s2) E s'->wpAny (model P w) A (body x b) R E s')->
  Q (acc.toList++NK.hashes P w ks).toArray { s with toks:=s.toks+NK.nH ks }->wpAny (model P w) A (forIn vs acc body) Q E s
 | [],vs,A,E,s,body,Q,acc,hu,e,hb,q=>by
  cases e;rw[Qj8];refine Qq6 ?_;have:(acc.toList++NK.hashes P w []).toArray=acc:=by rw[NK.hashes];simp
  rw[this] at q;have e0:NK.nH []=0:=by rw[NK.nH]
  rw[e0] at q;exact q
 | k::ks,vs,A,E,s,body,Q,acc,hu,e,hb,q=>by
  obtain⟨v,r,rfl,h1,h2⟩:=e;have Zd:NK.qy (k::ks)=max k.dep (NK.qy ks):=by rw[NK.qy]
  rw[Zd] at hu;rw[Qkv];refine Qqx (hb v acc s _ (Pu k v A E s _ (by omega) h1 ?_));refine DG ks r A E { s with toks:=s.toks+k.draws } body Q (acc.push (k.hash P w)) (by omega) h2 hb ?_;have e1:NK.hashes P w (k::ks)=k.hash P w::NK.hashes P w ks:=by rw[NK.hashes]
  have e2:NK.nH (k::ks)=k.draws+NK.nH ks:=by rw[NK.nH]
  rw[e1,e2] at q
  simpa[Nat.add_assoc] using q
end
theorem abP:∀(n:Nat) (x y:NK) (u v:Value) (A:Around) (s:Shared),x.dep<=n->A.units+n+1<cLine->ym s.heap x u->ym s.heap y v->SeqAt.EqAt A s u v (decide (x=y))
 | n,.num i,.num j,u,v,A,s,hn,hu,hx,hy=>by
  have e:decide (NK.num i=NK.num j)=(i == j):=by rw[Qkw];simp
  rw[e];rcases hx with ⟨t,rfl⟩|⟨b,rfl,rfl⟩
  ·rcases hy with ⟨t',rfl⟩|⟨c,rfl,rfl⟩
   ·exact SeqAt.EqAt.int_int i t j t'
   ·exact SeqAt.EqAt.int_bool i t c
  ·rcases hy with ⟨t',rfl⟩|⟨c,rfl,rfl⟩
   ·exact SeqAt.EqAt.bool_int b j t'
   ·have:((if b then (1:Int) else 0) == (if c then 1 else 0))=(b == c):=by cases b<;>cases c<;>rfl
    rw[this];exact SeqAt.EqAt.bool_bool b c
 | n,.num i,.txt z,u,v,A,s,hn,hu,hx,hy=>by
  rw[Qq9 (λe=>by cases e)];obtain⟨t,rfl⟩:=hy;rcases hx with ⟨t',rfl⟩|⟨b,rfl,rfl⟩
  ·exact SeqAt.EqAt.int_str i t' _ t
  ·exact SeqAt.EqAt.bool_str b _ t
 | n,.num i,.tup ks,u,v,A,s,hn,hu,hx,hy=>by
  rw[Qq9 (λe=>by cases e)];obtain⟨a,o,items,m,rfl,h1,h2,h3,_⟩:=hy;have p:s.heap.IsTuple a items:=⟨o,h1,h2,m,h3⟩;rcases hx with ⟨t',rfl⟩|⟨b,rfl,rfl⟩
  ·exact SeqAt.EqAt.int_tuple i t' p (by omega)
  ·exact SeqAt.EqAt.bool_tuple b p (by omega)
 | n,.txt z,.num i,u,v,A,s,hn,hu,hx,hy=>by
  rw[Qq9 (λe=>by cases e)];obtain⟨t,rfl⟩:=hx;rcases hy with ⟨t',rfl⟩|⟨b,rfl,rfl⟩
  ·exact SeqAt.EqAt.str_int _ t i t'
  ·exact SeqAt.EqAt.str_bool _ t b
 | n,.txt z,.txt z',u,v,A,s,hn,hu,hx,hy=>by
  have e:decide (NK.txt z=NK.txt z')=(z == z'):=by rw[Qkw];simp
  rw[e];obtain⟨t,rfl⟩:=hx;obtain⟨t',rfl⟩:=hy;exact SeqAt.EqAt.str_str _ t _ t'
 | n,.txt z,.tup ks,u,v,A,s,hn,hu,hx,hy=>by
  rw[Qq9 (λe=>by cases e)];obtain⟨t,rfl⟩:=hx;obtain⟨a,o,items,m,rfl,h1,h2,h3,_⟩:=hy;have p:s.heap.IsTuple a items:=⟨o,h1,h2,m,h3⟩;exact SeqAt.EqAt.str_tuple _ t p (by omega)
 | n,.tup ks,.num i,u,v,A,s,hn,hu,hx,hy=>by
  rw[Qq9 (λe=>by cases e)];obtain⟨a,o,items,m,rfl,h1,h2,h3,_⟩:=hx;have p:s.heap.IsTuple a items:=⟨o,h1,h2,m,h3⟩;rcases hy with ⟨t',rfl⟩|⟨b,rfl,rfl⟩
  ·exact SeqAt.EqAt.tuple_int i t' p (by omega)
  ·exact SeqAt.EqAt.tuple_bool b p (by omega)
 | n,.tup ks,.txt z,u,v,A,s,hn,hu,hx,hy=>by
  rw[Qq9 (λe=>by cases e)];obtain⟨a,o,items,m,rfl,h1,h2,h3,_⟩:=hx;have p:s.heap.IsTuple a items:=⟨o,h1,h2,m,h3⟩;obtain⟨t,rfl⟩:=hy;exact SeqAt.EqAt.tuple_str _ t p (by omega)
 | 0,.tup ks,.tup ls,u,v,A,s,hn,hu,hx,hy=>by
  rw[NK.dep] at hn;omega
 | n+1,.tup ks,.tup ls,u,v,A,s,hn,hu,hx,hy=>by
  have hx0:=hx;have hy0:=hy;obtain⟨a,o,items,m,rfl,h1,h2,h3,h4⟩:=hx;obtain⟨a',o',items',m',rfl,h1',h2',h3',h4'⟩:=hy;have p:s.heap.IsTuple a items:=⟨o,h1,h2,m,h3⟩;have p':s.heap.IsTuple a' items':=⟨o',h1',h2',m',h3'⟩;rw[NK.dep] at hn;by_cases haa:a=a'
  ·subst haa;rw[Qww (ym.inj hx0 hy0)];exact SeqAt.EqAt.same _
  ·refine SeqAt.EqAt.of_refs haa ?_;have l1:=h4.length;have l2:=h4'.length;rw[Qqq] at l1 l2;have hu0:A.units<cLine:=by omega
   have:=SeqAt.RcAt.tuples (e:=λj=>decide (ks[j]? = ls[j]?)) p p' hu0 λj q1 q2=>?_
   ·have e:((List.range (min items.size items'.size)).all (λj=>decide (ks[j]? = ls[j]?))&&items.size == items'.size)=decide (NK.tup ks=NK.tup ls):=by
     rw[Qkw];simp only[Qzy,Qxw,Qk0,decide_eq_true_eq,beq_iff_eq,NK.tup.injEq];constructor
     ·rintro⟨g1,g2⟩;apply List.ext_getElem?;intro j;by_cases hj:j<min items.size items'.size
      ·exact g1 j hj
      ·rw[List.getElem?_eq_none (by omega),List.getElem?_eq_none (by omega)]
     ·rintro rfl;exact⟨λ_ _=>rfl,by omega⟩
    rw[<-e];exact this
   ·have g1:items.toList[j]? = some items[j]:=by simp
    have g2:items'.toList[j]? = some items'[j]:=by simp
    obtain⟨k,r1,r2⟩:=h4.get g1;obtain⟨l,r3,r4⟩:=h4'.get g2;have e:decide (ks[j]? = ls[j]?)=decide (k=l):=by rw[r1,r3];simp
    rw[e];exact abP n k l _ _ A.in1 s (Qq3 (NK.xQ r1) (by omega)) (by show A.units+1+n+1<cLine;omega) r2 r4
theorem Jd:∀(n:Nat) (k:NK) (v:Value) (A:Around) (E:Value->Shared->Prop) (s:Shared) (Q:Bool->Shared->Prop),k.dep<=n->ym s.heap k v->Q true s->wpAny (model P w) A (eqIsQuiet n v) Q E s
 | n,.num i,v,A,E,s,Q,hn,e,h=>by
  rcases e with ⟨t,rfl⟩|⟨b,rfl,rfl⟩
  ·rw[eqIsQuiet_byValue n rfl];exact Qq6 h
  ·rw[eqIsQuiet_byValue n rfl];exact Qq6 h
 | n,.txt x,v,A,E,s,Q,hn,e,h=>by
  obtain⟨t,rfl⟩:=e;rw[eqIsQuiet_byValue n rfl];exact Qq6 h
 | 0,.tup ks,v,A,E,s,Q,hn,e,h=>by
  rw[NK.dep] at hn;omega
 | n+1,.tup ks,v,A,E,s,Q,hn,e,h=>by
  obtain⟨a,o,items,m,rfl,ho,hc,hd,hi⟩:=e;rw[NK.dep] at hn;have hT:s.TypeIs (.ref a) "tuple":=⟨o,ho,hc⟩;unfold eqIsQuiet;refine Qqx (wpAny_specialOf hT F.slot_tuple_eq.lookup ?_);show wpAny _ _ (isInstance (.ref a) (.type "tuple") >>= _) _ _ s;refine Qqx (wpAny_isInstance hT isSubtype_tuple_tuple ?_);simp only[Bool.not_true,Bool.false_eq_true,if_false];refine Qqx (Qjw ho hd ?_);refine Qqx ?_;show wpAny _ _ (forIn items _ _) _ _ s;rw[<-Array.forIn_toList];refine wpAny_forIn_list _ (λrest r s'=>r.1=none/\s'=s/\∀v∈rest,∃k:NK,k.dep<=n/\ym s.heap k v) _ ?_ ?_ _ _ ⟨rfl,rfl,λv hv=>?_⟩
  ·rintro v rest r s' ⟨hr,rfl,hall⟩;obtain⟨k,hk1,hk2⟩:=hall v Qqz;refine Qqx (Jd n k v A E _ _ hk1 hk2 ?_);simp only[Bool.not_true,Bool.false_eq_true,if_false];exact Qq6 ⟨rfl,rfl,λu hu'=>hall u (Qqj _ hu')⟩
  ·rintro⟨r1,r2⟩ s' ⟨hr,rfl,_⟩;simp only at hr;subst hr;exact Qq6 h
  ·obtain⟨j,hj,rfl⟩:=List.mem_iff_getElem.mp hv;obtain⟨k,r1,r2⟩:=hi.get (Qq2 hj);exact⟨k,Qq3 (NK.xQ r1) (by omega),r2⟩
noncomputable def oW(P:Program)(w:World):HeapKind P w NK where
 is:=λh k a=>ym h k (.ref a)/\k.dep<=8
 hash:=NK.hash P w
 draws:=NK.draws
 room:=λA=>A.units+10<cLine
 inj:=λhx hy=>hx.1.inj hy.1
 keeps:=λx ho hd hs=>⟨x.1.keeps ho hd hs,x.2⟩
 pyHash:=λhu hk h=>Pu _ _ _ _ _ _ (by have:=hk.2;omega) hk.1 h
 eqBool:=λhu hx hy h=>abP 8 _ _ _ _ _ _ hx.2 (by omega) hx.1 hy.1 P w _ _ h
 quiet:=λhk h=>Jd 8 _ _ _ _ _ _ hk.2 hk.1 h
end
abbrev Key:=Sum Int Str
def wR:Key->Value->Bool
 | .inl k,v=>Value.isInt k v
 | .inr x,v=>Value.isStrOf x v
def adU(w:World):Key->Int
 | .inl k=>hashInt k
 | .inr x=>hashStr w x
theorem d8:∀{k:Key} {v:Value},wR k v=true->(∃i t,k=Sum.inl i/\v=Value.int i t)\/(∃x t,k=Sum.inr x/\v=Value.str x t)
 | .inl i,v,h=>by
  obtain⟨t,e⟩:=Value.isInt_shape (k:=i) (v:=v) h;exact .inl ⟨i,t,rfl,e⟩
 | .inr x,v,h=>by
  obtain⟨t,e⟩:=Value.isStrOf_shape (x:=x) (v:=v) h;exact .inr ⟨x,t,rfl,e⟩
theorem K6(i:Int)(t:Tok):wR (.inl i) (.int i t)=true:=by simp[wR,Value.isInt]
theorem K5(x:Str)(t:Tok):wR (.inr x) (.str x t)=true:=by simp[wR,Value.isStrOf]
theorem YS(a b:Int):decide ((Sum.inl a:Key)=Sum.inl b)=(a == b):=by
 by_cases e:a=b
 ·subst e;simp
 ·have h:¬(Sum.inl a:Key)=Sum.inl b:=λq=>e (Sum.inl.inj q);rw[Qq9 h];exact(Qz0.mpr e).symm
theorem YL(a b:Str):decide ((Sum.inr a:Key)=Sum.inr b)=decide (a=b):=by
 by_cases e:a=b
 ·subst e;simp
 ·have h:¬(Sum.inr a:Key)=Sum.inr b:=λq=>e (Sum.inr.inj q);rw[Qq9 h,Qq9 e]
theorem YQ(a:Int)(b:Str):decide ((Sum.inl a:Key)=Sum.inr b)=false:=Qq9 (λq=>nomatch q)
theorem YM(a:Str)(b:Int):decide ((Sum.inr a:Key)=Sum.inl b)=false:=Qq9 (λq=>nomatch q)
def dh(prog:Program)(w:World):PySem.KeyKind prog w Key where
 is:=wR
 hash:=adU w
 inj:=λv a b ha hb=>by
  rcases d8 ha with ⟨i,t,rfl,rfl⟩|⟨x,t,rfl,rfl⟩
  ·rcases d8 hb with ⟨j,u,rfl,e⟩|⟨y,u,rfl,e⟩
   ·injection e with e1 _;rw[e1]
   ·exact nomatch e
  ·rcases d8 hb with ⟨j,u,rfl,e⟩|⟨y,u,rfl,e⟩
   ·exact nomatch e
   ·injection e with e1 _;rw[e1]
 byValue:=λk v h=>by
  rcases d8 h with ⟨i,t,rfl,rfl⟩|⟨x,t,rfl,rfl⟩<;>rfl
 pyHash:=λhv h=>by
  rcases d8 hv with ⟨i,t,rfl,rfl⟩|⟨x,t,rfl,rfl⟩
  ·exact wpAny_pyHash_int h
  ·exact wpAny_pyHash_str h
 eqBool:=λhu hv h=>by
  rcases d8 hu with ⟨i,t,rfl,rfl⟩|⟨x,t,rfl,rfl⟩
  ·rcases d8 hv with ⟨j,u,rfl,rfl⟩|⟨y,u,rfl,rfl⟩
   ·rw[YS] at h;exact wpAny_eqBool_int h
   ·rw[YQ] at h;exact SeqAt.EqAt.int_str i t y u _ _ _ _ h
  ·rcases d8 hv with ⟨j,u,rfl,rfl⟩|⟨y,u,rfl,rfl⟩
   ·rw[YM] at h;exact SeqAt.EqAt.str_int x t j u _ _ _ _ h
   ·rw[YL] at h;exact wpAny_eqBool_str h
 «strs»:=λk x t v h=>by
  rcases d8 h with ⟨i,u,rfl,e⟩|⟨y,u,rfl,e⟩
  ·exact nomatch e
  ·injection e with e1 _
   subst e1;cases v<;>rfl
theorem DP(prog:Program)(w:World)(i:Int)(t:Tok):(dh prog w).is (.inl i) (.int i t)=true:=K6 i t
theorem DN(prog:Program)(w:World)(x:Str)(t:Tok):(dh prog w).is (.inr x) (.str x t)=true:=K5 x t
inductive V where
 | non|bl (b:Bool)|int (i:Int)|str (x:Str)|byt (b:Array UInt8)|flt (b:UInt64)|ref (a:Addr)|ty (n:String)
 deriving DecidableEq
def RelV:V->Value->Prop
 | .non,u=>u=Value.none
 | .bl b,u=>u=Value.bool b
 | .int i,u=>∃t,u=Value.int i t
 | .str x,u=>∃t,u=Value.str x t
 | .byt b,u=>∃t,u=Value.bytes b t
 | .flt b,u=>∃t,u=Value.float b t
 | .ref a,u=>u=Value.ref a
 | .ty n,u=>u=Value.type n
abbrev Vals:List V->List Value->Prop:=Paired RelV
theorem Vals.length{xs:List V}{us:List Value}(r:Vals xs us):xs.length=us.length:=Paired.length r
theorem Vals.get:∀{xs:List V} {us:List Value} {i:Nat} {x:V},Vals xs us->xs[i]? = some x->∃u,us[i]? = some u/\RelV x u
 | _,_,_,_,.nil,e=>by simp at e
 | _,_,0,_,.cons r _,e=>by simp at e;subst e;exact⟨_,rfl,r⟩
 | _,_,i+1,x,.cons _ t,e=>by
  obtain⟨u,h1,h2⟩:=Vals.get (i:=i) (x:=x) t (by simpa using e);exact⟨u,by simpa using h1,h2⟩
theorem Vals.set{x:V}{u:Value}(r:RelV x u):∀{xs:List V} {us:List Value} (i:Nat),Vals xs us->Vals (xs.set i x) (us.set i u)
 | _,_,_,.nil=>.nil
 | _,_,0,.cons _ t=>.cons r t
 | _,_,i+1,.cons q t=>.cons q (Vals.set r i t)
theorem Vals.append:∀{xs ys:List V} {us ws:List Value},Vals xs us->Vals ys ws->Vals (xs++ys) (us++ws)
 | _,_,_,_,.nil,s=>s
 | _,_,_,_,.cons r t,s=>.cons r (Vals.append t s)
theorem Vals.take:∀{xs:List V} {us:List Value} (n:Nat),Vals xs us->Vals (xs.take n) (us.take n)
 | _,_,0,_=>.nil
 | _,_,_+1,.nil=>.nil
 | _,_,n+1,.cons r t=>.cons r (Vals.take n t)
theorem Vals.drop:∀{xs:List V} {us:List Value} (n:Nat),Vals xs us->Vals (xs.drop n) (us.drop n)
 | _,_,0,r=>r
 | _,_,_+1,.nil=>.nil
 | _,_,n+1,.cons _ t=>Vals.drop n t
def rW:Option V->Option Value->Prop
 | some v,some u=>RelV v u
 | none,none=>True
 | _,_=>False
def KV{κ:Type}:List (κ×V)->List (κ×Value)->Prop:=Paired λ(p:κ×V) (q:κ×Value)=>p.1=q.1/\RelV p.2 q.2
def kV:Key->V
 | .inl i=>.int i
 | .inr x=>.str x
inductive HO where
 /-- a list -/
 | lst (xs:List V)
 /-- a tuple (never changes) -/
 | tup (xs:List V)
 /-- a dict whose keys are ints and texts;one whose keys are tuples of ints and texts (the empty one is both) -/
 | dK (kvs:List (Key×V))|dT (kvs:List (List Key×V))|dN (kvs:List (NK×V×V))
 /-- a set of ints: its members,its size -/
 | set (S:Int->Bool) (n:Nat)
 /-- an instance of the class at C,its dict at dx,its attributes -/
 | ins (C dx:Addr) (fs:List (Str×V))
 /-- the dict of the instance at x -/
 | own (x:Addr)
 /-- the dict of an exception -/
 | xd (fs:List (Str×V))
 /-- a bound method,f of x -/
 | met (f x:Addr)
 /-- a range object lo,lo+1,.. below hi -/
 | rng (lo hi:Int)
 /-- a thing that is known to the object (the script;a dict while a loop walks it): read,never written while it is so -/
 | Ek (o:Obj) (u:HO)
 /-- a code object's table -/
 | Ww (ps:Array Value)
 /-- a code object's table: whatever it holds,the codes made at these places are known and bear these names -/
 | tab (qs:List (Pos×Str))
 /-- any other thing,by what is true of its one object (a def of one's own: acB a S n:=HO.ext λh=>..) -/
 | ext (φ:Heap->Prop)
abbrev Hp:=Addr->Option HO
def upd(H:Hp)(a:Addr)(o:HO):Hp:=λb=>if b=a then some o else H b
theorem aQ{H:Hp}{a:Addr}{o:HO}:upd H a o a=some o:=by unfold upd;rw[if_pos rfl]
theorem bw{H:Hp}{a b:Addr}{o:HO}(h:b≠a):upd H a o b=H b:=by unfold upd;rw[if_neg h]
theorem Rp{H:Hp}{a:Addr}{o u:HO}:upd (upd H a o) a u=upd H a u:=by funext b;unfold upd;split<;>rfl
theorem abN{H:Hp}{a b:Addr}{o u:HO}(h:H a=some o)(h':H b=some u)(d:o≠u):a≠b:=by intro e;subst e;rw[h] at h';exact d (Qw4 h')
theorem dU{H:Hp}{a b:Addr}{o:HO}(h:H a=some o)(h':H b=none):a≠b:=by intro e;subst e;rw[h] at h';cases h'
def yH(h:Heap)(a:Addr)(items:Array Value):Prop:=∃o,h.get? a=some o/\o.cls = .type "tuple"/\(∃n,o.data = .seq items n)/\o.dict=none
theorem yH.is{h:Heap}{a:Addr}{items:Array Value}(x:yH h a items):IsTup h a items:=let ⟨o,h1,h2,h3,_⟩:=x;⟨o,h1,h2,h3⟩
theorem yH.new(h:Heap)(items:Array Value):yH (h.push { cls:=.type "tuple",data:=.seq items }) h.objs.size items:=⟨_,Qw1 _ rfl,rfl,⟨_,rfl⟩,rfl⟩
section
variable(P:Program)(w:World)
def fY(H:Hp)(h:Heap)(a:Addr):HO->Prop
 | .lst xs=>xs.length<=sizeLine/\∃(its:List Value) (n:Nat),Vals xs its/\h.get? a=some { cls:=.type "list",data:=.seq its.toArray n }
 | .tup xs=>xs.length<=sizeLine/\∃its:List Value,Vals xs its/\yH h a its.toArray
 | .dK kvs=>kvs.length<=sizeLine/\(a == sysModules)=false/\∃vs,KV kvs vs/\h.DictOf (dh P w) a vs
 | .dT kvs=>kvs.length<=sizeLine/\(a == sysModules)=false/\∃xs:List (List Key×Addr×Value),
   Paired (λ(p:List Key×V) (q:List Key×Addr×Value)=>p.1=q.1/\H q.2.1=some (.tup (p.1.map kV))/\RelV p.2 q.2.2) kvs xs/\
   ∃o es ep,h.get? a=some o/\o.ExactDict/\o.data = .dict es ep/\es.toList=xs.map (entryOfKey (tupleKind (dh P w)))/\(xs.map (·.1)).Nodup
 | .dN kvs=>kvs.length<=sizeLine/\(a == sysModules)=false/\∃xs:List (NK×Addr×Value),
   Paired (λ(p:NK×V×V) (q:NK×Addr×Value)=>p.1=q.1/\p.2.1 = .ref q.2.1/\RelV p.2.2 q.2.2) kvs xs/\
   ∃o es ep,h.get? a=some o/\o.ExactDict/\o.data = .dict es ep/\es.toList=xs.map (entryOfKey (oW P w))/\(xs.map (·.1)).Nodup
 | .set S n=>h.SetOf (intKind P w) a S n
 | .ins C dx fs=>H dx=some (.own a)/\fs.length<=1000/\dx≠a/\h.get? a=some (PySem.W.instObj C dx)/\
   ∃mA,h.Ns1 dx mA/\(∀f,rW (fs.lookup f) (mA f))/\PySem.Within mA (fs.map (·.1))
 | .own _=>∃o,h.get? a=some o
 | .xd fs=>∃mA,h.Ns1 a mA/\∀f,rW (fs.lookup f) (mA f)
 | .rng lo hi=>∃t u v,h.get? a=some { cls:=.type "range",data:=.fields #[.int lo t,.int hi u,.int 1 v] }
 | .Ek o u=>h.get? a=some o/\fY H h a u
 | .Ww ps=>h.get? a=some { cls:=.none,data:=.fields ps }
 | .tab qs=>∃ps:Array Value,h.get? a=some { cls:=.none,data:=.fields ps }/\TriplesOk ps.toList/\∀q∈qs,codeAmong q.1 ps.toList=none\/∃(c:Addr) (o:Obj) (u:HO) (vs:Array Value) (t:Tok),codeAmong q.1 ps.toList=some (.ref c)/\H c=some (.Ek o u)/\o.data = .fields vs/\vs[1]? = some (.str q.2 t)
 | .met f x=>h.get? a=some (PySem.W.methodObj (.ref f) (.ref x))
 | .ext φ=>φ h/\(∃o,h.get? a=some o)/\∀h1 h2:Heap,φ h1->(∀o,h1.get? a=some o->h2.get? a=some o)->φ h2
def rZ(H:Hp)(h:Heap):Prop:=∀a o,H a=some o->fY P w H h a o
end
section
variable{P:Program}{w:World}{H H':Hp}{h h':Heap}{a:Addr}{o:HO}
theorem fY.lt(x:fY P w H h a o):a<h.objs.size:=by
 cases o with
 | lst xs=>obtain⟨_,_,_,_,e⟩:=x;exact Qwq e
 | tup xs=>obtain⟨_,_,_,p⟩:=x;exact p.is.lt
 | dK kvs=>obtain⟨_,_,_,_,o,_,_,e,_⟩:=x;exact Qwq e
 | dT kvs=>obtain⟨_,_,_,_,o,_,_,e,_⟩:=x;exact Qwq e
 | dN kvs=>obtain⟨_,_,_,_,o,_,_,e,_⟩:=x;exact Qwq e
 | set S n=>obtain⟨o,_,_,_,e,_⟩:=x;exact Qwq e
 | ins C dx fs=>obtain⟨_,_,_,e,_⟩:=x;exact Qwq e
 | own y=>obtain⟨_,e⟩:=x;exact Qwq e
 | xd fs=>obtain⟨_,⟨_,_,_,e,_⟩,_⟩:=x;exact Qwq e
 | rng lo hi=>obtain⟨_,_,_,e⟩:=x;exact Qwq e
 | Ek ob u=>obtain⟨e,_⟩:=x;exact Qwq e
 | Ww ps=>exact Qwq (show h.get? a=some _ from x)
 | tab qs=>obtain⟨_,e,_⟩:=x;exact Qwq e
 | met f y=>exact Qwq (show h.get? a=some _ from x)
 | ext φ=>obtain⟨_,⟨_,e⟩,_⟩:=x;exact Qwq e
theorem Paired.Yx{α β:Type}{F G:α->β->Prop}:∀{l₁:List α} {l₂:List β},Paired F l₁ l₂->(∀a b,F a b->G a b)->Paired G l₁ l₂
 | _,_,.nil,_=>.nil
 | _,_,.cons r t,f=>.cons (f _ _ r) (Paired.Yx t f)
theorem fY.stay(x:fY P w H h a o)(k:∀b u,(b=a\/H b=some (.own a))->h.get? b=some u->h'.get? b=some u)
  (ho:∀b,H b=some (.own a)->H' b=some (.own a)) (ht:∀b xs,H b=some (.tup xs)->H' b=some (.tup xs))
  (hz:∀(b:Addr) (o:Obj) (u:HO) (vs:Array Value),o.data = .fields vs->H b=some (.Ek o u)->H' b=some (.Ek o u):=by intro _ _ _ _ _ q;exact q):fY P w H' h' a o:=by
 induction o with
 | lst xs=>obtain⟨z,its,n,r,e⟩:=x;exact⟨z,its,n,r,k _ _ (.inl rfl) e⟩
 | tup xs=>obtain⟨z,its,r,ob,e,c⟩:=x;exact⟨z,its,r,ob,k _ _ (.inl rfl) e,c⟩
 | dK kvs=>obtain⟨z,y,vs,r,ob,es,ep,e,c⟩:=x;exact⟨z,y,vs,r,ob,es,ep,k _ _ (.inl rfl) e,c⟩
 | dT kvs=>
  obtain⟨z,y,xs,r,ob,es,ep,e,c⟩:=x;exact⟨z,y,xs,Paired.Yx r λp q z=>⟨z.1,ht _ _ z.2.1,z.2.2⟩,ob,es,ep,k _ _ (.inl rfl) e,c⟩
 | dN kvs=>obtain⟨z,y,xs,r,ob,es,ep,e,c⟩:=x;exact⟨z,y,xs,r,ob,es,ep,k _ _ (.inl rfl) e,c⟩
 | set S n=>obtain⟨ob,es,ep,t,e,c⟩:=x;exact⟨ob,es,ep,t,k _ _ (.inl rfl) e,c⟩
 | ins C dx fs=>
  obtain⟨d,z,ne,e,mA,⟨od,es,ep,e2,c⟩,r⟩:=x;exact⟨ho _ d,z,ne,k _ _ (.inl rfl) e,mA,⟨od,es,ep,k _ _ (.inr d) e2,c⟩,r⟩
 | own y=>obtain⟨ob,e⟩:=x;exact⟨ob,k _ _ (.inl rfl) e⟩
 | xd fs=>obtain⟨mA,⟨od,es,ep,e,c⟩,r⟩:=x;exact⟨mA,⟨od,es,ep,k _ _ (.inl rfl) e,c⟩,r⟩
 | rng lo hi=>obtain⟨t,u,v,e⟩:=x;exact⟨t,u,v,k _ _ (.inl rfl) e⟩
 | Ek ob u ih=>obtain⟨e,q⟩:=x;exact⟨k _ _ (.inl rfl) e,ih q⟩
 | Ww ps=>
  have e:h.get? a=some { cls:=.none,data:=.fields ps }:=x;show h'.get? a=some { cls:=.none,data:=.fields ps };exact k a _ (.inl rfl) e
 | tab qs=>
  obtain⟨ps,e,t,r⟩:=x;refine⟨ps,k a _ (.inl rfl) e,t,λq hq=>?_⟩;rcases r q hq with z|⟨c,o,u,vs,t,h1,h2,h3,h4⟩
  ·exact .inl z
  ·exact .inr ⟨c,o,u,vs,t,h1,hz c o u vs h3 h2,h3,h4⟩
 | met f y=>
  have e:h.get? a=some (PySem.W.methodObj (.ref f) (.ref y)):=x;show h'.get? a=some (PySem.W.methodObj (.ref f) (.ref y));exact k a _ (.inl rfl) e
 | ext φ=>obtain⟨p,⟨o,e⟩,st⟩:=x;exact⟨st _ _ p λo q=>k _ _ (.inl rfl) q,⟨o,k _ _ (.inl rfl) e⟩,st⟩
theorem rZ.lt(x:rZ P w H h)(e:H a=some o):a<h.objs.size:=(x a o e).lt
theorem rZ.fresh(x:rZ P w H h)(e:h.objs.size<=a):H a=none:=by
 cases q:H a with
 | none=>rfl
 | some u=>exact absurd (Qwz (x.lt q) e) (Qz3 _)
theorem rZ.kept(x:rZ P w H h)(k:∀b u,h.get? b=some u->h'.get? b=some u):rZ P w H h':=λa o e=>
 (x a o e).stay (λb u _ q=>k b u q) (λ_ q=>q) λ_ _ q=>q
theorem rZ.laid(x:rZ P w H h)(k:∀b u,h.get? b=some u->h'.get? b=some u)(hp:h.objs.size<=a)(new:fY P w (upd H a o) h' a o):rZ P w (upd H a o) h':=λb u e=>by
 have hn:=x.fresh hp;by_cases hb:b=a
 ·subst hb;rw[aQ] at e;cases e;exact new
 ·rw[bw hb] at e;exact(x b u e).stay (λc v _ q=>k c v q) (λc q=>by rw[bw (dU q hn)];exact q) (λc xs q=>by rw[bw (dU q hn)];exact q) λc _ _ _ _ q=>by rw[bw (dU q hn)];exact q
end
def Rd(H:Hp)(a:Addr)(u:HO):Prop:=H a=some u\/∃o,H a=some (.Ek o u)
theorem Rd.ok{P:Program}{w:World}{H:Hp}{h:Heap}{a:Addr}{u:HO}(r:Rd H a u)(x:rZ P w H h):fY P w H h a u:=by
 rcases r with r|⟨o,r⟩
 ·exact x a u r
 ·obtain⟨_,q⟩:=x a _ r;exact q
def Mut:Option HO->Prop
 | some (.lst _)=>True
 | some (.dK _)=>True
 | some (.dT _)=>True
 | some (.dN _)=>True
 | some (.set _ _)=>True
 | some (.ins _ _ _)=>True
 | some (.ext _)=>True
 | _=>False
section
variable{P:Program}{w:World}{H:Hp}{h h':Heap}{x e:Addr}{o':HO}
theorem rZ.write(ok:rZ P w H h)(mu:Mut (H x))(he:e=x\/H e=some (.own x))(k:∀b u,b≠e->h.get? b=some u->h'.get? b=some u)(heo:∃u,h'.get? e=some u)
  (new:fY P w (upd H x o') h' x o'):rZ P w (upd H x o') h':=λb u q=>by
 have abI:∀c y,H c=some (.own y)->c≠x:=λc y r z=>by subst z;rw[r] at mu;exact mu
 have adM:∀c xs,H c=some (.tup xs)->c≠x:=λc xs r z=>by subst z;rw[r] at mu;exact mu
 by_cases hb:b=x
 ·subst hb;rw[aQ] at q;cases q;exact new
 ·rw[bw hb] at q;by_cases hbe:b=e
  ·have q':H b=some (.own x):=by
    rcases he with z|z
    ·exact absurd (hbe.trans z) hb
    ·rw[hbe];exact z
   rw[q] at q';cases q';obtain⟨v,hv⟩:=heo;exact⟨v,by rw[hbe];exact hv⟩
  ·refine(ok b u q).stay (λc v hc r=>k c v ?_ r) (λc r=>by rw[bw (abI c b r)];exact r) (λc xs r=>by rw[bw (adM c xs r)];exact r) λc _ _ _ _ r=>by rw[bw (λz=>by subst z;rw[r] at mu;exact mu)];exact r
   rcases hc with rfl|hc
   ·exact hbe
   ·rintro rfl;rcases he with z|z
    ·exact abI c b hc z
    ·rw[hc] at z;cases z;exact hb rfl
end
structure Un(fs ex:List Addr)(H H':Hp)(h h':Heap):Prop where
 keep:∀b o,h.get? b=some o->H b=none->b ∉ fs->b ∉ ex->h'.get? b=some o
 slot:∀b o,h.get? b=some o->H b=none->b∈fs->b ∉ ex->∃sl,h'.get? b=some { o with slots:=sl }
 free:∀b o,h.get? b=some o->H b=none->b ∉ ex->H' b=none
 there:∀b o,h.get? b=some o->b ∉ ex->∃o',h'.get? b=some o'
 tups:∀b xs,H b=some (.tup xs)->H' b=some (.tup xs)
 xj:∀b o u,H b=some (.Ek o u)->H' b=some (.Ek o u)
 Cg:∀b ps,H b=some (.Ww ps)->∃more,H' b=some (.Ww (ps++more))
 tabs:∀b qs,H b=some (.tab qs)->H' b=some (.tab qs)
section
variable{fs fs' ex ex':List Addr}{H H1 H2:Hp}{h h1 h2 h':Heap}{a x e:Addr}{o:HO}
theorem Un.any(u:Un fs ex H H1 h h1){b:Addr}{ob:Obj}(q:h.get? b=some ob)(n:H b=none)(hx:b ∉ ex):∃sl,h1.get? b=some { ob with slots:=sl }:=by
 by_cases hb:b∈fs
 ·exact u.slot b ob q n hb hx
 ·exact⟨ob.slots,u.keep b ob q n hb hx⟩
theorem Un.kept(k:∀b u,h.get? b=some u->h'.get? b=some u):Un fs ex H H h h':=
 ⟨λb ob q _ _ _=>k b ob q,λb ob q _ _ _=>⟨ob.slots,k b ob q⟩,λ_ _ _ n _=>n,λb ob q _=>⟨ob,k b ob q⟩,λ_ _ q=>q,λ_ _ _ q=>q,λ_ ps q=>⟨#[],by rw[q];simp⟩,λ_ _ q=>q⟩
theorem Un.refl:Un fs ex H H h h:=Un.kept λ_ _ q=>q
theorem Un.laid(k:∀b u,h.get? b=some u->h'.get? b=some u)(hp:h.objs.size<=a)(hn:H a=none):Un fs ex H (upd H a o) h h' where
 keep:=λb u q _ _ _=>k b u q
 slot:=λb u q _ _ _=>⟨u.slots,k b u q⟩
 free:=λb u q n _=>by rw[bw (Qw9 (Qwz (Qwq q) hp))];exact n
 there:=λb u q _=>⟨u,k b u q⟩
 tups:=λb xs q=>by rw[bw (dU q hn)];exact q
 xj:=λb u xs q=>by rw[bw (dU q hn)];exact q
 Cg:=λb ps q=>⟨#[],by rw[bw (dU q hn),q];simp⟩
 tabs:=λb qs q=>by rw[bw (dU q hn)];exact q
theorem Un.write(mu:Mut (H x))(he:e=x\/H e=some (.own x))(k:∀b u,b≠e->h.get? b=some u->h'.get? b=some u)(heo:∃u,h'.get? e=some u):Un fs ex H (upd H x o) h h':=by
 have hx:∀b,H b=none->b≠x:=λb n z=>by subst z;rw[n] at mu;exact mu
 have hb:∀b,H b=none->b≠e:=λb n z=>by
  subst z;rcases he with r|r
  ·exact hx b n r
  ·rw[n] at r;cases r
 have hm:∀b u,H b=some u->¬Mut (some u)->b≠x:=λb u q nm z=>by subst z;rw[q] at mu;exact nm mu
 refine⟨λb u q n _ _=>k b u (hb b n) q,λb u q n _ _=>⟨u.slots,k b u (hb b n) q⟩,λb u q n _=>by rw[bw (hx b n)];exact n,λb u q _=>?_,
  λb xs q=>by rw[bw (hm b _ q λz=>z)];exact q,λb u xs q=>by rw[bw (hm b _ q λz=>z)];exact q,λb ps q=>⟨#[],by rw[bw (hm b _ q λz=>z),q];simp⟩,λb qs q=>by rw[bw (hm b _ q λz=>z)];exact q⟩
 by_cases hbe:b=e
 ·subst hbe;exact heo
 ·exact⟨u,k b u hbe q⟩
end
def trk(h:Heap)(H:Hp):List Addr:=(List.range h.objs.size).filter λa=>(H a).isSome
def Bg(h:Heap)(H:Hp):Heap:=PySem.W.hideAll h (trk h H)
theorem Lb(h:Heap)(H:Hp):(Bg h H).objs.size=h.objs.size:=PySem.W.hideAll_size _ _
theorem Ql{h:Heap}{H:Hp}{b:Addr}{o:Obj}(e:h.get? b=some o)(n:H b=none):(Bg h H).get? b=some o:=
 PySem.W.hideAll_get _ e λhm=>by
  have q:(H b).isSome=true:=(List.mem_filter.mp hm).2;rw[n] at q;simp at q
theorem Tj{h:Heap}{H:Hp}{b:Addr}{o:Obj}(e:(Bg h H).get? b=some o):h.get? b=some o/\H b=none:=by
 have e':h.get? b=some o:=PySem.W.of_hideAll (trk h H) e;refine⟨e',?_⟩;cases q:H b with
 | none=>rfl
 | some x=>
  have hm:b∈trk h H:=List.mem_filter.mpr ⟨Qk0.mpr (Qwq e'),by simp[q]⟩;have z:(Bg h H).get? b=none:=PySem.W.hideAll_none (trk h H) hm;rw[z] at e;cases e
def Uz(g h:Heap)(L:Addr):List (Addr×Obj):=(List.range h.objs.size).filterMap λa=>if a=L\/(g.get? a).isSome=true then none else (h.get? a).map λo=>(a,o)
def rest(g h:Heap)(L d:Addr):List (Addr×Obj):=(Uz g h L).filter λp=>decide (p.1≠d)
structure Mod(K:PySem.W.Frag)(mg:Str->Option Value)(base:Heap):Prop where
 kin:K.In base
 glob:base.Ns mainGlobals mg
 blt:∃mb,base.Ns builtinsNs mb/\∀x:Str,x ≠ "__name__"->mb x=bootBuiltins x
 nolimit:base.NoLimit
structure Cx where
 prog:Program
 w:World
 K:PySem.W.Frag
 mg:Str->Option Value
 base:Heap
 A:Around
 N:List Str
 s₀:Shared
 H₀:Hp
 env:Env
 outer:List Env
 stack:List Env
 ex:List Addr
 fn:Str->Bool
 calm:Bool
 pn:List (Addr×Obj)
 xe:Value->Shared->Prop
def frs(l:List Env):List Addr:=l.filterMap (·.frame)
abbrev Cx.fs(X:Cx):List Addr:=frs X.outer
def uW(sc:Scope)(x:Str):Prop:=sc.names.lookup x=some .local\/sc.names.lookup x=some .cell\/sc.names.lookup x=some .free
def Loc(sc:Scope)(x:Str):Prop:=sc.names.lookup x=some .local\/sc.names.lookup x=some .cell
def Look(env:Env)(h:Heap)(m:Str->Option Value)(x:Str)(u:Value):Prop:=
 (env.kindOf x=some .local/\m x=some u)\/((env.kindOf x=some .cell\/env.kindOf x=some .free)/\∃c,env.cells.lookup x=some c/\h.IsCell c (some u))
structure Cx.Ok(X:Cx):Prop where
 mod:Mod X.K X.mg X.base
 kind:X.env.scope.kind = .function
 glob:X.env.globals=mainGlobals
 blt:X.env.builtins=builtinsNs
 above:X.s₀.heap.objs.size<=X.env.locals
 inj:∀x y c,X.env.cells.lookup x=some c->X.env.cells.lookup y=some c->x=y
 has:∀x,(X.env.kindOf x=some .cell\/X.env.kindOf x=some .free)->∃c,X.env.cells.lookup x=some c
 cab:∀x c,X.fn x=true->X.env.cells.lookup x=some c->X.s₀.heap.objs.size<=c
 hd:X.calm=true->X.A.handled=none
 frames:X.A.frames=some X.stack
 jd:X.stack=X.outer\/(X.stack=X.env::X.outer/\X.env.frame=some X.env.locals)
 exf:∀b∈X.ex,b≠X.env.locals/\∀x c,X.env.cells.lookup x=some c->c≠b
 bs:∀b o,X.base.get? b=some o->X.s₀.heap.get? b=some o/\X.H₀ b=none
 V4:X.base.objs.size<=X.s₀.heap.objs.size
 Pg:∀b o,X.base.get? b=some o->b ∉ X.ex
 Qt:∀b∈X.ex,b ∉ X.fs
 xg:X.s₀.heap.FunFrames X.base X.outer
 frf:∀b∈X.fs,X.H₀ b=none
structure Inv(X:Cx)(pins:List (Addr×Obj))(σ:List (Option V))(H:Hp)(s:Shared):Prop where
 ok:X.Ok
 os:s.os=X.s₀.os
 bare:AllBare s.gens
 base:Un X.fs X.ex X.H₀ H X.s₀.heap s.heap
 loc:∃m,s.heap.Ns X.env.locals m/\∀(i:Nat) (x:Str) (v:V),X.N[i]? = some x->σ[i]? = some (some v)->uW X.env.scope x->∃u,RelV v u/\Look X.env s.heap m x u
 cell:∀x c,X.env.cells.lookup x=some c->∃v,s.heap.IsCell c v
 free:H X.env.locals=none
 rH:∀x c,X.env.cells.lookup x=some c->H c=none\/(X.fn x=false/\∃o u,H c=some (.Ek o u))
 pin:∀p∈X.pn++pins,s.heap.get? p.1=some p.2/\H p.1=none/\p.1≠X.env.locals/\p.1 ∉ X.fs/\∀v,p.2.data ≠ .cell v
 hok:rZ X.prog X.w H s.heap
 len:σ.length=X.N.length
section
variable{X:Cx}{pins:List (Addr×Obj)}{σ:List (Option V)}{H H':Hp}{s:Shared}{h':Heap}
theorem Cx.Ok.adO(ok:X.Ok){b:Addr}{o:Obj}(e:X.base.get? b=some o):b ∉ X.fs:=λhb=>by
 have:=(ok.xg.mem hb).1;rw[e] at this;cases this
theorem Inv.bs(I:Inv X pins σ H s):∀b o,X.base.get? b=some o->s.heap.get? b=some o/\H b=none:=λb o e=>
 ⟨I.base.keep b o (I.ok.bs b o e).1 (I.ok.bs b o e).2 (I.ok.adO e) (I.ok.Pg b o e),I.base.free b o (I.ok.bs b o e).1 (I.ok.bs b o e).2 (I.ok.Pg b o e)⟩
theorem Inv.bk(I:Inv X pins σ H s):∀b o,X.base.get? b=some o->s.heap.get? b=some o:=λb o e=>(I.bs b o e).1
theorem Inv.mod(I:Inv X pins σ H s):Mod X.K X.mg X.base:=I.ok.mod
theorem Inv.YT(I:Inv X pins σ H s):X.K.In s.heap:=I.ok.mod.kin.keeps I.bk
theorem Inv.lt(I:Inv X pins σ H s):X.env.locals<s.heap.objs.size:=let ⟨_,hn,_⟩:=I.loc;hn.lt
theorem Inv.sz(I:Inv X pins σ H s):X.s₀.heap.objs.size<=s.heap.objs.size:=Qq3 I.ok.above (Qxv I.lt)
theorem Inv.adN(I:Inv X pins σ H s){a:Addr}(h:s.heap.objs.size<=a):a ∉ X.fs:=λhb=>by
 obtain⟨_,o,ho,_⟩:=I.ok.xg.mem hb;exact absurd (Qwz (Qwq ho) (Qq3 I.sz h)) (Qz3 _)
theorem Inv.ZL(I:Inv X pins σ H s):∀x c,X.env.cells.lookup x=some c->c≠X.env.locals:=λx c e z=>by
 obtain⟨v,o,ho,hd⟩:=I.cell x c e;obtain⟨m,⟨o',es,ep,ho',hd',_⟩,_⟩:=I.loc;rw[z,ho'] at ho;cases ho;rw[hd'] at hd;cases hd
theorem Inv.xg(I:Inv X pins σ H s):s.heap.FunFrames X.base X.outer:=by
 have all:∀(l:List Env),(∀b∈frs l,b∈X.fs)->X.s₀.heap.FunFrames X.base l->s.heap.FunFrames X.base l:=by
  intro l
  induction l with
  | nil=>intro _ _;trivial
  | cons env r ih=>
   intro hs hl;obtain⟨hk,⟨L,o,hf,hn,ho,hd⟩,hr⟩:=hl;have hL:L∈X.fs:=hs L (by unfold frs;rw[List.filterMap_cons,hf];exact Qqz);obtain⟨sl,e⟩:=I.base.slot L o ho (I.ok.frf L hL) hL λz=>I.ok.Qt L z hL;exact⟨hk,⟨L,_,hf,hn,e,hd⟩,ih (λb hb=>hs b (by unfold frs;rw[List.filterMap_cons,hf];exact Qqj _ hb)) hr⟩
 exact all X.outer (λ_ hb=>hb) I.ok.xg
theorem Inv.stack(I:Inv X pins σ H s):s.heap.FunFrames X.base X.stack:=by
 rcases I.ok.jd with e|⟨e,hf⟩
 ·rw[e];exact I.xg
 ·rw[e];obtain⟨m,hn,_⟩:=I.loc;refine .cons (by rw[I.ok.kind];decide) hf hn ?_ I.xg;exact Heap.get?_none_of_le (Qq3 I.ok.V4 I.ok.above)
theorem Inv.Gk(I:Inv X pins σ H s):∀b∈frs X.stack,b∈X.env.locals::X.fs:=λb hb=>by
 rcases I.ok.jd with e|⟨e,hf⟩
 ·rw[e] at hb;exact Qqj _ hb
 ·rw[e] at hb;unfold frs at hb;rw[List.filterMap_cons,hf] at hb;exact hb
theorem Inv.Ii(I:Inv X pins σ H s):∀b∈frs X.stack,H b=none:=λb hb=>by
 rcases Qq8.mp (I.Gk b hb) with e|hb
 ·rw[e];exact I.free
 ·obtain⟨_,o,ho,_⟩:=I.ok.xg.mem hb;exact I.base.free b o ho (I.ok.frf b hb) λz=>I.ok.Qt b z hb
theorem Inv.step{g':Array GenState}{t':Nat}{d':Drawn}{ch:List Addr}(I:Inv X pins σ H s)
  (hch:∀b∈ch,(b∈X.ex\/X.s₀.heap.objs.size<=b)/\b≠X.env.locals/\(∀x c,X.env.cells.lookup x=some c->c≠b)/\∀p∈X.pn++pins,p.1≠b)
  (keep:∀b o,b≠X.env.locals->b ∉ X.fs->b ∉ ch->s.heap.get? b=some o->H b=none->h'.get? b=some o)
  (slot:∀b o,b≠X.env.locals->b∈X.fs->b ∉ ch->s.heap.get? b=some o->H b=none->∃sl,h'.get? b=some { o with slots:=sl }) (free:∀b o,b ∉ ch->s.heap.get? b=some o->H b=none->H' b=none)
  (there:∀b o,b ∉ ch->s.heap.get? b=some o->∃o',h'.get? b=some o')
  (tups:∀b xs,H b=some (.tup xs)->H' b=some (.tup xs)) (xj:∀b o u,H b=some (.Ek o u)->H' b=some (.Ek o u)) (Cg:∀b ps,H b=some (.Ww ps)->∃more,H' b=some (.Ww (ps++more)))
  (ns:∀m,s.heap.Ns X.env.locals m->h'.Ns X.env.locals m) (hok:rZ X.prog X.w H' h') (hg:AllBare g')
  (tabs:∀(b:Addr) (qs:List (Pos×Str)),H b=some (.tab qs)->H' b=some (.tab qs):=by intro _ _ q;exact q) :
  Inv X pins σ H' { s with heap:=h',gens:=g',drawn:=d',toks:=t' }:=by
 have neL:∀b o,X.s₀.heap.get? b=some o->b≠X.env.locals:=λb o e=>Qw9 (Qwz (Qwq e) I.ok.above);have neC:∀b o,X.s₀.heap.get? b=some o->b ∉ X.ex->b ∉ ch:=λb o e hx hb=>by
  rcases(hch b hb).1 with z|z
  ·exact hx z
  ·exact absurd (Qwz (Qwq e) z) (Qz3 _)
 have cellK:∀x c,X.env.cells.lookup x=some c->∀v,s.heap.IsCell c v->h'.IsCell c v:=λx c e v ⟨o,ho,hd⟩=>by
  have nch:c ∉ ch:=λz=>(hch c z).2.2.1 x c e rfl;rcases I.rH x c e with hn|⟨_,fo,fu,hz⟩
  ·by_cases hc:c∈X.fs
   ·obtain⟨sl,q⟩:=slot c o (I.ZL x c e) hc nch ho hn;exact⟨_,q,hd⟩
   ·exact⟨o,keep c o (I.ZL x c e) hc nch ho hn,hd⟩
  ·have e1:=(I.hok c _ hz).1;rw[ho] at e1;cases e1;exact⟨o,(hok c _ (xj c o fu hz)).1,hd⟩
 refine⟨I.ok,I.os,hg,⟨λb o e n hb hx=>?_,λb o e n hb hx=>?_,λb o e n hx=>?_,λb o e hx=>?_,λb xs e=>tups b xs (I.base.tups b xs e),λb o xs e=>xj b o xs (I.base.xj b o xs e),λb ps e=>?_,λb qs e=>tabs b qs (I.base.tabs b qs e)⟩,?_,λx c e=>?_,?_,λx c e=>?_,λp hp=>?_,hok,I.len⟩
 ·exact keep b o (neL b o e) hb (neC b o e hx) (I.base.keep b o e n hb hx) (I.base.free b o e n hx)
 ·obtain⟨sl,e1⟩:=I.base.slot b o e n hb hx;obtain⟨sl',e2⟩:=slot b _ (neL b o e) hb (neC b o e hx) e1 (I.base.free b o e n hx);exact⟨sl',e2⟩
 ·obtain⟨o',e1⟩:=I.base.there b o e hx;exact free b o' (neC b o e hx) e1 (I.base.free b o e n hx)
 ·obtain⟨o',e1⟩:=I.base.there b o e hx;exact there b o' (neC b o e hx) e1
 ·obtain⟨m1,e1⟩:=I.base.Cg b ps e;obtain⟨m2,e2⟩:=Cg b _ e1;exact⟨m1++m2,by rw[e2,Array.append_assoc]⟩
 ·obtain⟨m,hn,hl⟩:=I.loc;refine⟨m,ns m hn,λi x v e1 e2 e3=>?_⟩;obtain⟨u,r,l⟩:=hl i x v e1 e2 e3;refine⟨u,r,?_⟩;rcases l with l|⟨k,c,e,z⟩
  ·exact .inl l
  ·exact .inr ⟨k,c,e,cellK x c e _ z⟩
 ·obtain⟨v,z⟩:=I.cell x c e;exact⟨v,cellK x c e v z⟩
 ·obtain⟨m,⟨o,_,_,ho,_⟩,_⟩:=I.loc;exact free _ o (λz=>(hch _ z).2.1 rfl) ho I.free
 ·rcases I.rH x c e with hn|⟨h1,fo,fu,hz⟩
  ·obtain⟨v,o,ho,hd⟩:=I.cell x c e;exact .inl (free c o (λz=>(hch c z).2.2.1 x c e rfl) ho hn)
  ·exact .inr ⟨h1,fo,fu,xj c fo fu hz⟩
 ·obtain⟨e,n,ne,nf,d⟩:=I.pin p hp;have nch:p.1 ∉ ch:=λz=>(hch p.1 z).2.2.2 p hp rfl;exact⟨keep p.1 p.2 ne nf nch e n,free p.1 p.2 nch e n,ne,nf,d⟩
theorem Inv.un{t':Nat}(I:Inv X pins σ H s)(u:Un X.fs [] H H' s.heap h')(hok:rZ X.prog X.w H' h'):Inv X pins σ H' { s with heap:=h',toks:=t' }:=by
 obtain⟨m,⟨o,es,ep,ho,r⟩,_⟩:=id I.loc;obtain⟨sl,hL⟩:=u.any ho I.free (by simp);exact I.step (g':=s.gens) (d':=s.drawn) (ch:=[]) (λ_ z=>nomatch z) (λb o _ hb _ e n=>u.keep b o e n hb (by simp)) (λb o _ hb _ e n=>u.slot b o e n hb (by simp)) (λb o _ e n=>u.free b o e n (by simp)) (λb o _ e=>u.there b o e (by simp)) u.tups u.xj u.Cg (λm' hm=>by
  obtain⟨o',es',ep',ho',r'⟩:=hm;rw[ho] at ho';cases ho';exact⟨_,es',ep',hL,r'⟩) hok I.bare u.tabs
theorem Inv.call{g':Array GenState}{t':Nat}{d':Drawn}{ch:List Addr}(I:Inv X pins σ H s)(u:Un (frs X.stack) ch H H' s.heap h')(hok:rZ X.prog X.w H' h')(hg:AllBare g')
  (hch:∀b∈ch,(b∈X.ex\/X.s₀.heap.objs.size<=b)/\b≠X.env.locals/\(∀x c,X.env.cells.lookup x=some c->c≠b)/\∀p∈X.pn++pins,p.1≠b) :
  Inv X pins σ H' { s with heap:=h',gens:=g',drawn:=d',toks:=t' }:=by
 obtain⟨m,⟨o,es,ep,ho,r⟩,_⟩:=id I.loc;obtain⟨sl,hL⟩:=u.any ho I.free λz=>(hch _ z).2.1 rfl;exact I.step (ch:=ch) hch (λb o hL hb hc e n=>u.keep b o e n (λz=>(Qq8.mp (I.Gk b z)).elim hL hb) hc) (λb o _ _ hc e n=>u.any e n hc) (λb o hc e n=>u.free b o e n hc) (λb o hc e=>u.there b o e hc) u.tups u.xj u.Cg (λm' hm=>by
  obtain⟨o',es',ep',ho',r'⟩:=hm;rw[ho] at ho';cases ho';exact⟨_,es',ep',hL,r'⟩) hok hg u.tabs
theorem Inv.turned{t':Nat}{it:Addr}(I:Inv X pins σ H s)(k:∀b o,b≠it->s.heap.get? b=some o->h'.get? b=some o)(hn:H it=none)(hL:it≠X.env.locals)
  (h1:it∈X.ex\/X.s₀.heap.objs.size<=it) (h2:∀x c,X.env.cells.lookup x=some c->c≠it) (h3:∀p∈X.pn++pins,p.1≠it):Inv X pins σ H { s with heap:=h',toks:=t' }:=by
 have VG:∀b u,H b=some u->b≠it:=λb u e z=>by rw[z,hn] at e;cases e
 refine I.step (g':=s.gens) (d':=s.drawn) (ch:=[it]) (λb hb=>?_) (λb o _ _ hc e _=>k b o (λz=>hc (by simp[z])) e) (λb o _ _ hc e _=>⟨o.slots,k b o (λz=>hc (by simp[z])) e⟩) (λ_ _ _ _ n=>n)
  (λb o hc e=>⟨o,k b o (λz=>hc (by simp[z])) e⟩) (λ_ _ e=>e) (λ_ _ _ e=>e) (λb ps e=>⟨#[],by rw[e];simp⟩) (λm hm=>?_) (λb u e=>?_) I.bare
 ·have e:b=it:=by simpa using hb
  subst e;exact⟨h1,hL,h2,h3⟩
 ·obtain⟨o,es,ep,ho,r⟩:=hm;exact⟨o,es,ep,k _ o (Ne.symm hL) ho,r⟩
 ·refine(I.hok b u e).stay (λc v hc q=>k c v ?_ q) (λ_ q=>q) λ_ _ q=>q;rcases hc with z|z
  ·rw[z];exact VG b u e
  ·exact VG c _ z
theorem Inv.tok(I:Inv X pins σ H s)(t:Nat):Inv X pins σ H { s with toks:=t }:=I.un (h':=s.heap) (t':=t) Un.refl I.hok
theorem Inv.kept{t':Nat}(I:Inv X pins σ H s)(k:∀b u,s.heap.get? b=some u->h'.get? b=some u):Inv X pins σ H { s with heap:=h',toks:=t' }:=I.un (Un.kept k) (I.hok.kept k)
theorem Inv.laid{a:Addr}{o:HO}{t':Nat}(I:Inv X pins σ H s)(k:∀b u,s.heap.get? b=some u->h'.get? b=some u)(hp:s.heap.objs.size<=a)(new:fY X.prog X.w (upd H a o) h' a o) :
  Inv X pins σ (upd H a o) { s with heap:=h',toks:=t' }:=I.un (Un.laid k hp (I.hok.fresh hp)) (I.hok.laid k hp new)
theorem Inv.write{x e:Addr}{o:HO}{t':Nat}(I:Inv X pins σ H s)(mu:Mut (H x))(he:e=x\/H e=some (.own x))(k:∀b u,b≠e->s.heap.get? b=some u->h'.get? b=some u)(heo:∃u,h'.get? e=some u)
  (new:fY X.prog X.w (upd H x o) h' x o):Inv X pins σ (upd H x o) { s with heap:=h',toks:=t' }:=I.un (Un.write mu he k heo) (I.hok.write mu he k heo new)
theorem Inv.IK{Vu:List (Addr×Obj)}(I:Inv X pins σ H s)(h:∀p∈Vu,s.heap.get? p.1=some p.2/\H p.1=none/\p.1≠X.env.locals/\p.1 ∉ X.fs/\∀v,p.2.data ≠ .cell v):Inv X Vu σ H s:=
 ⟨I.ok,I.os,I.bare,I.base,I.loc,I.cell,I.free,I.rH,λp hp=>(Qw0.mp hp).elim (λz=>I.pin p (Qjj _ z)) (h p),I.hok,I.len⟩
theorem Dw{N:List Str}(hN:N.Nodup){i j:Nat}{x:Str}(a:N[i]? = some x)(b:N[j]? = some x):i=j:=by obtain⟨h1,e1⟩:=Qq5.mp a;obtain⟨h2,e2⟩:=Qq5.mp b;exact(List.getElem_inj hN).mp (e1.trans e2.symm)
theorem yP{M:Model}{A:Around}{E:Value->Shared->Prop}{i:Nat}{x:Str}{v:V}{u:Value}{Q:Unit->Shared->Prop}(I:Inv X pins σ H s)(hN:X.N.Nodup)(hi:X.N[i]? = some x)(hx:Loc X.env.scope x)(r:RelV v u)
  (h:∀s',Inv X pins (σ.set i (some v)) H s'->(∃a,Heap.SameBut a s.heap s'.heap/\(a=X.env.locals\/X.env.cells.lookup x=some a))->Q () s') (hf:X.fn x=true\/X.env.scope.names.lookup x=some .local:=by first|exact .inl rfl|exact .inr rfl|assumption):wpAny M A (storeName X.env x u) Q E s:=by
 obtain⟨m,hn,hl⟩:=id I.loc;have hcls:(X.env.scope.kind == .class||(X.env.scope.kind == .module&&X.env.locals != X.env.globals))=false:=by rw[I.ok.kind];rfl
 have hiσ:i<σ.length:=by rw[I.len];exact(Qq5.mp hi).1
 have ZL:=I.ZL;have tracked:∀{a:Addr} {h':Heap},(∃o,s.heap.get? a=some o/\H a=none)->Heap.SameBut a s.heap h'->rZ X.prog X.w H h':=λ{a h'} ha hs b ob e=>by
  obtain⟨_,_,hfree⟩:=ha;refine(I.hok b ob e).stay (λc w' hc q=>(hs.2 c ?_).trans q) (λ_ q=>q) λ_ _ q=>q;rintro rfl;rcases hc with rfl|hc
  ·rw[hfree] at e;cases e
  ·rw[hfree] at hc;cases hc
 rcases hx with hk|hk
 ·refine wpAny_storeName_local hk hn (λh' hn' hs=>?_) hcls;obtain⟨oL,_,_,hoL,_⟩:=id hn;refine h _ ⟨I.ok,I.os,I.bare,⟨λb o e n hb hx=>?_,λb o e n hb hx=>?_,I.base.free,λb o e hx=>?_,I.base.tups,I.base.xj,I.base.Cg,I.base.tabs⟩,⟨_,hn',λj y v' e1 e2 e3=>?_⟩,λy c e=>?_,I.free,I.rH,λp hp=>?_,tracked ⟨oL,hoL,I.free⟩ hs,by simpa using I.len⟩ ⟨_,hs,.inl rfl⟩
  ·exact(hs.2 b (Qw9 (Qwz (Qwq e) I.ok.above))).trans (I.base.keep b o e n hb hx)
  ·obtain⟨sl,e1⟩:=I.base.slot b o e n hb hx;exact⟨sl,(hs.2 b (Qw9 (Qwz (Qwq e) I.ok.above))).trans e1⟩
  ·obtain⟨o',e1⟩:=I.base.there b o e hx;exact⟨o',(hs.2 b (Qw9 (Qwz (Qwq e) I.ok.above))).trans e1⟩
  ·by_cases hj:j=i
   ·subst hj;rw[hi] at e1;cases e1;rw[Qw2 hiσ] at e2;cases e2;exact⟨u,r,.inl ⟨hk,by simp⟩⟩
   ·rw[Qwv (Ne.symm hj)] at e2;obtain⟨u',r',q⟩:=hl j y v' e1 e2 e3;refine⟨u',r',?_⟩;rcases q with ⟨k,e⟩|⟨k,c,e,z⟩
    ·refine .inl ⟨k,?_⟩;have:y≠x:=λe=>hj (Dw hN e1 (e ▸ hi));simp[this,e]
    ·exact .inr ⟨k,c,e,z.sameBut hs (ZL y c e)⟩
  ·obtain⟨w',z⟩:=I.cell y c e;exact⟨w',z.sameBut hs (ZL y c e)⟩
  ·obtain⟨e,n,ne,nf,d⟩:=I.pin p hp;exact⟨(hs.2 p.1 ne).trans e,n,ne,nf,d⟩
 ·have hfn:X.fn x=true:=by
   rcases hf with z|z
   ·exact z
   ·rw[z] at hk;cases hk
  obtain⟨c,hc⟩:=I.ok.has x (.inl hk);obtain⟨w',z⟩:=I.cell x c hc;refine wpAny_storeName_cell I.ok.kind hk hc z (λh' hc' hs=>?_);obtain⟨oc,hoc,ad6⟩:=id z;refine h { s with heap:=h' } ⟨I.ok,I.os,I.bare,⟨λb o e n hb hx=>?_,λb o e n hb hx=>?_,I.base.free,λb o e hx=>?_,I.base.tups,I.base.xj,I.base.Cg,I.base.tabs⟩,⟨m,hn.sameBut hs (Ne.symm (ZL x c hc)),λj y v' e1 e2 e3=>?_⟩,λy c' e=>?_,I.free,I.rH,λp hp=>?_,tracked ⟨oc,hoc,(I.rH x c hc).resolve_right λz=>by rw[hfn] at z;cases z.1⟩ hs,by simpa using I.len⟩ ⟨c,hs,.inr hc⟩
  ·exact(hs.2 b (Qw9 (Qwz (Qwq e) (I.ok.cab x c hfn hc)))).trans (I.base.keep b o e n hb hx)
  ·obtain⟨sl,e1⟩:=I.base.slot b o e n hb hx;exact⟨sl,(hs.2 b (Qw9 (Qwz (Qwq e) (I.ok.cab x c hfn hc)))).trans e1⟩
  ·obtain⟨o',e1⟩:=I.base.there b o e hx;exact⟨o',(hs.2 b (Qw9 (Qwz (Qwq e) (I.ok.cab x c hfn hc)))).trans e1⟩
  ·by_cases hj:j=i
   ·subst hj;rw[hi] at e1;cases e1;rw[Qw2 hiσ] at e2;cases e2;exact⟨u,r,.inr ⟨.inl hk,c,hc,hc'⟩⟩
   ·rw[Qwv (Ne.symm hj)] at e2;obtain⟨u',r',q⟩:=hl j y v' e1 e2 e3;refine⟨u',r',?_⟩;rcases q with q|⟨k,c',e,z'⟩
    ·exact .inl q
    ·refine .inr ⟨k,c',e,z'.sameBut hs ?_⟩;rintro rfl;exact hj (Dw hN e1 (I.ok.inj _ _ _ e hc ▸ hi))
  ·by_cases hcc:c'=c
   ·subst hcc;exact⟨_,hc'⟩
   ·obtain⟨w2,z2⟩:=I.cell y c' e;exact⟨w2,z2.sameBut hs hcc⟩
  ·obtain⟨e,n,ne,nf,d⟩:=I.pin p hp;refine⟨(hs.2 p.1 ?_).trans e,n,ne,nf,d⟩;intro q;rw[q,hoc] at e;have q':oc=p.2:=Qw4 e;exact d w' (by rw[<-q'];exact ad6)
theorem Cy{M:Model}{A:Around}{E:Value->Shared->Prop}{i:Nat}{x:Str}{v:V}{u:Value}{Q:Unit->Shared->Prop}(I:Inv X pins σ H s)(hN:X.N.Nodup)(hi:X.N[i]? = some x)(hx:Loc X.env.scope x)(r:RelV v u)
  (h:∀s',Inv X pins (σ.set i (some v)) H s'->Q () s') (hf:X.fn x=true\/X.env.scope.names.lookup x=some .local:=by first|exact .inl rfl|exact .inr rfl|assumption):wpAny M A (storeName X.env x u) Q E s:=
 yP I hN hi hx r (λs' I' _=>h s' I') hf
theorem Inv.call'{s':Shared}{ch:List Addr}(I:Inv X pins σ H s)(ho:s'.os=s.os)(u:Un (frs X.stack) ch H H' s.heap s'.heap)(hok:rZ X.prog X.w H' s'.heap)(hg:AllBare s'.gens)
  (hch:∀b∈ch,(b∈X.ex\/X.s₀.heap.objs.size<=b)/\b≠X.env.locals/\(∀x c,X.env.cells.lookup x=some c->c≠b)/\∀p∈X.pn++pins,p.1≠b):Inv X pins σ H' s':=by
 obtain⟨h',g',d',t',o'⟩:=s';have e:o'=s.os:=ho;subst e;exact I.call (g':=g') (t':=t') (d':=d') u hok hg hch
end
abbrev XK:=Value->Option Addr->Hp->Prop
abbrev St:=List (Option V)
abbrev VK:=V->Hp->Prop
abbrev TE:=St->Hp->VK->Prop
abbrev TT:=St->Hp->(Bool->Hp->Prop)->Prop
abbrev TA:=St->Hp->(List V->Hp->Prop)->Prop
structure Ends where
 nx:St->Hp->Prop
 rt:VK
 bk:St->Hp->Prop:=λ_ _=>False
 ct:St->Hp->Prop:=λ_ _=>False
abbrev TS:=Ends->St->Hp->Prop
def EP(X:Cx)(pins:List (Addr×Obj))(σ:St)(Q:VK)(u:Value)(s':Shared):Prop:=∃v H',Inv X pins σ H' s'/\RelV v u/\Q v H'
def TP(X:Cx)(pins:List (Addr×Obj))(σ:St)(Q:Bool->Hp->Prop)(b:Bool)(s':Shared):Prop:=∃H',Inv X pins σ H' s'/\Q b H'
def AP(X:Cx)(pins:List (Addr×Obj))(σ:St)(Q:List V->Hp->Prop)(us:List Value)(s':Shared):Prop:=∃vs H',Inv X pins σ H' s'/\Vals vs us/\Q vs H'
def SP(X:Cx)(pins:List (Addr×Obj))(D:Ends)(f:Flow)(s':Shared):Prop:=
 match f with
 | .next=>∃σ' H',Inv X pins σ' H' s'/\D.nx σ' H'
 | .brk=>∃σ' H',Inv X pins σ' H' s'/\D.bk σ' H'
 | .cont=>∃σ' H',Inv X pins σ' H' s'/\D.ct σ' H'
 | .ret u=>∃v σ' H',Inv X pins σ' H' s'/\RelV v u/\D.rt v H'
def PE(X:Cx)(e:Expr)(t:TE):Prop:=
 ∀(pins:List (Addr×Obj)) (s:Shared) (σ:St) (H:Hp) (Q:VK),Inv X pins σ H s->t σ H Q->wpAny (model X.prog X.w) X.A (eval e X.env) (EP X pins σ Q) X.xe s
def PT(X:Cx)(e:Expr)(t:TT):Prop:=
 ∀(pins:List (Addr×Obj)) (s:Shared) (σ:St) (H:Hp) (Q:Bool->Hp->Prop),Inv X pins σ H s->t σ H Q->wpAny (model X.prog X.w) X.A (isTrue e X.env (eval e X.env)) (TP X pins σ Q) X.xe s
def PW(X:Cx)(e:Expr)(t:TT):Prop:=
 ∀(whole:Sem Value) (pins:List (Addr×Obj)) (s:Shared) (σ:St) (H:Hp) (Q:Bool->Hp->Prop),Inv X pins σ H s->t σ H Q->wpAny (model X.prog X.w) X.A (isTrue e X.env whole) (TP X pins σ Q) X.xe s
theorem PW.pt{X:Cx}{e:Expr}{t:TT}(h:PW X e t):PT X e t:=h _
def PA(X:Cx)(es:List Expr)(t:TA):Prop:=
 ∀(pos:Pos) (pins:List (Addr×Obj)) (s:Shared) (σ:St) (H:Hp) (Q:List V->Hp->Prop),Inv X pins σ H s->t σ H Q->wpAny (model X.prog X.w) X.A (spliced (backTo pos (starEach es X.env))) (AP X pins σ Q) X.xe s
def PS(X:Cx)(st:Stmt)(t:TS):Prop:=
 ∀(pins:List (Addr×Obj)) (s:Shared) (σ:St) (H:Hp) (D:Ends),Inv X pins σ H s->t D σ H->wpAny (model X.prog X.w) X.A (exec st X.env) (SP X pins D) X.xe s
def BR(X:Cx)(st:List Stmt)(t:TS):Prop:=
 ∀(pins:List (Addr×Obj)) (s:Shared) (σ:St) (H:Hp) (D:Ends),Inv X pins σ H s->t D σ H->wpAny (model X.prog X.w) X.A (execs st X.env) (SP X pins D) X.xe s
theorem fP{α:Type}{t:Sem α}{Q Q':α->Shared->Prop}{M:Model}{A:Around}{E:Value->Shared->Prop}{s:Shared}(h:wpAny M A t Q E s)(hQ:∀a s,Q a s->Q' a s):wpAny M A t Q' E s:=Qz7 h hQ λ_ _ x=>x
section
variable{X:Cx}
def aaK(i:Nat):TE:=λσ H Q=>∃v,σ[i]? = some (some v)/\Q v H
def tC(v:V):TE:=λ_ H Q=>Q v H
theorem jz{i:Nat}{x:Str}{pos:Pos}(hN:X.N[i]? = some x)(hv:uW X.env.scope x)(hd:mZ x:=by decide)(hcd:vp x:=by decide):PE X (.Name x pos) (aaK i):=by
 intro pins s σ H Q I h;obtain⟨v,e,h⟩:=h;obtain⟨m,hn,hl⟩:=I.loc;obtain⟨u,r,l⟩:=hl i x v hN e hv;have fin:EP X pins σ Q u s:=⟨v,H,I,r,h⟩;rcases l with ⟨hk,hm⟩|⟨hk,c,hc,hcell⟩
 ·exact wpAny_Name (wpAny_loadName_local I.ok.kind hk hn hm fin) hd
 ·rcases hk with hk|hk
  ·exact wpAny_Name (wpAny_loadName_cell I.ok.kind hk hc hcell fin) hd
  ·exact wpAny_Name (wpAny_loadName_free I.ok.kind hk hc hcell fin hcd) hd
theorem Ox{i j pos}:PE X (.Constant (.int i) j pos) (tC (.int i)):=λ_ _ _ H _ I h=>wpAny_Constant_int ⟨.int i,H,I.tok _,⟨_,rfl⟩,h⟩
theorem abx{b j pos}:PE X (.Constant (.bool b) j pos) (tC (.bl b)):=λ_ _ _ H _ I h=>Constant_bool ⟨.bl b,H,I,rfl,h⟩
theorem Xw{j pos}:PE X (.Constant .none j pos) (tC .non):=λ_ _ _ H _ I h=>Constant_none ⟨.non,H,I,rfl,h⟩
theorem Xr{x j pos}:PE X (.Constant (.str x) j pos) (tC (.str x)):=λ_ _ _ H _ I h=>Calls.Constant_str ⟨.str x,H,I.tok _,⟨_,rfl⟩,h⟩
def Gl(X:Cx)(x:Str):Prop:=X.env.kindOf x=some .globalImplicit
theorem Jf{E:Value->Shared->Prop}{pins:List (Addr×Obj)}{s:Shared}{σ:St}{H:Hp}{x:Str}{u:Value}{pos:Pos}{Q:Value->Shared->Prop}(I:Inv X pins σ H s)(hg:Gl X x)(hm:X.mg x=some u)(h:Q u s)
  (hd:mZ x:=by decide):wpAny (model X.prog X.w) X.A (eval (.Name x pos) X.env) Q E s:=
 Calls.Name_function_global I.ok.kind hg (Calls.loadGlobal_global (by rw[I.ok.glob];exact I.mod.glob.keeps I.bk) hm h) hd
theorem tR{E:Value->Shared->Prop}{pins:List (Addr×Obj)}{s:Shared}{σ:St}{H:Hp}{x:Str}{u:Value}{pos:Pos}{Q:Value->Shared->Prop}(I:Inv X pins σ H s)(hg:Gl X x)(hm:X.mg x=none)(hv:bootBuiltins x=some u)(h:Q u s)
  (hn:x ≠ "__name__":=by decide) (hd:mZ x:=by decide):wpAny (model X.prog X.w) X.A (eval (.Name x pos) X.env) Q E s:=by
 obtain⟨mb,h1,h2⟩:=I.mod.blt;exact Calls.Name_function_global I.ok.kind hg (Calls.loadGlobal_builtin (by rw[I.ok.glob];exact I.mod.glob.keeps I.bk) hm (by rw[I.ok.blt];exact h1.keeps I.bk) ((h2 x hn).trans hv) h) hd
theorem S5{x:Str}{v:V}{u:Value}{pos:Pos}(hg:Gl X x)(hm:X.mg x=some u)(r:RelV v u)(hd:mZ x:=by decide):PE X (.Name x pos) (tC v):=
 λ_ _ _ H _ I h=>Jf I hg hm ⟨v,H,I,r,h⟩ hd
variable{a b:Expr}{ta tb:TE}{pos:Pos}
def tB(t:TE):TT:=λσ H Q=>t σ H λx H1=>∃c,x = .bl c/\Q c H1
theorem Xh{e:Expr}{t:TE}(h:PE X e t)(he:∀whole,isTrue e X.env whole=(do let v <-whole;standAt e.pos;holding [v] (truthy v)):=by intro _;rfl):PT X e (tB t):=by intro pins s σ H Q I hw;refine isTrue_plain (fP (h pins s σ H _ I hw) λv s1 ⟨x,H1,I1,r1,q1⟩=>?_) (he _);obtain⟨d,rfl,q⟩:=q1;cases r1;exact wpAny_truthy_bool ⟨H1,I1,q⟩
variable{tA tB':TT}{rest:List Expr}
def adE(t u:TT):TT:=λσ H Q=>t σ H λc H1=>if c=true then u σ H1 Q else Q false H1
def tOr(t u:TT):TT:=λσ H Q=>t σ H λc H1=>if c=true then Q true H1 else u σ H1 Q
theorem pw_and1(ha:PT X a tA):PW X (.BoolOp .And [a] pos) tA:=by
 intro wh pins s σ H Q I h;refine isTrue_and (fP (ha pins s σ H Q I h) λc s1 e=>?_);cases c with
 | true=>exact isTrue_and_nil e
 | false=>exact e
theorem pw_or1(ha:PT X a tA):PW X (.BoolOp .Or [a] pos) tA:=by
 intro wh pins s σ H Q I h;refine isTrue_or (fP (ha pins s σ H Q I h) λc s1 e=>?_);cases c with
 | false=>exact isTrue_or_nil e
 | true=>exact e
theorem pw_and(ha:PT X a tA)(hb:PW X (.BoolOp .And (b::rest) pos) tB'):PW X (.BoolOp .And (a::b::rest) pos) (adE tA tB'):=by
 intro wh pins s σ H Q I h;refine isTrue_and (fP (ha pins s σ H _ I h) λc s1 ⟨H1,I1,q1⟩=>?_);cases c with
 | true=>exact hb wh pins s1 σ H1 Q I1 q1
 | false=>exact⟨H1,I1,q1⟩
theorem pw_or(ha:PT X a tA)(hb:PW X (.BoolOp .Or (b::rest) pos) tB'):PW X (.BoolOp .Or (a::b::rest) pos) (tOr tA tB'):=by
 intro wh pins s σ H Q I h;refine isTrue_or (fP (ha pins s σ H _ I h) λc s1 ⟨H1,I1,q1⟩=>?_);cases c with
 | true=>exact⟨H1,I1,q1⟩
 | false=>exact hb wh pins s1 σ H1 Q I1 q1
def adx(ta tb:TE):TE:=λσ H Q=>ta σ H λx H1=>∃c,x = .bl c/\if c=true then Q (.bl true) H1 else tb σ H1 Q
theorem Xv{op}{t:TE}(h:PE X a t):PE X (.BoolOp op [a] pos) t:=λpins s σ H Q I hw=>BoolOp_one (h pins s σ H Q I hw)
theorem abv(ha:PE X a ta)(hb:PE X (.BoolOp .Or (b::rest) pos) tb):PE X (.BoolOp .Or (a::b::rest) pos) (adx ta tb):=by
 intro pins s σ H Q I h;refine BoolOp_or (fP (ha pins s σ H _ I h) λv s1 ⟨x,H1,I1,r1,q1⟩=>?_);obtain⟨c,rfl,q1⟩:=q1;cases r1;refine wpAny_truthy_bool ?_;cases c with
 | false=>exact hb pins s1 σ H1 Q I1 q1
 | true=>exact⟨.bl true,H1,I1,rfl,q1⟩
end
def mV(K:PySem.W.Frag)(H:Hp)(a:Addr)(xs:List V):Prop:=
 Rd H a (.lst xs)\/
  ∃(o:Obj) (its:Array Value) (n:Nat),K.lookup a=some o/\o.cls = .type "list"/\o.dict=none/\o.data = .seq its n/\its.size<=sizeLine/\Vals xs its.toList
def j8(K:PySem.W.Frag)(H:Hp)(a:Addr)(xs:List V):Prop:=
 Rd H a (.tup xs)\/
  ∃(o:Obj) (its:Array Value) (n:Nat),K.lookup a=some o/\o.cls = .type "tuple"/\o.dict=none/\o.data = .seq its n/\its.size<=sizeLine/\Vals xs its.toList
def aeA:Value->Option V
 | .none=>some .non
 | .bool b=>some (.bl b)
 | .int i _=>some (.int i)
 | .str x _=>some (.str x)
 | .bytes b _=>some (.byt b)
 | .float b _=>some (.flt b)
 | .ref a=>some (.ref a)
 | .type n=>some (.ty n)
 | _=>none
theorem RelV.abs{x:V}{u:Value}(r:RelV x u):aeA u=some x:=by
 cases x with
 | non=>cases r;rfl
 | bl _=>cases r;rfl
 | int _=>obtain⟨t,rfl⟩:=r;rfl
 | str _=>obtain⟨t,rfl⟩:=r;rfl
 | byt _=>obtain⟨t,rfl⟩:=r;rfl
 | flt _=>obtain⟨t,rfl⟩:=r;rfl
 | ref _=>cases r;rfl
 | ty _=>cases r;rfl
theorem RelV.inj{x y:V}{u:Value}(r:RelV x u)(q:RelV y u):x=y:=Qw4 (r.abs.symm.trans q.abs)
theorem Vals.inj:∀{xs ys:List V} {us:List Value},Vals xs us->Vals ys us->xs=ys
 | _,_,_,.nil,.nil=>rfl
 | _,_,_,.cons r t,.cons r' t'=>by rw[r.inj r',Vals.inj t t']
section
variable{X:Cx}{pins:List (Addr×Obj)}{σ:St}{H:Hp}{s:Shared}{a:Addr}{xs ys:List V}
theorem mV.of{K:PySem.W.Frag}(h:H a=some (.lst xs)):mV K H a xs:=.inl (.inl h)
theorem j8.of{K:PySem.W.Frag}(h:H a=some (.tup xs)):j8 K H a xs:=.inl (.inl h)
theorem Inv.list(I:Inv X pins σ H s)(h:mV X.K H a xs):∃its:List Value,Vals xs its/\PlainL s.heap a its.toArray/\xs.length<=sizeLine:=by
 rcases h with h|⟨o,its,n,hk,hc,hd,hs,hz,r⟩
 ·obtain⟨z,its,n,r,e⟩:=h.ok I.hok;exact⟨its,r,⟨_,n,e,rfl,rfl,rfl⟩,z⟩
 ·refine⟨its.toList,r,⟨o,n,I.YT a o hk,hc,hd,by simpa using hs⟩,?_⟩;have e:=r.length;simp only[Qqq] at e;omega
theorem Inv.tuple(I:Inv X pins σ H s)(h:j8 X.K H a xs):∃its:List Value,Vals xs its/\IsTup s.heap a its.toArray/\xs.length<=sizeLine:=by
 rcases h with h|⟨o,its,n,hk,hc,hdn,hs,hz,r⟩
 ·obtain⟨z,its,r,p⟩:=h.ok I.hok;exact⟨its,r,p.is,z⟩
 ·refine⟨its.toList,r,⟨o,I.YT a o hk,hc,n,by simpa using hs⟩,?_⟩;have e:=r.length;simp only[Qqq] at e;omega
theorem Inv.PJ(I:Inv X pins σ H s)(h:mV X.K H a xs)(h':mV X.K H a ys):xs=ys:=by
 obtain⟨its,r,⟨o,n,e,_,_,d⟩,_⟩:=I.list h;obtain⟨its',r',⟨o',n',e',_,_,d'⟩,_⟩:=I.list h';rw[e] at e';cases e';rw[d] at d';injection d' with d1 _
 have:its=its':=by simpa using Qw8 Array.toList d1
 subst this;exact r.inj r'
theorem Inv.sI(I:Inv X pins σ H s)(h:j8 X.K H a xs)(h':j8 X.K H a ys):xs=ys:=by
 obtain⟨its,r,⟨o,e,_,n,d⟩,_⟩:=I.tuple h;obtain⟨its',r',⟨o',e',_,n',d'⟩,_⟩:=I.tuple h';rw[e] at e';cases e';rw[d] at d';injection d' with d1 _
 have:its=its':=by simpa using Qw8 Array.toList d1
 subst this;exact r.inj r'
end
abbrev Cx.wish(X:Cx)(E:Value->Shared->Prop):Cx:={ X with xe:=E }
abbrev Cx.Pb(X:Cx):Cx:=X.wish λ_ _=>False
theorem Cx.Ok.wish{X:Cx}(ok:X.Ok)(E:Value->Shared->Prop):(X.wish E).Ok:=
 ⟨ok.mod,ok.kind,ok.glob,ok.blt,ok.above,ok.inj,ok.has,ok.cab,ok.hd,ok.frames,ok.jd,ok.exf,ok.bs,ok.V4,ok.Pg,ok.Qt,ok.xg,ok.frf⟩
theorem Cx.Ok.jQ{X:Cx}{E:Value->Shared->Prop}(ok:(X.wish E).Ok):X.Ok:=
 ⟨ok.mod,ok.kind,ok.glob,ok.blt,ok.above,ok.inj,ok.has,ok.cab,ok.hd,ok.frames,ok.jd,ok.exf,ok.bs,ok.V4,ok.Pg,ok.Qt,ok.xg,ok.frf⟩
section
variable{X:Cx}{pins:List (Addr×Obj)}{σ:St}{H:Hp}{s:Shared}{E:Value->Shared->Prop}
theorem Inv.wish(I:Inv X pins σ H s)(E:Value->Shared->Prop):Inv (X.wish E) pins σ H s:=⟨I.ok.wish E,I.os,I.bare,I.base,I.loc,I.cell,I.free,I.rH,I.pin,I.hok,I.len⟩
theorem Inv.jQ(I:Inv (X.wish E) pins σ H s):Inv X pins σ H s:=⟨I.ok.jQ,I.os,I.bare,I.base,I.loc,I.cell,I.free,I.rH,I.pin,I.hok,I.len⟩
theorem SP.jQ{D:Ends}{f:Flow}{s':Shared}(h:SP (X.wish E) pins D f s'):SP X pins D f s':=by
 cases f with
 | next=>obtain⟨σ',H',I,q⟩:=h;exact⟨σ',H',I.jQ,q⟩
 | brk=>obtain⟨σ',H',I,q⟩:=h;exact⟨σ',H',I.jQ,q⟩
 | cont=>obtain⟨σ',H',I,q⟩:=h;exact⟨σ',H',I.jQ,q⟩
 | ret u=>obtain⟨v,σ',H',I,r,q⟩:=h;exact⟨v,σ',H',I.jQ,r,q⟩
theorem BR.Pb{st:List Stmt}{t:TS}(h:BR X.Pb st t):BR X st t:=λpins s σ H D I hw=>
 Qz7 (h pins s σ H D (I.wish _) hw) (λ_ _ q=>q.jQ) λ_ _ z=>False.elim z
end
section
variable{X:Cx}{st:Stmt}{rest:List Stmt}{t u:TS}{e:Expr}{te:TE}{pos:Pos}
def aaN:TS:=λD σ H=>D.nx σ H
def adt(t u:TS):TS:=λD σ H=>t { D with nx:=u D } σ H
theorem Sd:BR X [] aaN:=λ_ _ σ H _ I h=>wpAny_execs_nil ⟨σ,H,I,h⟩
theorem Oi(h1:PS X st t)(h2:BR X rest u):BR X (st::rest) (adt t u):=by
 intro pins s σ H D I h;refine wpAny_execs_cons (fP (h1 pins s σ H { D with nx:=u D } I h) λf s1 q=>?_);cases f with
 | next=>
  obtain⟨σ',H',I',q⟩:=q;exact h2 pins s1 σ' H' D I' q
 | ret v=>exact q
 | brk=>exact q
 | cont=>exact q
theorem R9(h1:PS X st t):BR X [st] t:=by
 intro pins s σ H D I h;refine wpAny_execs_cons (fP (h1 pins s σ H D I h) λf s1 q=>?_);cases f with
 | next=>exact wpAny_execs_nil q
 | ret v=>exact q
 | brk=>exact q
 | cont=>exact q
theorem Inv.quiet{pins:List (Addr×Obj)}{σ:St}{H:Hp}{s:Shared}(I:Inv X pins σ H s):interactive X.env=false:=by simp[interactive,I.ok.kind]
def aaO(te:TE):TS:=λD σ H=>te σ H λ_ H1=>D.nx σ H1
theorem Sg(he:PE X e te)(hs:swapsWith e none pos.line X.env=pure false:=by rfl):PS X (.Expr e pos) (aaO te):=by intro pins s σ H D I h;exact wpAny_Expr_any (fP (he pins s σ H _ I h) λv s1 ⟨x,H1,I1,r1,q1⟩=>⟨σ,H1,I1,q1⟩) I.quiet hs
def adv(te:TE):TS:=λD σ H=>te σ H D.rt
theorem Oo(he:PE X e te):PS X (.Return (some e) pos) (adv te):=by intro pins s σ H D I h;exact wpAny_Return_some (fP (he pins s σ H _ I h) λv s1 ⟨x,H1,I1,r1,q1⟩=>⟨x,σ,H1,I1,r1,q1⟩)
def adB(c:TT)(t u:TS):TS:=λD σ H=>c σ H λb H1=>if b=true then t D σ H1 else u D σ H1
theorem abu{c:Expr}{a b:List Stmt}{tc:TT}(hc:PT X c tc)(ha:BR X a t)(hb:BR X b u):PS X (.If c a b pos) (adB tc t u):=by
 intro pins s σ H D I h;refine wpAny_If (fP (hc pins s σ H _ I h) λd s1 ⟨H1,I1,q1⟩=>?_);cases d with
 | true=>exact ha pins s1 σ H1 D I1 q1
 | false=>exact hb pins s1 σ H1 D I1 q1
end
abbrev TG:=V->St->Hp->(St->Hp->Prop)->Prop
abbrev UW:=List V->St->Hp->(St->Hp->Prop)->Prop
def PG(X:Cx)(target:Expr)(t:TG):Prop:=
 ∀(pins:List (Addr×Obj)) (s:Shared) (σ:St) (H:Hp) (v:V) (u:Value) (Q:St->Hp->Prop),Inv X pins σ H s->RelV v u->t v σ H Q->
  wpAny (model X.prog X.w) X.A (assign target X.env u) (λ_ s'=>∃σ' H',Inv X pins σ' H' s'/\Q σ' H') X.xe s
def We(X:Cx)(ts:List Expr)(t:UW):Prop:=
 ∀(pins:List (Addr×Obj)) (s:Shared) (σ:St) (H:Hp) (vs:List V) (us:List Value) (Q:St->Hp->Prop),Inv X pins σ H s->Vals vs us->t vs σ H Q->
  wpAny (model X.prog X.w) X.A (assignInOrder ((assignEach ts X.env).map (·.2)) us) (λ_ s'=>∃σ' H',Inv X pins σ' H' s'/\Q σ' H') X.xe s
abbrev HD:=V->V->V->Hp->(Hp->Prop)->Prop
def acD(X:Cx)(t:HD):Prop:=
 ∀(pins:List (Addr×Obj)) (s:Shared) (σ:St) (H:Hp) (o i v:V) (ov iv u:Value) (Q:Hp->Prop),Inv X pins σ H s->RelV o ov->RelV i iv->RelV v u->t o i v H Q->
  wpAny (model X.prog X.w) X.A (setItem ov iv u) (λ_ s'=>∃H',Inv X pins σ H' s'/\Q H') X.xe s
section
variable{X:Cx}{pos:Pos}
def Ei(i:Nat):TG:=λv σ H Q=>Q (σ.set i (some v)) H
theorem SQ{i:Nat}{x:Str}(hN:X.N.Nodup)(hi:X.N[i]? = some x)(hx:Loc X.env.scope x)(hf:X.fn x=true\/X.env.scope.names.lookup x=some .local:=by first|exact .inl rfl|exact .inr rfl|assumption):PG X (.Name x pos) (Ei i):=by intro pins s σ H v u Q I r h;exact wpAny_assign_Name (Cy I hN hi hx r (λs' I'=>⟨_,H,I',h⟩) hf)
def aek:UW:=λvs σ H Q=>vs=[]/\Q σ H
def ach(t:TG)(u:UW):UW:=λvs σ H Q=>∃v r,vs=v::r/\t v σ H λσ' H'=>u r σ' H' Q
theorem SN:We X [] aek:=by intro pins s σ H vs us Q I r h;obtain⟨e,h⟩:=h;subst e;cases r;exact assignInOrder_nil ⟨σ,H,I,h⟩
theorem Ov{e:Expr}{es:List Expr}{t:TG}{u:UW}(h1:PG X e t)(h2:We X es u)
  (hs:(assignEach (e::es) X.env).map (·.2)=assign e X.env::(assignEach es X.env).map (·.2):=by rfl):We X (e::es) (ach t u):=by
 intro pins s σ H vs us Q I r h;obtain⟨v,vr,e1,h⟩:=h;subst e1;cases r with
 | cons r rr=>
  rw[hs];refine assignInOrder_cons (fP (h1 pins s σ H _ _ _ I r h) λ_ s1 ⟨σ1,H1,I1,q1⟩=>?_);exact h2 pins s1 σ1 H1 _ _ Q I1 rr q1
def aeh(K:PySem.W.Frag)(n:Nat)(t:UW):TG:=λv σ H Q=>∃a xs,v = .ref a/\j8 K H a xs/\xs.length=n/\t xs σ H Q
theorem Xo{es:List Expr}{k:Nat}{t:UW}{n:Nat}(hc:X.calm=true)(h:We X es t)
  (hn:(assignEach es X.env).length=n:=by rfl) (hst:(assignEach es X.env).findIdx? (·.1)=none:=by rfl):PG X (.Tuple es k pos) (aeh X.K n t):=by
 intro pins s σ H v u Q I r hw;obtain⟨a,xs,e1,hq,hl,hw⟩:=hw;subst e1;cases r;obtain⟨its,rv,ht,hz⟩:=I.tuple hq;refine assign_Tuple_tuple (I.ok.hd hc) ht (by simp[hn,<-hl,rv.length]) hst λh' hx=>?_;have I1:Inv X pins σ H { s with heap:=h' }:=I.kept (t':=s.toks) λb o e=>hx b o (Qw9 (Qwq e)) e;exact h pins _ σ H xs _ Q I1 (by simpa using rv) hw
def Eg(to ti:TE)(t:HD):TG:=λv σ H Q=>to σ H λo H1=>ti σ H1 λi H2=>t o i v H2 λH3=>Q σ H3
theorem Xp{o i:Expr}{to ti:TE}{t:HD}(ho:PE X o to)(hi:PE X i ti)(hs:acD X t)
  (ha:∀v,assign (.Subscript o i pos) X.env v=(do
   let ov <-holding [v] (eval o X.env)
   let iv <-holding [v,ov] (eval i X.env)
   standAt pos
   holding [v,ov,iv] (setItem ov iv v)
   release [v,ov,iv] []):=by intro _;rfl):PG X (.Subscript o i pos) (Eg to ti t):=by
 intro pins s σ H v u Q I r h;rw[ha];refine Qqx (Qjq (fP (ho pins s σ H _ I h) λov s1 ⟨x,H1,I1,r1,q1⟩=>?_));refine Qqx (Qjq (fP (hi pins s1 σ H1 _ I1 q1) λiv s2 ⟨y,H2,I2,r2,q2⟩=>?_));refine Qqx (wpAny_standAt (Qqx (Qjq (fP (hs pins s2 σ H2 x y v ov iv u _ I2 r1 r2 r q2) λ_ s3 ⟨H3,I3,q3⟩=>?_))));exact wpAny_release ⟨σ,H3,I3,q3⟩
def Rw(te:TE)(g:TG):TS:=λD σ H=>te σ H λx H1=>g x σ H1 D.nx
theorem Xk{tg e:Expr}{te:TE}{g:TG}(he:PE X e te)(hg:PG X tg g)(hs:swapsWithSole [tg] e pos.line X.env=pure false:=by rfl)(hw:swappedStores [tg] e X.env=pure none:=by rfl)
  (h1:(assignEach [tg] X.env).map (·.2)=[assign tg X.env]:=by rfl):PS X (.Assign [tg] e pos) (Rw te g):=by
 intro pins s σ H D I h;refine wpAny_Assign_stores (fP (he pins s σ H _ I h) λv s1 ⟨x,H1,I1,r1,q1⟩=>?_) hs hw;rw[h1];exact fP (hg pins s1 σ H1 x v _ I1 r1 q1) λ_ s2 q=>q
theorem Om{i:Nat}{x:Str}{e:Expr}{te:TE}{pos':Pos}(hN:X.N.Nodup)(hi:X.N[i]? = some x)(hx:Loc X.env.scope x)(he:PE X e te)(hs:swapsWith e (some (.Name x pos')) pos.line X.env=pure false:=by rfl)(hf:X.fn x=true\/X.env.scope.names.lookup x=some .local:=by first|exact .inl rfl|exact .inr rfl|assumption) :
  PS X (.Assign [.Name x pos'] e pos) (Rw te (Ei i)):=by
 intro pins s σ H D I h;refine wpAny_Assign_Name (fP (he pins s σ H _ I h) λv s1 ⟨y,H1,I1,r1,q1⟩=>?_) hs;exact Cy I1 hN hi hx r1 (λs2 I2=>⟨_,H1,I2,q1⟩) hf
def WK(c:TT)(tb:TS):TS:=λD σ H=>∃W:Nat->St->Hp->Prop,(∃m,W m σ H)/\∀m σ H,W m σ H->
 c σ H λb H1=>if b=true then ∃N:St->Hp->Prop,(∀σ' H',N σ' H'->∃m',m'<m/\W m' σ' H')/\tb { D with nx:=N,ct:=N,bk:=D.nx } σ H1 else D.nx σ H1
theorem Oj{c:Expr}{body:List Stmt}{tc:TT}{tb:TS}(hp:PassesOwn (model X.prog X.w) X.A X.env X.xe)(hc:PT X c tc)(hb:BR X body tb):PS X (.While c body [] pos) (WK tc tb):=by
 intro pins s σ H D I h;obtain⟨W,⟨m0,w0⟩,turn⟩:=h;refine wpAny_While (codeAny_whileLoop (λn s'=>∃σ' H',Inv X pins σ' H' s'/\W n σ' H') ?_ m0 ⟨σ,H,I,w0⟩);rintro n s1 ⟨σ1,H1,I1,w1⟩;refine Qkq hp (fP (hc pins s1 σ1 H1 _ I1 (turn n σ1 H1 w1)) λb s2 ⟨H2,I2,q2⟩=>?_);cases b with
 | true=>
  obtain⟨N,hN,q2⟩:=q2;rw[if_pos rfl];refine Qkq hp (fP (hb pins s2 σ1 H2 _ I2 q2) λf s3 q3=>?_);cases f with
  | next=>
   obtain⟨σ3,H3,I3,n3⟩:=q3;obtain⟨m',hm,w3⟩:=hN σ3 H3 n3;exact⟨m',hm,σ3,H3,I3,w3⟩
  | cont=>
   obtain⟨σ3,H3,I3,n3⟩:=q3;obtain⟨m',hm,w3⟩:=hN σ3 H3 n3;exact⟨m',hm,σ3,H3,I3,w3⟩
  | brk=>exact q3
  | ret v=>exact q3
 | false=>
  rw[if_neg Qxx];exact wpAny_execs_nil ⟨σ1,H2,I2,q2⟩
end
structure It where
 go:Nat->Hp->Prop
 yld:Nat->Hp->V->Hp->Prop
 stop:Nat->Hp->Prop
def qC(X:Cx)(pins:List (Addr×Obj))(H:Hp)(b:Addr):Prop:=
 H b=none/\b≠X.env.locals/\b ∉ X.fs/\(b∈X.ex\/X.s₀.heap.objs.size<=b)/\(∀x c,X.env.cells.lookup x=some c->c≠b)/\∀p∈X.pn++pins,p.1≠b
theorem Inv.Qq{X:Cx}{pins:List (Addr×Obj)}{σ:St}{H H':Hp}{s:Shared}{b:Addr}(I:Inv X pins σ H s)(hb:s.heap.objs.size<=b)(hn:H' b=none):qC X pins H' b:=by
 refine⟨hn,Qjv (Qwz I.lt hb),I.adN hb,.inr (Qq3 I.sz hb),λx c e z=>?_,λp hp z=>?_⟩
 ·obtain⟨v,q⟩:=I.cell x c e;exact absurd (Qwz q.lt (by rw[z];exact hb)) (Qz3 _)
 ·exact absurd (Qwz (Qwq (I.pin p hp).1) (by rw[z];exact hb)) (Qz3 _)
structure Turn(P:Program)(w:World)(K:PySem.W.Frag)(tg:Expr)(J:It)(fp:List Addr)(it:Addr)(tn:Nat->Heap->Prop):Prop where
 mem:it∈fp
 obj:∀i h,tn i h->∀b∈fp,∃o,h.get? b=some o/\∀v,o.data ≠ .cell v
 keep:∀i h h',tn i h->(∀b∈fp,∀o,h.get? b=some o->h'.get? b=some o)->tn i h'
 item:∀(X:Cx),X.prog=P->X.w=w->X.K=K->X.calm=true->∀(i:Nat) (pins:List (Addr×Obj)) (s:Shared) (σ:St) (H:Hp) (E:Value->Shared->Prop),Inv X pins σ H s->(∀b∈fp,qC X pins H b)->tn i s.heap->J.go i H->
  wpAny (model P w) X.A (pyNext (.ref it)) (λr s1=>∃u,r=some u/\
   wpAny (model P w) X.A (letOwnedTupleGo tg (.ref it) u) (λ_ s2=>∃x H',Inv X pins σ H' s2/\RelV x u/\J.yld i H x H'/\tn (i+1) s2.heap/\∀b∈fp,H' b=none) E s1) E s
 done:∀(X:Cx),X.prog=P->X.w=w->X.K=K->X.calm=true->∀(i:Nat) (pins:List (Addr×Obj)) (s:Shared) (σ:St) (H:Hp) (E:Value->Shared->Prop),Inv X pins σ H s->(∀b∈fp,qC X pins H b)->tn i s.heap->J.stop i H->
  wpAny (model P w) X.A (pyNext (.ref it)) (λr s1=>r=none/\Inv X pins σ H s1) E s
 self:∀(A:Around) (i:Nat) (s:Shared) (Q:Value->Shared->Prop) (E:Value->Shared->Prop),tn i s.heap->Q (.ref it) s->wpAny (model P w) A (pyIter (.ref it)) Q E s
abbrev TI:=St->Hp->(It->Hp->Prop)->Prop
def PIE(X:Cx)(pins:List (Addr×Obj))(σ:St)(tg:Expr)(R:It->Hp->Prop)(itv:Value)(s2:Shared):Prop:=
 ∃(it:Addr) (fp:List Addr) (tn:Nat->Heap->Prop) (J:It) (H':Hp),itv = .ref it/\Inv X pins σ H' s2/\Turn X.prog X.w X.K tg J fp it tn/\tn 0 s2.heap/\(∀b∈fp,qC X pins H' b)/\R J H'
def PI(X:Cx)(tg iter:Expr)(wi:TI):Prop:=
 ∀(pins:List (Addr×Obj)) (s:Shared) (σ:St) (H:Hp) (R:It->Hp->Prop),Inv X pins σ H s->wi σ H R->
  wpAny (model X.prog X.w) X.A (eval iter X.env) (λv s1=>wpAny (model X.prog X.w) X.A (pyIter v) (PIE X pins σ tg R) X.xe s1) X.xe s
theorem Ed{M : Model}{A : Around}{E : Value → Shared → Prop}{s : Shared}{tg : Expr}{it : Addr}{u : Value}{o : Obj}{n : String}{vs : Array Value}{Q : Unit → Shared → Prop}(ho : s.heap.get? it = some o)(hc : o.cls = .type n)(hd : o.data = .fields vs)
    (hn : ["enumerate", "zip", "dict_itemiterator", "dict_reverseitemiterator", "odict_iterator", "itertools.zip_longest", "itertools.pairwise"].contains n = false) (hQ : Q () s) : wpAny M A (letOwnedTupleGo tg (.ref it) u) Q E s := by
  unfold letOwnedTupleGo;cases tg <;> first
    | exact Qq6 hQ
    | (cases u <;> first
        | exact Qq6 hQ
        | (refine Qqx (wpAny_load ho ?_)
           rw [hc, hd];show wpAny M A (if (["enumerate", "zip", "dict_itemiterator", "dict_reverseitemiterator", "odict_iterator", "itertools.zip_longest", "itertools.pairwise"].contains n && vs[0]? == some (rawInt _)) = true then _ else _) Q E s;rw [if_neg (by intro h; rw [hn, Bool.false_and] at h; cases h)];exact Qq6 hQ))
def Itl(K:PySem.W.Frag)(a:Addr):It:=
 ⟨λi H=>∃xs x,mV K H a xs/\xs[i]? = some x,λi H x H'=>H'=H/\∀xs,mV K H a xs->xs[i]? = some x,λi H=>∃xs,mV K H a xs/\xs.length<=i⟩
def Itt(K:PySem.W.Frag)(a:Addr):It:=
 ⟨λi H=>∃xs x,j8 K H a xs/\xs[i]? = some x,λi H x H'=>H'=H/\∀xs,j8 K H a xs->xs[i]? = some x,λi H=>∃xs,j8 K H a xs/\xs.length<=i⟩
def Itr(lo:Int)(n:Nat):It:=⟨λi _=>i<n,λi H x H'=>H'=H/\x = .int (lo+i),λi _=>n<=i⟩
theorem J4{P:Program}{w:World}{K:PySem.W.Frag}{tg:Expr}(a it:Addr):Turn P w K tg (Itl K a) [it] it (λi h=>h.IsListIter it a i) where
 mem:=by simp
 obj:=λi h st b hb=>by
  have e:b=it:=by simpa using hb
  subst e;obtain⟨o,e,c,d⟩:=st;exact⟨o,e,λv z=>by rw[d] at z;cases z⟩
 keep:=λi h h' st k=>st.at λo e=>k it (by simp) o e
 item:=by intro X hP hw hK hc i pins s σ H E I hf st hg;subst hP hw hK;obtain⟨xs,x,hq,hx⟩:=hg;obtain⟨its,rv,p,hz⟩:=I.list hq;obtain⟨u,hu,ru⟩:=rv.get hx;obtain⟨f0,f1,f2,f3,f4,f5⟩:=hf it (by simp);refine wpAny_pyNext_list_item st p.isList (x:=u) (by simpa using hu) λh' st' sb=>?_;have I1:Inv X pins σ H { s with heap:=h' }:=I.turned (t':=s.toks) (λb o hb e=>(sb.2 b hb).trans e) f0 f1 f3 f4 f5;obtain⟨o,e,c,d⟩:=id st';exact⟨u,rfl,Ed (s:={ s with heap:=h' }) e c d (by decide) ⟨x,H,I1,ru,⟨rfl,λys hy=>by rw[I.PJ hy hq];exact hx⟩,st',λb hb=>(hf b hb).1⟩⟩
 done:=by intro X hP hw hK hc i pins s σ H E I hf st hg;subst hP hw hK;obtain⟨xs,hq,hx⟩:=hg;obtain⟨its,rv,p,hz⟩:=I.list hq;obtain⟨f0,f1,f2,f3,f4,f5⟩:=hf it (by simp);have hl:=rv.length;exact wpAny_pyNext_list_end (I.ok.hd hc) st p.isList (by simp;omega) λh' eb=>⟨rfl,I.turned (t':=s.toks) (λb o hb e=>eb b o hb e) f0 f1 f3 f4 f5⟩
 self:=λ_ _ _ _ _ st h=>wpAny_pyIter_listiter st h
theorem FQ{P:Program}{w:World}{K:PySem.W.Frag}{tg:Expr}(a it:Addr):Turn P w K tg (Itt K a) [it] it (λi h=>h.IsTupleIter it a i) where
 mem:=by simp
 obj:=λi h st b hb=>by
  have e:b=it:=by simpa using hb
  subst e;obtain⟨o,e,c,d⟩:=st;exact⟨o,e,λv z=>by rw[d] at z;cases z⟩
 keep:=λi h h' st k=>st.at λo e=>k it (by simp) o e
 item:=by intro X hP hw hK hc i pins s σ H E I hf st hg;subst hP hw hK;obtain⟨xs,x,hq,hx⟩:=hg;obtain⟨its,rv,p,hz⟩:=I.tuple hq;obtain⟨u,hu,ru⟩:=rv.get hx;obtain⟨f0,f1,f2,f3,f4,f5⟩:=hf it (by simp);refine wpAny_pyNext_tuple_item st (show s.heap.IsTuple a its.toArray from p) (x:=u) (by simpa using hu) λh' st' sb=>?_;have I1:Inv X pins σ H { s with heap:=h' }:=I.turned (t':=s.toks) (λb o hb e=>(sb.2 b hb).trans e) f0 f1 f3 f4 f5;obtain⟨o,e,c,d⟩:=id st';exact⟨u,rfl,Ed (s:={ s with heap:=h' }) e c d (by decide) ⟨x,H,I1,ru,⟨rfl,λys hy=>by rw[I.sI hy hq];exact hx⟩,st',λb hb=>(hf b hb).1⟩⟩
 done:=by intro X hP hw hK hc i pins s σ H E I hf st hg;subst hP hw hK;obtain⟨xs,hq,hx⟩:=hg;obtain⟨its,rv,p,hz⟩:=I.tuple hq;obtain⟨f0,f1,f2,f3,f4,f5⟩:=hf it (by simp);have hl:=rv.length;exact wpAny_pyNext_tuple_end (I.ok.hd hc) st (show s.heap.IsTuple a its.toArray from p) (by simp;omega) λh' eb=>⟨rfl,I.turned (t':=s.toks) (λb o hb e=>eb b o hb e) f0 f1 f3 f4 f5⟩
 self:=λ_ _ _ _ _ st h=>wpAny_pyIter_tupleiter st h
theorem FT{P:Program}{w:World}{K:PySem.W.Frag}{tg:Expr}(it:Addr)(lo:Int)(n:Nat):Turn P w K tg (Itr lo n) [it] it (λi h=>IsRangeIter h it (lo+(i:Nat)*1) ((n:Int) - (i:Nat)) 1) where
 mem:=by simp
 obj:=λi h st b hb=>by
  have e:b=it:=by simpa using hb
  subst e;exact⟨_,st,λv z=>by
   have z':Data.fields _=Data.cell v:=z;cases z'⟩
 keep:=λi h h' st k=>k it (by simp) _ st
 item:=by intro X hP hw hK hc i pins s σ H E I hf st hg;subst hP hw hK;obtain⟨f0,f1,f2,f3,f4,f5⟩:=hf it (by simp);have W:=Walks.range (prog:=X.prog) (w:=X.w) (I.ok.hd hc) it lo 1 n;refine W.item i s _ _ hg st λv h' tk hv st' kk=>?_;obtain⟨t,rfl⟩:=hv;have I1:Inv X pins σ H { s with heap:=h',toks:=tk }:=I.turned (λb o hb e=>kk b o (by simpa using hb) e) f0 f1 f3 f4 f5;refine⟨_,rfl,Ed (s:={ s with heap:=h',toks:=tk }) (n:="range_iterator") st' rfl rfl (by decide) ⟨.int (lo+i),H,I1,⟨t,?_⟩,⟨rfl,rfl⟩,st',λb hb=>(hf b hb).1⟩⟩;rw[Int.mul_one]
 done:=by intro X hP hw hK hc i pins s σ H E I hf st hg;subst hP hw hK;obtain⟨f0,f1,f2,f3,f4,f5⟩:=hf it (by simp);exact wpAny_pyNext_range_end (I.ok.hd hc) st (by have:n<=i:=hg;omega) λh' eb=>⟨rfl,I.turned (t':=s.toks) (λb o hb e=>eb b o hb e) f0 f1 f3 f4 f5⟩
 self:=λ_ _ _ _ _ st h=>wpAny_pyIter_rangeiter st h
section
variable{X:Cx}{tg:Expr}
theorem Dd{pins:List (Addr×Obj)}{σ:St}{H:Hp}{s:Shared}{R:It->Hp->Prop}{E:Value->Shared->Prop}{lo hi:Int}{t u v:Tok}{tk:Nat}(I:Inv X pins σ H s)(h1 : -(2^62)<=lo)(h2:lo<2^62)(h3 : -(2^62)<=hi)(h4:hi<2^62)
  (q:R (Itr lo (hi - lo).toNat) H):wpAny (model X.prog X.w) X.A (pyIter (.ref s.heap.objs.size)) (PIE X pins σ tg R) E { s with heap:=s.heap.push { cls:=.type "range",data:=.fields #[.int lo t,.int hi u,.int 1 v] },toks:=tk }:=by
 refine wpAny_pyIter_range (IsRange.new ..) (small_one h1 h2 h3 h4) ?_;have I1:Inv X pins σ H { s with heap:=s.heap.push { cls:=.type "range",data:=.fields #[.int lo t,.int hi u,.int 1 v] },toks:=tk }:=I.kept λb o e=>Qqw _ e;refine⟨(s.heap.push { cls:=.type "range",data:=.fields #[.int lo t,.int hi u,.int 1 v] }).objs.size,[(s.heap.push { cls:=.type "range",data:=.fields #[.int lo t,.int hi u,.int 1 v] }).objs.size],_,_,H,rfl,
  I1.kept (t':=tk) λb o e=>Qqw _ e,FT _ lo (hi - lo).toNat,?_,λb hb=>?_,q⟩
 ·have e1:lo+((0:Nat):Int)*1=lo:=by simp
  have e2:(((hi - lo).toNat:Nat):Int) - ((0:Nat):Int)=Builtin.Range.rangeSize lo hi 1:=by rw[rangeSize_one];split<;>omega
  show IsRangeIter _ _ (lo+((0:Nat):Int)*1) ((((hi - lo).toNat:Nat):Int) - ((0:Nat):Int)) 1;rw[e1,e2];exact Qw1 _ rfl
 ·have e:b=(s.heap.push { cls:=.type "range",data:=.fields #[.int lo t,.int hi u,.int 1 v] }).objs.size:=by simpa using hb
  subst e;exact I1.Qq (Qq0 _) (I1.hok.fresh (Qq0 _))
def abZ(ta:TA):TI:=λσ H R=>ta σ H λvs H1=>∃j:Int,vs=[.int j]/\-(2^62)<=j/\j<2^62/\R (Itr 0 j.toNat) H1
def abY(ta:TA):TI:=λσ H R=>ta σ H λvs H1=>∃i j:Int,vs=[.int i,.int j]/\(-(2^62)<=i/\i<2^62/\-(2^62)<=j/\j<2^62)/\R (Itr i (j - i).toNat) H1
theorem Ky{a:Expr}{ta:TA}{p pos:Pos}(hg:Gl X "range")(hm:X.mg "range" = none)(ha:PA X [a] ta)(hs:starEach [a] X.env=[(false,eval a X.env)]:=by rfl):PI X tg (.Call (.Name "range" p) [a] [] pos) (abZ ta):=by
 intro pins s σ H R I h;refine Call_ (tR I hg hm boot_range (Qz2 (fP (ha pos pins s σ H _ I h) λus s1 ⟨vs,H1,I1,r1,q1⟩=>?_) hs rfl));obtain⟨j,e,q1,q2,q⟩:=q1;subst e;cases r1 with
 | cons r rr=>
  cases rr;obtain⟨t,rfl⟩:=r;exact call_range_1 (Dd I1 (by omega) (by omega) q1 q2 (by simpa using q))
theorem Kw{a b:Expr}{ta:TA}{p pos:Pos}(hg:Gl X "range")(hm:X.mg "range" = none)(ha:PA X [a,b] ta)(hs:starEach [a,b] X.env=[(false,eval a X.env),(false,eval b X.env)]:=by rfl)(hs2:starEach [b] X.env=[(false,eval b X.env)]:=by rfl) :
  PI X tg (.Call (.Name "range" p) [a,b] [] pos) (abY ta):=by
 intro pins s σ H R I h;refine Call_ (tR I hg hm boot_range (Qz2 (fP (ha pos pins s σ H _ I h) λus s1 ⟨vs,H1,I1,r1,q1⟩=>?_) (by rw[hs,hs2]) (by rw[hs2];rfl)));obtain⟨i,j,e,⟨q1,q2,q3,q4⟩,q⟩:=q1;subst e;cases r1 with
 | cons r rr=>
  cases rr with
  | cons r' rr=>
   cases rr;obtain⟨t,rfl⟩:=r;obtain⟨t',rfl⟩:=r';exact call_range_2 (Dd I1 q1 q2 q3 q4 q)
def adC(wi:TI)(g:TG)(tb:TS):TS:=λD σ H=>wi σ H λJ H1=>∃W:Nat->Nat->St->Hp->Prop,(∃m,W 0 m σ H1)/\∀i m σ H,W i m σ H->
 (J.stop i H/\D.nx σ H)\/(J.go i H/\∃N:St->Hp->Prop,(∀σ' H',N σ' H'->∃m',m'<m/\W (i+1) m' σ' H')/\∀x H',J.yld i H x H'->g x σ H' λσ2 H2=>tb { D with nx:=N,ct:=N,bk:=D.nx } σ2 H2)
def vZ(fp:List Addr)(h:Heap):List (Addr×Obj):=fp.filterMap λb=>(h.get? b).map λo=>(b,o)
theorem nu{fp:List Addr}{h:Heap}{b:Addr}{o:Obj}(hb:b∈fp)(e:h.get? b=some o):(b,o)∈vZ fp h:=List.mem_filterMap.mpr ⟨b,hb,by rw[e];rfl⟩
theorem KQ{fp:List Addr}{h:Heap}{p:Addr×Obj}(hp:p∈vZ fp h):p.1∈fp/\h.get? p.1=some p.2:=by
 obtain⟨b,hb,e⟩:=List.mem_filterMap.mp hp;cases q:h.get? b with
 | none=>rw[q] at e;cases e
 | some o=>
  rw[q] at e;have e':(b,o)=p:=Qw4 e;subst e';exact⟨hb,q⟩
theorem Inv.pinned{pins:List (Addr×Obj)}{σ:St}{H:Hp}{s:Shared}{fp:List Addr}(I:Inv X pins σ H s)(hf:∀b∈fp,qC X pins H b)(ho:∀b∈fp,∃o,s.heap.get? b=some o/\∀v,o.data ≠ .cell v):Inv X (pins++vZ fp s.heap) σ H s:=
 I.IK λp hp=>(Qw0.mp hp).elim (λz=>I.pin p (Qxz _ z)) λz=>by
  obtain⟨hb,e⟩:=KQ z;obtain⟨f0,f1,f2,_⟩:=hf p.1 hb;obtain⟨o,e',d⟩:=ho p.1 hb;rw[e] at e';cases e';exact⟨e,f0,f1,f2,d⟩
theorem Inv.qL{pins pl:List (Addr×Obj)}{σ:St}{H:Hp}{s:Shared}(I:Inv X (pins++pl) σ H s):Inv X pins σ H s:=I.IK λp hp=>I.pin p (Qxz _ (Qjj _ hp))
theorem Xj{iter:Expr}{body:List Stmt}{wi:TI}{g:TG}{tb:TS}{pos:Pos}(hp:PassesOwn (model X.prog X.w) X.A X.env X.xe)(hc:X.calm=true)(hi:PI X tg iter wi)(hg:PG X tg g)(hb:BR X body tb)
  (hs:∀x,foldedSetIterable iter X.env x=pure x:=by intro _;rfl):PS X (.For tg iter body [] pos) (adC wi g tb):=by
 intro pins s σ H D I h;refine wpAny_For (fP (hi pins s σ H _ I h) λv s1 h1=>fP h1 λitv s2 h2=>?_) hs;obtain⟨it,fp,tn,J,H2,e,I2,T,st2,f2,W,⟨m0,w0⟩,turn⟩:=h2;subst e
 -- what stays true of the iterator's objects through the loop
 have stat:∀{H':Hp},(∀b∈fp,H' b=none)->∀b∈fp,qC X pins H' b:=λhn b hb=>⟨hn b hb,(f2 b hb).2⟩;refine codeAny_forLoop_any (λn s'=>∃i σ' H',Inv X pins σ' H' s'/\tn i s'.heap/\(∀b∈fp,H' b=none)/\W i n σ' H') ?_ m0 ⟨0,σ,H2,I2,st2,λb hb=>(f2 b hb).1,w0⟩;rintro n s3 ⟨i,σ3,H3,I3,st3,fr3,w3⟩;rcases turn i n σ3 H3 w3 with ⟨stop,qn⟩|⟨go,N,hN,step⟩
 ·refine Qkq hp (fP (T.done X rfl rfl rfl hc i pins s3 σ3 H3 X.xe I3 (stat fr3) st3 stop) λr s4 ⟨hr,I4⟩=>?_);subst hr;exact wpAny_execs_nil ⟨σ3,H3,I4,qn⟩
 ·refine Qkq hp (fP (T.item X rfl rfl rfl hc i pins s3 σ3 H3 X.xe I3 (stat fr3) st3 go) λr s4 ⟨u,hr,h4⟩=>?_);subst hr;refine Qkq hp (fP h4 λ_ s5 ⟨x,H5,I5,r5,y5,WQ,fr5⟩=>?_);have I5':=I5.pinned (stat fr5) (T.obj _ _ WQ);refine Qkq hp (fP (hg _ s5 σ3 H5 x u _ I5' r5 (step x H5 y5)) λ_ s6 ⟨σ6,H6,I6,q6⟩=>?_);refine Qkq hp (fP (hb _ s6 σ6 H6 _ I6 q6) λf s7 q7=>?_);have again:∀{σ7:St} {H7:Hp},Inv X (pins++vZ fp s5.heap) σ7 H7 s7->N σ7 H7->∃m,m<n/\∃i σ' H',Inv X pins σ' H' s7/\tn i s7.heap/\(∀b∈fp,H' b=none)/\W i m σ' H':=λ{σ7 H7} I7 n7=>by
   obtain⟨m',hm,w7⟩:=hN σ7 H7 n7;refine⟨m',hm,i+1,σ7,H7,I7.qL,T.keep _ _ _ WQ λb hb o e=>(I7.pin (b,o) (Qxz _ (Qxz _ (nu hb e)))).1,λb hb=>?_,w7⟩;obtain⟨o,e,d⟩:=T.obj _ _ WQ b hb;exact(I7.pin (b,o) (Qxz _ (Qxz _ (nu hb e)))).2.1
  cases f with
  | next=>obtain⟨σ7,H7,I7,n7⟩:=q7;exact again I7 n7
  | cont=>obtain⟨σ7,H7,I7,n7⟩:=q7;exact again I7 n7
  | brk=>obtain⟨σ7,H7,I7,q7⟩:=q7;exact⟨σ7,H7,I7.qL,q7⟩
  | ret v=>obtain⟨x7,σ7,H7,I7,r7,q7⟩:=q7;exact⟨x7,σ7,H7,I7.qL,r7,q7⟩
end
abbrev R2:=V->V->Hp->VK->Prop
def mD(X:Cx)(f:Value->Value->Sem Value)(r:R2):Prop:=
 ∀(pins:List (Addr×Obj)) (s:Shared) (σ:St) (H:Hp) (x y:V) (v u:Value) (Q:VK),Inv X pins σ H s->RelV x v->RelV y u->r x y H Q->
  wpAny (model X.prog X.w) X.A (f v u) (EP X pins σ Q) X.xe s
def UnR(X:Cx)(f:Value->Sem Value)(r:V->Hp->VK->Prop):Prop:=
 ∀(pins:List (Addr×Obj)) (s:Shared) (σ:St) (H:Hp) (x:V) (v:Value) (Q:VK),Inv X pins σ H s->RelV x v->r x H Q->
  wpAny (model X.prog X.w) X.A (f v) (EP X pins σ Q) X.xe s
def jt(X:Cx)(f:Value)(r:List V->Hp->VK->Prop):Prop:=
 ∀(pins:List (Addr×Obj)) (s:Shared) (σ:St) (H:Hp) (xs:List V) (us:List Value) (Q:VK),Inv X pins σ H s->Vals xs us->r xs H Q->
  wpAny (model X.prog X.w) X.A (call f us) (EP X pins σ Q) X.xe s
def Ru(r:R2)(ta tb:TE):TE:=λσ H Q=>ta σ H λx H1=>tb σ H1 λy H2=>r x y H2 Q
def tUn(r:V->Hp->VK->Prop)(ta:TE):TE:=λσ H Q=>ta σ H λx H1=>r x H1 Q
def rI(C:Int->Int->Prop)(g:Int->Int->V):R2:=λx y H Q=>∃i j,x = .int i/\y = .int j/\C i j/\Q (g i j) H
def Im(g:Int->Int->V):R2:=λx y H Q=>∃i j,x = .int i/\y = .int j/\Q (g i j) H
def rU(g:Int->V):V->Hp->VK->Prop:=λx H Q=>∃i,x = .int i/\Q (g i) H
section
variable{X:Cx}{a b c:Expr}{ta tb tc:TE}{pos:Pos}
theorem ZV(ha:PE X a ta)(hb:PE X b tb){pins:List (Addr×Obj)}{s:Shared}{σ:St}{H:Hp}{R:V->V->Hp->Prop}(I:Inv X pins σ H s)
  (h:ta σ H λx H1=>tb σ H1 λy H2=>R x y H2) {Q:Value->Shared->Prop} {f:Value->Value->Sem Value}
  (hf:∀v u s2 x y H2,Inv X pins σ H2 s2->RelV x v->RelV y u->R x y H2->wpAny (model X.prog X.w) X.A (f v u) Q X.xe s2) :
  wpAny (model X.prog X.w) X.A (eval a X.env) (λv s₁=>wpAny (model X.prog X.w) X.A (eval b X.env) (λu s₂=>wpAny (model X.prog X.w) X.A (f v u) Q X.xe s₂) X.xe s₁) X.xe s:=by
 refine fP (ha pins s σ H _ I h) λv s1 ⟨x,H1,I1,r1,q1⟩=>?_;refine fP (hb pins s1 σ H1 _ I1 q1) λu s2 ⟨y,H2,I2,r2,q2⟩=>?_;exact hf v u s2 x y H2 I2 r1 r2 q2
theorem Vw{op:Operator}{r:R2}(ho:mD X (binaryOp op) r)(ha:PE X a ta)(hb:PE X b tb):PE X (.BinOp a op b pos) (Ru r ta tb):=by intro pins s σ H Q I h;exact wpAny_BinOp (ZV ha hb I h λv u s2 x y H2 I2 rx ry q=>ho pins s2 σ H2 x y v u Q I2 rx ry q)
theorem Vv{op:UnaryOp}{r:V->Hp->VK->Prop}(ho:UnR X (unaryOp op) r)(ha:PE X a ta):PE X (.UnaryOp op a pos) (tUn r ta):=by intro pins s σ H Q I h;exact UnaryOp_ (fP (ha pins s σ H _ I h) λv s1 ⟨x,H1,I1,r1,q1⟩=>ho pins s1 σ H1 x v Q I1 r1 q1)
theorem opI{f:Value->Value->Sem Value}{C:Int->Int->Prop}{g:Int->Int->Int}
  (rule:∀(i j:Int) (t u:Tok) (s:Shared) (Q:Value->Shared->Prop) (E:Value->Shared->Prop),C i j->Q (.int (g i j) s.toks) { s with toks:=s.toks+1 }->wpAny (model X.prog X.w) X.A (f (.int i t) (.int j u)) Q E s) :
  mD X f (rI C λi j=>.int (g i j)):=by
 intro pins s σ H x y v u Q I rx ry h;obtain⟨i,j,rfl,rfl,hc,q⟩:=h;obtain⟨t,rfl⟩:=rx;obtain⟨t',rfl⟩:=ry;exact rule i j t t' s _ _ hc ⟨.int (g i j),H,I.tok _,⟨_,rfl⟩,q⟩
theorem X7{f:Value->Value->Sem Value}{g:Int->Int->Int}
  (rule:∀(i j:Int) (t u:Tok) (s:Shared) (Q:Value->Shared->Prop) (E:Value->Shared->Prop),Q (.int (g i j) s.toks) { s with toks:=s.toks+1 }->wpAny (model X.prog X.w) X.A (f (.int i t) (.int j u)) Q E s) :
  mD X f (Im λi j=>.int (g i j)):=by
 intro pins s σ H x y v u Q I rx ry h;obtain⟨i,j,rfl,rfl,q⟩:=h;obtain⟨t,rfl⟩:=rx;obtain⟨t',rfl⟩:=ry;exact rule i j t t' s _ _ ⟨.int (g i j),H,I.tok _,⟨_,rfl⟩,q⟩
theorem abB{f:Value->Value->Sem Value}{g:Int->Int->Bool}
  (rule:∀(i j:Int) (t u:Tok) (s:Shared) (Q:Value->Shared->Prop) (E:Value->Shared->Prop),Q (.bool (g i j)) s->wpAny (model X.prog X.w) X.A (f (.int i t) (.int j u)) Q E s) :
  mD X f (Im λi j=>.bl (g i j)):=by
 intro pins s σ H x y v u Q I rx ry h;obtain⟨i,j,rfl,rfl,q⟩:=h;obtain⟨t,rfl⟩:=rx;obtain⟨t',rfl⟩:=ry;exact rule i j t t' s _ _ ⟨.bl (g i j),H,I,rfl,q⟩
def acI(i j:Int):Prop:=0<j/\j<1073741824
def Vb(i j:Int):Prop:=0<=j/\j<=1000000/\i.natAbs<2^64
theorem FP(k:Nat):(0:Int)<=2^k:=by rw[two_pow_cast];exact Int.natCast_nonneg _
theorem X6:mD X (binaryOp .Add) (Im λi j=>.int (i+j)):=X7 λ_ _ _ _ _ _ _ q=>add_int q
theorem Xz:mD X (binaryOp .Sub) (Im λi j=>.int (i - j)):=X7 λ_ _ _ _ _ _ _ q=>sub_int q
theorem XJ:mD X (binaryOp .Mod) (rI (λ_ j=>0<j) λi j=>.int (i % j)):=opI λi j _ _ _ _ _ hc q=>by
 have h1:(0:Int)<j:=hc;exact mod_int' (by omega) (by rw[Int.fmod_eq_emod_of_nonneg i (by omega)];exact q)
theorem XF:mD X (binaryOp .Pow) (rI Vb λi j=>.int (i^j.toNat)):=opI λ_ _ _ _ _ _ _ hc q=>pow_int_small hc.1 hc.2.1 hc.2.2 q
theorem XD:mD X (binaryOp .LShift) (rI Vb λi j=>.int (i*2^j.toNat)):=opI λ_ _ _ _ _ _ _ hc q=>lshift_int_small hc.1 hc.2.1 hc.2.2 q
theorem XC:mD X (binaryOp .RShift) (rI (λ_ j=>0<=j) λi j=>.int (i / 2^j.toNat)):=opI λi j _ _ _ _ _ hc q=>
 rshift_int hc (by rw[Int.fdiv_eq_ediv_of_nonneg i (FP _)];exact q)
theorem X5:mD X (binaryOp .BitAnd) (Im λi j=>.int (Builtin.bitAnd i j)):=X7 λ_ _ _ _ _ _ _ q=>and_int q
theorem unI{f:Value->Sem Value}{g:Int->Int}
  (rule:∀(i:Int) (t:Tok) (s:Shared) (Q:Value->Shared->Prop) (E:Value->Shared->Prop),Q (.int (g i) s.toks) { s with toks:=s.toks+1 }->wpAny (model X.prog X.w) X.A (f (.int i t)) Q E s) :
  UnR X f (rU λi=>.int (g i)):=by
 intro pins s σ H x v Q I rx h;obtain⟨i,rfl,q⟩:=h;obtain⟨t,rfl⟩:=rx;exact rule i t s _ _ ⟨.int (g i),H,I.tok _,⟨_,rfl⟩,q⟩
theorem Mx:UnR X (unaryOp .USub) (rU λi=>.int (-i)):=unI λ_ _ _ _ _ q=>neg_int q
end
theorem ZD{i j:Bool}:decide (V.bl i=V.bl j)=(i == j):=by rw[Qkw];simp
section
variable{X:Cx}{a b c:Expr}{ta tb tc:TE}{pos:Pos}
theorem Bj{pins:List (Addr×Obj)}{σ:St}{H:Hp}{s:Shared}{Q:VK}{k k':Bool}(I:Inv X pins σ H s)(q:Q (.bl k) H)(e:k=k'):EP X pins σ Q (.bool k') s:=by subst e;exact⟨.bl k,H,I,rfl,q⟩
theorem aby:mD X (compareOp .Lt) (Im λi j=>.bl (decide (i<j))):=abB λ_ _ _ _ _ _ _ q=>lt_int q
theorem abz:mD X (compareOp .Gt) (Im λi j=>.bl (decide (j<i))):=abB λ_ _ _ _ _ _ _ q=>gt_int q
theorem KH:mD X (compareOp .Lt) (λx y H Q=>∃i j,x = .str i/\y = .str j/\Q (.bl (decide (i.cps.toList<j.cps.toList))) H):=by intro pins s σ H x y v u Q I rx ry h;obtain⟨i,j,rfl,rfl,q⟩:=h;obtain⟨t,rfl⟩:=rx;obtain⟨t',rfl⟩:=ry;exact lt_str (Bj I q rfl)
theorem KJ:mD X (compareOp .In) (λx y H Q=>∃i j,x = .str i/\y = .str j/\Q (.bl (!(Builtin.Str.occurrences j i 0 j.length 1).isEmpty)) H):=by intro pins s σ H x y v u Q I rx ry h;obtain⟨i,j,rfl,rfl,q⟩:=h;obtain⟨t,rfl⟩:=rx;obtain⟨t',rfl⟩:=ry;exact in_str (Bj I q rfl)
theorem XN:mD X (compareOp .Is) (λx y H Q=>y = .non/\Q (.bl (decide (x = .non))) H):=by
 intro pins s σ H x y v u Q I rx ry h;obtain⟨rfl,q⟩:=h;cases ry;refine is_none_gen (Bj I q ?_);cases x<;>first
  | (cases rx;rfl)
  | (obtain⟨t,rfl⟩:=rx;rfl)
theorem mD.or{f:Value->Value->Sem Value}{r r':R2}(h:mD X f r)(h':mD X f r'):mD X f (λx y H Q=>r x y H Q\/r' x y H Q):=by
 intro pins s σ H x y v u Q I rx ry q;rcases q with q|q
 ·exact h pins s σ H x y v u Q I rx ry q
 ·exact h' pins s σ H x y v u Q I rx ry q
theorem IV{op:CmpOp}{r:R2}(ho:mD X (compareOp op) r)(ha:PE X a ta)(hb:PE X b tb)(hm:behindInMarks op b=false):PE X (.Compare a [op] [b] pos) (Ru r ta tb):=by intro pins s σ H Q I h;exact wpAny_Compare1 (ZV ha hb I h λv u s2 x y H2 I2 rx ry q=>ho pins s2 σ H2 x y v u Q I2 rx ry q) hm
def aaL(t:TE):TT:=λσ H Q=>t σ H λx H'=>∃k,x = .bl k/\Q k H'
theorem Iw{op:CmpOp}{r:R2}(ho:mD X (compareOp op) r)(ha:PE X a ta)(hb:PE X b tb)(hm:behindInMarks op b=false):PT X (.Compare a [op] [b] pos) (aaL (Ru r ta tb)):=by
 intro pins s σ H Q I h;refine wpAny_isTrue_Compare1 (fP (ha pins s σ H _ I h) λv s1 ⟨x,H1,I1,r1,q1⟩=>fP (hb pins s1 σ H1 _ I1 q1) λu s2 ⟨y,H2,I2,r2,q2⟩=>
  fP (ho pins s2 σ H2 x y v u _ I2 r1 r2 q2) λc s3 ⟨z,H3,I3,r3,k,e,q3⟩=>?_) hm
 subst e;cases r3;exact wpAny_truthy_bool ⟨H3,I3,q3⟩
theorem Y7{κ:Type}{kvs:List (κ×V)}{vs:List (κ×Value)}(r:KV kvs vs):(!vs.isEmpty) = !kvs.isEmpty:=by cases r<;>rfl
theorem Y6{xs:List V}{its:List Value}(r:Vals xs its):(!its.toArray.isEmpty) = !xs.isEmpty:=by cases r<;>simp
theorem wJ:(sizeLine:Nat)<2^63:=by rw[Qj1];decide
theorem GQ:mD X (binaryOp .Add) (λx y H Q=>∃i j,x = .str i/\y = .str j/\i.length+j.length<=sizeLine/\Q (.str (i++j)) H):=by intro pins s σ H x y v u Q I rx ry h;obtain⟨i,j,rfl,rfl,hz,q⟩:=h;obtain⟨t,rfl⟩:=rx;obtain⟨t',rfl⟩:=ry;exact add_str (λt' tk=>⟨.str (i++j),H,I.tok _,⟨_,rfl⟩,q⟩) hz
theorem vals1{x:V}{us:List Value}(r:Vals [x] us):∃u,us=[u]/\RelV x u:=by
 cases r with
 | cons r1 r2=>cases r2;exact⟨_,rfl,r1⟩
theorem vals2{x y:V}{us:List Value}(r:Vals [x,y] us):∃u w',us=[u,w']/\RelV x u/\RelV y w':=by
 cases r with
 | cons r1 r2=>
  cases r2 with
  | cons r3 r4=>cases r4;exact⟨_,_,rfl,r1,r3⟩
theorem Lx(hc:X.calm=true):jt X (.builtin "max") (λxs H Q=>∃i j,xs=[.int i,.int j]/\Q (.int (if j > i then j else i)) H):=by
 intro pins s σ H xs us Q I r h;obtain⟨i,j,rfl,q⟩:=h;obtain⟨u,w',rfl,⟨t,rfl⟩,⟨t',rfl⟩⟩:=vals2 r;refine max_two_ints (I.ok.hd hc) λh' tk k=>⟨_,H,I.kept k,?_,q⟩;by_cases hj:j > i
 ·rw[if_pos hj,if_pos hj];exact⟨_,rfl⟩
 ·rw[if_neg hj,if_neg hj];exact⟨_,rfl⟩
theorem Lw(hc:X.calm=true):jt X (.builtin "min") (λxs H Q=>∃i j,xs=[.int i,.int j]/\Q (.int (if j<i then j else i)) H):=by
 intro pins s σ H xs us Q I r h;obtain⟨i,j,rfl,q⟩:=h;obtain⟨u,w',rfl,⟨t,rfl⟩,⟨t',rfl⟩⟩:=vals2 r;refine min_two_ints (I.ok.hd hc) λh' tk k=>⟨_,H,I.kept k,?_,q⟩;by_cases hj:j<i
 ·rw[if_pos hj,if_pos hj];exact⟨_,rfl⟩
 ·rw[if_neg hj,if_neg hj];exact⟨_,rfl⟩
def acF(K:PySem.W.Frag)(x:V)(H:Hp)(n:Nat):Prop:=
 match x with
 | .str y=>y.length<=sizeLine/\n=y.length
 | .byt y=>y.size<=sizeLine/\n=y.size
 | .ref p=>(∃xs,mV K H p xs/\n=xs.length)\/∃xs,j8 K H p xs/\n=xs.length
 | _=>False
theorem QM:jt X (.builtin "len") (λxs H Q=>∃x n,xs=[x]/\acF X.K x H n/\Q (.int n) H):=by
 intro pins s σ H xs us Q I r h;obtain⟨x,n,rfl,e,q⟩:=h;obtain⟨u,rfl,rx⟩:=vals1 r;have hl:=wJ;have hs:sizeLine=16777216:=Qj1;cases x with
 | str y=>
  obtain⟨t,rfl⟩:=rx;obtain⟨hy,e'⟩:y.length<=sizeLine/\n=y.length:=e;subst e';exact len_str (by omega) ⟨.int _,H,I.tok _,⟨_,rfl⟩,q⟩
 | byt y=>
  obtain⟨t,rfl⟩:=rx;obtain⟨hy,e'⟩:y.size<=sizeLine/\n=y.size:=e;subst e';exact PySem.W.len_bytes (by omega) ⟨.int _,H,I.tok _,⟨_,rfl⟩,q⟩
 | ref p=>
  cases rx;have e':(∃xs,mV X.K H p xs/\n=xs.length)\/∃xs,j8 X.K H p xs/\n=xs.length:=e;rcases e' with ⟨xs,hx,e'⟩|⟨xs,hx,e'⟩
  ·subst e';obtain⟨its,r',pl,hz⟩:=I.list hx;have hlen:=r'.length;exact Calls.call_len_list pl.isList (by simp only[Qq4];omega) ⟨.int xs.length,H,I.tok _,⟨_,by simp only[Qq4];rw[hlen]⟩,q⟩
  ·subst e';obtain⟨its,r',pl,hz⟩:=I.tuple hx;have hlen:=r'.length;exact len_tuple pl (by simp only[Qq4];omega) ⟨.int xs.length,H,I.tok _,⟨_,by simp only[Qq4];rw[hlen]⟩,q⟩
 | _=>exact(show False from e).elim
theorem EY:jt X (.builtin "divmod") (λxs H Q=>∃i j,xs=[.int i,.int j]/\acI i j/\∀p,H p=none->Q (.ref p) (upd H p (.tup [.int (i / j),.int (i % j)]))):=by intro pins s σ H xs us Q I r h;obtain⟨i,j,rfl,⟨h1,h2⟩,q⟩:=h;obtain⟨u,w',rfl,⟨t,rfl⟩,⟨t',rfl⟩⟩:=vals2 r;refine divmod_int (by omega) ?_ (.inl (PyProof.noPylong_small (by omega)));rw[Int.fdiv_eq_ediv_of_nonneg i (by omega),Int.fmod_eq_emod_of_nonneg i (by omega)];have hn:H s.heap.objs.size=none:=I.hok.fresh (Qq0 _);refine⟨.ref s.heap.objs.size,_,?_,rfl,q _ hn⟩;refine I.laid (λb o e=>Qqw _ e) (Qq0 _) ⟨by simp only[Qqv,Qzv];rw[Qj1];decide,[.int (i / j) s.toks,.int (i % j) (s.toks+1)],.cons ⟨_,rfl⟩ (.cons ⟨_,rfl⟩ .nil),?_⟩;exact⟨_,Qw1 s.heap rfl,rfl,⟨0,rfl⟩,rfl⟩
end
theorem rW.some_of{v:V}{o:Option Value}(r:rW (some v) o):∃u,o=some u/\RelV v u:=by
 cases o with
 | none=>exact(show False from r).elim
 | some u=>exact⟨u,rfl,r⟩
structure iU(k:Nat)(A:Around):Prop where
 hd:A.handled=none
 dp:A.depth+3*k+5<recursionLimit
 un:A.units+16*k+200<cLine
theorem iU.mono{j k:Nat}{A:Around}(r:iU k A)(h:j<=k):iU j A:=⟨r.hd,by have:=r.dp;omega,by have:=r.un;omega⟩
theorem iU.deeper{k:Nat}{A:Around}(r:iU (k+1) A)(env:Env):iU k (A.deeper env):=
 ⟨r.hd,by have:=r.dp;show A.depth+1+3*k+5<_;omega,by have:=r.un;show A.units+3+16*k+200<_;omega⟩
theorem iU.depth{k:Nat}{A:Around}(r:iU k A):A.depth<recursionLimit:=by have:=r.dp;omega
theorem iU.units{k:Nat}{A:Around}(r:iU k A):A.units+64<cLine:=by have:=r.un;omega
def ady:TA:=λ_ H Q=>Q [] H
def aaQ(ta:TE)(tr:TA):TA:=λσ H Q=>ta σ H λx H1=>tr σ H1 λxs H2=>Q (x::xs) H2
section
variable{X:Cx}{e:Expr}{es:List Expr}{te:TE}{t:TA}{pos:Pos}
theorem Ao:PA X [] ady:=λ_ _ _ _ H Q I h=>Calls.spliced_nil ⟨[],H,I,.nil,h⟩
theorem nq(ha:PE X e te)(hr:PA X es t)(hs:starEach (e::es) X.env=(false,eval e X.env)::starEach es X.env:=by rfl):PA X (e::es) (aaQ te t):=by intro pos pins s σ H Q I h;rw[hs];show wpAny _ _ (spliced ((false,eval e X.env)::backTo pos (starEach es X.env))) _ _ s;refine Calls.spliced_cons (fP (ha pins s σ H _ I h) λu s1 ⟨x,H1,I1,r1,q1⟩=>?_);exact fP (hr pos pins s1 σ H1 _ I1 q1) λus s2 ⟨xs,H2,I2,r2,q2⟩=>⟨x::xs,H2,I2,.cons r1 r2,q2⟩
def adq(t:TA):TE:=λσ H Q=>t σ H λxs H1=>xs.length<=sizeLine/\∀p,H1 p=none->Q (.ref p) (upd H1 p (.tup xs))
def adz(t:TA):TE:=λσ H Q=>t σ H λxs H1=>xs.length<=sizeLine/\∀p,H1 p=none->Q (.ref p) (upd H1 p (.lst xs))
theorem Xq{x1}(h:PA X es t):PE X (.Tuple es x1 pos) (adq t):=by intro pins s σ H Q I hq;refine wpAny_Tuple_spliced (fP (h pos pins s σ H _ I hq) λus s1 ⟨xs,H1,I1,r,z,q⟩=>⟨by rw[<-r.length];exact z,?_⟩);have hf:H1 s1.heap.objs.size=none:=I1.hok.fresh (Qq0 _);refine⟨.ref s1.heap.objs.size,upd H1 s1.heap.objs.size (.tup xs),I1.laid (t':=s1.toks) (λb u e=>Qqw _ e) (Qq0 _) ?_,rfl,q _ hf⟩;exact⟨z,us,r,yH.new _ _⟩
theorem Xx(h:PA X es t):PE X (.List es pos) (adz t):=by intro pins s σ H Q I hq;refine wpAny_List_spliced (fP (h pos pins s σ H _ I hq) λus s1 ⟨xs,H1,I1,r,z,q⟩=>⟨by rw[<-r.length];exact z,?_⟩);have hf:H1 s1.heap.objs.size=none:=I1.hok.fresh (Qq0 _);refine⟨.ref s1.heap.objs.size,upd H1 s1.heap.objs.size (.lst xs),I1.laid (t':=s1.toks) (λb u e=>Qqw _ e) (Qq0 _) ?_,rfl,q _ hf⟩;exact⟨z,us,0,r,Qw1 _ rfl⟩
end
abbrev Sp:=List V->Hp->VK->XK->Prop
abbrev Va:=List Env->Hp->Shared->XK->Value->Shared->Prop
structure U9(P:Program)(w:World)(K:PySem.W.Frag)(mg:Str->Option Value)(base:Heap)(A:Around)(outer:List Env)(s:Shared)(H:Hp):Prop where
 frames:A.frames=some outer
 mod:Mod K mg base
 bs:∀b o,base.get? b=some o->s.heap.get? b=some o/\H b=none
 V4:base.objs.size<=s.heap.objs.size
 xg:s.heap.FunFrames base outer
 frf:∀b∈frs outer,H b=none
 hok:rZ P w H s.heap
 bare:AllBare s.gens
def CE(outer:List Env)(P:Program)(w:World)(H:Hp)(s:Shared)(Q:VK)(u:Value)(s':Shared):Prop:=
 ∃v H',s'.os=s.os/\AllBare s'.gens/\Un (frs outer) [] H H' s.heap s'.heap/\rZ P w H' s'.heap/\RelV v u/\Q v H'
def CR(CX:Va)(outer:List Env)(P:Program)(w:World)(H:Hp)(s:Shared)(Q:VK)(E:XK)(r:Result)(s':Shared):Prop:=
 match r with
 | .ok (.ret u)=>CE outer P w H s Q u s'
 | .ok _=>False
 | .error e=>CX outer H s E e s'
structure mz(P:Program)(w:World)(K:PySem.W.Frag)(mg:Str->Option Value)(base:Heap)(CX:Va)(k:Nat)(f:Addr)(fd:FuncData)(ps:List Str)(sp:Sp):Prop where
 len:∀vs H Q E,sp vs H Q E->vs.length=ps.length
 run:∀(A:Around) (outer:List Env) (s:Shared) (H:Hp) (args:Args) (us:List Value) (vs:List V) (Q:VK) (E:XK),iU k A->U9 P w K mg base A outer s H->BindsTo s fd args (ps.zip us)->Vals vs us->sp vs H Q E->
  codeAny (model P w) A (.call (.ref f) args) (CR CX outer P w H s Q E) s
section
variable{X:Cx}{pins:List (Addr×Obj)}{σ:St}{H:Hp}{s s':Shared}
theorem Inv.env0(I:Inv X pins σ H s):U9 X.prog X.w X.K X.mg X.base X.A X.stack s H:=
 ⟨I.ok.frames,I.ok.mod,I.bs,Qq3 I.ok.V4 I.sz,I.stack,I.Ii,I.hok,I.bare⟩
theorem Inv.after{Q:VK}{u:Value}(I:Inv X pins σ H s)(h:CE X.stack X.prog X.w H s Q u s'):EP X pins σ Q u s':=by obtain⟨v,H',os,bare,un,hok,r,q⟩:=h;obtain⟨hh,g,d,t,os'⟩:=s';obtain rfl:os'=s.os:=os;exact⟨v,H',I.call (h':=hh) (g':=g) (d':=d) (t':=t) (ch:=[]) un hok bare (λb z=>absurd z (by simp)),r,q⟩
end
def aaR(sp:Sp)(V1:List V)(E:XK)(t:TA):TE:=λσ H Q=>t σ H λvs H1=>sp (vs++V1) H1 Q E
def Binds(K:PySem.W.Frag)(fd:FuncData)(ps:List Str)(ds:List Value):Prop:=
 ∀(s:Shared) (us:List Value),K.In s.heap->(us++ds).length=ps.length->BindsTo s fd ⟨us,[]⟩ (ps.zip (us++ds))
theorem Binds.all{K:PySem.W.Frag}{fd:FuncData}{ps:List Str}(h:∀us:List Value,us.length=ps.length->bindArgs fd ⟨us,[]⟩=pure (ps.zip us)):Binds K fd ps []:=λs us _ hl=>by
 rw[Qx1] at hl ⊢;exact .of_eq (h us hl)
def Passes(CX:Va)(X:Cx)(E:XK):Prop:=∀(pins:List (Addr×Obj)) (σ:St) (H:Hp) (s:Shared) (e:Value) (s':Shared),Inv X pins σ H s->CX X.stack H s E e s'->X.xe e s'
section
variable{X:Cx}{CX:Va}{k:Nat}{f C:Addr}{fd:FuncData}{ps:List Str}{sp:Sp}{V1:List V}{ds:List Value}{E:XK}{x m:Str}{p pos apos:Pos}{e o:Expr}{es:List Expr}{ta:TE}{t:TA}
theorem W5{pins:List (Addr×Obj)}{σ:St}{H:Hp}{s:Shared}{Q:VK}{us:List Value}{vs:List V}(F:mz X.prog X.w X.K X.mg X.base CX k f fd ps sp)(hr:iU k X.A)(hb:Binds X.K fd ps ds)(hd:Vals V1 ds)(hx:Passes CX X E)
  (I:Inv X pins σ H s) (r:Vals vs us) (h:sp (vs++V1) H Q E):wpAny (model X.prog X.w) X.A (call (.ref f) us) (EP X pins σ Q) X.xe s:=by
 have r2:Vals (vs++V1) (us++ds):=r.append hd;have hl:(us++ds).length=ps.length:=by rw[<-r2.length];exact F.len _ _ _ _ h
 refine wpAny_call (codeAny_mono (F.run X.A X.stack s H ⟨us,[]⟩ (us++ds) (vs++V1) Q E hr I.env0 (hb s us I.YT hl) r2 h) λr s' hq=>?_);cases r with
 | error e=>exact hx pins σ H s e s' I hq
 | ok fl=>
  cases fl with
  | ret u=>exact I.after hq
  | next=>exact False.elim hq
  | brk=>exact False.elim hq
  | cont=>exact False.elim hq
theorem vo(F:mz X.prog X.w X.K X.mg X.base CX k f fd ps sp)(hr:iU k X.A)(hg:Gl X x)(hm:X.mg x=some (.ref f))(hk:PySem.W.keepIn X.K (.ref f)=true)(hb:Binds X.K fd ps ds)(hd:Vals V1 ds)(hx:Passes CX X E)
  (ha:PA X (e::es) t) (hdb:mZ x:=by decide) (he:starEach (e::es) X.env=(false,eval e X.env)::starEach es X.env:=by rfl) (hpl:(backTo pos (starEach es X.env)).any (·.1)=false:=by rfl) :
  PE X (.Call (.Name x p) (e::es) [] pos) (aaR sp V1 E t):=by
 intro pins s σ H Q I h;refine wpAny_Call_Name_kw (Jf I hg hm ?_ hdb);refine PySem.W.callWith_K (h₀:=X.base) I.ok.mod.kin hk (fP (ha pos pins s σ H _ I h) λus s1 ⟨vs,H1,I1,r,q⟩=>⟨I1.YT,?_⟩) he hpl;exact W5 F hr hb hd hx I1 r q
end
structure bC(N P:List Str)(sc:Scope):Prop where
 kind:sc.kind = .function
 co:sc.isCoroutine=false
 gen:sc.isGenerator=false
 nd:N.Nodup
 pre:N.take P.length=P
 par:∀x∈P,sc.names.lookup x=some .local\/sc.names.lookup x=some .cell
 Yr:∀y∈sc.names,y.2 ≠ .free
theorem zB{kindOf:Str->Option NameKind}{x:Str}:∀{binds:List (Str×Value)} {m:Str->Option Value},(∀v,(x,v) ∉ binds)->bindL kindOf binds m x=m x
 | [],_,_=>rfl
 | (n,v)::r,m,h=>by
  unfold bindL;rw[zB λw hw=>h w (Qqj _ hw)];split
  ·have:x≠n:=by rintro rfl;exact h v Qqz
   simp[this]
  ·rfl
theorem zF{kindOf:Str->Option NameKind}{x:Str}:∀{binds:List (Str×Value)} {m:Str->Option Value},(∀v,(x,v) ∉ binds)->bindC kindOf binds m x=m x
 | [],_,_=>rfl
 | (n,v)::r,m,h=>by
  unfold bindC;rw[zF λw hw=>h w (Qqj _ hw)];split
  ·rfl
  ·have:x≠n:=by rintro rfl;exact h v Qqz
   simp[this]
theorem zE{kindOf:Str->Option NameKind}{x:Str}{v:Value}:∀{P:List Str} {vs:List Value} {i:Nat} {m:Str->Option Value},P.Nodup->P[i]? = some x->vs[i]? = some v->kindOf x=some .local->
  bindL kindOf (P.zip vs) m x=some v
 | [],_,_,_,_,h,_,_=>by simp at h
 | _::_,[],_,_,_,_,h,_=>by simp at h
 | p::P,w::vs,0,m,nd,h1,h2,hk=>by
  simp at h1 h2;subst h1;subst h2;show bindL kindOf ((p,w)::P.zip vs) m p=_;unfold bindL;rw[zB λv hv=>(Qzx.mp nd).1 (List.of_mem_zip hv).1,if_pos hk];simp
 | p::P,w::vs,i+1,m,nd,h1,h2,hk=>by
  show bindL kindOf ((p,w)::P.zip vs) m x=_;unfold bindL;exact zE (i:=i) (Qzx.mp nd).2 (by simpa using h1) (by simpa using h2) hk
theorem zG{kindOf:Str->Option NameKind}{x:Str}{v:Value}:∀{P:List Str} {vs:List Value} {i:Nat} {m:Str->Option Value},P.Nodup->P[i]? = some x->vs[i]? = some v->kindOf x≠some .local->
  bindC kindOf (P.zip vs) m x=some v
 | [],_,_,_,_,h,_,_=>by simp at h
 | _::_,[],_,_,_,_,h,_=>by simp at h
 | p::P,w::vs,0,m,nd,h1,h2,hk=>by
  simp at h1 h2;subst h1;subst h2;show bindC kindOf ((p,w)::P.zip vs) m p=_;unfold bindC;rw[zF λv hv=>(Qzx.mp nd).1 (List.of_mem_zip hv).1,if_neg hk];simp
 | p::P,w::vs,i+1,m,nd,h1,h2,hk=>by
  show bindC kindOf ((p,w)::P.zip vs) m x=_;unfold bindC;exact zG (i:=i) (Qzx.mp nd).2 (by simpa using h1) (by simpa using h2) hk
def start(N:List Str)(vs:List V):St:=vs.map some++List.replicate (N.length - vs.length) none
def Hr(CX:Va)(P:Program)(w:World)(K:PySem.W.Frag)(mg:Str->Option Value)(base:Heap)(N:List Str)(qual:Str)(scope:Scope)(f:Addr)(cd:Value)(A:Around)(outer:List Env)(s:Shared)(H:Hp)(E:XK):Cx where
 prog:=P
 w:=w
 K:=K
 mg:=mg
 base:=base
 A:=A.deeper (envOfC qual scope s.heap.objs.size f cd)
 N:=N
 s₀:=s
 H₀:=H
 env:=envOfC qual scope s.heap.objs.size f cd
 outer:=outer
 stack:=envOfC qual scope s.heap.objs.size f cd::outer
 ex:=[]
 calm:=true
 fn:=λ_=>true
 pn:=[]
 xe:=λe s'=>wpAny (model P w) (A.deeper (envOfC qual scope s.heap.objs.size f cd)) (leaving (envOfC qual scope s.heap.objs.size f cd) e) (λ_ s''=>CX outer H s E e s'') (λe' s''=>CX outer H s E e' s'') s'
theorem xV{sc:Scope}{n:Nat}{x:Str}(h:sc.names.lookup x=some .cell):∃c,(cellsFrom n sc.names []).lookup x=some c:=by have q:=PySem.W.cellsFrom_some sc.names n [] (.inl h);exact Qzq.mp q
theorem K8{CX:Va}{P:Program}{w:World}{K:PySem.W.Frag}{mg:Str->Option Value}{base:Heap}{N ps:List Str}{qual:Str}{scope:Scope}{f:Addr}{cd:Value}{A:Around}{outer:List Env}{s s1:Shared}{H:Hp}{E:XK}{us:List Value}{vs:List V}
  (S:bC N ps scope) (hd:A.handled=none) (e0:U9 P w K mg base A outer s H) (hl:vs.length=ps.length) (r:Vals vs us)
  (x:InCallC s s.heap.objs.size (bindL (envOfC qual scope s.heap.objs.size f cd).kindOf (ps.zip us) λ_=>none) (cellsFrom (s.heap.objs.size+1) scope.names []) (bindC (envOfC qual scope s.heap.objs.size f cd).kindOf (ps.zip us) λ_=>none) s1) :
  Inv (Hr CX P w K mg base N qual scope f cd A outer s H E) [] (start N vs) H s1:=by
 have hpl:ps.length<=N.length:=by have:=Qw8 List.length S.pre;rw[Qw3] at this;omega
 obtain⟨h1,tk,rfl,hk⟩:=x.done;have noA:∀b:Addr,b ∉ (Hr CX P w K mg base N qual scope f cd A outer s H E).ex:=λb z=>absurd (show b∈([]:List Addr) from z) (by simp);refine⟨⟨e0.mod,S.kind,rfl,rfl,Qq0 _,λy z c h1 h2=>?_,λy hy=>?_,λy c _ h=>?_,λ_=>hd,Around.frames_deeper e0.frames,.inr ⟨rfl,rfl⟩,λb z=>absurd z (noA b),e0.bs,e0.V4,λb _ _=>noA b,λb z=>absurd z (noA b),e0.xg,e0.frf⟩,
  rfl,e0.bare,Un.kept hk,⟨_,x.toInCall.ns,λi y v h1 h2 h3=>?_⟩,λy c h=>⟨_,x.cell y c h⟩,e0.hok.fresh (Qq0 _),λy c h=>?_,λp hp=>absurd (show p∈([]:List (Addr×Obj)) from hp) (by simp),e0.hok.kept hk,?_⟩
 ·exact name_of_addr x.apart (Qkz h1) (Qkz h2)
 ·have hy:scope.names.lookup y=some .cell\/scope.names.lookup y=some .free:=hy;rcases hy with hy|hy
  ·exact xV hy
  ·exact absurd rfl (S.Yr _ (Qkz hy))
 ·exact Qxv (x.above y c (Qkz h))
 ·have hi:i<vs.length:=by
   unfold start at h2;by_cases hi:i<vs.length
   ·exact hi
   ·rw[Qzj (by simpa using hi)] at h2;rw[Qz5] at h2;split at h2<;>cases h2
  have ha:vs[i]? = some v:=by
   unfold start at h2;rw[Qxq (by simpa using hi),Qxy] at h2;cases e:vs[i]? with
   | none=>rw[e] at h2;cases h2
   | some a=>rw[e] at h2;cases h2;rfl
  obtain⟨u,hu,rv⟩:=r.get ha;have hp:ps[i]? = some y:=by rw[<-S.pre,Qjz (by omega)];exact h1
  have ndP:ps.Nodup:=by rw[<-S.pre];exact S.nd.sublist (List.take_sublist _ _)
  refine⟨u,rv,?_⟩;rcases S.par y (Qz6 hp) with k|k
  ·exact .inl ⟨k,zE ndP hp hu k⟩
  ·obtain⟨c,e⟩:=xV (n:=s.heap.objs.size+1) k;refine .inr ⟨.inl k,c,e,?_⟩;have q:=x.cell y c e;rw[zG ndP hp hu (by show scope.names.lookup y≠_;rw[k];decide)] at q;exact q
 ·exact .inl (e0.hok.fresh (Qxv (x.above y c (Qkz h))))
 ·unfold start;show _=N.length;rw[Qqk,Qqy,Qzz];omega
theorem aci{CX:Va}{P:Program}{w:World}{K:PySem.W.Frag}{mg:Str->Option Value}{base:Heap}{k:Nat}{f:Addr}{name qual:Str}{params:Arguments}{body:List Stmt}{scope:Scope}{dV kV doc pm cdv ct oc:Value}{an od:Option Addr}
  {osl:Array (Option Value)} {N ps:List Str} {sp:Sp} (lk:K.lookup f=some ⟨oc,od,.func (PySem.W.fnOf name qual params body scope dV kV doc pm an cdv ct),osl⟩) (hcd:PySem.W.codeIn K cdv qual=true) (S:bC N ps scope)
  (len:∀vs H Q E,sp vs H Q E->vs.length=ps.length)
  (hbody:∀(A:Around) (outer:List Env) (s:Shared) (H:Hp) (vs:List V) (Q:VK) (E:XK),iU k (A.deeper (envOfC qual scope s.heap.objs.size f cdv))->sp vs H Q E->
   ∃t,BR (Hr CX P w K mg base N qual scope f cdv A outer s H E) body t/\t { nx:=λ_ H'=>Q .non H',rt:=Q } (start N vs) H) :
  mz P w K mg base CX (k+1) f (PySem.W.fnOf name qual params body scope dV kV doc pm an cdv ct) ps sp:=by
 refine⟨len,λA outer s H args us vs Q E hr e0 hb r hsp=>?_⟩;have hl:=len _ _ _ _ hsp;have KX:K.In s.heap:=e0.mod.kin.keeps λb o e=>(e0.bs b o e).1;have lim:s.heap.NoLimit:=e0.mod.nolimit.keeps λb o e=>(e0.bs b o e).1;have hkind:∀y∈ps.zip us,scope.names.lookup y.1=some .local\/(scope.names.lookup y.1=some .cell/\((cellsFrom (s.heap.objs.size+1) scope.names []).lookup y.1).isSome=true):=λ⟨n,v⟩ hy=>by
  rcases S.par n (List.of_mem_zip hy).1 with q|q
  ·exact .inl q
  ·exact .inr ⟨q,PySem.W.cellsFrom_some _ _ _ (.inl q)⟩
 refine codeAny_call_function hr.depth (KX _ _ lk) rfl S.co S.gen rfl (PySem.W.codeRec_of KX hcd) (hb _ _ _ _ ?_);refine wpAny_newFunctionEnv_cells S.kind hkind λenv he s1 x=>?_;subst he;refine⟨lim.keeps x.toInCall.keep,codeAny_func ?_⟩;obtain⟨t,ht,hq⟩:=hbody A outer s H vs Q E (hr.deeper _) hsp;have I:Inv (Hr CX P w K mg base N qual scope f cdv A outer s H E) [] (start N vs) H s1:=K8 S hr.hd e0 hl r x;refine Qz7 (ht [] s1 (start N vs) H _ I hq) (λfl s' hs=>?_) λe s' hs=>hs;have fin:∀{σ':St} {H':Hp} {v:V} {u:Value},Inv (Hr CX P w K mg base N qual scope f cdv A outer s H E) [] σ' H' s'->RelV v u->Q v H'->CE outer P w H s Q u s':=
  λ{σ' H' v u} J rv q=>⟨v,H',J.os,J.bare,J.base,J.hok,rv,q⟩
 cases fl with
 | ret u=>
  obtain⟨v,σ',H',J,rv,q⟩:=hs;exact fin J rv q
 | next=>
  obtain⟨σ',H',J,q⟩:=hs;exact fin (v:=V.non) (u:=Value.none) J rfl q
 | brk=>
  obtain⟨_,_,_,q⟩:=hs;exact False.elim q
 | cont=>
  obtain⟨_,_,_,q⟩:=hs;exact False.elim q
section
variable{X:Cx}{x:Str}{p pos:Pos}{e:Expr}{es:List Expr}{t:TA}{id T:String}{r:List V->Hp->VK->Prop}
def tCB(r:List V->Hp->VK->Prop)(t:TA):TE:=λσ H Q=>t σ H λvs H1=>r vs H1 Q
theorem O2(hc:jt X (.builtin id) r)(hg:Gl X x)(hm:X.mg x=none)(hv:bootBuiltins x=some (.builtin id))(ha:PA X (e::es) t)(hn:x ≠ "__name__":=by decide)(hdb:mZ x:=by decide)
  (he:starEach (e::es) X.env=(false,eval e X.env)::starEach es X.env:=by rfl) (hpl:(backTo pos (starEach es X.env)).any (·.1)=false:=by rfl):PE X (.Call (.Name x p) (e::es) [] pos) (tCB r t):=by
 intro pins s σ H Q I h;refine wpAny_Call_Name_kw (tR I hg hm hv ?_ hn hdb);exact PyProof.Rows.callWith_builtin1 (fP (ha pos pins s σ H _ I h) λus s1 ⟨vs,H1,I1,r1,q1⟩=>hc pins s1 σ H1 vs us Q I1 r1 q1) he hpl
theorem Kz(hc:jt X (.type T) r)(hg:Gl X x)(hm:X.mg x=none)(hv:bootBuiltins x=some (.type T))(ha:PA X (e::es) t)(hn:x ≠ "__name__":=by decide)(hdb:mZ x:=by decide)
  (he:starEach (e::es) X.env=(false,eval e X.env)::starEach es X.env:=by rfl) (hpl:(backTo pos (starEach es X.env)).any (·.1)=false:=by rfl):PE X (.Call (.Name x p) (e::es) [] pos) (tCB r t):=by
 intro pins s σ H Q I h;refine wpAny_Call_Name_kw (tR I hg hm hv ?_ hn hdb);exact Qz2 (fP (ha pos pins s σ H _ I h) λus s1 ⟨vs,H1,I1,r1,q1⟩=>hc pins s1 σ H1 vs us Q I1 r1 q1) he hpl
end
end L2
namespace HT
open PySem PyProof.Rows
section
variable{prog:Program}{w:World}{A:Around}{E:Value->Shared->Prop}{s:Shared}
theorem Uw{t b:Addr}{vs ws:List Value}{Q:Value->Shared->Prop}(ht:IsTup s.heap t vs.toArray)(hb:IsTup s.heap b ws.toArray)(hv:vs≠[])
  (h1:ws=[]->Q (.ref t) s) (h2:ws≠[]->Q (.ref s.heap.objs.size) { s with heap:=s.heap.push { cls:=.type "tuple",data:=.seq (vs++ws).toArray } })
  (hsz:vs.length+ws.length<=sizeLine):wpAny (model prog w) A (binaryOp .Add (.ref t) (.ref b)) Q E s:=by
 obtain⟨⟨cls,dd,data,sl⟩,ho,hc,n,hd⟩:=id ht;obtain⟨⟨cls2,dd2,data2,sl2⟩,ho2,hc2,n2,hd2⟩:=id hb;simp only at hc hd hc2 hd2;subst hc hd hc2 hd2;have e:vs.toArray++ws.toArray=(vs++ws).toArray:=by simp
 by_cases hw:ws=[]
 ·exact concat_meets ⟨_,ho,rfl⟩ ⟨_,ho2,rfl⟩ noFill_tuple_add seq_tuple_add PySem.F.slot_tuple_add PySem.F.entry_tuple_add (PySem.F.args_tuple_add_2 _ _)
   (tuple_addW1 t b vs.toArray ws.toArray n n2 dd dd2 sl sl2 (by simpa using hv) (by simp[hw])) ⟨ho,ho2,h1 hw⟩
 ·refine concat_meets ⟨_,ho,rfl⟩ ⟨_,ho2,rfl⟩ noFill_tuple_add seq_tuple_add PySem.F.slot_tuple_add PySem.F.entry_tuple_add (PySem.F.args_tuple_add_2 _ _)
   (tuple_addW2 t b vs.toArray ws.toArray n n2 dd dd2 sl sl2 (by simpa using hv) (by simpa using hw) (by rw[Qq4,Qq4];exact hsz)) ⟨ho,ho2,?_⟩
  rw[e];exact h2 hw
def ju(n d:Nat):Option Int->Nat
 | none=>d
 | some v=>if v<0 then (v+(n:Int)).toNat else min v.toNat n
theorem W3(n d:Nat)(hd:d<=n)(o:Option Int):ju n d o<=n:=by
 cases o with
 | none=>exact hd
 | some v=>
  show(if v<0 then (v+(n:Int)).toNat else min v.toNat n)<=n;by_cases hv:v<0
  ·rw[if_pos hv];omega
  ·rw[if_neg hv];exact Nat.min_le_right _ _
theorem JD(v:Int)(n d:Nat):(if v<0 then max (v+(n:Int)) 0 else min v (n:Int))=((ju n d (some v):Nat):Int):=by
 show(if v<0 then max (v+(n:Int)) 0 else min v (n:Int))=(((if v<0 then (v+(n:Int)).toNat else min v.toNat n):Nat):Int);by_cases hv:v<0
 ·simp only[if_pos hv];omega
 ·simp only[if_neg hv];omega
theorem Hy(lo hi:Option Int)(n:Nat):Builtin.Slice.sliceAdjust lo hi 1 (n:Int)=(((ju n 0 lo:Nat):Int),((ju n n hi:Nat):Int)):=by
 have h1:¬((1:Int)<0):=by omega
 unfold Builtin.Slice.sliceAdjust;simp only[h1,if_false];refine Prod.ext ?_ ?_
 ·cases lo with
  | none=>rfl
  | some v=>exact JD v n 0
 ·cases hi with
  | none=>rfl
  | some v=>exact JD v n n
theorem GP(i j:Nat):Builtin.Slice.slicePlaces (i:Int) (j:Int) 1=j - i:=by
 unfold Builtin.Slice.slicePlaces;have h1:(1:Int) > 0:=by omega
 simp only[h1,if_true,Int.ediv_one];split<;>omega
theorem vM{v:Value}{o:Option Int}{Q:Option Int->Shared->Prop}(p:IsPart v o)(h:Q o s):wpAny (model prog w) A (Builtin.Slice.slicePartIndex v) Q E s:=by
 cases p with
 | none=>exact slicePart_none h
 | int i t=>exact slicePart_int h
theorem sU{sl:Addr}{vl vu:Value}{lo hi:Option Int}{n:Nat}{Q:Int×Int×Nat->Shared->Prop}(hs:s.heap.IsSliceOf sl vl vu .none)(pl:IsPart vl lo)(pu:IsPart vu hi)
  (h:Q (((ju n 0 lo:Nat):Int),1,ju n n hi - ju n 0 lo) s):wpAny (model prog w) A (Builtin.Slice.sliceApplied (.ref sl) (pure (n:Int))) Q E s:=by
 obtain⟨os,hos,hcs,hds⟩:=id hs;unfold Builtin.Slice.sliceApplied Builtin.Slice.sliceFields;refine Qqx (Qqx (Qz4 hos hds (x:=vl) rfl (Qqx (Qz4 hos hds (x:=vu) rfl (Qqx (Qz4 hos hds (x:=.none) rfl (Qq6 ?_)))))));refine Qqx (slicePart_none ?_);show wpAny _ _ (if ((1:Int) == 0)=true then _ else _) _ _ s;rw[if_neg (by decide)];refine Qqx (vM pl (Qqx (vM pu (Qqx (Qq6 ?_)))));show wpAny _ _ (match Builtin.Slice.sliceAdjust lo hi 1 (n:Int) with|(lo,hi)=>pure (lo,(1:Int),Builtin.Slice.slicePlaces lo hi 1)) _ _ s;rw[Hy lo hi n];show wpAny _ _ (pure (((ju n 0 lo:Nat):Int),(1:Int),Builtin.Slice.slicePlaces ((ju n 0 lo:Nat):Int) ((ju n n hi:Nat):Int) 1)) _ _ s;rw[GP];exact Qq6 h
theorem Ou(xs:Array Value)(i k:Nat):((List.range k).filterMap λ(m:Nat)=>xs[((i:Int)+(m:Int)*1).toNat]?).toArray=((xs.toList.drop i).take k).toArray:=by
 have e:(λ(m:Nat)=>xs[((i:Int)+(m:Int)*1).toNat]?)=λm=>xs[i+m]?:=by
  funext m
  have:((i:Int)+(m:Int)*1).toNat=i+m:=by omega
  rw[this]
 rw[e];have:=pick_run xs i k;rw[List.filterMap_map] at this;have e2:((λx=>xs[x]?) ∘ λx=>i+x)=λm=>xs[i+m]?:=rfl;rw[e2] at this;rw[this]
theorem rF{t sl:Addr}{items:Array Value}{vl vu:Value}{lo hi:Option Int}{Q:Value->Shared->Prop}(ht:IsTup s.heap t items)(hs:s.heap.IsSliceOf sl vl vu .none)(pl:IsPart vl lo)(pu:IsPart vu hi)
  (hw:¬(ju items.size 0 lo=0/\ju items.size items.size hi=items.size))
  (h:Q (.ref s.heap.objs.size) { s with heap:=s.heap.push { cls:=.type "tuple",data:=.seq ((items.toList.drop (ju items.size 0 lo)).take (ju items.size items.size hi - ju items.size 0 lo)).toArray } })
  (hsz:items.size<=sizeLine):wpAny (model prog w) A (getItem (.ref t) (.ref sl)) Q E s:=by
 have Jl:sizeOk (.seq ((items.toList.drop (ju items.size 0 lo)).take (ju items.size items.size hi - ju items.size 0 lo)).toArray):=by show((items.toList.drop (ju items.size 0 lo)).take (ju items.size items.size hi - ju items.size 0 lo)).toArray.size<=sizeLine;rw[Qq4,Qw3,Qxj,Qqq];omega
 have hj:ju items.size items.size hi<=items.size:=W3 _ _ (Qq0 _) hi;obtain⟨os,hos,hcs,hds⟩:=id hs;have hTs:s.TypeIs (.ref sl) "slice":=⟨os,hos,hcs⟩;unfold getItem
 try with_reducible refine Qjq ?_
 first|refine Qqx (Qq6 ?_)|skip
 refine Qqx (wpAny_sequenceKey ht.typeIs (by decide) ?_);refine Qqx (Qjk (name:=Str.ofString "__getitem__") ht.typeIs PyProof.Rows.slot_tuple_getitem
  (Qz8 PyProof.Rows.slot_tuple_getitem ht.typeIs entry_tuple_getitem ?_ (args_tuple_getitem _ _)))
 show wpAny _ _ (Builtin.Tuple.tupleItemsOf (.ref t) >>= _) _ _ s;refine Qqx (tupleItemsOf_ ht ?_);refine Qqx (wpAny_typeOf hTs ?_);rw[if_pos (by decide)];refine Qqx (sU hs pl pu ?_);have hno:¬((((ju items.size 0 lo:Nat):Int) == 0&&(1:Int) == 1&&(ju items.size items.size hi - ju items.size 0 lo) == items.size)=true):=by intro q;rw[Qzy,Qzy] at q;have q1:((ju items.size 0 lo:Nat):Int)=0:=eq_of_beq q.1.1;have q2:ju items.size items.size hi - ju items.size 0 lo=items.size:=eq_of_beq q.2;exact hw ⟨by omega,by omega⟩
 show wpAny _ _ (if (((ju items.size 0 lo:Nat):Int) == 0&&(1:Int) == 1&&(ju items.size items.size hi - ju items.size 0 lo) == items.size)=true then _ else _) _ _ s;rw[if_neg hno,Ou]
 first
  | exact Qqx (m:=Builtin.Tuple.tupleExact _) (Qjy (Qq6 ⟨_,rfl,Qq6 h⟩) Jl)
  | exact Qqx (m:=Builtin.Tuple.tupleExact _) (Qjy (Qqx (Qq6 (Qq6 ⟨_,rfl,Qq6 h⟩))) Jl)
  | exact Qqx (Qqx (m:=Builtin.Tuple.tupleExact _) (Qjy (Qq6 (Qq6 ⟨_,rfl,Qq6 h⟩)) Jl))
  | exact Qqx (Qqx (m:=Builtin.Tuple.tupleExact _) (Qjy (Qq6 ⟨_,rfl,Qq6 h⟩) Jl))
end
end HT
namespace L2
open PySem PySem.Spec PyProof.Rows
abbrev TO:=St->Hp->(Option Int->Hp->Prop)->Prop
def PO(X:Cx)(e:Option Expr)(t:TO):Prop:=
 ∀(pins:List (Addr×Obj)) (s:Shared) (σ:St) (H:Hp) (Q:Option Int->Hp->Prop),Inv X pins σ H s->t σ H Q->
  wpAny (model X.prog X.w) X.A (evalPart e X.env) (λu s'=>∃o H',Inv X pins σ H' s'/\IsPart u o/\Q o H') X.xe s
def Rv:TO:=λ_ H Q=>Q none H
def aaM(t:TE):TO:=λσ H Q=>t σ H λx H1=>∃i,x = .int i/\Q (some i) H1
section
variable{X:Cx}{e:Expr}{te:TE}{lo hi:Option Expr}{tl th:TO}{pos p2:Pos}
theorem Sv:PO X none Rv:=by intro pins s σ H Q I h;rw[evalPart_none];exact Qq6 ⟨none,H,I,.none,h⟩
theorem Su(h:PE X e te):PO X (some e) (aaM te):=by intro pins s σ H Q I hw;rw[evalPart_some];refine fP (h pins s σ H _ I hw) λu s1 ⟨x,H1,I1,r1,q1⟩=>?_;obtain⟨i,rfl,q⟩:=q1;obtain⟨t,rfl⟩:=r1;exact⟨some i,H1,I1,.int i t,q⟩
def Wb(X:Cx)(r:V->Option Int->Option Int->Hp->VK->Prop):Prop:=
 ∀(pins:List (Addr×Obj)) (s:Shared) (σ:St) (H:Hp) (x:V) (v vl vu:Value) (lo hi:Option Int) (sl:Addr) (Q:VK),Inv X pins σ H s->RelV x v->s.heap.IsSliceOf sl vl vu .none->IsPart vl lo->IsPart vu hi->r x lo hi H Q->
  ∃T id,typeLookup (.type T) "__getitem__" = pure (some (.builtin id))/\s.TypeIs v T/\wpAny (model X.prog X.w) X.A (getItem v (.ref sl)) (EP X pins σ Q) X.xe s
theorem Wb.or{r r':V->Option Int->Option Int->Hp->VK->Prop}(h:Wb X r)(h':Wb X r'):Wb X (λx lo hi H Q=>r x lo hi H Q\/r' x lo hi H Q):=by
 intro pins s σ H x v vl vu lo hi sl Q I rx hs pl pu q;rcases q with q|q
 ·exact h pins s σ H x v vl vu lo hi sl Q I rx hs pl pu q
 ·exact h' pins s σ H x v vl vu lo hi sl Q I rx hs pl pu q
def tSl(r:V->Option Int->Option Int->Hp->VK->Prop)(te:TE)(tl th:TO):TE:=λσ H Q=>te σ H λx H1=>tl σ H1 λl H2=>th σ H2 λu H3=>r x l u H3 Q
theorem Ow{r:V->Option Int->Option Int->Hp->VK->Prop}(hr:Wb X r)(he:PE X e te)(hl:PO X lo tl)(hu:PO X hi th):PE X (.Subscript e (.Slice lo hi none p2) pos) (tSl r te tl th):=by intro pins s σ H Q I h;refine Subscript_ (fP (he pins s σ H _ I h) λv s1 ⟨x,H1,I1,r1,q1⟩=>?_);refine wpAny_Slice (fP (hl pins s1 σ H1 _ I1 q1) λvl s2 ⟨l,H2,I2,pl,q2⟩=>fP (hu pins s2 σ H2 _ I2 q2) λvu s3 ⟨u,H3,I3,pu,q3⟩=>?_);rw[evalPart_none];refine Qq6 ?_;have I4:Inv X pins σ H3 { s3 with heap:=s3.heap.push { cls:=.type "slice",data:=.fields #[vl,vu,.none] } }:=I3.kept (t':=s3.toks) λb ob q=>Qqw _ q;obtain⟨T,id,hT,ht,hg⟩:=hr pins { s3 with heap:=s3.heap.push { cls:=.type "slice",data:=.fields #[vl,vu,.none] } } σ H3 x v vl vu l u s3.heap.objs.size Q I4 r1 (Heap.IsSliceOf.new ..) pl pu q3;show wpAny (model X.prog X.w) X.A (subscriptTail e (.Slice lo hi none p2) v (.ref s3.heap.objs.size)) (EP X pins σ Q) X.xe { s3 with heap:=s3.heap.push { cls:=.type "slice",data:=.fields #[vl,vu,.none] } };exact tail_any (ops:=[.ref s3.heap.objs.size,v]) ht hT hg (by with_unfolding_all rfl)
def xR(xs:List V)(lo hi:Option Int):List V:=(xs.drop (HT.ju xs.length 0 lo)).take (HT.ju xs.length xs.length hi - HT.ju xs.length 0 lo)
theorem uD(xs:List V)(lo hi:Option Int):(xR xs lo hi).length<=xs.length:=by unfold xR;rw[Qw3,Qxj];omega
def aa5(K:PySem.W.Frag):V->Option Int->Option Int->Hp->VK->Prop:=λx lo hi H Q=>∃a xs,x = .ref a/\j8 K H a xs/\
 ¬(HT.ju xs.length 0 lo=0/\HT.ju xs.length xs.length hi=xs.length)/\∀p,H p=none->Q (.ref p) (upd H p (.tup (xR xs lo hi)))
theorem WW:Wb X (aa5 X.K):=by
 intro pins s σ H x v vl vu lo hi sl Q I rx hs pl pu h;obtain⟨a,xs,rfl,hx,hw,q⟩:=h;cases rx;obtain⟨its,r,ht,hz⟩:=I.tuple hx;have hlen:its.toArray.size=xs.length:=by rw[Qq4];exact r.length.symm
 refine⟨"tuple",_,PyProof.Rows.slot_tuple_getitem.lookup,ht.typeIs,?_⟩;refine HT.rF ht hs pl pu (by rw[hlen];exact hw) ?_ (by rw[hlen];exact hz);rw[hlen];refine⟨.ref s.heap.objs.size,_,I.laid (t':=s.toks) (o:=.tup (xR xs lo hi)) (λb ob q=>Qqw _ q) (Qq0 _) ?_,rfl,q _ (I.hok.fresh (Qq0 _))⟩;exact⟨Qq3 (uD xs lo hi) hz,_,(r.drop (HT.ju xs.length 0 lo)).take (HT.ju xs.length xs.length hi - HT.ju xs.length 0 lo),yH.new _ _⟩
def Vs(K:PySem.W.Frag):R2:=λx y H Q=>∃a b xs ys,x = .ref a/\y = .ref b/\j8 K H a xs/\j8 K H b ys/\xs≠[]/\xs.length+ys.length<=sizeLine/\
 (ys=[]->Q (.ref a) H)/\(ys≠[]->∀p,H p=none->Q (.ref p) (upd H p (.tup (xs++ys))))
theorem Vals.Av{xs:List V}{us:List Value}(r:Vals xs us):us=[]↔xs=[]:=by
 cases r with
 | nil=>simp
 | cons _ _=>simp
theorem Tg:mD X (binaryOp .Add) (Vs X.K):=by intro pins s σ H x y v u Q I rx ry h;obtain⟨a,b,xs,ys,rfl,rfl,ha,hb,hx,hz,q1,q2⟩:=h;cases rx;cases ry;obtain⟨its,r1,p1,_⟩:=I.tuple ha;obtain⟨its2,r2,p2,_⟩:=I.tuple hb;refine HT.Uw p1 p2 (λz=>hx (r1.Av.mp z)) (λz=>⟨.ref a,H,I,rfl,q1 (r2.Av.mp z)⟩) (λz=>?_) (by rw[<-r1.length,<-r2.length];exact hz);refine⟨.ref s.heap.objs.size,_,I.laid (t':=s.toks) (o:=.tup (xs++ys)) (λb ob q=>Qqw _ q) (Qq0 _) ?_,rfl,q2 (λw=>z (r2.Av.mpr w)) _ (I.hok.fresh (Qq0 _))⟩;exact⟨by rw[Qqk];exact hz,_,r1.append r2,yH.new _ _⟩
end
def T7(n:Nat)(i:Int):Option Nat:=if 0<=i then (if i<n then some i.toNat else none) else if -(n:Int)<=i then some (i+n).toNat else none
def qF{α:Type}(xs:List α)(i:Int):Option α:=(T7 xs.length i).bind λj=>xs[j]?
theorem Jj{n:Nat}{i:Int}{j:Nat}(h:T7 n i=some j):seqIndex? i n=some j/\j<n/\-(n:Int)<=i/\i<n:=by
 unfold T7 at h;by_cases h0:0<=i
 ·rw[if_pos h0] at h;by_cases h1:i<n
  ·rw[if_pos h1] at h;have e:i.toNat=j:=Qw4 h;exact⟨by rw[seqIndex_of h0 h1,e],by omega,by omega,h1⟩
  ·rw[if_neg h1] at h;cases h
 ·rw[if_neg h0] at h;by_cases h1 : -(n:Int)<=i
  ·rw[if_pos h1] at h;have e:(i+n).toNat=j:=Qw4 h;exact⟨by rw[seqIndex_neg (by omega) h1,e],by omega,h1,by omega⟩
  ·rw[if_neg h1] at h;cases h
theorem Bx{α:Type}{xs:List α}{i:Int}{v:α}(h:qF xs i=some v):∃j,seqIndex? i xs.length=some j/\xs[j]? = some v/\j<xs.length/\-(xs.length:Int)<=i/\i<xs.length:=by
 unfold qF at h;cases e:T7 xs.length i with
 | none=>rw[e] at h;cases h
 | some j=>
  rw[e] at h;obtain⟨h1,h2,h3,h4⟩:=Jj e;exact⟨j,h1,h,h2,h3,h4⟩
theorem nR{α:Type}{xs:List α}{j:Nat}{v:α}(h:xs[j]? = some v):qF xs (j:Int)=some v:=by
 have hj:j<xs.length:=(Qq5.mp h).1;have e:T7 xs.length (j:Int)=some j:=by unfold T7;rw[if_pos (by omega),if_pos (by omega)];simp
 unfold qF;rw[e];exact h
def rY(b:Expr):Prop:=∀o i,subscripted b false o i=operate [o,i] (getItem o i)
def U8(X:Cx)(r:R2):Prop:=
 ∀(value slice:Expr) (pins:List (Addr×Obj)) (s:Shared) (σ:St) (H:Hp) (x y:V) (v u:Value) (Q:VK),Inv X pins σ H s->RelV x v->RelV y u->r x y H Q->
  subscripted slice false v u=operate [v,u] (getItem v u)->wpAny (model X.prog X.w) X.A (subscriptTail value slice v u) (EP X pins σ Q) X.xe s
def MtR(X:Cx)(id:String)(r:V->List V->Hp->VK->Prop):Prop:=
 ∀(pins:List (Addr×Obj)) (s:Shared) (σ:St) (H:Hp) (x:V) (xs:List V) (v:Value) (us:List Value) (Q:VK),Inv X pins σ H s->RelV x v->Vals xs us->r x xs H Q->
  wpAny (model X.prog X.w) X.A (call (.builtin id) (v::us)) (EP X pins σ Q) X.xe s
section
variable{X:Cx}{a b:Expr}{ta tb:TE}{pos:Pos}
theorem U8.or{r r':R2}(h:U8 X r)(h':U8 X r'):U8 X (λx y H Q=>r x y H Q\/r' x y H Q):=by
 intro value slice pins s σ H x y v u Q I rx ry q hs;rcases q with q|q
 ·exact h value slice pins s σ H x y v u Q I rx ry q hs
 ·exact h' value slice pins s σ H x y v u Q I rx ry q hs
theorem Vx{r:R2}(hr:U8 X r)(ha:PE X a ta)(hb:PE X b tb)(hs:rY b):PE X (.Subscript a b pos) (Ru r ta tb):=by intro pins s σ H Q I h;exact Subscript_ (ZV ha hb I h λv u s2 x y H2 I2 rx ry q=>hr a b pins s2 σ H2 x y v u Q I2 rx ry q (hs _ _))
def abe(K:PySem.W.Frag):R2:=λx y H Q=>∃p xs i v,x = .ref p/\y = .int i/\mV K H p xs/\qF xs i=some v/\Q v H
def abb(K:PySem.W.Frag):R2:=λx y H Q=>∃p xs i v,x = .ref p/\y = .int i/\j8 K H p xs/\qF xs i=some v/\Q v H
def abd:R2:=λx y H Q=>∃z i c,x = .str z/\y = .int i/\z.length<=sizeLine/\qF z.cps.toList i=some c/\Q (.str ⟨#[c]⟩) H
theorem T6:U8 X (abe X.K):=by
 intro value slice pins s σ H x y v u Q I rx ry h hs;obtain⟨p,xs,i,z,rfl,rfl,hq,he,q⟩:=h;cases rx;obtain⟨t,rfl⟩:=ry;obtain⟨its,r,pl,hz⟩:=I.list hq;obtain⟨j,h1,h2,h3,h4,h5⟩:=Bx he;obtain⟨w,ew,Gx⟩:=r.get h2;have hl:=r.length;have hn:=wJ;have fin:EP X pins σ Q w s:=⟨z,H,I,Gx,q⟩;by_cases h0:0<=i
 ·have hj:i.toNat=j:=by
   rw[seqIndex_of h0 h5] at h1;exact Qw4 h1
  exact item_listR pl.isList h0 (by omega) (by rw[hj];simpa using ew) fin hs
 ·have hj:(i+(its.toArray.size:Int)).toNat=j:=by
   rw[seqIndex_neg (by omega) h4] at h1;rw[Qq4,<-hl];exact Qw4 h1
  exact subscriptTail_builtinR (x:=w) pl.isList.typeIs slot_list_getitem.lookup
   (wpAny_getItem_list_neg (Q:=λr s'=>r=w/\EP X pins σ Q r s') pl.isList (by omega) (by rw[Qq4]<;>omega) (by omega) (by rw[hj];simpa using ew) ⟨rfl,fin⟩) hs
theorem YW:U8 X (abb X.K):=by
 intro value slice pins s σ H x y v u Q I rx ry h hs;obtain⟨p,xs,i,z,rfl,rfl,hq,he,q⟩:=h;cases rx;obtain⟨t,rfl⟩:=ry;obtain⟨its,r,pl,hz⟩:=I.tuple hq;obtain⟨j,h1,h2,h3,h4,h5⟩:=Bx he;obtain⟨w,ew,Gx⟩:=r.get h2;have hl:=r.length;have hn:=wJ;have fin:EP X pins σ Q w s:=⟨z,H,I,Gx,q⟩;exact subscriptTail_builtinR (x:=w) pl.typeIs slot_tuple_getitem.lookup
  (getItem_tuple (j:=j) (Q:=λr s'=>r=w/\EP X pins σ Q r s') pl (by omega) (by omega) (by rw[Qq4,<-hl];exact h1) (by simpa using ew) ⟨rfl,fin⟩) hs
theorem YX:U8 X abd:=by
 intro value slice pins s σ H x y v u Q I rx ry h hs;obtain⟨z,i,c,rfl,rfl,hz,he,q⟩:=h;obtain⟨t,rfl⟩:=rx;obtain⟨t',rfl⟩:=ry;obtain⟨j,h1,h2,h3,h4,h5⟩:=Bx he;have hl:z.cps.toList.length=z.length:=by simp[Str.length]
 rw[hl] at h1 h4 h5;have hn:=wJ;exact tail_any (typeIs_str s z t) slot_str_getitem.lookup (getItem_str (c:=c) (by
  have e1:decide (i < -(2^63:Int))=false:=Qq9 (by omega);have e2:decide (i ≥ 2^63)=false:=Qq9 (by omega);rw[e1,e2,Bool.or_false]) (by rw[h1];simpa using h2) ⟨.str ⟨#[c]⟩,H,I.tok _,⟨_,rfl⟩,q⟩) hs
def rIx(K:PySem.W.Frag):R2:=λx y H Q=>abe K x y H Q\/abb K x y H Q\/abd x y H Q
theorem Qf:U8 X (rIx X.K):=T6.or (YW.or YX)
theorem G7(its:List Value)(n j:Nat)(u:Value):Obj.mapSeq (·.setIfInBounds j u) { cls:=.type "list",data:=.seq its.toArray n } = { cls:=.type "list",data:=.seq (its.set j u).toArray n }:=by simp[Obj.mapSeq]
theorem Inv.lst{pins:List (Addr×Obj)}{σ:St}{H:Hp}{s:Shared}{p:Addr}{xs:List V}(I:Inv X pins σ H s)(h:H p=some (.lst xs)) :
  ∃(its:List Value) (n:Nat),Vals xs its/\s.heap.get? p=some { cls:=.type "list",data:=.seq its.toArray n }/\xs.length<=sizeLine:=by
 obtain⟨z,its,n,r,e⟩:=I.hok p _ h;exact⟨its,n,r,e,z⟩
theorem Inv.YJ{pins:List (Addr×Obj)}{σ:St}{H:Hp}{s:Shared}{p:Addr}{xs ys:List V}{its its':List Value}{n n':Nat}{f:Obj->Obj}(I:Inv X pins σ H s)(h:H p=some (.lst xs))
  (ho:s.heap.get? p=some { cls:=.type "list",data:=.seq its.toArray n }) (hf:f { cls:=.type "list",data:=.seq its.toArray n } = { cls:=.type "list",data:=.seq its'.toArray n' }) (r:Vals ys its') (hz:ys.length<=sizeLine) (t:Nat) :
  Inv X pins σ (upd H p (.lst ys)) { s with heap:=s.heap.update p f,toks:=t }:=by
 have e:(s.heap.update p f).get? p=some { cls:=.type "list",data:=.seq its'.toArray n' }:=by rw[Heap.get?_update_self f ho (by rw[hf]<;>rfl),hf]
 refine I.write (x:=p) (e:=p) (by rw[h];trivial) (.inl rfl) (λb u hb q=>(Heap.get?_update_other _ _ (Ne.symm hb)).trans q) ⟨_,e⟩ ?_;exact⟨hz,its',n',r,e⟩
def aa7:V->V->V->Hp->(Hp->Prop)->Prop:=λo i v H Q=>∃p xs k j,o = .ref p/\i = .int k/\H p=some (.lst xs)/\T7 xs.length k=some j/\Q (upd H p (.lst (xs.set j v)))
theorem set_list:acD X aa7:=by
 intro pins s σ H o i v ov iv u Q I ro ri rv h;obtain⟨p,xs,k,j,rfl,rfl,hp,hj,q⟩:=h;cases ro;obtain⟨t,rfl⟩:=ri;obtain⟨its,n,r,ho,hz⟩:=I.lst hp;obtain⟨h1,h2,h3,h4⟩:=Jj hj;have hl:=r.length;have hn:=wJ;have I':Inv X pins σ (upd H p (.lst (xs.set j v))) { s with heap:=s.heap.update p (Obj.mapSeq (·.setIfInBounds j u)) }:=
  I.YJ hp ho (G7 its n j u) (r.set rv j) (by rw[Qx7];exact hz) s.toks
 by_cases h0:0<=k
 ·have hk:k.toNat=j:=by
   rw[seqIndex_of h0 h4] at h1;exact Qw4 h1
  exact PySem.W.ki_setAt ho h0 (by omega) (by rw[Qq4,<-hl];exact h4) (by rw[hk];exact⟨_,I',q⟩)
 ·have hk:(k+(its.toArray.size:Int)).toNat=j:=by
   rw[seqIndex_neg (by omega) h3] at h1;rw[Qq4,<-hl];exact Qw4 h1
  exact PySem.W.ki_setBack ho (by omega) (by rw[Qq4,<-hl];exact h3) (by omega) (by rw[hk];exact⟨_,I',q⟩)
theorem zZ(lo hi:Option Int)(n:Nat):(sliceBounds lo hi none n).1=((HT.ju n 0 lo:Nat):Int)/\(sliceBounds lo hi none n).2.1=((HT.ju n n hi:Nat):Int)/\(sliceBounds lo hi none n).2.2=1:=by
 refine⟨?_,?_,rfl⟩
 ·cases lo with
  | none=>simp[sliceBounds,HT.ju]
  | some i=>
   simp only[sliceBounds,HT.ju,Option.getD_none,show(1:Int) > 0 by decide,if_true];by_cases h:i<0
   ·simp only[h,if_true]<;>omega
   ·simp only[h,if_false]<;>omega
 ·cases hi with
  | none=>simp[sliceBounds,HT.ju]
  | some i=>
   simp only[sliceBounds,HT.ju,Option.getD_none,show(1:Int) > 0 by decide,if_true];by_cases h:i<0
   ·simp only[h,if_true]<;>omega
   ·simp only[h,if_false]<;>omega
theorem yr(its:List Value)(lo hi:Option Int):slicePick its.toArray lo hi none=((its.drop (HT.ju its.length 0 lo)).take (HT.ju its.length its.length hi - HT.ju its.length 0 lo)).toArray:=by obtain⟨h1,h2,h3⟩:=zZ lo hi its.toArray.size;unfold slicePick;rw[h1,h2,h3];simp only[sliceRange_one,pick_run,Qq4]<;>rfl
def aa6(K:PySem.W.Frag):V->Option Int->Option Int->Hp->VK->Prop:=λx lo hi H Q=>∃a xs,x = .ref a/\mV K H a xs/\∀p,H p=none->Q (.ref p) (upd H p (.lst (xR xs lo hi)))
theorem Ry:Wb X (aa6 X.K):=by intro pins s σ H x v vl vu lo hi sl Q I rx hs pl pu h;obtain⟨a,xs,rfl,hx,q⟩:=h;cases rx;obtain⟨its,r,ht,hz⟩:=I.list hx;have hlen:=r.length;refine⟨"list",_,slot_list_getitem.lookup,ht.isList.typeIs,?_⟩;refine wpAny_getItem_list_slice ht.isList hs pl pu .none (by simp) ?_ (by rw[Qq4]<;>omega);rw[yr,<-hlen];refine⟨.ref s.heap.objs.size,_,I.laid (t':=s.toks) (o:=.lst (xR xs lo hi)) (λb ob q=>Qqw _ q) (Qq0 _) ?_,rfl,q _ (I.hok.fresh (Qq0 _))⟩;exact⟨Qq3 (uD xs lo hi) hz,_,0,(r.drop (HT.ju xs.length 0 lo)).take (HT.ju xs.length xs.length hi - HT.ju xs.length 0 lo),Qw1 _ rfl⟩
theorem jt.or{f:Value}{r r':List V->Hp->VK->Prop}(h:jt X f r)(h':jt X f r'):jt X f (λxs H Q=>r xs H Q\/r' xs H Q):=by
 intro pins s σ H xs us Q I rs q;rcases q with q|q
 ·exact h pins s σ H xs us Q I rs q
 ·exact h' pins s σ H xs us Q I rs q
theorem Bt:jt X (.type "list") (λxs H Q=>∃p ys,xs=[.ref p]/\(mV X.K H p ys\/j8 X.K H p ys)/\∀l,H l=none->Q (.ref l) (upd H l (.lst ys))):=by
 intro pins s σ H xs us Q I r h;obtain⟨p,ys,rfl,hq,q⟩:=h;obtain⟨u,rfl,rx⟩:=vals1 r;cases rx;have fin:∀(its:List Value),Vals ys its->ys.length<=sizeLine->∀(h':Heap) (c':Nat),(∀b o',s.heap.get? b=some o'->h'.get? b=some o')->
   h'.get? s.heap.objs.size=some { cls:=.type "list",dict:=none,data:=.seq its.toArray c',slots:=#[] }->EP X pins σ Q (.ref s.heap.objs.size) { s with heap:=h' }:=λits r' hz h' c' kp e=>
  ⟨.ref s.heap.objs.size,_,I.laid (t':=s.toks) kp (Qq0 _) (show fY X.prog X.w _ h' _ (.lst ys) from⟨hz,its,c',r',e⟩),rfl,q _ (I.hok.fresh (Qq0 _))⟩
 rcases hq with hq|hq
 ·obtain⟨its,r',pl,hz⟩:=I.list hq;have hlen:=r'.length;obtain⟨o,ho,hc,n,hd⟩:=pl.isList;exact call_list_seq p (.inl rfl) ho hc hd (λh' c' kp e=>fin its r' hz h' c' kp e) (by simp only[Qq4]<;>omega)
 ·obtain⟨its,r',pl,hz⟩:=I.tuple hq;have hlen:=r'.length;obtain⟨o,ho,hc,n,hd⟩:=pl;exact call_list_seq p (.inr rfl) ho hc hd (λh' c' kp e=>fin its r' hz h' c' kp e) (by simp only[Qq4]<;>omega)
theorem yG:jt X (.type "tuple") (λxs H Q=>∃p ys,xs=[.ref p]/\((mV X.K H p ys/\∀l,H l=none->Q (.ref l) (upd H l (.tup ys)))\/(j8 X.K H p ys/\Q (.ref p) H))):=by
 intro pins s σ H xs us Q I r h;obtain⟨p,ys,rfl,h⟩:=h;obtain⟨u,rfl,rx⟩:=vals1 r;cases rx;rcases h with ⟨hq,q⟩|⟨hq,q⟩
 ·obtain⟨its,r',pl,hz⟩:=I.list hq;have hlen:=r'.length;refine call_tuple_list pl.isList (λh' kp=>?_) (by simp only[Qq4]<;>omega);have I1:Inv X pins σ H { s with heap:=h' }:=I.kept (t':=s.toks) kp;have I2:Inv X pins σ (upd H h'.objs.size (.tup ys)) { s with heap:=h'.push { cls:=.type "tuple",data:=.seq its.toArray } }:=
   I1.laid (t':=s.toks) (λb o e=>Qqw _ e) (Qq0 _) (show fY X.prog X.w _ _ _ (.tup ys) from⟨hz,its,r',yH.new _ _⟩)
  exact⟨.ref h'.objs.size,_,I2,rfl,q _ (I1.hok.fresh (Qq0 _))⟩
 ·obtain⟨its,r',pl,hz⟩:=I.tuple hq;exact call_tuple_same pl ⟨.ref p,H,I,rfl,q⟩
def tyV(K:PySem.W.Frag)(T:String)(x:V)(H:Hp):Prop:=match x with
 | .str _=>T = "str"
 | .int _=>T = "int"
 | .ref p=>(T = "list"/\∃xs,mV K H p xs)\/(T = "tuple"/\∃o,K.lookup p=some o/\o.cls = .type "tuple"/\o.dict=none)\/
   (T = "dict"/\((∃kvs,H p=some (.dK kvs))\/∃kvs,H p=some (.dT kvs)))\/(T = "set"/\∃S n,H p=some (.set S n))
 | _=>False
theorem Wt{pins:List (Addr×Obj)}{σ:St}{H:Hp}{s:Shared}{T:String}{x:V}{v:Value}(I:Inv X pins σ H s)(r:RelV x v)(ty:tyV X.K T x H) :
  s.TypeIs v T/\∀a,v = .ref a->∃ob,s.heap.get? a=some ob/\ob.dict=none:=by
 cases x with
 | str z=>
  obtain⟨t,rfl⟩:=r;cases(show T = "str" from ty);exact⟨typeIs_str s z t,λ_ e=>nomatch e⟩
 | int i=>
  obtain⟨t,rfl⟩:=r;cases(show T = "int" from ty);exact⟨typeIs_int s i t,λ_ e=>nomatch e⟩
 | ref p=>
  cases r;rcases ty with ⟨rfl,xs,hq⟩|⟨rfl,o,hk,hc,hd⟩|⟨rfl,hk⟩|⟨rfl,S,n,hk⟩
  ·obtain⟨its,_,pl,_⟩:=I.list hq;refine⟨pl.isList.typeIs,λa e=>?_⟩;cases e;obtain⟨o,n,e,c,hd,_⟩:=pl;exact⟨o,e,hd⟩
  ·refine⟨⟨o,I.YT p o hk,hc⟩,λa e=>?_⟩;cases e;exact⟨o,I.YT _ o hk,hd⟩
  ·have z:∃o,s.heap.get? p=some o/\o.ExactDict:=by
    rcases hk with ⟨kvs,hk⟩|⟨kvs,hk⟩
    ·obtain⟨_,_,_,_,o,_,_,e,ex,_⟩:=I.hok p _ hk;exact⟨o,e,ex⟩
    ·obtain⟨_,_,_,_,o,_,_,e,ex,_⟩:=I.hok p _ hk;exact⟨o,e,ex⟩
   obtain⟨o,e,ex⟩:=z;refine⟨⟨o,e,ex.1⟩,λa e2=>?_⟩;cases e2;exact⟨o,e,ex.2.1⟩
  ·obtain⟨o,_,_,_,e,ex,_⟩:=I.hok p _ hk;refine⟨⟨o,e,ex.1⟩,λa e2=>?_⟩;cases e2;exact⟨o,e,ex.2.1⟩
 | _=>exact False.elim ty
def tBM(K:PySem.W.Frag)(T:String)(r:V->List V->Hp->VK->Prop)(to:TE)(t:TA):TE:=λσ H Q=>to σ H λx H1=>tyV K T x H1/\t σ H1 λxs H2=>r x xs H2 Q
variable{o e:Expr}{es:List Expr}{to:TE}{t:TA}{name:Str}{apos cpos:Pos}{T id:String}{r:V->List V->Hp->VK->Prop}
theorem Vy(pa:PlainAttrs T)(slot:Slot T name id)(hty:typeOf (.builtin id)=pure (.type "method_descriptor"))(hm:MtR X id r)(ho:PE X o to)(ha:PA X (e::es) t)
  (hbase:attributeBase o name X.env (eval o X.env)=eval o X.env:=by rfl)
  (hfew:((backTo cpos (starEach (e::es) X.env)).all (λx=>!x.1)&&(backToKw cpos (keywordEach [] X.env)).all (λx=>x.1.isSome)
   && decide ((e::es).length+([]:List Keyword).length+(if ([]:List Keyword).isEmpty then 0 else 1)<30))=true:=by rfl)
  (hline:(apos.endLine == cpos.line)=true:=by rfl) (hs:starEach (e::es) X.env=(false,eval e X.env)::starEach es X.env:=by rfl) (hplain:(backTo cpos (starEach es X.env)).any (·.1)=false:=by rfl) :
  PE X (.Call (.Attribute o name apos) (e::es) [] cpos) (tBM X.K T r to t):=by
 intro pins s σ H Q I h;refine wpAny_Call_method_late hbase hfew hline rfl (fP (ho pins s σ H _ I h) λv s1 ⟨x,H1,I1,r1,ty,q1⟩=>?_);obtain⟨h1,h2⟩:=Wt I1 r1 ty;refine⟨T,id,pa,slot,hty,h1,h2,?_⟩;have hA:=ha cpos pins s1 σ H1 _ I1 q1;rw[hs] at hA ⊢;refine Calls.callWith_builtin (by show(false||(backTo cpos (starEach es X.env)).any (·.1))=false;rw[hplain]<;>rfl) (Calls.evalArgs_plain ?_);exact fP hA λus s2 ⟨vs,H2,I2,r2,q2⟩=>hm pins s2 σ H2 x vs v us Q I2 r1 r2 q2
end
def MtM(X:Cx)(id:String)(r:V->List V->Hp->VK->Prop):Prop:=
 ∀(pins:List (Addr×Obj)) (s:Shared) (σ:St) (H:Hp) (x:V) (xs:List V) (v:Value) (us:List Value) (Q:VK),Inv X pins σ H s->RelV x v->Vals xs us->r x xs H Q->
  wpAny (model X.prog X.w) X.A (call (.builtin id) (v::us)) (EP X pins σ Q) X.xe s
theorem Vals.one:∀{x:V} {us:List Value},Vals [x] us->∃u,us=[u]/\RelV x u
 | _,_,.cons r .nil=>⟨_,rfl,r⟩
theorem Vals.two:∀{x y:V} {us:List Value},Vals [x,y] us->∃u v,us=[u,v]/\RelV x u/\RelV y v
 | _,_,_,.cons r (.cons q .nil)=>⟨_,_,rfl,r,q⟩
section
variable{X:Cx}{pins:List (Addr×Obj)}{σ:St}{H:Hp}{s:Shared}{l b:Addr}{xs ys zs:List V}
theorem Inv.adR{its its':List Value}{n:Nat}{f:Array Value->Array Value}{t':Nat}(I:Inv X pins σ H s)(hH:H l=some (.lst xs))
  (e:s.heap.get? l=some { cls:=.type "list",data:=.seq its.toArray n }) (hf:f its.toArray=its'.toArray) (hv:Vals ys its') (hz:ys.length<=sizeLine) :
  Inv X pins σ (upd H l (.lst ys)) { s with heap:=s.heap.update l (Obj.mapSeq f),toks:=t' }:=by
 have q:=PySem.IsL.update e f;rw[hf] at q;refine I.write (x:=l) (e:=l) (by rw[hH];exact trivial) (.inl rfl) (λb' u hb hu=>(Heap.get?_update_other s.heap (Obj.mapSeq f) (Ne.symm hb)).trans hu) ⟨_,q⟩ ?_;exact⟨hz,its',_,hv,q⟩
theorem Inv.abT{its:List Value}{t':Nat}(I:Inv X pins σ H s)(hv:Vals ys its)(hz:ys.length<=sizeLine) :
  Inv X pins σ (upd H s.heap.objs.size (.lst ys)) { s with heap:=s.heap.push { cls:=.type "list",data:=.seq its.toArray },toks:=t' }:=
 I.laid (λ_ _ q=>Qqw _ q) (Qq0 _) ⟨hz,its,0,hv,Qw1 _ rfl⟩
theorem Inv.fresh(I:Inv X pins σ H s):H s.heap.objs.size=none:=I.hok.fresh (Qq0 _)
theorem Inv.YK(I:Inv X pins σ H s)(hH:H l=some (.lst xs)):xs.length<=sizeLine/\∃(its:List Value) (n:Nat),Vals xs its/\xs.length=its.length/\s.heap.get? l=some { cls:=.type "list",data:=.seq its.toArray n }:=by obtain⟨z,its,n,r,e⟩:=I.hok l _ hH;exact⟨z,its,n,r,r.length,e⟩
theorem abJ{n:Nat}(h:n<=sizeLine):Builtin.List.listTooLong n=false:=by unfold Builtin.List.listTooLong;exact Qq9 (by omega)
end
section
variable{X:Cx}{prog:Program}{w:World}{A:Around}{E:Value->Shared->Prop}{s:Shared}
def RT:V->List V->Hp->VK->Prop:=λx vs H Q=>∃l xs y,x = .ref l/\vs=[y]/\H l=some (.lst xs)/\xs.length<sizeLine/\Q .non (upd H l (.lst (xs++[y])))
theorem zg:MtM X "list.append" RT:=by intro pins s σ H x vs v us Q I rx rv h;obtain⟨l,xs,y,rfl,rfl,hH,hz,q⟩:=h;cases rx;obtain⟨u,rfl,ru⟩:=rv.one;obtain⟨z,its,n,r,hl,e⟩:=I.YK hH;refine call_meets F.slot_list_append ⟨_,e,rfl⟩ F.entry_list_append (F.args_list_append_2 _ _) (PySem.list_append l its.toArray n u (by rw[Qq4];omega)) ⟨e,?_⟩;refine⟨.non,_,I.adR (its':=its++[u]) hH e (by simp) (r.append (.cons ru .nil)) ?_,rfl,q⟩;rw[Qqk,Qwk];omega
def abj:R2:=λx y H Q=>∃l b xs zs,x = .ref l/\y = .ref b/\H l=some (.lst xs)/\H b=some (.lst zs)/\xs.length+zs.length<=sizeLine/\∀p,H p=none->Q (.ref p) (upd H p (.lst (xs++zs)))
theorem X4:mD X (binaryOp .Add) abj:=by
 intro pins s σ H x y v u Q I rx ry h;obtain⟨l,b,xs,zs,rfl,rfl,hH,hB,hz,q⟩:=h;cases rx;cases ry;obtain⟨z,its,n,r,hl,e⟩:=I.YK hH;obtain⟨z2,its2,n2,r2,hl2,e2⟩:=I.YK hB;refine PySem.P.add_list e e2 ?_ (by rw[Qq4,Qq4];omega);have ea:its.toArray++its2.toArray=(its++its2).toArray:=by simp
 rw[ea];exact⟨.ref _,_,I.abT (t':=s.toks) (r.append r2) (by rw[Qqk];omega),rfl,q _ I.fresh⟩
set_option maxRecDepth 100000 in
end
end L2
namespace Att
open PySem PySem.W PySem.Calls PyProof.Rows
theorem uV{P:Params}{h:Heap}:∀(ns:List Int) (vs:List Value),WellAll P h vs (ns.map WData.int)->IntsAre vs ns:=by
 intro ns
 induction ns with
 | nil=>
  intro vs w;rw[List.map_nil] at w;cases w;exact .nil
 | cons n ns ih=>
  intro vs w;rw[Qwx] at w;cases w with
  | cons a b=>
   cases a;exact .cons _ _ (ih _ b)
theorem Ke{l:OpenLaw}{n:Nat}(hn:l.most=some n){P:Params}{h:Heap}{args:List WData}{vals:List Value}
  (hpre:l.row.toRowW.claim.pre args=true) (hwl:WellAll P h vals args) :
  ∃a vs ns,vals=[Value.ref a]/\args=[WData.list (ns.map WData.int)]/\h.get? a=some { cls:=.type "list",data:=.seq vs.toArray }/\IntsAre vs ns/\ns.length<=n:=by
 have hsh:WShape.hasAll [] args [.list .int]=true:=(pre_splitW hpre).1;have hc:l.pre.holds [] { args:=args }=true:=(pre_splitW hpre).2;obtain⟨d,r,rfl,h1,h2⟩:=hasAllW_cons hsh;obtain rfl:=hasAllW_nil h2;obtain⟨xs,rfl,h3⟩:=hasW_list h1;obtain⟨ns,rfl⟩:=items_int h3;have hlen:ns.length<=n:=by
  unfold OpenLaw.pre at hc;have h4:(WTm.not (.lt (.lit (.int (n:Int))) (.len (.arg 0)))).holds [] { args:=[.list (ns.map .int)] }=true:=by have h4:=(holds_andW hc).1;rw[hn] at h4;exact h4
  have h5:=condW_of h4 (w_not (w_lt w_lit (w_len_list (w_arg rfl))));rw[Qqy] at h5;refine Nat.le_of_not_lt λq=>?_;have q':(n:Int)<((ns.length:Nat):Int):=by omega
  first
   | (rw[Qww q'] at h5;exact absurd h5 (by decide))
   | (simp at h5;omega)
 cases hwl with
 | cons w1 w2=>
  cases w2;cases w1 with
  | list ho hall=>exact⟨_,_,ns,rfl,rfl,ho,uV ns _ hall,hlen⟩
theorem Kv(l:OpenLaw)(args:List WData):l.row.toRowW.claim.post args (.bool true) args=true:=
 postW_of (r:=l.row.toRowW) (X:=(true == true))
  (show WShape.has [] (.bool true) .bool=true by first|rfl|decide|simp[WShape.has,WShape.arms,WShape.armsAll])
  (show(WTm.eq .res (.lit (.bool true))).value [] { args:=args,res:=some (.bool true),after:=args }=some (.bool (true == true)) from w_eq_bool (w_res rfl) w_lit) rfl
end Att
namespace L2
open PySem PySem.Spec PyProof.Rows
theorem yM:∀{vs:List Value} {ns:List Int},IntsAre vs ns->Vals (ns.map V.int) vs
 | _,_,.nil=>.nil
 | _,_,.cons n t h=>.cons ⟨t,rfl⟩ (yM h)
def Only(H:Hp):Prop:=∀b,H b=none\/∃o xs,H b=some (.Ek o (.lst xs))
theorem PN{P:Program}{w:World}{K:PySem.W.Frag}{mg mb:Str->Option Value}{CX:Va}{k:Nat}{fa a:Addr}{fd:FuncData}{x:Str}{sp:Sp}{s₁:Shared}{vs:List Value}{ns:List Int}
  (KX:K.In s₁.heap) (hns:s₁.heap.Ns mainGlobals mg) (hb:s₁.heap.Ns builtinsNs mb) (hbb:∀x:Str,x ≠ "__name__"->mb x=bootBuiltins x) (hlim:s₁.heap.NoLimit) (hg:s₁.gens = #[])
  (ha:s₁.heap.get? a=some { cls:=.type "list",data:=.seq vs.toArray }) (hi:IntsAre vs ns) (hl:ns.length<=sizeLine) (hr:iU k callerA)
  (F:∀base:Heap,K.In base->base.Ns mainGlobals mg->mz P w K mg base CX k fa fd [x] sp) (hbind:∀(s:Shared) (u:Value),BindsTo s fd ⟨[u],[]⟩ [(x,u)])
  (hsp:∀H:Hp,Only H->mV K H a (ns.map V.int)->sp [.ref a] H (λv _=>v = .bl true) λ_ _ _=>False)
  (hCX:∀H e s',CX [] H s₁ (λ_ _ _=>False) e s'->False) :
  codeAny (model P w) callerA (.call (.ref fa) ⟨[.ref a],[]⟩) (λr s'=>r = .ok (.ret (.bool true))/\OldK s₁.heap s'.heap/\s'.os=s₁.os/\AllBare s'.gens) s₁:=by
 have rv:=yM hi;have lenV:=hi.length
 -- from an abstract heap in which nothing but the script may be tracked
 have core:∀H:Hp,Only H->mV K H a (ns.map V.int)->rZ P w H s₁.heap->(∀b,H b≠none->b=a)->(H a≠none->K.lookup a=none)->
   codeAny (model P w) callerA (.call (.ref fa) ⟨[.ref a],[]⟩) (λr s'=>r = .ok (.ret (.bool true))/\OldK s₁.heap s'.heap/\s'.os=s₁.os/\AllBare s'.gens) s₁:=by
  intro H hO hS hok hA hK;have JG:∀{b:Addr} {o:Obj},s₁.heap.get? b=some o->H b=none->(Bg s₁.heap H).get? b=some o:=λe n=>Ql e n;have noA:∀{b:Addr} {o:Obj} {es:Array DictEntry} {ep:Nat},s₁.heap.get? b=some o->o.data = .dict es ep->H b=none:=λ{b o es ep} e d=>by
   cases q:H b with
   | none=>rfl
   | some u=>
    have e':b=a:=hA b (by rw[q];simp);subst e';rw[ha] at e;cases e;have d':Data.seq vs.toArray _=Data.dict es ep:=d;cases d'
  have nsK:∀{b:Addr} {m:Str->Option Value},s₁.heap.Ns b m->(Bg s₁.heap H).Ns b m:=λ{b m} ⟨o,es,ep,e,d,r⟩=>⟨o,es,ep,JG e (noA e d),d,r⟩;have hKb:K.In (Bg s₁.heap H):=λb o e=>JG (KX b o e) (by
   cases q:H b with
   | none=>rfl
   | some u=>
    have e':b=a:=hA b (by rw[q];simp);subst e';rw[hK (by rw[q];simp)] at e;cases e)
  have hM:Mod K mg (Bg s₁.heap H):=⟨hKb,nsK hns,⟨mb,nsK hb,hbb⟩,let ⟨mc,h1,h2⟩:=hlim;⟨mc,nsK h1,h2⟩⟩;have e0:U9 P w K mg (Bg s₁.heap H) callerA [] s₁ H:=⟨rfl,hM,λb o e=>Tj e,Nat.le_of_eq (Lb _ _),trivial,λb hb=>absurd (show b∈([]:List Addr) from hb) (by simp),hok,.of_eq hg⟩;refine codeAny_mono ((F _ hKb (nsK hns)).run callerA [] s₁ H ⟨[.ref a],[]⟩ [.ref a] [.ref a] _ _ hr e0 (hbind s₁ (.ref a)) (.cons rfl .nil) (hsp H hO hS)) λr s' h=>?_;cases r with
  | error e=>exact(hCX H e s' h).elim
  | ok fl=>
   cases fl with
   | next=>exact False.elim h
   | brk=>exact False.elim h
   | cont=>exact False.elim h
   | ret u=>
    obtain⟨v,H',os,bare,un,hok',r',q⟩:=h;have q':v = .bl true:=q;subst q';obtain rfl:u=Value.bool true:=r';refine⟨rfl,OldK.of_keep λb o e=>?_,os,bare⟩;cases q:H b with
    | none=>exact un.keep b o e q (by intro z;exact absurd (show b∈([]:List Addr) from z) (by simp)) (by simp)
    | some u=>
     rcases hO b with z|⟨ob,xs,z⟩
     ·rw[q] at z;cases z
     ·have z2:=un.xj b ob _ z;obtain⟨e1,_⟩:=hok b _ z;obtain⟨e2,_⟩:=hok' b _ z2;rw[e] at e1;cases e1;exact e2
 cases hk:K.lookup a with
 | some o=>
  -- the script is one of the module's own objects
  have e:=KX a o hk;rw[ha] at e;cases e;refine core (λ_=>none) (λ_=>.inl rfl) (.inr ⟨_,vs.toArray,_,hk,rfl,rfl,rfl,by rw[Qq4,lenV];exact hl,by simpa using rv⟩) (λb u z=>by have z':(none:Option HO)=some u:=z;cases z') (λb z=>absurd rfl z) λz=>absurd rfl z
 | none=>
  refine core (λb=>if b=a then some (.Ek { cls:=.type "list",data:=.seq vs.toArray } (.lst (ns.map V.int))) else none) (λb=>?_) (.inl (.inr ⟨{ cls:=.type "list",data:=.seq vs.toArray },if_pos rfl⟩)) (λb u z=>?_) (λb z=>?_) λ_=>hk
  ·by_cases hb:b=a
   ·exact .inr ⟨_,_,if_pos hb⟩
   ·exact .inl (if_neg hb)
  ·by_cases hb:b=a
   ·have z':=(if_pos hb).symm.trans z;cases z';subst hb;exact⟨ha,by rw[Qqy];exact hl,vs,_,rv,ha⟩
   ·have z':=(if_neg hb).symm.trans z;cases z'
  ·by_cases hb:b=a
   ·exact hb
   ·exact absurd (if_neg hb) z
def jm(s:Stmt):Arguments:=match s with
 | .FunctionDef _ a _ _ _ _ _ _ _ _=>a
 | _=>{ posonlyargs:=[],args:=[],vararg:=none,kwonlyargs:=[],kw_defaults:=[],kwarg:=none,defaults:=[] }
def eZ(s:Stmt):List Stmt:=match s with
 | .FunctionDef _ _ b _ _ _ _ _ _ _=>b
 | _=>[]
def aO(s:Stmt):Scope:=match s with
 | .FunctionDef _ _ _ _ _ _ sc _ _ _=>sc
 | _=>{ kind:=.function,names:=[],isGenerator:=false,isCoroutine:=false }
abbrev zO:Va:=λ_ _ _ _ _ _=>False
abbrev E0:XK:=λ_ _ _=>False
theorem Ja{X:Cx}:Passes zO X E0:=λ_ _ _ _ _ _ _ h=>h.elim
structure Q9(K:PySem.W.Frag)(x qual:Str)(st:Stmt)(f:Addr)(fd:FuncData):Prop where
 ex:∃(oc:Value) (od:Option Addr) (kV doc pm:Value) (an:Option Addr) (cdv ct:Value) (osl:Array (Option Value)),
  fd=PySem.W.fnOf x qual (jm st) (eZ st) (aO st) .none kV doc pm an cdv ct/\K.lookup f=some ⟨oc,od,.func fd,osl⟩/\PySem.W.codeIn K cdv qual=true
 kp:PySem.W.keepIn K (.ref f)=true
section
variable{P:Program}{w:World}{K:PySem.W.Frag}{mg:Str->Option Value}{base:Heap}
theorem Q9.ok{x qual:Str}{st:Stmt}{f:Addr}{fd:FuncData}{N ps:List Str}{k:Nat}{sp:Sp}(F:Q9 K x qual st f fd)(S:bC N ps (aO st))(len:∀vs H Q E,sp vs H Q E->vs.length=ps.length)
  (hbody:∀(cdv:Value) (A:Around) (outer:List Env) (s:Shared) (H:Hp) (vs:List V) (Q:VK) (E:XK),iU k (A.deeper (envOfC qual (aO st) s.heap.objs.size f cdv))->sp vs H Q E->
   ∃t,BR (Hr zO P w K mg base N qual (aO st) f cdv A outer s H E).Pb (eZ st) t/\t { nx:=λ_ H'=>Q .non H',rt:=Q } (start N vs) H):mz P w K mg base zO (k+1) f fd ps sp:=by
 obtain⟨oc,od,kV,doc,pm,an,cdv,ct,osl,rfl,lk,hcd⟩:=F.ex;refine aci lk hcd S len λA outer s H vs Q E hr hsp=>?_;obtain⟨t,h,q⟩:=hbody cdv A outer s H vs Q E hr hsp;exact⟨t,h.Pb,q⟩
theorem Q9.binds{x qual:Str}{st:Stmt}{f:Addr}{fd:FuncData}{ps:List Str}(F:Q9 K x qual st f fd)
  (h:∀(kV doc pm:Value) (an:Option Addr) (cdv ct:Value) (us:List Value),us.length=ps.length->bindArgs (PySem.W.fnOf x qual (jm st) (eZ st) (aO st) .none kV doc pm an cdv ct) ⟨us,[]⟩=pure (ps.zip us)):Binds K fd ps []:=by
 obtain⟨oc,od,kV,doc,pm,an,cdv,ct,osl,rfl,lk,hcd⟩:=F.ex;exact .all (h kV doc pm an cdv ct)
theorem Hk{x qual:Str}{st:Stmt}{f:Addr}{oc:Value}{od an:Option Addr}{osl:Array (Option Value)}{kV doc pm cdv ct:Value}(l:K.lookup f=some ⟨oc,od,.func (PySem.W.fnOf x qual (jm st) (eZ st) (aO st) .none kV doc pm an cdv ct),osl⟩)
  (c:PySem.W.codeIn K cdv qual=true) (k:PySem.W.keepIn K (.ref f)=true):Q9 K x qual st f (PySem.W.fnOf x qual (jm st) (eZ st) (aO st) .none kV doc pm an cdv ct):=⟨⟨oc,od,kV,doc,pm,an,cdv,ct,osl,rfl,l,c⟩,k⟩
end
theorem adX{A B:Prop}(h:B):if false=true then A else B:=by rw[if_neg Qxx];exact h
theorem adW{A B:Prop}(h:A):if true=true then A else B:=by rw[if_pos rfl];exact h
def aP(H H':Hp):Prop:=∀b o,H b=some o->H' b=some o
theorem aP.refl(H:Hp):aP H H:=λ_ _ h=>h
theorem aP.trans{H H1 H2:Hp}(a:aP H H1)(b:aP H1 H2):aP H H2:=λc o h=>b c o (a c o h)
theorem aP.free{H H':Hp}(e:aP H H'){l:Addr}(h:H' l=Option.none):H l=Option.none:=by
 cases q:H l with
 | none=>rfl
 | some o=>
  rw[e l o q] at h;cases h
theorem aP.seq{K:PySem.W.Frag}{H H':Hp}{a:Addr}{xs:List V}(e:aP H H')(h:mV K H a xs):mV K H' a xs:=by
 rcases h with (h|⟨o,h⟩)|h
 ·exact .inl (.inl (e _ _ h))
 ·exact .inl (.inr ⟨o,e _ _ h⟩)
 ·exact .inr h
section
variable{κ:Type}[DecidableEq κ]
def pU(kvs:List (κ×V))(k:κ):Option V:=(kvs.find? λkv=>decide (kv.1=k)).map (·.2)
def putK(kvs:List (κ×V))(k:κ)(v:V):List (κ×V):=
 if (kvs.any λkv=>decide (kv.1=k))=true then kvs.map (λkv=>if kv.1=k then (kv.1,v) else kv) else kvs++[(k,v)]
theorem qJ{p:κ×V}{r:List (κ×V)}{k:κ}(e:p.1=k):pU (p::r) k=some p.2:=by simp[pU,Qzw,e]
theorem qK{p:κ×V}{r:List (κ×V)}{k:κ}(e:¬p.1=k):pU (p::r) k=pU r k:=by simp[pU,Qzw,e]
theorem vJ(k:κ):∀kvs:List (κ×V),(kvs.any λkv=>decide (kv.1=k))=(pU kvs k).isSome
 | []=>rfl
 | p::r=>by
  rw[List.any_cons];by_cases e:p.1=k
  ·simp only[qJ e,Qww e,Bool.true_or,Option.isSome_some]
  ·rw[qK e,Qq9 e,Bool.false_or];exact vJ k r
theorem lF(kvs:List (κ×V))(k:κ)(v:V):(putK kvs k v).length<=kvs.length+1:=by
 unfold putK;split
 ·rw[Qqy];omega
 ·rw[Qqk,Qqv,Qzv];omega
theorem rW.mO{o:Option V}{u:Option Value}(r:rW o u):o.isSome=u.isSome:=by
 cases o with
 | none=>cases u with
  | none=>rfl
  | some _=>exact(show False from r).elim
 | some _=>cases u with
  | none=>exact(show False from r).elim
  | some _=>rfl
theorem rW.getD{o:Option V}{u:Option Value}{d:V}{d':Value}(r:rW o u)(rd:RelV d d'):RelV (o.getD d) (u.getD d'):=by
 cases o with
 | none=>cases u with
  | none=>exact rd
  | some _=>exact(show False from r).elim
 | some _=>cases u with
  | none=>exact(show False from r).elim
  | some _=>exact r
theorem KV.val{kvs:List (κ×V)}{vs:List (κ×Value)}(r:KV kvs vs)(k:κ):rW (pU kvs k) (valueAt vs k):=by
 unfold KV at r
 induction r with
 | nil=>exact True.intro
 | @cons p q ps qs h t ih=>
  obtain⟨h1,h2⟩:=h;by_cases e:p.1=k
  ·have e':q.1=k:=h1.symm.trans e;have b:valueAt (q::qs) k=some q.2:=by simp[valueAt,Qzw,e']
   rw[qJ e,b];exact h2
  ·have e':¬q.1=k:=λz=>e (h1.trans z);have b:valueAt (q::qs) k=valueAt qs k:=by simp[valueAt,Qzw,e']
   rw[qK e,b];exact ih
theorem KV.any{kvs:List (κ×V)}{vs:List (κ×Value)}(r:KV kvs vs)(k:κ):(kvs.any λkv=>decide (kv.1=k))=vs.any λkv=>decide (kv.1=k):=by
 unfold KV at r
 induction r with
 | nil=>rfl
 | cons h t ih=>rw[List.any_cons,List.any_cons,ih,h.1]
theorem KV.repl{kvs:List (κ×V)}{vs:List (κ×Value)}(r:KV kvs vs)(k:κ){y:V}{u:Value}(ry:RelV y u) :
  KV (kvs.map λkv=>if kv.1=k then (kv.1,y) else kv) (vs.map λkv=>if kv.1=k then (kv.1,u) else kv):=by
 unfold KV at r ⊢
 induction r with
 | nil=>exact .nil
 | @cons p q ps qs h t ih=>
  rw[Qwx,Qwx];refine .cons ?_ ih;obtain⟨h1,h2⟩:=h;by_cases e:p.1=k
  ·rw[if_pos e,if_pos (h1.symm.trans e)];exact⟨h1,ry⟩
  ·rw[if_neg e,if_neg (λz=>e (h1.trans z))];exact⟨h1,h2⟩
theorem KV.put{kvs:List (κ×V)}{vs:List (κ×Value)}(r:KV kvs vs)(k:κ){y:V}{u:Value}(ry:RelV y u):KV (putK kvs k y) (stored vs k u):=by
 unfold putK stored;rw[r.any k];by_cases e:(vs.any λkv=>decide (kv.1=k))=true
 ·rw[if_pos e,if_pos e];exact r.repl k ry
 ·rw[if_neg e,if_neg e];exact Paired.snoc r ⟨rfl,ry⟩
theorem KV.keys{kvs:List (κ×V)}{vs:List (κ×Value)}(r:KV kvs vs):kvs.map (·.1)=vs.map (·.1):=by
 unfold KV at r
 induction r with
 | nil=>rfl
 | cons h t ih=>rw[Qwx,Qwx,ih,h.1]
theorem KV.length{kvs:List (κ×V)}{vs:List (κ×Value)}(r:KV kvs vs):kvs.length=vs.length:=Paired.length r
end
theorem wU{P:Program}{w:World}{k:Key}{u:Value}(r:RelV (kV k) u):(dh P w).is k u=true:=by
 cases k with
 | inl i=>obtain⟨t,e⟩:=(show ∃t,u=Value.int i t from r);subst e;exact DP P w i t
 | inr x=>obtain⟨t,e⟩:=(show ∃t,u=Value.str x t from r);subst e;exact DN P w x t
theorem zp{P:Program}{w:World}:∀{ks:List Key} {us:List Value},Vals (ks.map kV) us->ItemsAre (dh P w) ks us
 | [],_,r=>by rw[List.map_nil] at r;cases r;exact .nil
 | k::ks,_,r=>by
  rw[Qwx] at r;cases r with
  | cons h t=>exact .cons (wU h) (zp t)
abbrev KT(H:Hp):List (List Key×V)->List (List Key×Addr×Value)->Prop:=Paired λp q=>p.1=q.1/\H q.2.1=some (.tup (p.1.map kV))/\RelV p.2 q.2.2
theorem KT.val{H:Hp}{kvs:List (List Key×V)}{xs:List (List Key×Addr×Value)}(r:KT H kvs xs)(k:List Key):rW (pU kvs k) ((atKey xs k).map (·.2)):=by
 induction r with
 | nil=>exact True.intro
 | @cons p q ps qs h t ih=>
  obtain⟨h1,_,h2⟩:=h;by_cases e:p.1=k
  ·have e':q.1=k:=h1.symm.trans e;have b:atKey (q::qs) k=some q.2:=by simp[atKey,Qzw,e']
   rw[qJ e,b];exact h2
  ·have e':¬q.1=k:=λz=>e (h1.trans z);have b:atKey (q::qs) k=atKey qs k:=by simp[atKey,Qzw,e']
   rw[qK e,b];exact ih
theorem KT.repl{H:Hp}{kvs:List (List Key×V)}{xs:List (List Key×Addr×Value)}(r:KT H kvs xs)(k:List Key){y:V}{u:Value}(ry:RelV y u) :
  KT H (kvs.map λkv=>if kv.1=k then (kv.1,y) else kv) (xs.map (putAt k u)):=by
 induction r with
 | nil=>exact .nil
 | @cons p q ps qs h t ih=>
  rw[Qwx,Qwx];refine .cons ?_ ih;obtain⟨h1,h2,h3⟩:=h;unfold putAt;by_cases e:p.1=k
  ·rw[if_pos e,if_pos (h1.symm.trans e)];exact⟨h1,h2,ry⟩
  ·rw[if_neg e,if_neg (λz=>e (h1.trans z))];exact⟨h1,h2,h3⟩
theorem KT.put{H:Hp}{kvs:List (List Key×V)}{xs:List (List Key×Addr×Value)}(r:KT H kvs xs)(k:List Key){b:Addr}{y:V}{u:Value}(hb:H b=some (.tup (k.map kV)))(ry:RelV y u) :
  KT H (putK kvs k y) (storedH xs k b u):=by
 have e:(kvs.any λkv=>decide (kv.1=k))=(atKey xs k).isSome:=by rw[vJ,(r.val k).mO,Option.isSome_map]
 unfold putK storedH;rw[e];by_cases q:(atKey xs k).isSome=true
 ·rw[if_pos q,if_pos q];exact r.repl k ry
 ·rw[if_neg q,if_neg q];exact Paired.snoc r ⟨rfl,hb,ry⟩
theorem KT.keeps{H H':Hp}{kvs:List (List Key×V)}{xs:List (List Key×Addr×Value)}(r:KT H kvs xs)(ht:∀b ys,H b=some (.tup ys)->H' b=some (.tup ys)):KT H' kvs xs:=
 Paired.Yx r λ_ _ z=>⟨z.1,ht _ _ z.2.1,z.2.2⟩
section
variable{P:Program}{w:World}{H:Hp}{h:Heap}{a:Addr}
theorem Vq{u:HO}(ok:rZ P w H h)(e:Rd H a u):fY P w H h a u:=e.ok ok
theorem xO{kvs:List (Key×V)}(ok:rZ P w H h)(e:Rd H a (.dK kvs)):kvs.length<=sizeLine/\(a == sysModules)=false/\∃vs,KV kvs vs/\h.DictOf (dh P w) a vs:=
 show fY P w H h a (.dK kvs) from Vq ok e
theorem V2{kvs:List (Key×V)}(ok:rZ P w H h)(e:H a=some (.dK kvs)):kvs.length<=sizeLine/\(a == sysModules)=false/\∃vs,KV kvs vs/\h.DictOf (dh P w) a vs:=xO ok (.inl e)
theorem wQ{ks:List Key}(ok:rZ P w H h)(e:H a=some (.tup (ks.map kV))):(tupleKind (dh P w)).is h ks a:=by obtain⟨_,its,r,o,h1,h2,⟨n,h3⟩,_⟩:=(show fY P w H h a (.tup (ks.map kV)) from ok a _ e);exact⟨o,its.toArray,n,h1,h2,h3,by simpa using zp r⟩
theorem zy{kvs:List (List Key×V)}(ok:rZ P w H h)(e:Rd H a (.dT kvs)):kvs.length<=sizeLine/\(a == sysModules)=false/\
  ∃xs,KT H kvs xs/\h.DictOfH (tupleKind (dh P w)) a xs:=by
 obtain⟨z,y,xs,r,o,es,ep,h1,h2,h3,h4,h5⟩:=(show fY P w H h a (.dT kvs) from Vq ok e);refine⟨z,y,xs,r,o,es,ep,h1,h2,h3,h4,λx hx=>?_,h5⟩;have all:∀{l:List (List Key×V)} {m:List (List Key×Addr×Value)},KT H l m->∀x∈m,(tupleKind (dh P w)).is h x.1 x.2.1:=by
  intro l m q
  induction q with
  | nil=>intro x hx;exact nomatch hx
  | @cons p q ps qs hq t ih=>
   intro x hx;rcases Qq8.mp hx with e|hx
   ·subst e;exact wQ ok (by rw[<-hq.1];exact hq.2.1)
   ·exact ih x hx
 exact all r x hx
theorem acr{kvs:List (List Key×V)}(ok:rZ P w H h)(e:H a=some (.dT kvs)):kvs.length<=sizeLine/\(a == sysModules)=false/\
  ∃xs,KT H kvs xs/\h.DictOfH (tupleKind (dh P w)) a xs:=zy ok (.inl e)
end
def Fl(H:Hp)(a:Addr)(y:V)(r:Option V):Prop:=
 (∃kvs k,Rd H a (.dK kvs)/\y=kV k/\r=pU kvs k)\/∃kvs k b,Rd H a (.dT kvs)/\y = .ref b/\H b=some (.tup (k.map kV))/\r=pU kvs k
def Rc(H:Hp)(a:Addr)(y v:V)(H':Hp):Prop:=
 (∃kvs k,H a=some (.dK kvs)/\y=kV k/\kvs.length<sizeLine/\H'=upd H a (.dK (putK kvs k v)))\/
 ∃kvs k b,H a=some (.dT kvs)/\y = .ref b/\H b=some (.tup (k.map kV))/\kvs.length<sizeLine/\H'=upd H a (.dT (putK kvs k v))
theorem Rc.k{H:Hp}{a:Addr}{kvs:List (Key×V)}{k:Key}{v:V}(e:H a=some (.dK kvs))(hl:kvs.length<sizeLine):Rc H a (kV k) v (upd H a (.dK (putK kvs k v))):=.inl ⟨kvs,k,e,rfl,hl,rfl⟩
section
variable{X:Cx}{pins:List (Addr×Obj)}{σ:St}{H:Hp}{s:Shared}{a:Addr}{y v:V}{u r:Value}{o:Option V}{A:Around}{E:Value->Shared->Prop}
theorem Inv.big(I:Inv X pins σ H s):sysModules<s.heap.objs.size:=by have h:mainGlobals<s.heap.objs.size:=(I.mod.glob.keeps I.bk).lt;exact Nat.lt_trans (by decide) h
theorem Ln{Q:Value->Shared->Prop}(hu:A.units+1<cLine)(I:Inv X pins σ H s)(g:Fl H a y (some v))(ry:RelV y u)(h:∀w' s',Inv X pins σ H s'->RelV v w'->Q w' s') :
  wpAny (model X.prog X.w) A (getItem (.ref a) u) Q E s:=by
 rcases g with ⟨kvs,k,e,ey,l⟩|⟨kvs,k,b,e,ey,eb,l⟩
 ·subst ey;obtain⟨z,hd,vs,rel,dd⟩:=xO I.hok e;obtain⟨w',hw,Gx⟩:=rW.some_of (v:=v) (o:=valueAt vs k) (by rw[l];exact rel.val k);exact wpAny_getItem_of (wU ry) dd.mapOf hw (h w' _ (I.tok _) Gx)
 ·subst ey;cases(show u=Value.ref b from ry);obtain⟨z,hd,xs,rel,dd⟩:=zy I.hok e;obtain⟨w',hw,Gx⟩:=rW.some_of (v:=v) (o:=(atKey xs k).map (·.2)) (by rw[l];exact rel.val k);obtain⟨p,hp,hp2⟩:=Qwj.mp hw;refine wpAny_getItem_heap (tupleKind_room_in1 hu) (wQ I.hok eb) dd hp ?_;rw[hp2];exact h w' _ (I.tok _) Gx
theorem aeq{Q:Value->Shared->Prop}(hu:A.units+1<cLine)(I:Inv X pins σ H s)(g:Fl H a y o)(ry:RelV y u)(h:∀s',Inv X pins σ H s'->Q (.bool o.isSome) s') :
  wpAny (model X.prog X.w) A (compareOp .In u (.ref a)) Q E s:=by
 rcases g with ⟨kvs,k,e,ey,l⟩|⟨kvs,k,b,e,ey,eb,l⟩
 ·subst ey;obtain⟨z,hd,vs,rel,dd⟩:=xO I.hok e;refine wpAny_in_of (wU ry) hd dd.mapOf ?_;rw[<-(rel.val k).mO,<-l];exact h _ (I.tok _)
 ·subst ey;cases(show u=Value.ref b from ry);obtain⟨z,hd,xs,rel,dd⟩:=zy I.hok e;refine wpAny_in_heap (tupleKind_room_in1 hu) (wQ I.hok eb) hd dd ?_;have q:=(rel.val k).mO;rw[Option.isSome_map] at q;rw[<-q,<-l];exact h _ (I.tok _)
theorem rM{h':Heap}{t':Nat}{ob:HO}(I:Inv X pins σ H s)(mu:Mut (H a))(hs:Heap.SameBut a s.heap h')(he:∃q,h'.get? a=some q)(new:fY X.prog X.w (upd H a ob) h' a ob) :
  Inv X pins σ (upd H a ob) { s with heap:=h',toks:=t' }:=
 I.write (x:=a) (e:=a) mu (.inl rfl) (λb q hb z=>(hs.2 b hb).trans z) he new
theorem Qz{P:Program}{w:World}{H':Hp}{h':Heap}{kvs:List (Key×V)}{vs:List (Key×Value)}(z:kvs.length<=sizeLine)(hd:(a == sysModules)=false)(rel:KV kvs vs)(dd:h'.DictOf (dh P w) a vs) :
  fY P w H' h' a (.dK kvs):=⟨z,hd,vs,rel,dd⟩
theorem Lk{H':Hp}{Q:Unit->Shared->Prop}(hu:A.units+1<cLine)(I:Inv X pins σ H s)(g:Rc H a y v H')(ry:RelV y u)(rv:RelV v r)(h:∀s',Inv X pins σ H' s'->Q () s') :
  wpAny (model X.prog X.w) A (setItem (.ref a) u r) Q E s:=by
 rcases g with ⟨kvs,k,e,ey,l,eH⟩|⟨kvs,k,b,e,ey,eb,l,eH⟩
 ·subst ey eH;obtain⟨z,hd,vs,rel,dd⟩:=V2 I.hok e;have hz:vs.length<=sizeLine:=by rw[<-rel.length];exact z
  have hl:(putK kvs k v).length<=sizeLine:=by have:=lF kvs k v;omega
  refine wpAny_setItem_pairs (hsz:=hz) (wU ry) dd λh' QC hs=>h _ ?_;have he:∃q,h'.get? a=some q:=let ⟨q,_,_,hq,_⟩:=QC;⟨q,hq⟩
  exact rM I (by rw[e];exact True.intro) hs he (Qz hl hd (rel.put k rv) QC)
 ·subst ey eH;cases(show u=Value.ref b from ry);obtain⟨z,hd,xs,rel,dd⟩:=acr I.hok e;have hz:xs.length<=sizeLine:=by rw[<-Paired.length rel];exact z
  have hl:(putK kvs k v).length<=sizeLine:=by have:=lF kvs k v;omega
  refine wpAny_setItem_heap (hsz:=hz) (tupleKind_room_in1 hu) (wQ I.hok eb) dd λh' QC hs=>h _ ?_;obtain⟨q,es,ep,hq,h2,h3,h4,_,h5⟩:=QC;refine rM I (by rw[e];exact True.intro) hs ⟨q,hq⟩ ⟨hl,hd,_,(rel.put k eb rv).keeps λc ys ec=>?_,q,es,ep,hq,h2,h3,h4,h5⟩;rw[bw (abN ec e (λz=>nomatch z))];exact ec
end
def LK(i:Expr):Prop:=∀ov iv,subscripted i false ov iv=operate [ov,iv] (getItem ov iv)
theorem Ie{prog:Program}{w:World}{A:Around}{E:Value->Shared->Prop}{s:Shared}{env:Env}{value slice:Expr}{pos:Pos}{T id:String}{Q:Value->Shared->Prop}
  (hl:typeLookup (.type T) "__getitem__" = pure (some (.builtin id))) (hs:LK slice)
  (h:wpAny (model prog w) A (eval value env) (λo s₁=>wpAny (model prog w) A (eval slice env) (λi s₂=>s₂.TypeIs o T/\wpAny (model prog w) A (getItem o i) Q E s₂) E s₁) E s) :
  wpAny (model prog w) A (eval (.Subscript value slice pos) env) Q E s:=by
 refine Subscript_ (Qz7 h (λo s₁ h₁=>Qz7 h₁ (λi s₂ h₂=>?_) λ_ _ x=>x) λ_ _ x=>x);obtain⟨hT,h₂⟩:=h₂;unfold subscriptTail;refine Qqx ?_;rw[getitemInPython_of_ne hT.not_modules];refine Qqx (wpAny_specialOf hT hl ?_);have fin:wpAny (model prog w) A (subscripted slice false o i) (λr s₃=>wpAny (model prog w) A (letTemporaryGo value o r >>= λ_=>pure r) Q E s₃) E s₂:=by rw[hs o i];exact wpAny_operating (Qz7 h₂ (λr s₃ h₃=>Qqx (wpAny_letTemporaryGo (Qq6 h₃))) λ_ _ x=>x)
 first
  | exact Qq6 (Qqx fin)
  | exact Qqx (Qq6 (Qqx fin))
  | exact Qqx fin
theorem Ew{X:Cx}{pins:List (Addr×Obj)}{σ:St}{H:Hp}{s:Shared}{a:Addr}{y:V}{o:Option V}(I:Inv X pins σ H s)(g:Fl H a y o):s.TypeIs (.ref a) "dict":=by
 rcases g with ⟨kvs,k,e,_,_⟩|⟨kvs,k,b,e,_,_,_⟩
 ·obtain⟨_,_,vs,_,dd⟩:=xO I.hok e;exact dd.typeIs
 ·obtain⟨_,_,xs,_,dd⟩:=zy I.hok e;exact dd.typeIs
def aaP(td ty:TE):TE:=λσ H Q=>td σ H λx H1=>ty σ H1 λy H2=>∃a v,x = .ref a/\Fl H2 a y (some v)/\Q v H2
def aaW(td ty tv:TE):TS:=λD σ H=>tv σ H λv H1=>td σ H1 λx H2=>ty σ H2 λy H3=>∃a H4,x = .ref a/\Rc H3 a y v H4/\D.nx σ H4
section
variable{X:Cx}{o i e value:Expr}{pos pos' tpos:Pos}{td ty tv:TE}
theorem S8(hu:X.A.units+1<cLine)(ho:PE X o td)(hi:PE X i ty)(hs:LK i):PE X (.Subscript o i pos) (aaP td ty):=by intro pins s σ H Q I h;refine Ie PySem.F.slot_dict_getitem.lookup hs (fP (ho pins s σ H _ I h) λu s1 ⟨x,H1,I1,rx,q1⟩=>fP (hi pins s1 σ H1 _ I1 q1) λiv s2 ⟨y,H2,I2,ry,a,v,ex,g,q2⟩=>?_);subst ex;obtain rfl:u=Value.ref a:=rx;exact⟨Ew I2 g,Ln hu I2 g ry λw' s3 I3 Gx=>⟨v,H2,I3,Gx,q2⟩⟩
theorem Sq(hu:X.A.units+1<cLine)(ho:PE X o td)(hi:PE X i ty)(hv:PE X value tv)(hs:swapsWith value (some (.Subscript o i pos')) pos.line X.env=pure false) :
  PS X (.Assign [.Subscript o i pos'] value pos) (aaW td ty tv):=by
 intro pins s σ H D I h;refine wpAny_Assign_Subscript (fP (hv pins s σ H _ I h) λr s1 ⟨v,H1,I1,rv,q1⟩=>fP (ho pins s1 σ H1 _ I1 q1) λu s2 ⟨x,H2,I2,rx,q2⟩=>fP (hi pins s2 σ H2 _ I2 q2) λiv s3 ⟨y,H3,I3,ry,a,H4,ex,g,q3⟩=>?_) hs;subst ex;obtain rfl:u=Value.ref a:=rx;exact Lk hu I3 g ry rv λs4 I4=>⟨σ,H4,I4,q3⟩
end
theorem Eu{P:Program}{w:World}{H:Hp}(h:Heap)(hb:sysModules<h.objs.size):fY P w H (h.push { cls:=.type "dict",data:=.dict #[] }) h.objs.size (.dK []):=
 ⟨Qxk _,Qz0.mpr (Ne.symm (Qw9 hb)),[],.nil,Heap.DictOf.new h⟩
def WL:TE:=λ_ H Q=>∀p,H p=none->Q (.ref p) (upd H p (.dK []))
section
variable{X:Cx}{pos:Pos}
theorem Oz:PE X (.Dict [] [] pos) WL:=λpins s σ H Q I h=>
 wpAny_Dict_empty ⟨.ref s.heap.objs.size,_,I.laid (a:=s.heap.objs.size) (o:=.dK []) (t':=s.toks) (λ_ _ q=>Qqw _ q) (Qq0 _) (Eu s.heap I.big),rfl,h _ (I.hok.fresh (Qq0 _))⟩
end
def Gh:List (TE×TE)->St->Hp->(List (V×V)->Hp->Prop)->Prop
 | [],_,H,Q=>Q [] H
 | (tk,tv)::r,σ,H,Q=>tk σ H λx H1=>tv σ H1 λy H2=>Gh r σ H2 λps H3=>Q ((x,y)::ps) H3
abbrev VV:List (V×V)->List (Value×Value)->Prop:=Paired λp q=>RelV p.1 q.1/\RelV p.2 q.2
def PPs(X:Cx)(pos:Pos)(keys:List (Option Expr))(values:List Expr)(Rr:List (TE×TE)):Prop:=
 ∀(pins:List (Addr×Obj)) (s:Shared) (σ:St) (H:Hp) (Q:List (V×V)->Hp->Prop),Inv X pins σ H s->Gh Rr σ H Q->
  wpAny (model X.prog X.w) X.A (evalPairs (pairTrees keys values X.env pos)) (λvs s'=>∃ps H',Inv X pins σ H' s'/\VV ps vs/\Q ps H') X.xe s
theorem Ss{X:Cx}{pos:Pos}:PPs X pos [] [] []:=λpins s σ H Q I h=>pairTrees_nil_walk ⟨[],H,I,.nil,h⟩
theorem Dj{X:Cx}{pos:Pos}{k v:Expr}{ks:List (Option Expr)}{vs:List Expr}{tk tv:TE}{Rr:List (TE×TE)}(hk:PE X k tk)(hv:PE X v tv)(hr:PPs X pos ks vs Rr) :
  PPs X pos (some k::ks) (v::vs) ((tk,tv)::Rr):=λpins s σ H Q I h=>
 pairTrees_cons_walk (fP (hk pins s σ H _ I h) λu s1 ⟨x,H1,I1,rx,q1⟩=>fP (hv pins s1 σ H1 _ I1 q1) λw2 s2 ⟨y,H2,I2,ry,q2⟩=>
  fP (hr pins s2 σ H2 _ I2 q2) λws s3 ⟨ps,H3,I3,rel,q3⟩=>⟨(x,y)::ps,H3,I3,.cons ⟨rx,ry⟩ rel,q3⟩)
def tQ(kvs more:List (Key×V)):List (Key×V):=more.foldl (λacc kv=>putK acc kv.1 kv.2) kvs
theorem KV.merge:∀{more:List (Key×V)} {rs:List (Key×Value)} {kvs:List (Key×V)} {vs:List (Key×Value)},KV more rs->KV kvs vs->KV (tQ kvs more) (merged vs rs):=by
 intro more rs kvs vs r;unfold KV at r
 induction r generalizing kvs vs with
 | nil=>intro q;exact q
 | @cons p q ps qs h t ih=>
  intro r0;have e:KV (putK kvs p.1 p.2) (stored vs q.1 q.2):=by have:=r0.put p.1 h.2;rw[<-h.1];exact this
  exact ih e
theorem pL:∀(more kvs:List (Key×V)),(tQ kvs more).length<=kvs.length+more.length
 | [],kvs=>by show kvs.length<=kvs.length+0;omega
 | p::r,kvs=>by
  have h1:=pL r (putK kvs p.1 p.2);have h2:=lF kvs p.1 p.2;show(tQ (putK kvs p.1 p.2) r).length<=_;rw[Qqv];omega
theorem xW{P:Program}{w:World}:∀{kvs:List (Key×V)} {ws:List (Value×Value)},VV (kvs.map λkv=>(kV kv.1,kv.2)) ws->∃rs,Carries (dh P w) ws rs/\KV kvs rs
 | [],_,r=>by rw[List.map_nil] at r;cases r;exact⟨[],True.intro,.nil⟩
 | p::kvs,_,r=>by
  rw[Qwx] at r;cases r with
  | @cons a b as bs h t=>
   obtain⟨rs,c,q⟩:=xW (P:=P) (w:=w) t;obtain⟨b1,b2⟩:=b;exact⟨(p.1,b2)::rs,⟨wU h.1,rfl,c⟩,.cons ⟨rfl,h.2⟩ q⟩
def Vn(Rr:List (TE×TE)):TE:=λσ H Q=>∀p,H p=none->Gh Rr σ (upd H p (.dK [])) λps H2=>H2 p=some (.dK [])/\∃kvs:List (Key×V),ps=kvs.map (λkv=>(kV kv.1,kv.2))/\kvs.length<=15/\Q (.ref p) (upd H2 p (.dK (tQ [] kvs)))
theorem S7{X:Cx}{pos:Pos}{keys:List (Option Expr)}{values:List Expr}{Rr:List (TE×TE)}(h:PPs X pos keys values Rr)(hall:keys.all (·.isSome)=true)(hl:keys.length=values.length)(h0:keys≠[])
  (h15:keys.length<=15):PE X (.Dict keys values pos) (Vn Rr):=by
 intro pins s σ H Q I q;have hn:=I.hok.fresh (Qq0 s.heap.objs.size);have I1:=I.laid (a:=s.heap.objs.size) (o:=.dK []) (h':=s.heap.push { cls:=.type "dict",data:=.dict #[] }) (t':=s.toks) (λ_ _ q=>Qqw _ q) (Qq0 _) (Eu s.heap I.big);refine wpAny_Dict_walk (knd:=dh X.prog X.w) hall hl h0 h15 (fP (h pins _ σ _ _ I1 (q _ hn)) λws s2 ⟨ps,H2,I2,rel,e,kvs,ep,lk,q2⟩=>?_);subst ep;obtain⟨rs,c,rk⟩:=xW (P:=X.prog) (w:=X.w) rel;obtain⟨z,hd,vs0,r0,dd⟩:=V2 I2.hok e;cases r0;refine⟨rs,c,dd,λh' QC hs=>⟨.ref s.heap.objs.size,_,?_,rfl,q2⟩⟩;have hz:(tQ [] kvs).length<=sizeLine:=by have h1:=pL kvs [];rw[Qzv] at h1;rw[Qj1];omega
 have he:∃q,h'.get? s.heap.objs.size=some q:=let ⟨q,_,_,hq,_⟩:=QC;⟨q,hq⟩
 exact rM I2 (by rw[e];exact True.intro) hs he (Qz hz hd (rk.merge .nil) QC)
structure M2(X:Cx)(o:Expr)(m:Str)(apos:Pos)(e f:Expr)(cpos:Pos):Prop where
 base:attributeBase o m X.env (eval o X.env)=eval o X.env
 few:((backTo cpos (starEach [e,f] X.env)).all (λx=>!x.1)&&(backToKw cpos (keywordEach [] X.env)).all (λx=>x.1.isSome)
  && decide (([e,f]:List Expr).length+([]:List Keyword).length+(if ([]:List Keyword).isEmpty then 0 else 1)<30))=true
 line:(apos.endLine == cpos.line)=true
 trees:backTo cpos (starEach [e,f] X.env)=[(false,eval e X.env),(false,eval f X.env)]
def IsD(H:Hp)(a:Addr):Prop:=(∃kvs,Rd H a (.dK kvs))\/∃kvs,Rd H a (.dT kvs)
theorem Y8{X:Cx}{pins:List (Addr×Obj)}{σ:St}{H:Hp}{s:Shared}{a:Addr}(I:Inv X pins σ H s)(d:IsD H a) :
  s.TypeIs (.ref a) "dict"/\(∀b,Value.ref a = .ref b->∃ob,s.heap.get? b=some ob/\ob.dict=none)/\(a == sysModules)=false:=by
 rcases d with ⟨kvs,e⟩|⟨kvs,e⟩
 ·obtain⟨_,hd,vs,_,dd⟩:=xO I.hok e;refine⟨dd.typeIs,λb q=>?_,hd⟩;cases q;obtain⟨ob,_,_,h1,h2,_⟩:=dd;exact⟨ob,h1,h2.2.1⟩
 ·obtain⟨_,hd,xs,_,dd⟩:=zy I.hok e;refine⟨dd.typeIs,λb q=>?_,hd⟩;cases q;obtain⟨ob,_,_,h1,h2,_⟩:=dd;exact⟨ob,h1,h2.2.1⟩
section
variable{X:Cx}{pins:List (Addr×Obj)}{σ:St}{H:Hp}{s:Shared}{a:Addr}{y d:V}{u r:Value}{o:Option V}{A:Around}{E:Value->Shared->Prop}
theorem ZJ{Q:Value->Shared->Prop}(hu:A.units+1<cLine)(I:Inv X pins σ H s)(g:Fl H a y o)(ry:RelV y u)(rd:RelV d r)(h:∀w' s',Inv X pins σ H s'->RelV (o.getD d) w'->Q w' s') :
  wpAny (model X.prog X.w) A (call (.builtin "dict.get") [.ref a,u,r]) Q E s:=by
 rcases g with ⟨kvs,k,e,ey,l⟩|⟨kvs,k,b,e,ey,eb,l⟩
 ·subst ey;obtain⟨z,hd,vs,rel,dd⟩:=xO I.hok e;refine call_meetsIn PySem.F.slot_dict_get dd.typeIs PySem.F.entry_dict_get (PySem.F.args_dict_get_3 _ _ _) (meets_dict_get_default (dh X.prog X.w) a (wU ry) hd r) ⟨_,dd.mapOf,h _ _ (I.tok _) ?_⟩;rw[l];exact(rel.val k).getD rd
 ·subst ey;cases(show u=Value.ref b from ry);obtain⟨z,hd,xs,rel,dd⟩:=zy I.hok e;refine call_meetsIn PySem.F.slot_dict_get dd.typeIs PySem.F.entry_dict_get (PySem.F.args_dict_get_3 _ _ _) (meetsH_dict_get_default (tupleKind (dh X.prog X.w)) a b hd r) ⟨tupleKind_room_in1 hu,k,xs,wQ I.hok eb,dd,h _ _ (I.tok _) ?_⟩;rw[l];exact(rel.val k).getD rd
end
def WM(td ty tx:TE):TE:=λσ H Q=>td σ H λx H1=>∃a,x = .ref a/\IsD H1 a/\ty σ H1 λy H2=>tx σ H2 λz H3=>∃o,Fl H3 a y o/\Q (o.getD z) H3
section
variable{X:Cx}{o e f:Expr}{apos cpos:Pos}{td ty tx:TE}
theorem O1(hu:X.A.units+1<cLine)(ho:PE X o td)(he:PE X e ty)(hf:PE X f tx)(m:M2 X o "get" apos e f cpos):PE X (.Call (.Attribute o "get" apos) [e,f] [] cpos) (WM td ty tx):=by
 intro pins s σ H Q I h;refine wpAny_Call_method m.base m.few m.line PySem.F.plainAttrs_dict PySem.F.slot_dict_get PySem.F.type_dict_get (fP (ho pins s σ H _ I h) λu s1 ⟨x,H1,I1,rx,a,ex,d,q1⟩=>?_);subst ex;obtain rfl:u=Value.ref a:=rx;obtain⟨t1,t2,_⟩:=Y8 I1 d;refine⟨t1,t2,?_⟩;rw[m.trees];refine Calls.callWith_builtin rfl (Calls.evalArgs_plain (Calls.spliced_cons (fP (he pins s1 σ H1 _ I1 q1) λiv s2 ⟨y,H2,I2,ry,q2⟩=>
  Calls.spliced_cons (fP (hf pins s2 σ H2 _ I2 q2) λfv s3 ⟨z,H3,I3,rz,ov,g,q3⟩=>Calls.spliced_nil ?_))))
 exact ZJ hu I3 g ry rz λw' s4 I4 Gx=>⟨_,H3,I4,Gx,q3⟩
end
def lA(env:Env):List (Str×NameKind)->List (Str×Addr)->List (Str×Addr)
 | [],acc=>acc
 | (n,k)::r,acc=>if k == .free then lA env r ((n,(env.cells.lookup n).getD 0)::acc) else lA env r acc
theorem xT{env:Env}(f:Str×NameKind->List (Str×Addr)->Sem (ForInStep (List (Str×Addr))))
  (hf:∀n k cs,f (n,k) cs=if k == .free then (do let a <-cellOf env n;pure (.yield ((n,a)::cs))) else pure (.yield cs)) :
  ∀(names:List (Str×NameKind)) (acc:List (Str×Addr)),(∀n,(n,NameKind.free)∈names->∃c,env.cells.lookup n=some c)->forIn names acc f=pure (lA env names acc)
 | [],acc,_=>by rw[Qj8];rfl
 | (n,k)::r,acc,h=>by
  have ih:=xT f hf r;have hr:∀n,(n,NameKind.free)∈r->∃c,env.cells.lookup n=some c:=λm hm=>h m (Qqj _ hm);rw[Qkv,hf];cases hk:k == NameKind.free with
  | true=>
   have hk':k = .free:=by simpa using hk
   obtain⟨c,hc⟩:=h n (by rw[hk'];exact Qqz);rw[if_pos rfl];unfold cellOf;rw[hc];simp only[pure_bind];rw[ih _ hr]
   conv=>rhs;unfold lA
   rw[if_pos hk,hc]
   rfl
  | false=>
   rw[if_neg (by simp)];simp only[pure_bind];rw[ih _ hr]
   conv=>rhs;unfold lA
   rw[if_neg (by simp[hk])]
theorem xU{scope:Scope}{env:Env}(h:∀n,(n,NameKind.free)∈scope.names->∃c,env.cells.lookup n=some c):closureFor scope env=pure (lA env scope.names []):=by
 simp only[closureFor];rw[xT (env:=env) _ (λn k cs=>by cases hk:k == NameKind.free<;>simp[hk]) _ _ h]
 rfl
theorem rP{env:Env}:∀(names:List (Str×NameKind)) (acc:List (Str×Addr)) (x:Str) (c:Addr),(∀n,(n,NameKind.free)∈names->∃c,env.cells.lookup n=some c)->
  (∀y d,acc.lookup y=some d->env.cells.lookup y=some d)->(lA env names acc).lookup x=some c->env.cells.lookup x=some c
 | [],acc,x,c,_,ha,h=>ha x c h
 | (n,k)::r,acc,x,c,hn,ha,h=>by
  have hr:∀n,(n,NameKind.free)∈r->∃c,env.cells.lookup n=some c:=λm hm=>hn m (Qqj _ hm);unfold lA at h;split at h
  ·rename_i hk;have hk':k = .free:=by simpa using hk
   obtain⟨d,hd⟩:=hn n (by rw[hk'];exact Qqz);refine rP r _ x c hr (λy e he=>?_) h;rw[Qx9] at he;cases hy:y == n with
   | true=>
    rw[hy] at he;have e1:y=n:=by simpa using hy
    rw[e1,hd];rw[hd] at he;exact he
   | false=>
    rw[hy] at he;exact ha y e he
  ·exact rP r acc x c hr ha h
theorem ug{env:Env}:∀(names:List (Str×NameKind)) (acc:List (Str×Addr)) (x:Str),(acc.lookup x).isSome=true->((lA env names acc).lookup x).isSome=true
 | [],acc,x,h=>h
 | (n,k)::r,acc,x,h=>by
  unfold lA;split
  ·refine ug r _ x ?_;rw[Qx9];split
   ·rfl
   ·exact h
  ·exact ug r acc x h
theorem rO{env:Env}:∀(names:List (Str×NameKind)) (acc:List (Str×Addr)) (x:Str),(x,NameKind.free)∈names->((lA env names acc).lookup x).isSome=true
 | [],acc,x,h=>nomatch h
 | (n,k)::r,acc,x,h=>by
  unfold lA;rcases Qq8.mp h with e|h
  ·obtain⟨e1,e2⟩:=Prod.mk.inj e;subst e1 e2;rw[if_pos (by rfl)];refine ug r _ x ?_;rw[Qx9];simp
  ·split
   ·exact rO r _ x h
   ·exact rO r acc x h
theorem fM:∀(names:List (Str×NameKind)) (n:Nat) (acc:List (Str×Addr)),cellsFrom n names acc=cellsFrom n names []++acc
 | [],n,acc=>rfl
 | (x,k)::r,n,acc=>by
  unfold cellsFrom;split
  ·rw[fM r (n+1) ((x,n)::acc),fM r (n+1) [(x,n)],Qwy]
   rfl
  ·exact fM r n acc
theorem lY:∀(names:List (Str×NameKind)) (n:Nat) (x:Str) (c:Addr),(x,c)∈cellsFrom n names []->(x,NameKind.cell)∈names
 | [],n,x,c,h=>nomatch h
 | (y,k)::r,n,x,c,h=>by
  unfold cellsFrom at h;split at h
  ·rename_i hk;have hk':k = .cell:=by simpa using hk
   rw[fM] at h;rcases Qw0.mp h with h|h
   ·exact Qqj _ (lY r _ x c h)
   ·have e:=Qq1.mp h;cases e;rw[hk'];exact Qqz
  ·exact Qqj _ (lY r _ x c h)
theorem nA{α:Type}:∀(l m:List (Str×α)) (x:Str),(l++m).lookup x=match l.lookup x with|some v=>some v|none=>m.lookup x
 | [],m,x=>rfl
 | (k,v)::r,m,x=>by
  rw[List.cons_append,Qx9,Qx9];cases h:x == k with
  | true=>rfl
  | false=>exact nA r m x
theorem oY{α:Type}:∀(l:List (Str×α)) (x:Str),(∀v,(x,v) ∉ l)->l.lookup x=none
 | [],x,_=>rfl
 | (k,v)::r,x,h=>by
  rw[Qx9];cases e:x == k with
  | true=>
   have e':x=k:=by simpa using e
   exact absurd (by rw[e'];exact Qqz) (h v)
  | false=>exact oY r x λw hw=>h w (Qqj _ hw)
theorem lookup_mem{α:Type}:∀(l:List (Str×α)) (x:Str) (v:α),l.lookup x=some v->(x,v)∈l
 | [],x,v,h=>nomatch h
 | (k,w)::r,x,v,h=>by
  rw[Qx9] at h;cases e:x == k with
  | true=>
   rw[e] at h;cases h;have e':x=k:=by simpa using e
   rw[e'];exact Qqz
  | false=>
   rw[e] at h;exact Qqj _ (lookup_mem r x v h)
theorem iz{α:Type}:∀(l:List (Str×α)) (x:Str) (v:α),(l.map (·.1)).Nodup->(x,v)∈l->l.lookup x=some v
 | [],x,v,_,h=>nomatch h
 | (k,w)::r,x,v,nd,h=>by
  rw[Qx9];have nd':=Qzx.mp nd;rcases Qq8.mp h with e|h
  ·cases e;simp
  ·have hne:¬x=k:=λe=>nd'.1 (by rw[<-e];exact Qw5.mpr ⟨(x,v),h,rfl⟩);have hb:(x == k)=false:=by simpa using hne
   rw[hb];exact iz r x v nd'.2 h
theorem Dz{M:Model}{A:Around}{E:Value->Shared->Prop}{s:Shared}{scope:Scope}{globals:Addr}{cl:List (Str×Addr)}{qual:Str}{outer:Env}{Q:Env->Shared->Prop}
  (hQ:∀h',h'.Ns s.heap.objs.size (λ_=>none)->(∀b o,s.heap.get? b=some o->h'.get? b=some o)->CellsOk h' (s.heap.objs.size+1) (cellsFrom (s.heap.objs.size+1) scope.names [])->
   Q { scope,locals:=s.heap.objs.size,globals,cells:=cellsFrom (s.heap.objs.size+1) scope.names cl,qual,func:=none,code:=outer.code,frame:=outer.frame,builtins:=outer.builtins } { s with heap:=h' }) :
  wpAny M A (newFunctionEnv scope globals cl [] qual none .none (some outer)) Q E s:=by
 simp only[newFunctionEnv,Option.isSome_some,if_true];refine Qqx (wpAny_alloc ?_);refine Qqx (wpAny_layCells _ (λname kind cells=>by cases hkc:kind == NameKind.cell<;>simp[hkc]) _ _ _ _ ?_);have ok:=cellsFrom_ok scope.names (s.heap.push { cls:=.type "dict",data:=.dict #[] }) (s.heap.objs.size+1) [] ⟨λ_ _ hm=>(nomatch hm),List.Pairwise.nil⟩ (by rw[Qz1];exact Qq0 _);rw[Qz1] at ok;rw[show({ s with heap:=s.heap.push { cls:=.type "dict",data:=.dict #[] } }:Shared).heap.objs.size=s.heap.objs.size+1 from Qz1 ..];refine Qqx ?_;rw[Qj8];refine Qq6 (Qq6 (hQ _ ?_ ?_ ?_))
 ·exact(Heap.Ns.new s.heap (.type "dict")).keeps (pushCells_keeps _ _)
 ·exact λb o e=>pushCells_keeps _ _ b o (Qqw _ e)
 ·exact ok
def cxC(X:Cx)(scope:Scope)(N':List Str)(cells:List (Str×Addr))(C:Addr)(s0:Shared)(H0:Hp)(fp:List Addr):Cx:=
 { X with N:=N',s₀:=s0,H₀:=H0,env:=compEnvC scope cells C X.env,outer:=X.stack,stack:=X.stack,ex:=fp,fn:=λx=>decide (scope.names.lookup x=some .cell),pn:=[],xe:=λ_ _=>False }
theorem oX{env:Env}:∀(names:List (Str×NameKind)) (x:Str),
  (names.map λ(n,k)=>if (k == NameKind.free&&env.scope.kind == .function&&env.kindOf n == some .cell) then (n,NameKind.cell) else (n,k)).lookup x =
   (names.lookup x).map λk=>if (k == NameKind.free&&env.scope.kind == .function&&env.kindOf x == some .cell) then NameKind.cell else k
 | [],x=>rfl
 | (n,k)::r,x=>by
  show List.lookup x ((if (k == NameKind.free&&env.scope.kind == .function&&env.kindOf n == some .cell)=true then (n,NameKind.cell) else (n,k))::_)=_;cases hx:x == n with
  | true=>
   have e:x=n:=by simpa using hx
   subst e;simp only[Qx9,hx,Option.map_some];split<;>simp[Qx9]
  | false=>
   simp only[Qx9,hx];rw[<-oX r x];split<;>simp only[Qx9,hx]
def QG(names:List (Str×NameKind)):List Str->List Str->Bool
 | _,[]=>true
 | [],_::_=>false
 | x'::N',x::N=>((names.lookup x').isNone||(x' == x&&names.lookup x' == some .free))&&QG names N' N
theorem Ey{names:List (Str×NameKind)}:∀{N' N:List Str},QG names N' N=true->∀(i:Nat) (x:Str),i<N.length->N'[i]? = some x->(names.lookup x).isSome=true->N[i]? = some x/\names.lookup x=some .free
 | _,[],_,i,x,h,_,_=>absurd h (Qkk _)
 | [],_::_,h,_,_,_,_,_=>by cases h
 | x'::N',y::N,h,i,x,hi,e,hs=>by
  unfold QG at h;have h1:=(Qj9.mp h).1;have h2:=(Qj9.mp h).2;cases i with
  | zero=>
   have e':x'=x:=by simpa using e
   subst e';rcases Bool.or_eq_true_iff.mp h1 with q|q
   ·cases z:names.lookup x' with
    | none=>rw[z] at hs;cases hs
    | some k=>rw[z] at q;cases q
   ·have q1:=(Qj9.mp q).1;have q2:=(Qj9.mp q).2;have e1:x'=y:=by simpa using q1
    have e2:names.lookup x'=some .free:=by simpa using q2
    exact⟨by rw[e1];rfl,e2⟩
  | succ i=>exact Ey h2 i x (by simpa using hi) (by simpa using e) hs
structure lr(X:Cx)(scope:Scope)(N':List Str):Prop where
 kind:scope.kind = .function
 nd:(scope.names.map (·.1)).Nodup
 free:∀x∈scope.names,x.2 = .free->X.env.kindOf x.1=some .cell\/X.env.kindOf x.1=some .free
 chk:QG scope.names N' X.N=true
 len:X.N.length<=N'.length
def PIf(X:Cx)(ifs:List Expr)(t:TT):Prop:=
 ∀(pins:List (Addr×Obj)) (s:Shared) (σ:St) (H:Hp) (Q:Bool->Hp->Prop),Inv X pins σ H s->t σ H Q->
  wpAny (model X.prog X.w) X.A (forIn ifs true λc r=>if r=true then do let ok <-isTrue c X.env (eval c X.env);pure (ForInStep.yield ok) else pure (ForInStep.yield r)) (TP X pins σ Q) X.xe s
theorem Sy{X:Cx}:PIf X [] (λ_ H Q=>Q true H):=λpins s σ H Q I h=>by
 rw[Qj8];exact Qq6 ⟨H,I,h⟩
theorem Sx{X:Cx}{c:Expr}{t:TT}(h:PT X c t):PIf X [c] t:=λpins s σ H Q I hw=>by
 rw[Qkv,if_pos rfl];refine Qqx (Qqx (fP (h pins s σ H Q I hw) λb s' q=>?_));refine Qq6 ?_;show wpAny _ _ (forIn [] b _) _ _ _;rw[Qj8];exact Qq6 q
def qZ(n:Nat)(σ:St):St:=σ++List.replicate n none
def tLC(n:Nat)(wi:TI)(g:TG)(tc:TT)(te:TE):TE:=λσ H Q=>wi σ H λJ H1=>∀d,H1 d=none->∃W:Nat->Nat->St->Hp->Prop,(∃m,W 0 m (qZ (n - σ.length) σ) (upd H1 d (.lst [])))/\∀i m σ' H',W i m σ' H'->
 (J.stop i H'/\Q (.ref d) H')\/(J.go i H'/\∃N:St->Hp->Prop,(∀σ2 H2,N σ2 H2->∃m',m'<m/\W (i+1) m' σ2 H2)/\∀x H2,J.yld i H' x H2->g x σ' H2 λσ3 H3=>tc σ3 H3 λb H4=>
  if b=true then te σ3 H4 λy H5=>∃ys,H5 d=some (.lst ys)/\ys.length<sizeLine/\N σ3 (upd H5 d (.lst (ys++[y]))) else N σ3 H4)
section
variable{prog:Program}{w:World}{A:Around}{R:Result->Shared->Prop}{s:Shared}
theorem Bp{elt target iter:Expr}{ifs:List Expr}{scope:Scope}{pos:Pos}{it acc:Value}{env:Env}(I:Nat->Shared->Prop)
  (turn:∀n s,I n s->wpAny (model prog w) A (pyNext it) (λr s₁=>match r with
   | none=>R (.ok .next) s₁
   | some v=>wpAny (model prog w) A (letOwnedTupleGo target it v) (λ_ s₁'=>wpAny (model prog w) A (assign target env v) (λ_ s₂=>
     wpAny (model prog w) A (forIn ifs true λc r=>if r=true then do let ok <-isTrue c env (eval c env);pure (ForInStep.yield ok) else pure (ForInStep.yield r)) (λok s₃=>
      if ok=true then wpAny (model prog w) A (eval elt env) (λx s₄=>
       wpAny (model prog w) A (call (.builtin "list.append") [acc,x]) (λ_ s₅=>∃m,m<n/\I m s₅) (λ_ _=>False) s₄) (λ_ _=>False) s₃
      else ∃m,m<n/\I m s₃) (λ_ _=>False) s₂) (λ_ _=>False) s₁') (λ_ _=>False) s₁) (λ_ _=>False) s)
  (n:Nat) (h:I n s) :
  codeAny (model prog w) A (.compLoop (.ListComp elt [⟨target,iter,ifs,0⟩] scope pos) 0 it acc env) R s:=by
 refine codeAny_loop rfl I (λn s hI=>?_) n h;show wpAny _ A ((compTurn (.ListComp elt [⟨target,iter,ifs,0⟩] scope pos) 0 it acc env).onRaise (λx=>do noteFrame x env;theTreesLotGoes x)) _ _ s;refine wpAny_noted ?_;rw[compTurn_list];refine Qqx (wpAny_standAt (Qqx (Qz7 (turn n s hI) (λr s₁ h₁=>?_) λ_ _ h'=>h'.elim)));cases r with
 | none=>exact Qq6 h₁
 | some v=>
  refine Qqx (Qz7 h₁ (λ_ s₁' h₁'=>?_) λ_ _ h'=>h'.elim);refine Qqx (Qz7 h₁' (λ_ s₂ h₂=>Qqx (Qz7 h₂ (λok s₃ h₃=>?_) λ_ _ h'=>h'.elim)) λ_ _ h'=>h'.elim);cases ok with
  | false=>exact Qq6 ⟨rfl,h₃⟩
  | true=>
   exact Qqx (Qqx (Qz7 h₃ (λx s₄ h₄=>Qqx (Qz7 h₄ (λ_ s₅ h₅=>Qq6 (Qq6 ⟨rfl,h₅⟩)) λ_ _ h'=>h'.elim)) λ_ _ h'=>h'.elim))
end
theorem Qi{X:Cx}{scope:Scope}{N':List Str}{pins:List (Addr×Obj)}{σ:St}{H:Hp}{s:Shared}{h':Heap}{fp:List Addr}(ok:lr X scope N')(I:Inv X pins σ H s)(hf:∀b∈fp,qC X pins H b)(hlt:∀b∈fp,b<s.heap.objs.size)
  (hn:h'.Ns s.heap.objs.size (λ_=>none)) (hk:∀b o,s.heap.get? b=some o->h'.get? b=some o) (co:CellsOk h' (s.heap.objs.size+1) (cellsFrom (s.heap.objs.size+1) scope.names [])) :
  Inv (cxC X scope N' (cellsFrom (s.heap.objs.size+1) scope.names (lA X.env scope.names [])) s.heap.objs.size s H fp) [] (qZ (N'.length - σ.length) σ) H { s with heap:=h' }:=by
 have hfree:∀n,(n,NameKind.free)∈scope.names->∃c,X.env.cells.lookup n=some c:=λn hm=>I.ok.has n (ok.free _ hm rfl)
 -- the cells by name
 have nJ:∀x c,(cellsFrom (s.heap.objs.size+1) scope.names (lA X.env scope.names [])).lookup x=some c->
   ((x,c)∈cellsFrom (s.heap.objs.size+1) scope.names []/\(cellsFrom (s.heap.objs.size+1) scope.names []).lookup x=some c)\/((cellsFrom (s.heap.objs.size+1) scope.names []).lookup x=none/\X.env.cells.lookup x=some c):=λx c e=>by
  rw[fM,nA] at e;cases q:(cellsFrom (s.heap.objs.size+1) scope.names []).lookup x with
  | some d=>rw[q] at e;cases e;exact .inl ⟨lookup_mem _ _ _ q,rfl⟩
  | none=>rw[q] at e;exact .inr ⟨rfl,rP _ _ x c hfree (λy d h=>by simp at h) e⟩
 have wu:∀x c,(x,c)∈cellsFrom (s.heap.objs.size+1) scope.names []->s.heap.objs.size+1<=c:=λx c h=>(co.empty x c h).2;have O4:∀x c,X.env.cells.lookup x=some c->c<s.heap.objs.size:=λx c h=>let ⟨v,q⟩:=I.cell x c h;q.lt
 have Bd:∀x,(relabel scope X.env).names.lookup x=(scope.names.lookup x).map λk=>if (k == NameKind.free&&X.env.scope.kind == .function&&X.env.kindOf x == some .cell) then NameKind.cell else k:=λx=>oX _ _
 have Ec:∀x,(x,NameKind.cell)∈scope.names->∃c,(cellsFrom (s.heap.objs.size+1) scope.names []).lookup x=some c:=λx hx=>by
  have q:=PySem.W.cellsFrom_some scope.names (s.heap.objs.size+1) [] (.inl (iz _ _ _ ok.nd hx));exact Qzq.mp q
 have fpC:∀b∈fp,∀x c,(cellsFrom (s.heap.objs.size+1) scope.names (lA X.env scope.names [])).lookup x=some c->c≠b:=λb hb x c e=>by
  rcases nJ x c e with ⟨h1,_⟩|⟨_,h2⟩
  ·have h3:=wu x c h1;have h4:=hlt b hb;rintro rfl;exact absurd (Qwz h4 (Qky h3)) (Qz3 _)
  ·exact(hf b hb).2.2.2.2.1 x c h2
 refine⟨⟨I.ok.mod,ok.kind,I.ok.glob,I.ok.blt,Qq0 _,λx y c h1 h2=>?_,λx hx=>?_,λx c hx e=>?_,I.ok.hd,I.ok.frames,.inl rfl,λb hb=>⟨Qw9 (hlt b hb),λx c e=>fpC b hb x c e⟩,I.bs,Qq3 I.ok.V4 I.sz,λb o e hb=>?_,λb hb=>?_,I.stack,I.Ii⟩,
  rfl,I.bare,Un.kept hk,⟨_,hn,λi x v e1 e2 e3=>?_⟩,λx c e=>?_,I.hok.fresh (Qq0 _),λx c e=>?_,λp hp=>absurd (show p∈([]:List (Addr×Obj)) from hp) (by simp),I.hok.kept hk,?_⟩
 ·-- one name a cell
  rcases nJ x c h1 with ⟨p1,_⟩|⟨_,p2⟩
  ·rcases nJ y c h2 with ⟨q1,_⟩|⟨_,q2⟩
   ·exact name_of_addr co.apart p1 q1
   ·exact absurd (Qwz (O4 y c q2) (Qky (wu x c p1))) (Qz3 _)
  ·rcases nJ y c h2 with ⟨q1,_⟩|⟨_,q2⟩
   ·exact absurd (Qwz (O4 x c p2) (Qky (wu y c q1))) (Qz3 _)
   ·exact I.ok.inj x y c p2 q2
 ·-- each cell name has one
  show ∃c,(cellsFrom (s.heap.objs.size+1) scope.names (lA X.env scope.names [])).lookup x=some c;have hx:(relabel scope X.env).names.lookup x=some .cell\/(relabel scope X.env).names.lookup x=some .free:=hx;rw[Bd] at hx;cases q:scope.names.lookup x with
  | none=>rw[q] at hx;rcases hx with hx|hx<;>cases hx
  | some k=>
   rw[q] at hx;rw[fM,nA];cases z:(cellsFrom (s.heap.objs.size+1) scope.names []).lookup x with
   | some d=>exact⟨d,rfl⟩
   | none=>
    have hkf:k = .free:=by
     cases k with
     | free=>rfl
     | cell=>obtain⟨c,hc⟩:=Ec x (lookup_mem _ _ _ q);rw[hc] at z;cases z
     | _=>rcases hx with hx|hx<;>simp at hx
    subst hkf;exact Qzq.mp (rO _ _ x (lookup_mem _ _ _ q))
 ·-- its own cells are new
  have hx':scope.names.lookup x=some .cell:=Qx0 hx;rcases nJ x c e with ⟨p1,_⟩|⟨p1,_⟩
  ·exact Qky (wu x c p1)
  ·obtain⟨d,hd⟩:=Ec x (lookup_mem _ _ _ hx');rw[hd] at p1;cases p1
 ·rcases(hf b hb).2.2.2.1 with z|z
  ·exact I.ok.Pg b o e z
  ·have h1:=Qwq e;have h2:=I.ok.V4;exact absurd (Qwz h1 (Qq3 h2 z)) (Qz3 _)
 ·intro hm;rcases Qq8.mp (I.Gk b hm) with z|z
  ·exact(hf b hb).2.1 z
  ·exact(hf b hb).2.2.1 z
 ·-- the names
  have hiσ:i<σ.length:=by
   by_cases hi:i<σ.length
   ·exact hi
   ·unfold qZ at e2;rw[Qzj (by omega),Qz5] at e2;split at e2<;>cases e2
  have e2':σ[i]? = some (some v):=by
   unfold qZ at e2
   rwa [Qxq hiσ] at e2
  have vis:(scope.names.lookup x).isSome=true:=by
   have e3:(relabel scope X.env).names.lookup x=some .local\/(relabel scope X.env).names.lookup x=some .cell\/(relabel scope X.env).names.lookup x=some .free:=e3;rw[Bd] at e3;cases q:scope.names.lookup x with
   | none=>rw[q] at e3;rcases e3 with z|z|z<;>cases z
   | some k=>rfl
  obtain⟨hN,hfr⟩:=Ey ok.chk i x (by rw[<-I.len];exact hiσ) e1 vis;have hm:=lookup_mem _ _ _ hfr;have hkk:=ok.free _ hm rfl;obtain⟨m,hns,hl⟩:=I.loc;obtain⟨u,ru,lk⟩:=hl i x v hN e2' (hkk.elim (λz=>.inr (.inl z)) λz=>.inr (.inr z));refine⟨u,ru,.inr ⟨?_,?_⟩⟩
  ·show(relabel scope X.env).names.lookup x=some .cell\/(relabel scope X.env).names.lookup x=some .free;rw[Bd,hfr];by_cases hc:(NameKind.free == NameKind.free&&X.env.scope.kind == .function&&X.env.kindOf x == some .cell)=true
   ·left;rw[Option.map_some,if_pos hc]
   ·right;rw[Option.map_some,if_neg hc]
  ·rcases lk with ⟨hl1,_⟩|⟨_,c,hc,hcell⟩
   ·rcases hkk with z|z<;>(rw[z] at hl1;cases hl1)
   ·refine⟨c,?_,hcell.keeps hk⟩;show(cellsFrom (s.heap.objs.size+1) scope.names (lA X.env scope.names [])).lookup x=some c;rw[fM,nA];have hno:(cellsFrom (s.heap.objs.size+1) scope.names []).lookup x=none:=oY _ _ λd hd=>by
     have h1:=iz _ _ _ ok.nd (lY _ _ _ _ hd);rw[hfr] at h1;cases h1
    rw[hno];obtain⟨d,hd⟩:=Qzq.mp (rO (env:=X.env) scope.names [] x hm);have h2:=rP _ _ x d hfree (λy d h=>by simp at h) hd;rw[hc] at h2;show(lA X.env scope.names []).lookup x=some c;rw[hd,h2]
 ·rcases nJ x c e with ⟨p1,_⟩|⟨_,p2⟩
  ·exact⟨_,(co.empty x c p1).1⟩
  ·obtain⟨v,q⟩:=I.cell x c p2;exact⟨v,q.keeps hk⟩
 ·rcases nJ x c e with ⟨p1,_⟩|⟨p0,p2⟩
  ·exact .inl (I.hok.fresh (Qky (wu x c p1)))
  ·rcases I.rH x c p2 with z|⟨_,z⟩
   ·exact .inl z
   ·refine .inr ⟨?_,z⟩;show decide (scope.names.lookup x=some .cell)=false;refine Qq9 λq=>?_;obtain⟨d,hd⟩:=xV (n:=s.heap.objs.size+1) q;rw[p0] at hd;cases hd
 ·show(qZ (N'.length - σ.length) σ).length=N'.length;unfold qZ;rw[Qqk,Qzz];have h1:=ok.len;have h2:=I.len;omega
abbrev jr(X:Cx)(scope:Scope)(N':List Str)(X':Cx):Prop:=
 ∃(cells:List (Str×Addr)) (C:Addr) (s0:Shared) (H0:{ H:Hp // ∀b qs,X.H₀ b=some (.tab qs)->H b=some (.tab qs) }) (fp:List Addr),X'=cxC X scope N' cells C s0 H0.1 fp
theorem zz{X:Cx}{elt tg iter:Expr}{ifs:List Expr}{scope:Scope}{N':List Str}{pos:Pos}{g:TG}{tc:TT}{te:TE}{use:Option (Value->Sem Unit)}{QQ:Value->Shared->Prop}
  (ok:lr X scope N') (hc:X.calm=true)
  (bg:∀X',jr X scope N' X'->PG X' tg g) (bc:∀X',jr X scope N' X'->PIf X' ifs tc) (be:∀X',jr X scope N' X'->PE X' elt te)
  {pins:List (Addr×Obj)} {s2:Shared} {σ:St} {H2:Hp} {Q:VK} {it:Addr} {fp:List Addr} {tn:Nat->Heap->Prop} {J:It} (I2:Inv X pins σ H2 s2) (T:Turn X.prog X.w X.K tg J fp it tn) (st2:tn 0 s2.heap) (f2:∀b∈fp,qC X pins H2 b)
  (q:∀d,H2 d=none->∃W:Nat->Nat->St->Hp->Prop,(∃m,W 0 m (qZ (N'.length - σ.length) σ) (upd H2 d (.lst [])))/\∀i m σ' H',W i m σ' H'->
   (J.stop i H'/\Q (.ref d) H')\/(J.go i H'/\∃N:St->Hp->Prop,(∀σ2 H2,N σ2 H2->∃m',m'<m/\W (i+1) m' σ2 H2)/\∀x H2,J.yld i H' x H2->g x σ' H2 λσ3 H3=>tc σ3 H3 λb H4=>
    if b=true then te σ3 H4 λy H5=>∃ys,H5 d=some (.lst ys)/\ys.length<sizeLine/\N σ3 (upd H5 d (.lst (ys++[y]))) else N σ3 H4))
  (fin:∀d C m s' H',Inv X pins σ H' s'->Q (.ref d) H'->s'.heap.Ns C m->H' C=none->C≠X.env.locals->X.s₀.heap.objs.size<=C->(∀x c,X.env.cells.lookup x=some c->c≠C)->(∀p∈X.pn++pins,p.1≠C)->
   compPost (model X.prog X.w) X.A X.xe use QQ (.ref d) C (.ok .next) s') :
  wpAny (model X.prog X.w) X.A (newList []) (λacc s₃=>wpAny (model X.prog X.w) X.A (newFunctionEnv scope X.env.globals (lA X.env scope.names []) [] X.env.qual none .none (some X.env)) (λcenv s₄=>
   codeAny (model X.prog X.w) X.A (.compStart (.ListComp elt [⟨tg,iter,ifs,0⟩] scope pos) 0 (.ref it) acc { cenv with scope:=relabel scope X.env }) (compPost (model X.prog X.w) X.A X.xe use QQ acc cenv.locals) s₄) X.xe s₃) X.xe s2:=by
 have hd2:H2 s2.heap.objs.size=none:=I2.fresh;refine Qjy (Dz λh' hns hkeep hco=>?_)
 -- the state behind the list
 obtain⟨W,⟨m0,w0⟩,turn⟩:=q s2.heap.objs.size hd2;have I3:Inv X pins σ (upd H2 s2.heap.objs.size (.lst [])) { s2 with heap:=s2.heap.push { cls:=.type "list",data:=.seq ([]:List Value).toArray } }:=I2.abT (t':=s2.toks) .nil (Qxk _);have yC:∀b∈fp,b<s2.heap.objs.size:=λb hb=>by
  obtain⟨o,e,_⟩:=T.obj _ _ st2 b hb;exact Qwq e
 have f3:∀b∈fp,qC X pins (upd H2 s2.heap.objs.size (.lst [])) b:=λb hb=>by
  refine⟨?_,(f2 b hb).2⟩;rw[bw (Qw9 (yC b hb))];exact(f2 b hb).1
 have lt3:∀b∈fp,b<({ s2 with heap:=s2.heap.push { cls:=.type "list",data:=.seq ([]:List Value).toArray } }:Shared).heap.objs.size:=λb hb=>by
  show b<(s2.heap.push _).objs.size;rw[Qz1];exact Nat.lt_succ_of_lt (yC b hb)
 have st3:tn 0 h':=T.keep _ _ _ st2 λb hb o e=>hkeep b o (Qqw _ e);have I4:=Qi (fp:=fp) ok I3 f3 lt3 hns hkeep hco;generalize hs3:({ s2 with heap:=s2.heap.push { cls:=.type "list",data:=.seq ([]:List Value).toArray } }:Shared)=s3 at *;have sz3:s3.heap.objs.size=s2.heap.objs.size+1:=by rw[<-hs3];exact Qz1 ..
 generalize hX':cxC X scope N' (cellsFrom (s3.heap.objs.size+1) scope.names (lA X.env scope.names [])) s3.heap.objs.size s3 (upd H2 s2.heap.objs.size (.lst [])) fp=X' at I4;have at':jr X scope N' X':=⟨_,_,_,⟨_,I3.base.tabs⟩,_,hX'.symm⟩;have hg:=bg X' at';have hif:=bc X' at';have he:=be X' at';have eP:X'.prog=X.prog:=by rw[<-hX'];rfl
 have eW:X'.w=X.w:=by rw[<-hX'];rfl
 have eK:X'.K=X.K:=by rw[<-hX'];rfl
 have eA:X'.A=X.A:=by rw[<-hX'];rfl
 have eC:X'.calm=true:=by rw[<-hX'];exact hc
 have eX:X'.xe=λ_ _=>False:=by rw[<-hX'];rfl
 have ePn:X'.pn=[]:=by rw[<-hX'];rfl
 have eEx:X'.ex=fp:=by rw[<-hX'];rfl
 have eL:X'.env.locals=s3.heap.objs.size:=by rw[<-hX'];rfl
 have eFs:X'.fs=frs X.stack:=by rw[<-hX'];rfl
 have aeo:compEnvC scope (cellsFrom (s3.heap.objs.size+1) scope.names (lA X.env scope.names [])) s3.heap.objs.size X.env=X'.env:=by rw[<-hX'];rfl
 have eS0:X'.s₀=s3:=by rw[<-hX'];rfl
 have eH0:X'.H₀=upd H2 s2.heap.objs.size (.lst []):=by rw[<-hX'];rfl
 -- what is true of the iterator's objects in the block
 have stat:∀{H':Hp},(∀b∈fp,H' b=none)->∀b∈fp,qC X' [] H' b:=λ{H'} hn b hb=>by
  refine⟨hn b hb,?_,?_,.inl (by rw[eEx];exact hb),λx c e=>?_,λp hp=>?_⟩
  ·rw[eL];exact Qw9 (lt3 b hb)
  ·have:=I4.ok.Qt b (by rw[eEx];exact hb);exact this
  ·exact(I4.ok.exf b (by rw[eEx];exact hb)).2 x c e
  ·rw[ePn] at hp;exact absurd hp (by simp)
 -- the outer context again
 have back:∀σ' H' s',Inv X' [] σ' H' s'->Inv X pins σ H' s':=λσ' H' s' J'=>by
  have hb:=J'.base;rw[eFs,eEx,eS0,eH0] at hb;have hos:=J'.os;rw[eS0] at hos;have hok:=J'.hok;rw[eP,eW] at hok;exact I3.call' (ch:=fp) hos hb hok J'.bare λb hbm=>⟨(f3 b hbm).2.2.2.1,(f3 b hbm).2.1,(f3 b hbm).2.2.2.2.1,(f3 b hbm).2.2.2.2.2⟩
 have loop:∀s4:Shared,s4 = { s3 with heap:=h' }->codeAny (model X.prog X.w) X.A (.compLoop (.ListComp elt [⟨tg,iter,ifs,0⟩] scope pos) 0 (.ref it) (.ref s2.heap.objs.size) X'.env) (compPost (model X.prog X.w) X.A X.xe use QQ (.ref s2.heap.objs.size) s3.heap.objs.size) s4:=by
  rintro s4 rfl;refine Bp (λn s'=>∃i σ' H',Inv X' [] σ' H' s'/\tn i s'.heap/\(∀b∈fp,H' b=none)/\W i n σ' H') ?_ m0 ⟨0,_,_,I4,st3,λb hb=>(f3 b hb).1,w0⟩;rintro n s5 ⟨i,σ5,H5,I5,WQ,fr5,w5⟩;rcases turn i n σ5 H5 w5 with ⟨stop,qn⟩|⟨go,N,hN,step⟩
  ·have td:=T.done X' eP eW eK eC i [] s5 σ5 H5 (λ_ _=>False) I5 (stat fr5) WQ stop;rw[eA] at td;refine fP td λr s6 ⟨hr,I6⟩=>?_;subst hr;obtain⟨mC,hnC,_⟩:=id I6.loc;rw[eL] at hnC;have lc:X.env.locals<s3.heap.objs.size:=by
    have:=I3.lt;exact this
   refine fin _ _ mC s6 H5 (back _ _ _ I6) qn hnC ?_ (Qjv lc) I3.sz (λx c e=>?_) (λp hp=>?_)
   ·have:=I6.free;rw[eL] at this;exact this
   ·obtain⟨v,z⟩:=I3.cell x c e;exact Qw9 z.lt
   ·exact Qw9 (Qwq (I3.pin p hp).1)
  ·have ti:=T.item X' eP eW eK eC i [] s5 σ5 H5 (λ_ _=>False) I5 (stat fr5) WQ go;rw[eA] at ti;refine fP ti λr s6 ⟨u,hr,h6⟩=>?_;subst hr;refine fP h6 λ_ s7 ⟨x,H7,I7,r7,y7,st7,fr7⟩=>?_;have I7':=I7.pinned (stat fr7) (T.obj _ _ st7);have hg':=hg _ s7 σ5 H7 x u _ I7' r7 (step x H7 y7);rw[eP,eW,eA,eX] at hg';refine fP hg' λ_ s8 ⟨σ8,H8,I8,q8⟩=>?_;have ab5:=hif _ s8 σ8 H8 _ I8 q8;rw[eP,eW,eA,eX] at ab5;refine fP ab5 λb s9 ⟨H9,I9,q9⟩=>?_;have again:∀{σz:St} {Hz:Hp} {sz:Shared},Inv X' ([]++vZ fp s7.heap) σz Hz sz->N σz Hz->∃m,m<n/\∃i σ' H',Inv X' [] σ' H' sz/\tn i sz.heap/\(∀b∈fp,H' b=none)/\W i m σ' H':=λ{σz Hz sz} Iz nz=>by
    obtain⟨m',hm,wz⟩:=hN σz Hz nz;refine⟨m',hm,i+1,σz,Hz,Iz.qL,T.keep _ _ _ st7 λb hb o e=>(Iz.pin (b,o) (Qxz _ (Qxz _ (nu hb e)))).1,λb hb=>?_,wz⟩;obtain⟨o,e,d⟩:=T.obj _ _ st7 b hb;exact(Iz.pin (b,o) (Qxz _ (Qxz _ (nu hb e)))).2.1
   cases b with
   | false=>
    rw[if_neg Qxx] at q9 ⊢;exact again I9 q9
   | true=>
    rw[if_pos rfl] at q9 ⊢;have he':=he _ s9 σ8 H9 _ I9 q9;rw[eP,eW,eA,eX] at he';refine fP he' λy sa ⟨yv,Ha,Ia,ra,ys,hys,hlen,qa⟩=>?_;have ap:=zg (X:=X') _ sa σ8 Ha (.ref s2.heap.objs.size) [yv] (.ref s2.heap.objs.size) [y] (λv H'=>v = .non/\N σ8 H') Ia rfl (.cons ra .nil) ⟨_,ys,yv,rfl,rfl,hys,hlen,rfl,qa⟩;rw[eP,eW,eA,eX] at ap;refine fP ap λ_ sb ⟨vb,Hb,Ib,rb,_,nb⟩=>?_;exact again Ib nb
 show codeAny _ _ (.compStart _ 0 (.ref it) (.ref s2.heap.objs.size) (compEnvC scope (cellsFrom (s3.heap.objs.size+1) scope.names (lA X.env scope.names [])) s3.heap.objs.size X.env)) (compPost (model X.prog X.w) X.A X.xe use QQ (.ref s2.heap.objs.size) s3.heap.objs.size) _;rw[aeo];exact codeAny_compStart_list (loop _ rfl) (T.self X.A 0 _ _ _ st3 (loop _ rfl))
theorem abw{X:Cx}{elt tg iter:Expr}{ifs:List Expr}{scope:Scope}{N':List Str}{pos:Pos}{wi:TI}{g:TG}{tc:TT}{te:TE}
  (ok:lr X scope N') (hc:X.calm=true) (hi:PI X tg iter wi)
  (bg:∀X',jr X scope N' X'->PG X' tg g) (bc:∀X',jr X scope N' X'->PIf X' ifs tc) (be:∀X',jr X scope N' X'->PE X' elt te)
  (hs:∀x,foldedSetIterable iter X.env x=pure x:=by intro _;rfl) :
  PE X (.ListComp elt [⟨tg,iter,ifs,0⟩] scope pos) (tLC N'.length wi g tc te):=by
 intro pins s σ H Q I h;rw[eval_ListComp];have hfree:∀n,(n,NameKind.free)∈scope.names->∃c,X.env.cells.lookup n=some c:=λn hm=>I.ok.has n (ok.free _ hm rfl);refine wpAny_comprehension_free (use:=none) rfl hs (xU hfree) ok.kind (λx hx hl=>iz _ _ _ ok.nd (by rw[<-hl];exact hx)) ?_;refine fP (hi pins s σ H _ I h) λv s1 h1=>fP h1 λitv s2 h2=>?_;obtain⟨it,fp,tn,J,H2,e,I2,T,st2,f2,q⟩:=h2;subst e;refine zz ok hc bg bc be I2 T st2 f2 q λd C m s' H' I' hq hn hC hL h0 hcell hpin=>?_;refine⟨m,hn,λh' hs'=>?_⟩;have I'':Inv X pins σ H' { s' with heap:=h',toks:=s'.toks }:=I'.turned (it:=C) (λb o hb e=>(hs'.2 b hb).trans e) hC hL (.inr h0) hcell hpin;exact⟨.ref d,H',I'',rfl,hq⟩
theorem Ol{X:Cx}{elt tg iter:Expr}{ifs:List Expr}{scope:Scope}{N':List Str}{pos spos py:Pos}{wi:TI}{g:TG}{tc:TT}{te:TE}{i:Nat}{y:Str}
  (ok:lr X scope N') (hc:X.calm=true) (hi:PI X tg iter wi)
  (bg:∀X',jr X scope N' X'->PG X' tg g) (bc:∀X',jr X scope N' X'->PIf X' ifs tc) (be:∀X',jr X scope N' X'->PE X' elt te)
  (hN:X.N.Nodup) (hy:X.N[i]? = some y) (hx:Loc X.env.scope y)
  (hsw:swapsWith (.ListComp elt [⟨tg,iter,ifs,0⟩] scope pos) (some (.Name y py)) spos.line X.env=pure true)
  (hf:X.fn y=true\/X.env.scope.names.lookup y=some .local:=by first|exact .inl rfl|exact .inr rfl|assumption)
  (hs:∀x,foldedSetIterable iter X.env x=pure x:=by intro _;rfl) :
  PS X (.Assign [.Name y py] (.ListComp elt [⟨tg,iter,ifs,0⟩] scope pos) spos) (Rw (tLC N'.length wi g tc te) (Ei i)):=by
 intro pins s σ H D I h;rw[exec_Assign_Name_used _ _ _ _ hsw];refine Qqx (wpAny_standAt (Qqx ?_));have hfree:∀n,(n,NameKind.free)∈scope.names->∃c,X.env.cells.lookup n=some c:=λn hm=>I.ok.has n (ok.free _ hm rfl);show wpAny _ X.A (do let _ <-comprehension (.ListComp elt [⟨tg,iter,ifs,0⟩] scope pos) scope X.env _ (newList []) false (eval iter X.env) (some (assign (.Name y py) X.env))) _ _ s;refine Qqx (Qz7 (wpAny_comprehension_free (use:=some (assign (.Name y py) X.env)) (Q:=λ_ s'=>SP X pins D .next s') rfl hs (xU hfree) ok.kind (λx hx hl=>iz _ _ _ ok.nd (by rw[<-hl];exact hx)) ?_) (λ_ s' hq=>Qq6 (Qq6 hq)) λ_ _ e=>e);refine fP (hi pins s σ H _ I h) λv s1 h1=>fP h1 λitv s2 h2=>?_;obtain⟨it,fp,tn,J,H2,e,I2,T,st2,f2,q⟩:=h2;subst e;refine zz (Q:=λx H1=>Ei i x σ H1 D.nx) ok hc bg bc be I2 T st2 f2 q λd C m s' H' I' hq hn hC hL h0 hcell hpin=>?_;refine wpAny_assign_Name (yP (v:=.ref d) I' hN hy hx rfl (λs'' I'' sb=>?_) hf);obtain⟨a,hsb,ha⟩:=sb;have haC:C≠a:=by
  rcases ha with z|z
  ·rw[z];exact hL
  ·exact(hcell y a z).symm
 refine⟨m,hn.sameBut hsb haC,λh' hs'=>?_⟩;have I3:Inv X pins (σ.set i (some (.ref d))) H' { s'' with heap:=h',toks:=s''.toks }:=I''.turned (it:=C) (λb o hb e=>(hs'.2 b hb).trans e) hC hL (.inr h0) hcell hpin;exact⟨_,H',I3,hq⟩
end L2
namespace Ev
open PySem PySem.Spec PyProof.Rows L2
inductive D where
 | non
 | bl (b:Bool)
 | int (i:Int)
 | str (x:List Nat)
 | tup (xs:List D)
 | lst (xs:List D)
 | arr (xs:List D)
 | dct (kvs:List (D×D))
 | iQ (kvs:List (D×D))
 | clo (st:Stmt) (ds:List D)
 deriving Inhabited
abbrev Fg:=PySem.W.Frag
def strOf(x:List Nat):Str:=⟨x.toArray⟩
def mL:D->Option Key
 | .int i=>some (.inl i)
 | .str x=>some (.inr (strOf x))
 | _=>none
mutual
def sr:D->Option NK
 | .int i=>some (.num i)
 | .bl b=>some (.num (if b then 1 else 0))
 | .str x=>some (.txt (strOf x))
 | .tup xs=>(Dy xs).map .tup
 | _=>none
def Dy:List D->Option (List NK)
 | []=>some []
 | d::ds=>match sr d,Dy ds with
  | some k,some ks=>some (k::ks)
  | _,_=>none
end
def defName(s:Stmt):Str:=match s with
 | .FunctionDef n _ _ _ _ _ _ _ _ _=>n
 | _=>""
def freeOf(s:Stmt):List Str:=(((aO s).names.filter (·.2 == .free)).map (·.1)).reverse
def aab(F:Hp)(c:Addr)(v:V):Prop:=∃(o:Obj) (u:HO) (w:Value),F c=some (.Ek o u)/\o.data = .cell (some w)/\RelV v w
def vD(F:Hp):List (Str×Addr)->List V->Prop
 | [],vs=>vs=[]
 | (_,c)::r,vs=>∃v vs',vs=v::vs'/\aab F c v/\vD F r vs'
def aaa(F:Hp)(c:Addr)(q:Str):Prop:=∃(o:Obj) (u:HO) (vs:Array Value) (t:Tok),F c=some (.Ek o u)/\o.data = .fields vs/\vs[1]? = some (.str q t)
def aeH(F:Hp)(st:Stmt)(a:Addr)(vs:List V):Prop:=∃(u:HO) (q:Str) (cl:List (Str×Addr)) (doc pm ctv:Value) (c:Addr),
 F a=some (.Ek (PySem.W.fnMade (defName st) q (jm st) (eZ st) (aO st) cl doc pm c ctv) u)/\aaa F c q/\cl.map (·.1)=freeOf st/\(cl.map (·.2)).Nodup/\vD F cl vs
theorem aP.cells{F F':Hp}(e:aP F F'):∀{cl:List (Str×Addr)} {vs:List V},vD F cl vs->vD F' cl vs
 | [],_,h=>h
 | (_,c)::r,_,⟨v,vs',h0,⟨o,u,w,h1,h2⟩,h3⟩=>⟨v,vs',h0,⟨o,u,w,e _ _ h1,h2⟩,aP.cells e h3⟩
def Mark(K:Fg)(st:Stmt)(a:Addr):Prop:=∃(n:Str) (p:Pos) (oc:Value) (od:Option Addr) (fd:FuncData) (sl:Array (Option Value)),st = .Global [n] p/\PySem.W.nsIn K mainGlobals n=some (some (.ref a))/\K.lookup a=some ⟨oc,od,.func fd,sl⟩
def adZ(st:Stmt):Bool:=match st with
 | .Global _ _=>true
 | _=>false
def Clo(K:Fg)(F:Hp)(st:Stmt)(a:Addr)(vs:List V):Prop:=aeH F st a vs/\adZ st=false\/Mark K st a
theorem aP.clo{K:Fg}{F F':Hp}{st:Stmt}{a:Addr}{vs:List V}(e:aP F F')(h:Clo K F st a vs):Clo K F' st a vs:=by
 rcases h with ⟨h,hg⟩|h
 rotate_left
 ·exact .inr h
 refine .inl ⟨?_,hg⟩;obtain⟨u,q,cl,doc,pm,ctv,c,h1,⟨o,u2,ws,t,h2,h3⟩,h4,h5,h6⟩:=h;exact⟨u,q,cl,doc,pm,ctv,c,e _ _ h1,⟨o,u2,ws,t,e _ _ h2,h3⟩,h4,h5,aP.cells e h6⟩
mutual
def Rep(K:Fg)(F:Hp):D->V->Prop
 | .non,v=>v = .non
 | .bl b,v=>v = .bl b
 | .int i,v=>v = .int i
 | .str x,v=>v = .str (strOf x)/\x.length<=sizeLine
 | .tup xs,v=>xs.length<=sizeLine/\∃a vs,v = .ref a/\j8 K F a vs/\bH K F xs vs
 | .lst xs,v=>xs.length<=sizeLine/\∃a vs,v = .ref a/\F a=some (.lst vs)/\bH K F xs vs
 | .arr xs,v=>xs.length<=sizeLine/\∃a vs,v = .ref a/\mV K F a vs/\bH K F xs vs
 | .dct kvs,v=>kvs.length<=sizeLine/\∃a ks,v = .ref a/\Rd F a (.dK ks)/\dC K F kvs ks
 | .iQ kvs,v=>kvs.length<=sizeLine/\∃a ks,v = .ref a/\Rd F a (.dN ks)/\cW K F kvs ks
 | .clo st ds,v=>∃a vs,v = .ref a/\Clo K F st a vs/\bH K F ds vs
def bH(K:Fg)(F:Hp):List D->List V->Prop
 | [],vs=>vs=[]
 | d::ds,vs=>∃v r,vs=v::r/\Rep K F d v/\bH K F ds r
def dC(K:Fg)(F:Hp):List (D×D)->List (Key×V)->Prop
 | [],vs=>vs=[]
 | (k,d)::ds,vs=>∃q v r,vs=(q,v)::r/\mL k=some q/\Rep K F d v/\dC K F ds r
def cW(K:Fg)(F:Hp):List (D×D)->List (NK×V×V)->Prop
 | [],vs=>vs=[]
 | (k,d)::ds,vs=>∃q u v r,vs=(q,u,v)::r/\sr k=some q/\q.dep<=8/\Rep K F k u/\Rep K F d v/\cW K F ds r
end
theorem aP.rd{F F':Hp}{a:Addr}{u:HO}(e:aP F F')(h:Rd F a u):Rd F' a u:=by
 rcases h with h|⟨o,h⟩
 ·exact .inl (e _ _ h)
 ·exact .inr ⟨o,e _ _ h⟩
theorem aP.tupK{K:Fg}{F F':Hp}{a:Addr}{xs:List V}(e:aP F F')(h:j8 K F a xs):j8 K F' a xs:=by
 rcases h with h|h
 ·exact .inl (aP.rd e h)
 ·exact .inr h
mutual
theorem Rep.mono{K:Fg}{F F':Hp}(e:aP F F'):∀(d:D) (v:V),Rep K F d v->Rep K F' d v
 | .non,_,h=>h
 | .bl _,_,h=>h
 | .int _,_,h=>h
 | .str _,_,h=>h
 | .tup xs,v,h=>by
  obtain⟨z,a,vs,rfl,h1,h2⟩:=h;exact⟨z,a,vs,rfl,aP.tupK e h1,bH.mono e xs vs h2⟩
 | .lst xs,v,h=>by
  obtain⟨z,a,vs,rfl,h1,h2⟩:=h;exact⟨z,a,vs,rfl,e _ _ h1,bH.mono e xs vs h2⟩
 | .arr xs,v,h=>by
  obtain⟨z,a,vs,rfl,h1,h2⟩:=h;exact⟨z,a,vs,rfl,e.seq h1,bH.mono e xs vs h2⟩
 | .dct kvs,v,h=>by
  obtain⟨z,a,ks,rfl,h1,h2⟩:=h;exact⟨z,a,ks,rfl,aP.rd e h1,dC.mono e kvs ks h2⟩
 | .iQ kvs,v,h=>by
  obtain⟨z,a,ks,rfl,h1,h2⟩:=h;exact⟨z,a,ks,rfl,aP.rd e h1,cW.mono e kvs ks h2⟩
 | .clo st ds,v,h=>by
  obtain⟨a,vs,rfl,h1,h2⟩:=h;exact⟨a,vs,rfl,aP.clo e h1,bH.mono e ds vs h2⟩
theorem bH.mono{K:Fg}{F F':Hp}(e:aP F F'):∀(ds:List D) (vs:List V),bH K F ds vs->bH K F' ds vs
 | [],_,h=>h
 | d::ds,vs,h=>by
  obtain⟨v,r,rfl,h1,h2⟩:=h;exact⟨v,r,rfl,Rep.mono e d v h1,bH.mono e ds r h2⟩
theorem dC.mono{K:Fg}{F F':Hp}(e:aP F F'):∀(ds:List (D×D)) (vs:List (Key×V)),dC K F ds vs->dC K F' ds vs
 | [],_,h=>h
 | (k,d)::ds,vs,h=>by
  obtain⟨q,v,r,rfl,h0,h1,h2⟩:=h;exact⟨q,v,r,rfl,h0,Rep.mono e d v h1,dC.mono e ds r h2⟩
theorem cW.mono{K:Fg}{F F':Hp}(e:aP F F'):∀(ds:List (D×D)) (vs:List (NK×V×V)),cW K F ds vs->cW K F' ds vs
 | [],_,h=>h
 | (k,d)::ds,vs,h=>by
  obtain⟨q,u,v,r,rfl,h0,h3,h4,h1,h2⟩:=h;exact⟨q,u,v,r,rfl,h0,h3,Rep.mono e k u h4,Rep.mono e d v h1,cW.mono e ds r h2⟩
end
theorem bH.length{K:Fg}{F:Hp}:∀{ds:List D} {vs:List V},bH K F ds vs->vs.length=ds.length
 | [],_,h=>by cases h;rfl
 | d::ds,vs,h=>by
  obtain⟨v,r,rfl,_,h2⟩:=h;rw[Qqv,Qqv,h2.length]
theorem bH.get{K:Fg}{F:Hp}:∀{ds:List D} {vs:List V} {i:Nat} {d:D},bH K F ds vs->ds[i]? = some d->∃v,vs[i]? = some v/\Rep K F d v
 | [],_,_,_,_,e=>by simp at e
 | c::ds,vs,i,d,h,e=>by
  obtain⟨v,r,rfl,h1,h2⟩:=h;cases i with
  | zero=>simp at e;subst e;exact⟨v,rfl,h1⟩
  | succ i=>obtain⟨u,e1,e2⟩:=bH.get h2 (i:=i) (by simpa using e);exact⟨u,by simpa using e1,e2⟩
theorem bH.append{K:Fg}{F:Hp}:∀{ds es:List D} {vs ws:List V},bH K F ds vs->bH K F es ws->bH K F (ds++es) (vs++ws)
 | [],es,vs,ws,h,g=>by cases h;exact g
 | d::ds,es,vs,ws,h,g=>by
  obtain⟨v,r,rfl,h1,h2⟩:=h;exact⟨v,r++ws,rfl,h1,bH.append h2 g⟩
theorem bH.drop{K:Fg}{F:Hp}:∀(n:Nat) {ds:List D} {vs:List V},bH K F ds vs->bH K F (ds.drop n) (vs.drop n)
 | 0,_,_,h=>h
 | _+1,[],_,h=>by cases h;exact rfl
 | n+1,d::ds,vs,h=>by
  obtain⟨v,r,rfl,_,h2⟩:=h;exact bH.drop n h2
theorem bH.take{K:Fg}{F:Hp}:∀(n:Nat) {ds:List D} {vs:List V},bH K F ds vs->bH K F (ds.take n) (vs.take n)
 | 0,_,_,_=>rfl
 | _+1,[],_,h=>by cases h;exact rfl
 | n+1,d::ds,vs,h=>by
  obtain⟨v,r,rfl,h1,h2⟩:=h;exact⟨v,r.take n,rfl,h1,bH.take n h2⟩
theorem bH.set{K:Fg}{F:Hp}{d:D}{v:V}(hd:Rep K F d v):∀(i:Nat) {ds:List D} {vs:List V},bH K F ds vs->bH K F (ds.set i d) (vs.set i v)
 | _,[],_,h=>by cases h;exact rfl
 | 0,c::ds,vs,h=>by
  obtain⟨u,r,rfl,_,h2⟩:=h;exact⟨v,r,rfl,hd,h2⟩
 | i+1,c::ds,vs,h=>by
  obtain⟨u,r,rfl,h1,h2⟩:=h;exact⟨u,r.set i v,rfl,h1,bH.set hd i h2⟩
theorem bH.one{K:Fg}{F:Hp}{d:D}{v:V}(h:Rep K F d v):bH K F [d] [v]:=⟨v,[],rfl,h,rfl⟩
abbrev Env:=List (Option (Bool×D))
inductive R (α:Type) where
 | ok (a:α) (env:Env)
 | stuck
abbrev Ev:=Env->R D
abbrev f9:=Env->R Bool
abbrev dG:=Env->R (List D)
structure Cfg where
 K:Fg
 fx:Nat->Option Addr
def jx(K:Fg)(F H:Hp):D->Addr->Prop
 | .lst xs,a=>xs.length<=sizeLine/\∃vs,H a=some (.lst vs)/\bH K F xs vs
 | .dct kvs,a=>kvs.length<=sizeLine/\∃ks,H a=some (.dK ks)/\dC K F kvs ks
 | .iQ kvs,a=>kvs.length<=sizeLine/\∃ks,H a=some (.dN ks)/\cW K F kvs ks
 | _,_=>False
theorem jx.mono{K:Fg}{F F' H H':Hp}(e:aP F F'){d:D}{a:Addr}(k:H' a=H a)(h:jx K F H d a):jx K F' H' d a:=by
 cases d with
 | lst xs=>obtain⟨z,vs,h1,h2⟩:=h;exact⟨z,vs,k.trans h1,bH.mono e _ _ h2⟩
 | dct kvs=>obtain⟨z,ks,h1,h2⟩:=h;exact⟨z,ks,k.trans h1,dC.mono e _ _ h2⟩
 | iQ kvs=>obtain⟨z,ks,h1,h2⟩:=h;exact⟨z,ks,k.trans h1,cW.mono e _ _ h2⟩
 | _=>exact h
theorem jx.some{K:Fg}{F H:Hp}{d:D}{a:Addr}(h:jx K F H d a):∃o,H a=some o:=by
 cases d with
 | lst xs=>obtain⟨z,vs,h1,h2⟩:=h;exact⟨_,h1⟩
 | dct kvs=>obtain⟨z,ks,h1,h2⟩:=h;exact⟨_,h1⟩
 | iQ kvs=>obtain⟨z,ks,h1,h2⟩:=h;exact⟨_,h1⟩
 | _=>exact h.elim
def gD(K:Fg)(F H:Hp)(d:D)(v:V):Prop:=Rep K F d v\/∃a,v = .ref a/\jx K F H d a
theorem gD.rep{K:Fg}{F H:Hp}{d:D}{v:V}(s:aP F H)(h:gD K F H d v):Rep K H d v:=by
 rcases h with h|⟨a,rfl,h⟩
 ·exact Rep.mono s d v h
 ·cases d with
  | lst xs=>obtain⟨z,vs,h1,h2⟩:=h;exact⟨z,a,vs,rfl,h1,bH.mono s _ _ h2⟩
  | dct kvs=>obtain⟨z,ks,h1,h2⟩:=h;exact⟨z,a,ks,rfl,.inl h1,dC.mono s _ _ h2⟩
  | iQ kvs=>obtain⟨z,ks,h1,h2⟩:=h;exact⟨z,a,ks,rfl,.inl h1,cW.mono s _ _ h2⟩
  | _=>exact h.elim
theorem gD.lst{K:Fg}{F H:Hp}{xs:List D}{v:V}(s:aP F H)(h:gD K F H (.lst xs) v):xs.length<=sizeLine/\∃a vs,v = .ref a/\H a=some (.lst vs)/\bH K F xs vs:=by
 rcases h with ⟨z,a,vs,rfl,h1,h2⟩|⟨a,rfl,z,vs,h1,h2⟩
 ·exact⟨z,a,vs,rfl,s _ _ h1,h2⟩
 ·exact⟨z,a,vs,rfl,h1,h2⟩
theorem gD.arr{K:Fg}{F H:Hp}{xs:List D}{v:V}(s:aP F H)(h:gD K F H (.arr xs) v):xs.length<=sizeLine/\∃a vs,v = .ref a/\mV K H a vs/\bH K F xs vs:=by
 rcases h with ⟨z,a,vs,rfl,h1,h2⟩|⟨a,rfl,h⟩
 ·exact⟨z,a,vs,rfl,s.seq h1,h2⟩
 ·exact h.elim
theorem gD.tup{K:Fg}{F H:Hp}{xs:List D}{v:V}(s:aP F H)(h:gD K F H (.tup xs) v):xs.length<=sizeLine/\∃a vs,v = .ref a/\j8 K H a vs/\j8 K F a vs/\bH K F xs vs:=by
 rcases h with ⟨z,a,vs,rfl,h1,h2⟩|⟨a,rfl,h⟩
 ·exact⟨z,a,vs,rfl,aP.tupK s h1,h1,h2⟩
 ·exact h.elim
theorem gD.int{K:Fg}{F H:Hp}{i:Int}{v:V}(h:gD K F H (.int i) v):v = .int i:=by
 rcases h with h|⟨a,rfl,h⟩
 ·exact h
 ·exact h.elim
theorem gD.bl{K:Fg}{F H:Hp}{i:Bool}{v:V}(h:gD K F H (.bl i) v):v = .bl i:=by
 rcases h with h|⟨a,rfl,h⟩
 ·exact h
 ·exact h.elim
theorem gD.non{K:Fg}{F H:Hp}{v:V}(h:gD K F H .non v):v = .non:=by
 rcases h with h|⟨a,rfl,h⟩
 ·exact h
 ·exact h.elim
theorem gD.str{K:Fg}{F H:Hp}{x:List Nat}{v:V}(h:gD K F H (.str x) v):v = .str (strOf x)/\x.length<=sizeLine:=by
 rcases h with h|⟨a,rfl,h⟩
 ·exact h
 ·exact h.elim
structure Rel(C:Cfg)(Pr F:Hp)(env:Env)(σ:L2.St)(H:Hp):Prop where
 pr:aP Pr H
 fr:aP F H
 len:env.length=σ.length
 val:∀(i:Nat) (d:D),env[i]? = some (some (false,d))->∃v,σ[i]? = some (some v)/\Rep C.K F d v
 own:∀(i:Nat) (d:D),env[i]? = some (some (true,d))->∃a,σ[i]? = some (some (V.ref a))/\jx C.K F H d a/\F a=none/\Pr a=none
 apart:∀(i j:Nat) (d e:D) (a:Addr),env[i]? = some (some (true,d))->env[j]? = some (some (true,e))->σ[i]? = some (some (V.ref a))->σ[j]? = some (some (V.ref a))->i=j
 dj:∀b o,F b=some o->Pr b=none
 fix:∀i a,C.fx i=some a->σ[i]? = some (some (V.ref a))
theorem Dv{H:Hp}{a b:Addr}{o:HO}(h:upd H a o b=none):H b=none:=by
 by_cases hb:b=a
 ·subst hb;rw[aQ] at h;cases h
 ·rw[bw hb] at h;exact h
theorem km{H:Hp}{a:Addr}{o:HO}(h:H a=none):aP H (upd H a o):=λb u e=>by
 rw[bw (dU e h)];exact e
theorem Rel.new{C:Cfg}{Pr F:Hp}{env:Env}{σ:L2.St}{H:Hp}{a:Addr}{o:HO}(r:Rel C Pr F env σ H)(h:H a=none):Rel C Pr (upd F a o) env σ (upd H a o)/\aP F (upd F a o):=by
 have hF:F a=none:=r.fr.free h;have s1:aP F (upd F a o):=km hF;refine⟨⟨r.pr.trans (km h),λb u e=>?_,r.len,λi d e1=>?_,λi d e1=>?_,r.apart,λb u e=>?_,r.fix⟩,s1⟩
 ·by_cases hb:b=a
  ·subst hb;rw[aQ] at e ⊢;exact e
  ·rw[bw hb] at e ⊢;exact r.fr b u e
 ·obtain⟨v,h1,h2⟩:=r.val i d e1;exact⟨v,h1,Rep.mono s1 d v h2⟩
 ·obtain⟨b,h1,h2,h3,h4⟩:=r.own i d e1;obtain⟨u,hu⟩:=h2.some;have hb:b≠a:=dU hu h;exact⟨b,h1,h2.mono s1 (bw hb),by rw[bw hb];exact h3,h4⟩
 ·by_cases hb:b=a
  ·subst hb;exact r.pr.free h
  ·rw[bw hb] at e;exact r.dj b u e
theorem Rel.fresh{C:Cfg}{Pr F:Hp}{env:Env}{σ:L2.St}{H:Hp}{a:Addr}{o:HO}(r:Rel C Pr F env σ H)(h:H a=none):Rel C Pr F env σ (upd H a o):=by refine⟨r.pr.trans (km h),r.fr.trans (km h),r.len,r.val,λi d e1=>?_,r.apart,r.dj,r.fix⟩;obtain⟨b,h1,h2,h3,h4⟩:=r.own i d e1;obtain⟨u,hu⟩:=h2.some;have hb:b≠a:=dU hu h;exact⟨b,h1,h2.mono (aP.refl F) (bw hb),h3,h4⟩
theorem Rel.aside{C:Cfg}{Pr F:Hp}{env:Env}{σ:L2.St}{H:Hp}{a:Addr}{o:HO}(r:Rel C Pr F env σ H)(h:H a=none):Rel C (upd Pr a o) F env σ (upd H a o):=by
 have r':=r.fresh (o:=o) h;have hF:F a=none:=r.fr.free h;refine⟨λb u e=>?_,r'.fr,r.len,r.val,λi d e1=>?_,r.apart,λb u e=>?_,r.fix⟩
 ·by_cases hb:b=a
  ·subst hb;rw[aQ] at e ⊢;exact e
  ·rw[bw hb] at e ⊢;exact r.pr b u e
 ·obtain⟨b,h1,h2,h3,h4⟩:=r'.own i d e1;obtain⟨b',h1',h2',_⟩:=r.own i d e1;rw[h1] at h1';cases h1';obtain⟨u,hu⟩:=h2'.some;have hb:b≠a:=dU hu h;exact⟨b,h1,h2,h3,by rw[bw hb];exact h4⟩
 ·have hb:b≠a:=λz=>by rw[z,hF] at e;cases e
  rw[bw hb];exact r.dj b u e
theorem Rel.turn{C:Cfg}{Pr F:Hp}{env:Env}{σ:L2.St}{H:Hp}{a:Addr}{o u:HO}(r:Rel C Pr F env σ H)(h:Pr a=some o):Rel C (upd Pr a u) F env σ (upd H a u):=by
 have hF:F a=none:=by
  cases e:F a with
  | none=>rfl
  | some w=>have:=r.dj a w e;rw[h] at this;cases this
 refine⟨λb w e=>?_,λb w e=>?_,r.len,r.val,λi d e1=>?_,r.apart,λb w e=>?_,r.fix⟩
 ·by_cases hb:b=a
  ·subst hb;rw[aQ] at e ⊢;exact e
  ·rw[bw hb] at e ⊢;exact r.pr b w e
 ·have hb:b≠a:=λz=>by rw[z,hF] at e;cases e
  rw[bw hb];exact r.fr b w e
 ·obtain⟨b,h1,h2,h3,h4⟩:=r.own i d e1;have hb:b≠a:=λz=>by rw[z,h] at h4;cases h4
  exact⟨b,h1,h2.mono (aP.refl F) (bw hb),h3,by rw[bw hb];exact h4⟩
 ·have hb:b≠a:=λz=>by rw[z,hF] at e;cases e
  rw[bw hb];exact r.dj b w e
theorem Rel.less{C:Cfg}{Pr Pr' F:Hp}{env:Env}{σ:L2.St}{H:Hp}(r:Rel C Pr F env σ H)(s:aP Pr' Pr):Rel C Pr' F env σ H:=
 ⟨s.trans r.pr,r.fr,r.len,r.val,λi d e=>let ⟨b,h1,h2,h3,h4⟩:=r.own i d e;⟨b,h1,h2,h3,s.free h4⟩,r.apart,λb o e=>s.free (r.dj b o e),r.fix⟩
theorem Rel.freeze{C:Cfg}{Pr F:Hp}{env:Env}{σ:L2.St}{H:Hp}(r:Rel C Pr F env σ H){i:Nat}{d:D}(h:env[i]? = some (some (true,d))) :
  ∃(F':Hp) (v:V),Rel C Pr F' (env.set i (some (false,d))) σ H/\aP F F'/\σ[i]? = some (some v)/\Rep C.K F' d v:=by
 obtain⟨a,h1,h2,h3,h4⟩:=r.own i d h;obtain⟨o,ho⟩:=h2.some;have s1:aP F (upd F a o):=km h3;have hi:i<env.length:=(Qq5.mp h).1;have rep:Rep C.K (upd F a o) d (.ref a):=by
  cases d with
  | lst xs=>obtain⟨z,vs,g1,g2⟩:=h2;rw[ho] at g1;cases g1;exact⟨z,a,vs,rfl,aQ,bH.mono s1 _ _ g2⟩
  | dct kvs=>obtain⟨z,ks,g1,g2⟩:=h2;rw[ho] at g1;cases g1;exact⟨z,a,ks,rfl,.inl aQ,dC.mono s1 _ _ g2⟩
  | iQ kvs=>obtain⟨z,ks,g1,g2⟩:=h2;rw[ho] at g1;cases g1;exact⟨z,a,ks,rfl,.inl aQ,cW.mono s1 _ _ g2⟩
  | _=>exact h2.elim
 refine⟨upd F a o,.ref a,⟨r.pr,λb u e=>?_,by rw[Qx7];exact r.len,λj e he=>?_,λj e he=>?_,λj k e f b hj hk g1 g2=>?_,λb u e=>?_,r.fix⟩,s1,h1,rep⟩
 ·by_cases hb:b=a
  ·subst hb;rw[aQ] at e;cases e;exact ho
  ·rw[bw hb] at e;exact r.fr b u e
 ·by_cases hj:j=i
  ·subst hj;rw[Qw2 hi] at he;cases he;exact⟨_,h1,rep⟩
  ·rw[Qwv (Ne.symm hj)] at he;obtain⟨v,g1,g2⟩:=r.val j e he;exact⟨v,g1,Rep.mono s1 e v g2⟩
 ·by_cases hj:j=i
  ·subst hj;rw[Qw2 hi] at he;cases he
  ·rw[Qwv (Ne.symm hj)] at he;obtain⟨b,g1,g2,g3,g4⟩:=r.own j e he;have hb:b≠a:=λz=>hj (r.apart j i e d a he h (by rw[<-z];exact g1) h1);exact⟨b,g1,g2.mono s1 rfl,by rw[bw hb];exact g3,g4⟩
 ·have nj:j≠i:=λz=>by subst z;rw[Qw2 hi] at hj;cases hj
  have nk:k≠i:=λz=>by subst z;rw[Qw2 hi] at hk;cases hk
  rw[Qwv (Ne.symm nj)] at hj;rw[Qwv (Ne.symm nk)] at hk;exact r.apart j k e f b hj hk g1 g2
 ·by_cases hb:b=a
  ·subst hb;exact h4
  ·rw[bw hb] at e;exact r.dj b u e
def tE(C:Cfg)(ev:Ev):TE:=λσ H Q=>∃(Pr F:Hp) (env env':Env) (d:D),Rel C Pr F env σ H/\ev env = .ok d env'/\
 ∀v H' F',Rel C Pr F' env' σ H'->aP F F'->Rep C.K F' d v->Q v H'
def tRd(C:Cfg)(ev:Ev):TE:=λσ H Q=>∃(Pr F:Hp) (env env':Env) (d:D),Rel C Pr F env σ H/\ev env = .ok d env'/\
 ∀v H' F',Rel C Pr F' env' σ H'->aP F F'->gD C.K F' H' d v->Q v H'
def tT(C:Cfg)(ev:f9):TT:=λσ H Q=>∃(Pr F:Hp) (env env':Env) (b:Bool),Rel C Pr F env σ H/\ev env = .ok b env'/\
 ∀H' F',Rel C Pr F' env' σ H'->aP F F'->Q b H'
def tA(C:Cfg)(ev:dG):TA:=λσ H Q=>∃(Pr F:Hp) (env env':Env) (ds:List D),Rel C Pr F env σ H/\ev env = .ok ds env'/\
 ∀vs H' F',Rel C Pr F' env' σ H'->aP F F'->bH C.K F' ds vs->Q vs H'
def PX(X:Cx)(C:Cfg)(e:Expr)(ev:Ev):Prop:=PE X e (tE C ev)
def Q7(X:Cx)(C:Cfg)(e:Expr)(ev:Ev):Prop:=PE X e (tRd C ev)
def PXT(X:Cx)(C:Cfg)(e:Expr)(ev:f9):Prop:=PT X e (tT C ev)
def Q8(X:Cx)(C:Cfg)(es:List Expr)(ev:dG):Prop:=PA X es (tA C ev)
theorem _root_.L2.PE.imp{X:Cx}{e:Expr}{t t':TE}(h:PE X e t)(i:∀σ H Q,t' σ H Q->t σ H Q):PE X e t':=λpins s σ H Q I q=>h pins s σ H Q I (i σ H Q q)
theorem _root_.L2.PT.imp{X:Cx}{e:Expr}{t t':TT}(h:PT X e t)(i:∀σ H Q,t' σ H Q->t σ H Q):PT X e t':=λpins s σ H Q I q=>h pins s σ H Q I (i σ H Q q)
theorem _root_.L2.PW.imp{X:Cx}{e:Expr}{t t':TT}(h:PW X e t)(i:∀σ H Q,t' σ H Q->t σ H Q):PW X e t':=λwhole pins s σ H Q I q=>h whole pins s σ H Q I (i σ H Q q)
theorem _root_.L2.PA.imp{X:Cx}{e:List Expr}{t t':TA}(h:PA X e t)(i:∀σ H Q,t' σ H Q->t σ H Q):PA X e t':=λpos pins s σ H Q I q=>h pos pins s σ H Q I (i σ H Q q)
theorem _root_.L2.PS.imp{X:Cx}{e:Stmt}{t t':TS}(h:PS X e t)(i:∀D σ H,t' D σ H->t D σ H):PS X e t':=λpins s σ H D I q=>h pins s σ H D I (i D σ H q)
theorem _root_.L2.BR.imp{X:Cx}{e:List Stmt}{t t':TS}(h:BR X e t)(i:∀D σ H,t' D σ H->t D σ H):BR X e t':=λpins s σ H D I q=>h pins s σ H D I (i D σ H q)
def bindR{α β:Type}(x:R α)(f:α->Env->R β):R β:=match x with
 | .ok a env=>f a env
 | .stuck=>.stuck
def iY{α:Type}(o:Option α)(env:Env):R α:=match o with
 | some a=>.ok a env
 | none=>.stuck
theorem aW{α β:Type}{x:R α}{f:α->Env->R β}{b:β}{env':Env}(h:bindR x f = .ok b env'):∃a aK,x = .ok a aK/\f a aK = .ok b env':=by
 cases x with
 | ok a aK=>exact⟨a,aK,rfl,h⟩
 | stuck=>cases h
theorem gr{α:Type}{o:Option α}{env env':Env}{a:α}(h:iY o env = .ok a env'):o=some a/\env'=env:=by
 cases o with
 | some b=>cases h;exact⟨rfl,rfl⟩
 | none=>cases h
section
variable{X:Cx}{C:Cfg}{pos:Pos}
def aU(i:Nat):Ev:=λenv=>match env[i]? with
 | some (some (false,d))=>.ok d env
 | some (some (true,d))=>.ok d (env.set i (some (false,d)))
 | _=>.stuck
theorem Xa(i:Nat){x:Str}(hN:X.N[i]? = some x)(hv:uW X.env.scope x)(hd:mZ x:=by decide)(hcd:vp x:=by decide):PX X C (.Name x pos) (aU i):=by
 refine(jz hN hv hd hcd).imp λσ H Q h=>?_;obtain⟨Pr,F,env,env',d,r,e,q⟩:=h;unfold aU at e;split at e
 ·rename_i d' hd';cases e;obtain⟨v,h1,h2⟩:=r.val i d hd';exact⟨v,h1,q v H F r (aP.refl F) h2⟩
 ·rename_i d' hd';cases e;obtain⟨F',v,r',s',h1,h2⟩:=r.freeze hd';exact⟨v,h1,q v H F' r' s' h2⟩
 ·cases e
theorem PX.b{e:Expr}{ev:Ev}(h:PX X C e ev):Q7 X C e ev:=PE.imp h λσ H Q hq=>by
 obtain⟨Pr,F,env,env',d,r,e,q⟩:=hq;exact⟨Pr,F,env,env',d,r,e,λv H' F' r' s' p'=>q v H' F' r' s' (.inl p')⟩
def bh(i:Nat):Ev:=λenv=>match env[i]? with
 | some (some (_,d))=>.ok d env
 | _=>.stuck
theorem Rel.rd{Pr F:Hp}{env:Env}{σ:L2.St}{H:Hp}(r:Rel C Pr F env σ H){i:Nat}{o:Bool}{d:D}(h:env[i]? = some (some (o,d))):∃v,σ[i]? = some (some v)/\gD C.K F H d v:=by
 cases o with
 | true=>obtain⟨a,h1,h2,_⟩:=r.own i d h;exact⟨_,h1,.inr ⟨a,rfl,h2⟩⟩
 | false=>obtain⟨v,h1,h2⟩:=r.val i d h;exact⟨v,h1,.inl h2⟩
theorem R6(i:Nat){x:Str}(hN:X.N[i]? = some x)(hv:uW X.env.scope x)(hd:mZ x:=by decide)(hcd:vp x:=by decide):Q7 X C (.Name x pos) (bh i):=by
 refine(jz hN hv hd hcd).imp λσ H Q h=>?_;obtain⟨Pr,F,env,env',d,r,e,q⟩:=h;unfold bh at e;split at e
 ·rename_i o' d' hd';cases e;obtain⟨v,h1,h2⟩:=r.rd hd';exact⟨v,h1,q v H F r (aP.refl F) h2⟩
 ·cases e
def xG(d:D):Ev:=λenv=>.ok d env
theorem Xf{i:Int}{j:Nat}:PX X C (.Constant (.int i) j pos) (xG (.int i)):=Ox.imp λσ H Q h=>by
 obtain⟨Pr,F,env,env',d,r,e,q⟩:=h;cases e;exact q _ _ F r (aP.refl F) rfl
theorem abr{b:Bool}{j:Nat}:PX X C (.Constant (.bool b) j pos) (xG (.bl b)):=abx.imp λσ H Q h=>by
 obtain⟨Pr,F,env,env',d,r,e,q⟩:=h;cases e;exact q _ _ F r (aP.refl F) rfl
theorem Xd{j:Nat}:PX X C (.Constant .none j pos) (xG .non):=Xw.imp λσ H Q h=>by
 obtain⟨Pr,F,env,env',d,r,e,q⟩:=h;cases e;exact q _ _ F r (aP.refl F) rfl
def aj:dG:=λenv=>.ok [] env
def aa(a:Ev)(r:dG):dG:=λenv=>bindR (a env) λd aK=>bindR (r aK) λds d7=>.ok (d::ds) d7
theorem Ir:Q8 X C [] aj:=Ao.imp λσ H Q h=>by
 obtain⟨Pr,F,env,env',d,r,e,q⟩:=h;cases e;exact q _ _ F r (aP.refl F) rfl
theorem Dg{e:Expr}{es:List Expr}{a:Ev}{r:dG}(ha:PX X C e a)(hr:Q8 X C es r)(hs:starEach (e::es) X.env=(false,eval e X.env)::starEach es X.env:=by rfl):Q8 X C (e::es) (aa a r):=
 (nq ha hr hs).imp λσ H Q h=>by
  obtain⟨Pr,F,env,env',ds,rl,e,q⟩:=h;obtain⟨d1,aK,e1,e2⟩:=aW e;obtain⟨ds2,d7,e3,e4⟩:=aW e2;cases e4;refine⟨Pr,F,env,aK,d1,rl,e1,λv H1 F1 r1 s1 p1=>?_⟩;refine⟨Pr,F1,aK,env',ds2,r1,e3,λvs H2 F2 r2 s2 p2=>?_⟩;exact q _ H2 F2 r2 (s1.trans s2) ⟨v,vs,rfl,Rep.mono s2 d1 v p1,p2⟩
def cj(r:dG):Ev:=λenv=>bindR (r env) λds aK=>if ds.length<=sizeLine then .ok (.tup ds) aK else .stuck
def cu(r:dG):Ev:=λenv=>bindR (r env) λds aK=>if ds.length<=sizeLine then .ok (.lst ds) aK else .stuck
def aM(g:D->D->Option D)(a b:Ev):Ev:=λenv=>bindR (a env) λx aK=>bindR (b aK) λy d7=>iY (g x y) d7
def Hm(g:D->Option D)(a:Ev):Ev:=λenv=>bindR (a env) λx aK=>iY (g x) aK
def n8(C:Cfg)(r:R2)(g:D->D->Option D):Prop:=∀(Pr F:Hp) (env:Env) (σ:L2.St) (H:Hp) (x y d:D) (vx vy:V) (Q:VK),Rel C Pr F env σ H->gD C.K F H x vx->gD C.K F H y vy->g x y=some d->
 (∀v H' F',Rel C Pr F' env σ H'->aP F F'->Rep C.K F' d v->Q v H')->r vx vy H Q
def UnD(C:Cfg)(r:V->Hp->VK->Prop)(g:D->Option D):Prop:=∀(Pr F:Hp) (env:Env) (σ:L2.St) (H:Hp) (x d:D) (vx:V) (Q:VK),Rel C Pr F env σ H->gD C.K F H x vx->g x=some d->
 (∀v H' F',Rel C Pr F' env σ H'->aP F F'->Rep C.K F' d v->Q v H')->r vx H Q
theorem Bu{r:R2}{g:D->D->Option D}{a b:Ev}(o:n8 C r g)(σ:L2.St)(H:Hp)(Q:VK)(h:tE C (aM g a b) σ H Q):Ru r (tE C a) (tRd C b) σ H Q:=by obtain⟨Pr,F,env,env',d,rl,e,q⟩:=h;obtain⟨x,aK,e1,e2⟩:=aW e;obtain⟨y,d7,e3,e4⟩:=aW e2;obtain⟨e5,rfl⟩:=gr e4;refine⟨Pr,F,env,aK,x,rl,e1,λvx H1 F1 r1 s1 p1=>⟨Pr,F1,aK,env',y,r1,e3,λvy H2 F2 r2 s2 p2=>?_⟩⟩;exact o Pr F2 env' σ H2 x y d vx vy Q r2 (.inl (Rep.mono s2 x vx p1)) p2 e5 λv H3 F3 r3 s3 p3=>q v H3 F3 r3 ((s1.trans s2).trans s3) p3
def aB(g:D->D->Option D)(i:Nat)(b:Ev):Ev:=λenv=>match env[i]? with
 | some (some (_,_))=>bindR (b env) λy d7=>(match d7[i]? with
  | some (some (_,x))=>iY (g x y) d7
  | _=>.stuck)
 | _=>.stuck
theorem pG{r:R2}{g:D->D->Option D}{i:Nat}{b:Ev}(o:n8 C r g)(σ:L2.St)(H:Hp)(Q:VK)(h:tE C (aB g i b) σ H Q):Ru r (aaK i) (tRd C b) σ H Q:=by
 obtain⟨Pr,F,env,env',d,rl,e,q⟩:=h;unfold aB at e;split at e
 ·rename_i o0 d0 h0;obtain⟨v,hv,_⟩:=rl.rd h0;obtain⟨y,d7,e1,e2⟩:=aW e;split at e2
  ·rename_i o2 x h2;obtain⟨e5,rfl⟩:=gr e2;refine⟨v,hv,Pr,F,env,env',y,rl,e1,λvy H2 F2 r2 s2 p2=>?_⟩;obtain⟨v',hv',p⟩:=r2.rd h2;rw[hv] at hv';cases hv';exact o Pr F2 env' σ H2 x y d v vy Q r2 p p2 e5 λv H3 F3 r3 s3 p3=>q v H3 F3 r3 (s2.trans s3) p3
  ·cases e2
 ·cases e
theorem abo{op:Operator}{r:R2}{g:D->D->Option D}{x y:Expr}{a b:Ev}(ho:mD X (binaryOp op) r)(o:n8 C r g)(ha:PX X C x a)(hb:Q7 X C y b):PX X C (.BinOp x op y pos) (aM g a b):=
 (Vw ho ha hb).imp (Bu o)
theorem Xc{op:Operator}{r:R2}{g:D->D->Option D}{y:Expr}{b:Ev}{px:Pos}(i:Nat){x:Str}(hN:X.N[i]? = some x)(hv:uW X.env.scope x)(ho:mD X (binaryOp op) r)(o:n8 C r g)(hb:Q7 X C y b)
  (hd:mZ x:=by decide) (hcd:vp x:=by decide):PX X C (.BinOp (.Name x px) op y pos) (aB g i b):=
 (Vw ho (jz hN hv hd hcd) hb).imp (pG o)
theorem Xg{op:CmpOp}{r:R2}{g:D->D->Option D}{x y:Expr}{a b:Ev}(ho:mD X (compareOp op) r)(o:n8 C r g)(ha:PX X C x a)(hb:Q7 X C y b)(hm:behindInMarks op y=false):PX X C (.Compare x [op] [y] pos) (aM g a b):=
 (IV ho ha hb hm).imp (Bu o)
theorem abm{op:UnaryOp}{r:V->Hp->VK->Prop}{g:D->Option D}{x:Expr}{a:Ev}(ho:UnR X (unaryOp op) r)(o:UnD C r g)(ha:PX X C x a):PX X C (.UnaryOp op x pos) (Hm g a):=
 (Vv ho ha).imp λσ H Q h=>by
  obtain⟨Pr,F,env,env',d,rl,e,q⟩:=h;obtain⟨x,aK,e1,e2⟩:=aW e;obtain⟨e3,rfl⟩:=gr e2;exact⟨Pr,F,env,env',x,rl,e1,λvx H1 F1 r1 s1 p1=>o Pr F1 env' σ H1 x d vx Q r1 (.inl p1) e3 λv H3 F3 r3 s3 p3=>q v H3 F3 r3 (s1.trans s3) p3⟩
def gf(a:Ev):f9:=λenv=>bindR (a env) λd aK=>match d with
 | .bl b=>.ok b aK
 | _=>.stuck
theorem MN{a:Ev}{σ:L2.St}{H:Hp}{Q:Bool->Hp->Prop}(h:tT C (gf a) σ H Q):tE C a σ H λx H'=>∃k,x = .bl k/\Q k H':=by
 obtain⟨Pr,F,env,env',b,rl,e,q⟩:=h;obtain⟨d,aK,e1,e2⟩:=aW e;refine⟨Pr,F,env,aK,d,rl,e1,λv H1 F1 r1 s1 p1=>?_⟩;cases d with
 | bl c=>cases e2;exact⟨_,p1,q H1 F1 r1 s1⟩
 | _=>cases e2
theorem RV{op:CmpOp}{r:R2}{g:D->D->Option D}{x y:Expr}{a b:Ev}(ho:mD X (compareOp op) r)(o:n8 C r g)(ha:PX X C x a)(hb:Q7 X C y b)(hm:behindInMarks op y=false):PXT X C (.Compare x [op] [y] pos) (gf (aM g a b)):=
 (Iw ho ha hb hm).imp λσ H Q h=>by
  have h1:=MN h;exact Bu o σ H _ h1
def ik(a b:f9):f9:=λenv=>bindR (a env) λc aK=>if c=true then b aK else .ok false aK
def Ep(a b:f9):f9:=λenv=>bindR (a env) λc aK=>if c=true then .ok true aK else b aK
def PXW(X:Cx)(C:Cfg)(e:Expr)(ev:f9):Prop:=PW X e (tT C ev)
theorem PXW.pt{e:Expr}{a:f9}(h:PXW X C e a):PXT X C e a:=PW.pt h
def Bl(a b:Ev):Ev:=λenv=>bindR (a env) λc aK=>match c with
 | .bl true=>.ok (.bl true) aK
 | .bl false=>b aK
 | _=>.stuck
end
def su(f:D->D->Option Bool):List D->List D->Option Bool
 | [],[]=>some true
 | x::xs,y::ys=>match f x y,su f xs ys with
  | some a,some b=>some (a&&b)
  | _,_=>none
 | [],_::_=>some false
 | _::_,[]=>some false
def aX:Nat->D->D->Option Bool
 | 0,_,_=>none
 | n+1,.tup xs,.tup ys=>su (aX n) xs ys
 | n+1,.lst xs,.lst ys=>su (aX n) xs ys
 | _+1,.dct _,_=>none
 | _+1,.iQ _,_=>none
 | _+1,.clo _ _,_=>none
 | _+1,_,.dct _=>none
 | _+1,_,.iQ _=>none
 | _+1,_,.clo _ _=>none
 | _+1,.arr _,_=>none
 | _+1,_,.arr _=>none
 | _+1,.non,.non=>some true
 | _+1,.bl a,.bl b=>some (a == b)
 | _+1,.bl a,.int b=>some ((if a then 1 else 0) == b)
 | _+1,.int a,.bl b=>some (a == (if b then 1 else 0))
 | _+1,.int a,.int b=>some (a == b)
 | _+1,.str a,.str b=>some (a == b)
 | _+1,_,_=>some false
mutual
def Sh(h:Heap):D->Value->Prop
 | .non,u=>u = .none
 | .bl b,u=>u = .bool b
 | .int i,u=>∃t,u = .int i t
 | .str x,u=>∃t,u = .str (strOf x) t
 | .tup xs,u=>∃a its,u = .ref a/\IsTup h a its.toArray/\lq h xs its
 | .lst xs,u=>∃a its,u = .ref a/\PlainL h a its.toArray/\lq h xs its
 | .arr xs,u=>∃a its,u = .ref a/\PlainL h a its.toArray/\lq h xs its
 | .dct _,u=>∃a o,u = .ref a/\h.get? a=some o/\o.ExactDict
 | .iQ _,u=>∃a o,u = .ref a/\h.get? a=some o/\o.ExactDict
 | .clo _ _,u=>∃a,u = .ref a
def lq(h:Heap):List D->List Value->Prop
 | [],us=>us=[]
 | d::ds,us=>∃u r,us=u::r/\Sh h d u/\lq h ds r
end
theorem lq.length{h:Heap}:∀{ds:List D} {us:List Value},lq h ds us->us.length=ds.length
 | [],_,e=>by cases e;rfl
 | d::ds,us,e=>by obtain⟨u,r,rfl,_,h2⟩:=e;rw[Qqv,Qqv,h2.length]
section
variable{X:Cx}{pins:List (Addr×Obj)}{σ:L2.St}{H:Hp}{s:Shared}
mutual
theorem Rep.sh(I:Inv X pins σ H s):∀(d:D) (v:V) (u:Value),Rep X.K H d v->RelV v u->Sh s.heap d u
 | .non,_,_,h,r=>by cases h;exact r
 | .bl _,_,_,h,r=>by cases h;exact r
 | .int _,_,_,h,r=>by cases h;exact r
 | .str _,_,_,h,r=>by obtain⟨h,_⟩:=h;cases h;exact r
 | .tup xs,v,u,h,r=>by
  obtain⟨z,a,vs,rfl,h1,h2⟩:=h;cases r;obtain⟨its,rv,p,_⟩:=I.tuple h1;exact⟨a,its,rfl,p,bH.sh I xs vs its h2 rv⟩
 | .lst xs,v,u,h,r=>by
  obtain⟨z,a,vs,rfl,h1,h2⟩:=h;cases r;obtain⟨its,rv,p,_⟩:=I.list (mV.of h1);exact⟨a,its,rfl,p,bH.sh I xs vs its h2 rv⟩
 | .arr xs,v,u,h,r=>by
  obtain⟨z,a,vs,rfl,h1,h2⟩:=h;cases r;obtain⟨its,rv,p,_⟩:=I.list h1;exact⟨a,its,rfl,p,bH.sh I xs vs its h2 rv⟩
 | .dct kvs,v,u,h,r=>by
  obtain⟨z,a,ks,rfl,h1,h2⟩:=h;cases r;obtain⟨_,_,vs,_,o,_,_,e,ex,_⟩:=h1.ok I.hok;exact⟨a,o,rfl,e,ex⟩
 | .iQ kvs,v,u,h,r=>by
  obtain⟨z,a,ks,rfl,h1,h2⟩:=h;cases r;obtain⟨_,_,vs,_,o,_,_,e,ex,_⟩:=h1.ok I.hok;exact⟨a,o,rfl,e,ex⟩
 | .clo st ds,v,u,h,r=>by
  obtain⟨a,vs,rfl,h1,h2⟩:=h;cases r;exact⟨a,rfl⟩
theorem bH.sh(I:Inv X pins σ H s):∀(ds:List D) (vs:List V) (us:List Value),bH X.K H ds vs->Vals vs us->lq s.heap ds us
 | [],_,_,h,r=>by cases h;cases r;exact rfl
 | d::ds,vs,us,h,r=>by
  obtain⟨v,rr,rfl,h1,h2⟩:=h;cases r with
  | cons q qs=>exact⟨_,_,rfl,Rep.sh I d v _ h1 q,bH.sh I ds rr _ h2 qs⟩
end
end
theorem HX{h:Heap}{a:Addr}{xs ys:Array Value}(p:IsTup h a xs)(q:IsTup h a ys):xs=ys:=by obtain⟨o,e,_,n,d⟩:=p;obtain⟨o',e',_,n',d'⟩:=q;rw[e] at e';cases e';rw[d] at d';cases d';rfl
theorem Je{h:Heap}{a:Addr}{xs ys:Array Value}(p:PlainL h a xs)(q:PlainL h a ys):xs=ys:=by obtain⟨o,e,_,n,d⟩:=p.isList;obtain⟨o',e',_,n',d'⟩:=q.isList;rw[e] at e';cases e';rw[d] at d';cases d';rfl
theorem vd{h:Heap}{a:Addr}{xs ys:Array Value}(p:IsTup h a xs)(q:PlainL h a ys):False:=by obtain⟨o,e,c,n,d⟩:=p;obtain⟨o',e',c',n',d'⟩:=q.isList;rw[e] at e';cases e';rw[c] at c';simp at c'
theorem xJ{h:Heap}:∀(n:Nat) (d e:D) (u:Value) (b:Bool),Sh h d u->Sh h e u->aX n d e=some b->b=true
 | 0,_,_,_,_,_,_,hb=>by simp[aX] at hb
 | n+1,d,e,u,b,hd,he,hb=>by
  have all:∀(xs ys:List D) (us:List Value) (b:Bool),lq h xs us->lq h ys us->su (aX n) xs ys=some b->b=true:=by
   intro xs
   induction xs with
   | nil=>
    intro ys us b h1 h2 hb;cases h1;cases ys with
    | nil=>simp[su] at hb;exact hb
    | cons y ys=>obtain⟨u,r,q,_⟩:=h2;cases q
   | cons x xs ih=>
    intro ys us b h1 h2 hb;obtain⟨u,r,rfl,h3,h4⟩:=h1;cases ys with
    | nil=>cases h2
    | cons y ys=>
     obtain⟨u',r',q,h5,h6⟩:=h2;cases q;unfold su at hb;cases q1:aX n x y with
     | none=>rw[q1] at hb;simp at hb
     | some c=>
      cases q2:su (aX n) xs ys with
      | none=>rw[q1,q2] at hb;simp at hb
      | some c'=>
       rw[q1,q2] at hb;have e1:=xJ n x y u c h3 h5 q1;have e2:=ih ys r c' h4 h6 q2;subst e1 e2;simp at hb;exact hb
  cases d with
  | non=>cases hd;cases e<;>simp[Sh] at he;simp[aX] at hb;exact hb
  | bl c=>cases hd;cases e<;>simp[Sh] at he;subst he;simp[aX] at hb;exact hb
  | int i=>obtain⟨t,rfl⟩:=hd;cases e<;>simp[Sh] at he;subst he;simp[aX] at hb;exact hb
  | str x=>
   obtain⟨t,rfl⟩:=hd;cases e with
   | str y=>
    obtain⟨t',q⟩:=he;injection q with q1 _
    unfold strOf at q1;injection q1 with q2
    have q3:=Qw8 Array.toList q2;simp at q3;subst q3;simp[aX] at hb;exact hb
   | _=>simp[Sh] at he
  | tup xs=>
   obtain⟨a,its,rfl,p,hs⟩:=hd;cases e with
   | tup ys=>
    obtain⟨a',its',q,p',hs'⟩:=he;cases q;have e2:its=its':=by simpa using HX p p'
    subst e2;exact all xs ys its b hs hs' (by simpa only[aX] using hb)
   | lst ys=>
    obtain⟨a',its',q,p',hs'⟩:=he;cases q;exact(vd p p').elim
   | dct kvs=>simp[aX] at hb
   | iQ kvs=>simp[aX] at hb
   | clo _ _=>simp[aX] at hb
   | arr kvs=>simp[aX] at hb
   | _=>simp[Sh] at he
  | lst xs=>
   obtain⟨a,its,rfl,p,hs⟩:=hd;cases e with
   | lst ys=>
    obtain⟨a',its',q,p',hs'⟩:=he;cases q;have e2:its=its':=by simpa using Je p p'
    subst e2;exact all xs ys its b hs hs' (by simpa only[aX] using hb)
   | tup ys=>
    obtain⟨a',its',q,p',hs'⟩:=he;cases q;exact(vd p' p).elim
   | dct kvs=>simp[aX] at hb
   | iQ kvs=>simp[aX] at hb
   | clo _ _=>simp[aX] at hb
   | arr kvs=>simp[aX] at hb
   | _=>simp[Sh] at he
  | dct kvs=>cases e<;>simp[aX] at hb
  | iQ kvs=>cases e<;>simp[aX] at hb
  | clo _ _=>cases e<;>simp[aX] at hb
  | arr kvs=>cases e<;>simp[aX] at hb
theorem Jy{h:Heap}:∀(n:Nat) (d d' e:D) (u:Value) (b b':Bool),Sh h d u->Sh h d' u->aX n d e=some b->aX n d' e=some b'->b=b'
 | 0,_,_,_,_,_,_,_,_,hb,_=>by simp[aX] at hb
 | n+1,d,d',e,u,b,b',hd,hd',hb,hb'=>by
  have all:∀(xs xs' ys:List D) (us:List Value) (b b':Bool),lq h xs us->lq h xs' us->su (aX n) xs ys=some b->su (aX n) xs' ys=some b'->b=b':=by
   intro xs
   induction xs with
   | nil=>
    intro xs' ys us b b' h1 h2 hb hb';cases h1;cases xs' with
    | nil=>rw[hb] at hb';exact Qw4 hb'
    | cons y ys=>obtain⟨u,r,q,_⟩:=h2;cases q
   | cons x xs ih=>
    intro xs' ys us b b' h1 h2 hb hb';obtain⟨u,r,rfl,h3,h4⟩:=h1;cases xs' with
    | nil=>cases h2
    | cons x' xs'=>
     obtain⟨u',r',q,h5,h6⟩:=h2;cases q;cases ys with
     | nil=>simp[su] at hb hb';rw[hb,hb']
     | cons y ys=>
      unfold su at hb hb';cases q1:aX n x y with
      | none=>rw[q1] at hb;simp at hb
      | some c=>
       cases q2:su (aX n) xs ys with
       | none=>rw[q1,q2] at hb;simp at hb
       | some c2=>
        cases q3:aX n x' y with
        | none=>rw[q3] at hb';simp at hb'
        | some c3=>
         cases q4:su (aX n) xs' ys with
         | none=>rw[q3,q4] at hb';simp at hb'
         | some c4=>
          rw[q1,q2] at hb;rw[q3,q4] at hb';have e1:=Jy n x x' y u c c3 h3 h5 q1 q3;have e2:=ih xs' ys r c2 c4 h4 h6 q2 q4;subst e1 e2;simp at hb hb';rw[<-hb,<-hb']
  cases d with
  | non=>cases hd;cases d'<;>simp[Sh] at hd';rw[hb] at hb';exact Qw4 hb'
  | bl c=>cases hd;cases d'<;>simp[Sh] at hd';subst hd';rw[hb] at hb';exact Qw4 hb'
  | int i=>obtain⟨t,rfl⟩:=hd;cases d'<;>simp[Sh] at hd';subst hd';rw[hb] at hb';exact Qw4 hb'
  | str x=>
   obtain⟨t,rfl⟩:=hd;cases d' with
   | str y=>
    obtain⟨t',q⟩:=hd';injection q with q1 _
    unfold strOf at q1;injection q1 with q2
    have q3:=Qw8 Array.toList q2;simp at q3;subst q3;rw[hb] at hb';exact Qw4 hb'
   | _=>simp[Sh] at hd'
  | tup xs=>
   obtain⟨a,its,rfl,p,hs⟩:=hd;cases d' with
   | tup xs'=>
    obtain⟨a',its',q,p',hs'⟩:=hd';cases q;have e2:its=its':=by simpa using HX p p'
    subst e2;cases e with
    | tup ys=>exact all xs xs' ys its b b' hs hs' (by simpa only[aX] using hb) (by simpa only[aX] using hb')
    | _=>first|(simp[aX] at hb;done)|(simp only[aX,Qw7] at hb hb';rw[<-hb,<-hb'])
   | lst ys=>
    obtain⟨a',its',q,p',hs'⟩:=hd';cases q;exact(vd p p').elim
   | dct kvs=>cases e<;>simp[aX] at hb'
   | iQ kvs=>cases e<;>simp[aX] at hb'
   | clo _ _=>cases e<;>simp[aX] at hb'
   | arr kvs=>cases e<;>simp[aX] at hb'
   | _=>simp[Sh] at hd'
  | lst xs=>
   obtain⟨a,its,rfl,p,hs⟩:=hd;cases d' with
   | lst xs'=>
    obtain⟨a',its',q,p',hs'⟩:=hd';cases q;have e2:its=its':=by simpa using Je p p'
    subst e2;cases e with
    | lst ys=>exact all xs xs' ys its b b' hs hs' (by simpa only[aX] using hb) (by simpa only[aX] using hb')
    | _=>first|(simp[aX] at hb;done)|(simp only[aX,Qw7] at hb hb';rw[<-hb,<-hb'])
   | tup ys=>
    obtain⟨a',its',q,p',hs'⟩:=hd';cases q;exact(vd p' p).elim
   | dct kvs=>cases e<;>simp[aX] at hb'
   | iQ kvs=>cases e<;>simp[aX] at hb'
   | clo _ _=>cases e<;>simp[aX] at hb'
   | arr kvs=>cases e<;>simp[aX] at hb'
   | _=>simp[Sh] at hd'
  | dct kvs=>cases e<;>simp[aX] at hb
  | iQ kvs=>cases e<;>simp[aX] at hb
  | clo _ _=>cases e<;>simp[aX] at hb
  | arr kvs=>cases e<;>simp[aX] at hb
theorem sS(x y:List Nat):(strOf x == strOf y)=(x == y):=by
 rw[Qkw];simp only[beq_iff_eq];constructor
 ·intro e;unfold strOf at e;injection e with e
  simpa using Qw8 Array.toList e
 ·intro e;rw[e]
theorem vB:∀{f:D->D->Option Bool} {xs ys:List D},xs.length≠ys.length->∀b,su f xs ys=some b->b=false
 | f,[],[],h,b,e=>absurd rfl h
 | f,[],_::_,_,b,e=>by simp[su] at e;exact e
 | f,_::_,[],_,b,e=>by simp[su] at e;exact e
 | f,x::xs,y::ys,h,b,e=>by
  unfold su at e;cases h1:f x y with
  | none=>rw[h1] at e;simp at e
  | some c=>
   cases h2:su f xs ys with
   | none=>rw[h1,h2] at e;simp at e
   | some d=>
    rw[h1,h2] at e;have:=vB (f:=f) (xs:=xs) (ys:=ys) (by simpa using h) d h2;subst this;simp at e;exact e
theorem qx:∀{f:D->D->Option Bool} (xs ys:List D) (b:Bool),su f xs ys=some b->∃e:Nat->Bool,(∀(j:Nat) (x y:D),xs[j]? = some x->ys[j]? = some y->f x y=some (e j))/\b=((List.range (min xs.length ys.length)).all e&&xs.length == ys.length)
 | f,[],ys,b,h=>by
  refine⟨λ_=>true,λj x y hx=>by simp at hx,?_⟩;cases ys with
  | nil=>simp[su] at h;simp[h.symm]
  | cons y ys=>simp[su] at h;simp[h.symm]
 | f,x::xs,[],b,h=>by
  refine⟨λ_=>true,λj x y _ hy=>by simp at hy,?_⟩;simp[su] at h;simp[h.symm]
 | f,x::xs,y::ys,b,h=>by
  unfold su at h;cases h1:f x y with
  | none=>rw[h1] at h;simp at h
  | some c=>
   cases h2:su f xs ys with
   | none=>rw[h1,h2] at h;simp at h
   | some d=>
    rw[h1,h2] at h;obtain⟨e,he,hd⟩:=qx xs ys d h2;refine⟨λj=>match j with|0=>c|j+1=>e j,λj x' y' hx hy=>?_,?_⟩
    ·cases j with
     | zero=>simp at hx hy;subst hx hy;exact h1
     | succ j=>exact he j x' y' (by simpa using hx) (by simpa using hy)
    ·have hb:b=(c&&d):=by simpa using h.symm
     have hm:min (x::xs).length (y::ys).length=min xs.length ys.length+1:=by simp only[Qqv];omega
     rw[hb,hd,hm,List.range_succ_eq_map,List.all_cons,List.all_map,Bool.and_assoc];have hl:((x::xs).length == (y::ys).length)=(xs.length == ys.length):=by simp
     rw[hl]
     rfl
theorem lD{h:Heap}:∀{ds:List D} {us:List Value} {j:Nat} {u:Value},lq h ds us->us[j]? = some u->∃d,ds[j]? = some d/\Sh h d u
 | [],_,_,_,e,g=>by cases e;simp at g
 | d::ds,us,j,u,e,g=>by
  obtain⟨v,r,rfl,h1,h2⟩:=e;cases j with
  | zero=>simp at g;subst g;exact⟨d,rfl,h1⟩
  | succ j=>obtain⟨c,e1,e2⟩:=lD h2 (j:=j) (by simpa using g);exact⟨c,by simpa using e1,e2⟩
theorem o6:∀(n:Nat) (d e:D) (u v:Value) (b:Bool) (A:Around) (s:Shared),Sh s.heap d u->Sh s.heap e v->aX n d e=some b->A.units+n<cLine->SeqAt.EqAt A s u v b
 | 0,_,_,_,_,_,_,_,_,_,h,_=>by simp[aX] at h
 | n+1,d,e,u,v,b,A,s,hd,he,h,hu=>by
  have hu0:A.units<cLine:=by omega
  have hin:A.in1.units+n<cLine:=by show A.units+1+n<cLine;omega
  cases d with
  | non=>
   cases hd;cases e with
   | non=>cases he;simp[aX] at h;subst h;exact SeqAt.EqAt.same _
   | bl c=>cases he;simp[aX] at h;subst h;exact SeqAt.EqAt.none_bool c
   | int i=>obtain⟨t,rfl⟩:=he;simp[aX] at h;subst h;exact SeqAt.EqAt.none_int i t
   | str x=>obtain⟨t,rfl⟩:=he;simp[aX] at h;subst h;exact SeqAt.EqAt.none_str _ t
   | tup ys=>obtain⟨a,its,rfl,p,_⟩:=he;simp[aX] at h;subst h;exact SeqAt.EqAt.none_tuple p hu0
   | lst ys=>obtain⟨a,its,rfl,p,_⟩:=he;simp[aX] at h;subst h;exact SeqAt.EqAt.none_list p.isList hu0
   | dct kvs=>simp[aX] at h
   | iQ kvs=>simp[aX] at h
   | clo _ _=>simp[aX] at h
   | arr kvs=>simp[aX] at h
  | bl c=>
   cases hd;cases e with
   | non=>cases he;simp[aX] at h;subst h;exact SeqAt.EqAt.bool_none c
   | bl c'=>cases he;simp only[aX,Qw7] at h;subst h;exact SeqAt.EqAt.bool_bool c c'
   | int i=>obtain⟨t,rfl⟩:=he;simp only[aX,Qw7] at h;subst h;exact SeqAt.EqAt.bool_int c i t
   | str x=>obtain⟨t,rfl⟩:=he;simp[aX] at h;subst h;exact SeqAt.EqAt.bool_str c _ t
   | tup ys=>obtain⟨a,its,rfl,p,_⟩:=he;simp[aX] at h;subst h;exact SeqAt.EqAt.bool_tuple c p hu0
   | lst ys=>obtain⟨a,its,rfl,p,_⟩:=he;simp[aX] at h;subst h;exact SeqAt.EqAt.bool_list c p.isList hu0
   | dct kvs=>simp[aX] at h
   | iQ kvs=>simp[aX] at h
   | clo _ _=>simp[aX] at h
   | arr kvs=>simp[aX] at h
  | int i=>
   obtain⟨t',rfl⟩:=hd;cases e with
   | non=>cases he;simp[aX] at h;subst h;exact SeqAt.EqAt.int_none i t'
   | bl c'=>cases he;simp only[aX,Qw7] at h;subst h;exact SeqAt.EqAt.int_bool i t' c'
   | int j=>obtain⟨t,rfl⟩:=he;simp only[aX,Qw7] at h;subst h;exact SeqAt.EqAt.int_int i t' j t
   | str x=>obtain⟨t,rfl⟩:=he;simp[aX] at h;subst h;exact SeqAt.EqAt.int_str i t' _ t
   | tup ys=>obtain⟨a,its,rfl,p,_⟩:=he;simp[aX] at h;subst h;exact SeqAt.EqAt.int_tuple i t' p hu0
   | lst ys=>obtain⟨a,its,rfl,p,_⟩:=he;simp[aX] at h;subst h;exact SeqAt.EqAt.int_list i t' p.isList hu0
   | dct kvs=>simp[aX] at h
   | iQ kvs=>simp[aX] at h
   | clo _ _=>simp[aX] at h
   | arr kvs=>simp[aX] at h
  | str x=>
   obtain⟨t',rfl⟩:=hd;cases e with
   | non=>cases he;simp[aX] at h;subst h;exact SeqAt.EqAt.str_none _ t'
   | bl c'=>cases he;simp[aX] at h;subst h;exact SeqAt.EqAt.str_bool _ t' c'
   | int j=>obtain⟨t,rfl⟩:=he;simp[aX] at h;subst h;exact SeqAt.EqAt.str_int _ t' j t
   | str y=>obtain⟨t,rfl⟩:=he;simp only[aX,Qw7] at h;subst h;rw[<-sS];exact SeqAt.EqAt.str_str _ t' _ t
   | tup ys=>obtain⟨a,its,rfl,p,_⟩:=he;simp[aX] at h;subst h;exact SeqAt.EqAt.str_tuple _ t' p hu0
   | lst ys=>obtain⟨a,its,rfl,p,_⟩:=he;simp[aX] at h;subst h;exact SeqAt.EqAt.str_list _ t' p.isList hu0
   | dct kvs=>simp[aX] at h
   | iQ kvs=>simp[aX] at h
   | clo _ _=>simp[aX] at h
   | arr kvs=>simp[aX] at h
  | tup xs=>
   obtain⟨a,its,rfl,p,hs⟩:=hd;cases e with
   | non=>cases he;simp[aX] at h;subst h;exact SeqAt.EqAt.tuple_none p hu0
   | bl c'=>cases he;simp[aX] at h;subst h;exact SeqAt.EqAt.tuple_bool c' p hu0
   | int j=>obtain⟨t,rfl⟩:=he;simp[aX] at h;subst h;exact SeqAt.EqAt.tuple_int j t p hu0
   | str y=>obtain⟨t,rfl⟩:=he;simp[aX] at h;subst h;exact SeqAt.EqAt.tuple_str _ t p hu0
   | tup ys=>
    obtain⟨a',its',rfl,p',hs'⟩:=he;by_cases haa:a=a'
    ·subst haa;have:=xJ (n+1) (.tup xs) (.tup ys) (.ref a) b ⟨a,its,rfl,p,hs⟩ ⟨a,its',rfl,p',hs'⟩ h;subst this;exact SeqAt.EqAt.same _
    ·simp only[aX] at h;obtain⟨f,hf,hb⟩:=qx xs ys b h;have l1:=hs.length;have l2:=hs'.length;refine SeqAt.EqAt.of_refs haa ?_;have:=SeqAt.RcAt.tuples (e:=f) p p' hu0 λj h1 h2=>?_
     ·rw[hb];simp only[Qq4] at this;rw[l1,l2] at this;exact this
     ·have g1:its[j]? = some its.toArray[j]:=by simp at h1 ⊢
      have g2:its'[j]? = some its'.toArray[j]:=by simp at h2 ⊢
      obtain⟨x,q1,q2⟩:=lD hs g1;obtain⟨y,q3,q4⟩:=lD hs' g2;exact o6 n x y _ _ _ A.in1 s q2 q4 (hf j x y q1 q3) hin
   | lst ys=>obtain⟨a',its',rfl,p',_⟩:=he;simp[aX] at h;subst h;exact SeqAt.EqAt.tuple_list p p'.isList hu0
   | dct kvs=>simp[aX] at h
   | iQ kvs=>simp[aX] at h
   | clo _ _=>simp[aX] at h
   | arr kvs=>simp[aX] at h
  | lst xs=>
   obtain⟨a,its,rfl,p,hs⟩:=hd;cases e with
   | non=>cases he;simp[aX] at h;subst h;exact SeqAt.EqAt.list_none p.isList hu0
   | bl c'=>cases he;simp[aX] at h;subst h;exact SeqAt.EqAt.list_bool c' p.isList hu0
   | int j=>obtain⟨t,rfl⟩:=he;simp[aX] at h;subst h;exact SeqAt.EqAt.list_int j t p.isList hu0
   | str y=>obtain⟨t,rfl⟩:=he;simp[aX] at h;subst h;exact SeqAt.EqAt.list_str _ t p.isList hu0
   | lst ys=>
    obtain⟨a',its',rfl,p',hs'⟩:=he;have l1:=hs.length;have l2:=hs'.length;by_cases haa:a=a'
    ·subst haa;have:=xJ (n+1) (.lst xs) (.lst ys) (.ref a) b ⟨a,its,rfl,p,hs⟩ ⟨a,its',rfl,p',hs'⟩ h;subst this;exact SeqAt.EqAt.same _
    ·simp only[aX] at h;refine SeqAt.EqAt.of_refs haa ?_;by_cases hl:xs.length=ys.length
     ·obtain⟨f,hf,hb⟩:=qx xs ys b h;have:=SeqAt.RcAt.lists (e:=f) p.isList p'.isList (by simp only[Qq4];omega) hu0 λj h1 h2=>?_
      ·rw[hb,<-hl,Nat.min_self,beq_self_eq_true,Bool.and_true,<-l1];simp only[Qq4] at this;exact this
      ·have g1:its[j]? = some its.toArray[j]:=by simp at h1 ⊢
       have g2:its'[j]? = some its'.toArray[j]:=by simp at h2 ⊢
       obtain⟨x,q1,q2⟩:=lD hs g1;obtain⟨y,q3,q4⟩:=lD hs' g2;exact o6 n x y _ _ _ A.in1 s q2 q4 (hf j x y q1 q3) hin
     ·have:=vB hl b h;subst this;exact SeqAt.RcAt.lists_lengths p.isList p'.isList (by simp only[Qq4];rw[l1,l2];simpa using hl) hu0
   | tup ys=>obtain⟨a',its',rfl,p',_⟩:=he;simp[aX] at h;subst h;exact SeqAt.EqAt.list_tuple p.isList p' hu0
   | dct kvs=>simp[aX] at h
   | iQ kvs=>simp[aX] at h
   | clo _ _=>simp[aX] at h
   | arr kvs=>simp[aX] at h
  | dct kvs=>cases e<;>simp[aX] at h
  | iQ kvs=>cases e<;>simp[aX] at h
  | clo _ _=>cases e<;>simp[aX] at h
  | arr kvs=>cases e<;>simp[aX] at h
theorem rD(n:Nat)(its its':List Value)(xs ys:List D)(f:Nat->Bool)(A:Around)(s:Shared)(hs:lq s.heap xs its)(hs':lq s.heap ys its')(hf:∀(j:Nat) (x y:D),xs[j]? = some x->ys[j]? = some y->aX n x y=some (f j))(hin:A.in1.units+n<cLine)
  (j:Nat) (h1:j<its.toArray.size) (h2:j<its'.toArray.size):SeqAt.EqAt A.in1 s its.toArray[j] its'.toArray[j] (f j):=by
 have g1:its[j]? = some its.toArray[j]:=by simp at h1 ⊢
 have g2:its'[j]? = some its'.toArray[j]:=by simp at h2 ⊢
 obtain⟨x,q1,q2⟩:=lD hs g1;obtain⟨y,q3,q4⟩:=lD hs' g2;exact o6 n x y _ _ _ A.in1 s q2 q4 (hf j x y q1 q3) hin
theorem aa2(n:Nat)(d e:D)(u v:Value)(b:Bool)(A:Around)(s:Shared)(hd:Sh s.heap d u)(he:Sh s.heap e v)(h:aX (n+1) d e=some b)(hu:A.units+(n+1)<cLine):SeqAt.RcAt A s u v b:=by
 have hu0:A.units<cLine:=by omega
 have hin:A.in1.units+n<cLine:=by show A.units+1+n<cLine;omega
 cases d with
 | non=>
  cases hd;cases e with
  | non=>
   cases he;simp[aX] at h;subst h;exact SeqAt.RcAt.none_none
  | bl c'=>
   cases he;simp[aX] at h;subst h;exact SeqAt.RcAt.none_bool c'
  | int j=>
   obtain⟨t,rfl⟩:=he;simp[aX] at h;subst h;exact SeqAt.RcAt.none_int j t
  | str y=>
   obtain⟨t,rfl⟩:=he;simp[aX] at h;subst h;exact SeqAt.RcAt.none_str _ t
  | tup ys=>
   obtain⟨a',its',rfl,p',hs'⟩:=he;simp[aX] at h;subst h;exact SeqAt.RcAt.none_tuple p' hu0
  | lst ys=>
   obtain⟨a',its',rfl,p',hs'⟩:=he;simp[aX] at h;subst h;exact SeqAt.RcAt.none_list p'.isList hu0
  | arr kvs=>
   simp[aX] at h
  | dct kvs=>
   simp[aX] at h
  | iQ kvs=>
   simp[aX] at h
  | clo _ _=>
   simp[aX] at h
 | bl c=>
  cases hd;cases e with
  | non=>
   cases he;simp[aX] at h;subst h;exact SeqAt.RcAt.bool_none c
  | bl c'=>
   cases he;simp only[aX,Qw7] at h;subst h;exact SeqAt.RcAt.bool_bool c c'
  | int j=>
   obtain⟨t,rfl⟩:=he;simp only[aX,Qw7] at h;subst h;exact SeqAt.RcAt.bool_int c j t
  | str y=>
   obtain⟨t,rfl⟩:=he;simp[aX] at h;subst h;exact SeqAt.RcAt.bool_str c _ t
  | tup ys=>
   obtain⟨a',its',rfl,p',hs'⟩:=he;simp[aX] at h;subst h;exact SeqAt.RcAt.bool_tuple c p' hu0
  | lst ys=>
   obtain⟨a',its',rfl,p',hs'⟩:=he;simp[aX] at h;subst h;exact SeqAt.RcAt.bool_list c p'.isList hu0
  | arr kvs=>
   simp[aX] at h
  | dct kvs=>
   simp[aX] at h
  | iQ kvs=>
   simp[aX] at h
  | clo _ _=>
   simp[aX] at h
 | int i=>
  obtain⟨t',rfl⟩:=hd;cases e with
  | non=>
   cases he;simp[aX] at h;subst h;exact SeqAt.RcAt.int_none i t'
  | bl c'=>
   cases he;simp only[aX,Qw7] at h;subst h;exact SeqAt.RcAt.int_bool i t' c'
  | int j=>
   obtain⟨t,rfl⟩:=he;simp only[aX,Qw7] at h;subst h;exact SeqAt.RcAt.int_int i t' j t
  | str y=>
   obtain⟨t,rfl⟩:=he;simp[aX] at h;subst h;exact SeqAt.RcAt.int_str i t' _ t
  | tup ys=>
   obtain⟨a',its',rfl,p',hs'⟩:=he;simp[aX] at h;subst h;exact SeqAt.RcAt.int_tuple i t' p' hu0
  | lst ys=>
   obtain⟨a',its',rfl,p',hs'⟩:=he;simp[aX] at h;subst h;exact SeqAt.RcAt.int_list i t' p'.isList hu0
  | arr kvs=>
   simp[aX] at h
  | dct kvs=>
   simp[aX] at h
  | iQ kvs=>
   simp[aX] at h
  | clo _ _=>
   simp[aX] at h
 | str x=>
  obtain⟨t',rfl⟩:=hd;cases e with
  | non=>
   cases he;simp[aX] at h;subst h;exact SeqAt.RcAt.str_none _ t'
  | bl c'=>
   cases he;simp[aX] at h;subst h;exact SeqAt.RcAt.str_bool _ t' c'
  | int j=>
   obtain⟨t,rfl⟩:=he;simp[aX] at h;subst h;exact SeqAt.RcAt.str_int _ t' j t
  | str y=>
   obtain⟨t,rfl⟩:=he;simp only[aX,Qw7] at h;subst h;rw[<-sS];exact SeqAt.RcAt.str_str _ t' _ t
  | tup ys=>
   obtain⟨a',its',rfl,p',hs'⟩:=he;simp[aX] at h;subst h;exact SeqAt.RcAt.str_tuple _ t' p' hu0
  | lst ys=>
   obtain⟨a',its',rfl,p',hs'⟩:=he;simp[aX] at h;subst h;exact SeqAt.RcAt.str_list _ t' p'.isList hu0
  | arr kvs=>
   simp[aX] at h
  | dct kvs=>
   simp[aX] at h
  | iQ kvs=>
   simp[aX] at h
  | clo _ _=>
   simp[aX] at h
 | tup xs=>
  obtain⟨a,its,rfl,p,hs⟩:=hd;cases e with
  | non=>
   cases he;simp[aX] at h;subst h;exact SeqAt.RcAt.tuple_none p hu0
  | bl c'=>
   cases he;simp[aX] at h;subst h;exact SeqAt.RcAt.tuple_bool c' p hu0
  | int j=>
   obtain⟨t,rfl⟩:=he;simp[aX] at h;subst h;exact SeqAt.RcAt.tuple_int j t p hu0
  | str y=>
   obtain⟨t,rfl⟩:=he;simp[aX] at h;subst h;exact SeqAt.RcAt.tuple_str _ t p hu0
  | tup ys=>
   obtain⟨a',its',rfl,p',hs'⟩:=he;simp only[aX] at h;have l1:=hs.length;have l2:=hs'.length;obtain⟨f,hf,hb⟩:=qx xs ys b h;have:=SeqAt.RcAt.tuples (e:=f) p p' hu0 λj h1 h2=>?_
   ·rw[hb];simp only[Qq4] at this;rw[l1,l2] at this;exact this
   ·exact rD n its its' xs ys f A s hs hs' hf hin j h1 h2
  | lst ys=>
   obtain⟨a',its',rfl,p',hs'⟩:=he;simp[aX] at h;subst h;exact SeqAt.RcAt.tuple_list p p'.isList hu0
  | arr kvs=>
   simp[aX] at h
  | dct kvs=>
   simp[aX] at h
  | iQ kvs=>
   simp[aX] at h
  | clo _ _=>
   simp[aX] at h
 | lst xs=>
  obtain⟨a,its,rfl,p,hs⟩:=hd;cases e with
  | non=>
   cases he;simp[aX] at h;subst h;exact SeqAt.RcAt.list_none p.isList hu0
  | bl c'=>
   cases he;simp[aX] at h;subst h;exact SeqAt.RcAt.list_bool c' p.isList hu0
  | int j=>
   obtain⟨t,rfl⟩:=he;simp[aX] at h;subst h;exact SeqAt.RcAt.list_int j t p.isList hu0
  | str y=>
   obtain⟨t,rfl⟩:=he;simp[aX] at h;subst h;exact SeqAt.RcAt.list_str _ t p.isList hu0
  | tup ys=>
   obtain⟨a',its',rfl,p',hs'⟩:=he;simp[aX] at h;subst h;exact SeqAt.RcAt.list_tuple p.isList p' hu0
  | lst ys=>
   obtain⟨a',its',rfl,p',hs'⟩:=he;simp only[aX] at h;have l1:=hs.length;have l2:=hs'.length;by_cases hl:xs.length=ys.length
   ·obtain⟨f,hf,hb⟩:=qx xs ys b h;have:=SeqAt.RcAt.lists (e:=f) p.isList p'.isList (by simp only[Qq4];omega) hu0 λj h1 h2=>?_
    ·rw[hb,<-hl,Nat.min_self,beq_self_eq_true,Bool.and_true,<-l1];simp only[Qq4] at this;exact this
    ·exact rD n its its' xs ys f A s hs hs' hf hin j h1 h2
   ·have:=vB hl b h;subst this;exact SeqAt.RcAt.lists_lengths p.isList p'.isList (by simp only[Qq4];rw[l1,l2];simpa using hl) hu0
  | arr kvs=>
   simp[aX] at h
  | dct kvs=>
   simp[aX] at h
  | iQ kvs=>
   simp[aX] at h
  | clo _ _=>
   simp[aX] at h
 | arr kvs=>
  cases e<;>simp[aX] at h
 | dct kvs=>
  cases e<;>simp[aX] at h
 | iQ kvs=>
  cases e<;>simp[aX] at h
 | clo _ _=>
  cases e<;>simp[aX] at h
theorem RN(n:Nat)(d e:D)(u v:Value)(b:Bool)(A:Around)(s:Shared)(hd:Sh s.heap d u)(he:Sh s.heap e v)(h:aX (n+1) d e=some b)(hu:A.units+(n+1)<cLine):SeqAt.RcNeAt A s u v (!b):=by
 have hu0:A.units<cLine:=by omega
 have hin:A.in1.units+n<cLine:=by show A.units+1+n<cLine;omega
 cases d with
 | non=>
  cases hd;cases e with
  | non=>
   cases he;simp[aX] at h;subst h;exact SeqAt.RcNeAt.none_none
  | bl c'=>
   cases he;simp[aX] at h;subst h;exact SeqAt.RcNeAt.none_bool c'
  | int j=>
   obtain⟨t,rfl⟩:=he;simp[aX] at h;subst h;exact SeqAt.RcNeAt.none_int j t
  | str y=>
   obtain⟨t,rfl⟩:=he;simp[aX] at h;subst h;exact SeqAt.RcNeAt.none_str _ t
  | tup ys=>
   obtain⟨a',its',rfl,p',hs'⟩:=he;simp[aX] at h;subst h;exact SeqAt.RcNeAt.none_tuple p' hu0
  | lst ys=>
   obtain⟨a',its',rfl,p',hs'⟩:=he;simp[aX] at h;subst h;exact SeqAt.RcNeAt.none_list p'.isList hu0
  | arr kvs=>
   simp[aX] at h
  | dct kvs=>
   simp[aX] at h
  | iQ kvs=>
   simp[aX] at h
  | clo _ _=>
   simp[aX] at h
 | bl c=>
  cases hd;cases e with
  | non=>
   cases he;simp[aX] at h;subst h;exact SeqAt.RcNeAt.bool_none c
  | bl c'=>
   cases he;simp only[aX,Qw7] at h;subst h;exact SeqAt.RcNeAt.bool_bool c c'
  | int j=>
   obtain⟨t,rfl⟩:=he;simp only[aX,Qw7] at h;subst h;exact SeqAt.RcNeAt.bool_int c j t
  | str y=>
   obtain⟨t,rfl⟩:=he;simp[aX] at h;subst h;exact SeqAt.RcNeAt.bool_str c _ t
  | tup ys=>
   obtain⟨a',its',rfl,p',hs'⟩:=he;simp[aX] at h;subst h;exact SeqAt.RcNeAt.bool_tuple c p' hu0
  | lst ys=>
   obtain⟨a',its',rfl,p',hs'⟩:=he;simp[aX] at h;subst h;exact SeqAt.RcNeAt.bool_list c p'.isList hu0
  | arr kvs=>
   simp[aX] at h
  | dct kvs=>
   simp[aX] at h
  | iQ kvs=>
   simp[aX] at h
  | clo _ _=>
   simp[aX] at h
 | int i=>
  obtain⟨t',rfl⟩:=hd;cases e with
  | non=>
   cases he;simp[aX] at h;subst h;exact SeqAt.RcNeAt.int_none i t'
  | bl c'=>
   cases he;simp only[aX,Qw7] at h;subst h;exact SeqAt.RcNeAt.int_bool i t' c'
  | int j=>
   obtain⟨t,rfl⟩:=he;simp only[aX,Qw7] at h;subst h;exact SeqAt.RcNeAt.int_int i t' j t
  | str y=>
   obtain⟨t,rfl⟩:=he;simp[aX] at h;subst h;exact SeqAt.RcNeAt.int_str i t' _ t
  | tup ys=>
   obtain⟨a',its',rfl,p',hs'⟩:=he;simp[aX] at h;subst h;exact SeqAt.RcNeAt.int_tuple i t' p' hu0
  | lst ys=>
   obtain⟨a',its',rfl,p',hs'⟩:=he;simp[aX] at h;subst h;exact SeqAt.RcNeAt.int_list i t' p'.isList hu0
  | arr kvs=>
   simp[aX] at h
  | dct kvs=>
   simp[aX] at h
  | iQ kvs=>
   simp[aX] at h
  | clo _ _=>
   simp[aX] at h
 | str x=>
  obtain⟨t',rfl⟩:=hd;cases e with
  | non=>
   cases he;simp[aX] at h;subst h;exact SeqAt.RcNeAt.str_none _ t'
  | bl c'=>
   cases he;simp[aX] at h;subst h;exact SeqAt.RcNeAt.str_bool _ t' c'
  | int j=>
   obtain⟨t,rfl⟩:=he;simp[aX] at h;subst h;exact SeqAt.RcNeAt.str_int _ t' j t
  | str y=>
   obtain⟨t,rfl⟩:=he;simp only[aX,Qw7] at h;subst h;rw[<-sS];exact SeqAt.RcNeAt.str_str _ t' _ t
  | tup ys=>
   obtain⟨a',its',rfl,p',hs'⟩:=he;simp[aX] at h;subst h;exact SeqAt.RcNeAt.str_tuple _ t' p' hu0
  | lst ys=>
   obtain⟨a',its',rfl,p',hs'⟩:=he;simp[aX] at h;subst h;exact SeqAt.RcNeAt.str_list _ t' p'.isList hu0
  | arr kvs=>
   simp[aX] at h
  | dct kvs=>
   simp[aX] at h
  | iQ kvs=>
   simp[aX] at h
  | clo _ _=>
   simp[aX] at h
 | tup xs=>
  obtain⟨a,its,rfl,p,hs⟩:=hd;cases e with
  | non=>
   cases he;simp[aX] at h;subst h;exact SeqAt.RcNeAt.tuple_none p hu0
  | bl c'=>
   cases he;simp[aX] at h;subst h;exact SeqAt.RcNeAt.tuple_bool c' p hu0
  | int j=>
   obtain⟨t,rfl⟩:=he;simp[aX] at h;subst h;exact SeqAt.RcNeAt.tuple_int j t p hu0
  | str y=>
   obtain⟨t,rfl⟩:=he;simp[aX] at h;subst h;exact SeqAt.RcNeAt.tuple_str _ t p hu0
  | tup ys=>
   obtain⟨a',its',rfl,p',hs'⟩:=he;simp only[aX] at h;have l1:=hs.length;have l2:=hs'.length;obtain⟨f,hf,hb⟩:=qx xs ys b h;have:=SeqAt.RcNeAt.tuples (e:=f) p p' hu0 λj h1 h2=>?_
   ·rw[hb];simp only[Qq4] at this;rw[l1,l2] at this;exact this
   ·exact rD n its its' xs ys f A s hs hs' hf hin j h1 h2
  | lst ys=>
   obtain⟨a',its',rfl,p',hs'⟩:=he;simp[aX] at h;subst h;exact SeqAt.RcNeAt.tuple_list p p'.isList hu0
  | arr kvs=>
   simp[aX] at h
  | dct kvs=>
   simp[aX] at h
  | iQ kvs=>
   simp[aX] at h
  | clo _ _=>
   simp[aX] at h
 | lst xs=>
  obtain⟨a,its,rfl,p,hs⟩:=hd;cases e with
  | non=>
   cases he;simp[aX] at h;subst h;exact SeqAt.RcNeAt.list_none p.isList hu0
  | bl c'=>
   cases he;simp[aX] at h;subst h;exact SeqAt.RcNeAt.list_bool c' p.isList hu0
  | int j=>
   obtain⟨t,rfl⟩:=he;simp[aX] at h;subst h;exact SeqAt.RcNeAt.list_int j t p.isList hu0
  | str y=>
   obtain⟨t,rfl⟩:=he;simp[aX] at h;subst h;exact SeqAt.RcNeAt.list_str _ t p.isList hu0
  | tup ys=>
   obtain⟨a',its',rfl,p',hs'⟩:=he;simp[aX] at h;subst h;exact SeqAt.RcNeAt.list_tuple p.isList p' hu0
  | lst ys=>
   obtain⟨a',its',rfl,p',hs'⟩:=he;simp only[aX] at h;have l1:=hs.length;have l2:=hs'.length;by_cases hl:xs.length=ys.length
   ·obtain⟨f,hf,hb⟩:=qx xs ys b h;have:=SeqAt.RcNeAt.lists (e:=f) p.isList p'.isList (by simp only[Qq4];omega) hu0 λj h1 h2=>?_
    ·rw[hb,<-hl,Nat.min_self,beq_self_eq_true,Bool.and_true,<-l1];simp only[Qq4] at this;exact this
    ·exact rD n its its' xs ys f A s hs hs' hf hin j h1 h2
   ·have:=vB hl b h;subst this;exact SeqAt.RcNeAt.lists_lengths p.isList p'.isList (by simp only[Qq4];rw[l1,l2];simpa using hl) hu0
  | arr kvs=>
   simp[aX] at h
  | dct kvs=>
   simp[aX] at h
  | iQ kvs=>
   simp[aX] at h
  | clo _ _=>
   simp[aX] at h
 | arr kvs=>
  cases e<;>simp[aX] at h
 | dct kvs=>
  cases e<;>simp[aX] at h
 | iQ kvs=>
  cases e<;>simp[aX] at h
 | clo _ _=>
  cases e<;>simp[aX] at h
section
variable{X:Cx}{C:Cfg}
def abi(K:Fg):R2:=λx y H Q=>∃dx dy b,Rep K H dx x/\Rep K H dy y/\aX 60 dx dy=some b/\Q (.bl b) H
def aa8(K:Fg):R2:=λx y H Q=>∃dx dy b,Rep K H dx x/\Rep K H dy y/\aX 60 dx dy=some b/\Q (.bl (!b)) H
theorem X3(hu:X.A.units+60<cLine):mD X (compareOp .Eq) (abi X.K):=by intro pins s σ H x y v u Q I rx ry h;obtain⟨dx,dy,b,h1,h2,h3,q⟩:=h;exact aa2 59 dx dy v u b X.A s (Rep.sh I dx x v h1 rx) (Rep.sh I dy y u h2 ry) h3 hu X.prog X.w X.xe _ ⟨.bl b,H,I,rfl,q⟩
theorem XH(hu:X.A.units+60<cLine):mD X (compareOp .NotEq) (aa8 X.K):=by intro pins s σ H x y v u Q I rx ry h;obtain⟨dx,dy,b,h1,h2,h3,q⟩:=h;exact RN 59 dx dy v u b X.A s (Rep.sh I dx x v h1 rx) (Rep.sh I dy y u h2 ry) h3 hu X.prog X.w X.xe _ ⟨.bl (!b),H,I,rfl,q⟩
def qD(x y:D):Option D:=(aX 60 x y).map .bl
def zq(x y:D):Option D:=(aX 60 x y).map λb=>.bl (!b)
theorem abH:n8 C (abi C.K) qD:=by
 intro Pr F env σ H x y d vx vy Q r hx hy h q;unfold qD at h;cases e:aX 60 x y with
 | none=>rw[e] at h;cases h
 | some b=>
  rw[e] at h;cases h;exact⟨x,y,b,hx.rep r.fr,hy.rep r.fr,e,q _ H F r (aP.refl F) rfl⟩
theorem abC:n8 C (aa8 C.K) zq:=by
 intro Pr F env σ H x y d vx vy Q r hx hy h q;unfold zq at h;cases e:aX 60 x y with
 | none=>rw[e] at h;cases h
 | some b=>
  rw[e] at h;cases h;exact⟨x,y,b,hx.rep r.fr,hy.rep r.fr,e,q _ H F r (aP.refl F) rfl⟩
def Mf(x:D):List D->Option Bool
 | []=>some false
 | y::ys=>match aX 59 y x,Mf x ys with
  | some a,some b=>some (a||b)
  | _,_=>none
theorem Jk(x:D):∀(ys:List D) (b:Bool),Mf x ys=some b->(∀y∈ys,∃c,aX 59 y x=some c)/\(b=true ↔ ∃y∈ys,aX 59 y x=some true)
 | [],b,h=>by simp[Mf] at h;subst h;simp
 | y::ys,b,h=>by
  unfold Mf at h;cases h1:aX 59 y x with
  | none=>rw[h1] at h;simp at h
  | some c=>
   cases h2:Mf x ys with
   | none=>rw[h1,h2] at h;simp at h
   | some d=>
    rw[h1,h2] at h;obtain⟨i1,i2⟩:=Jk x ys d h2;have hb:b=(c||d):=by simpa using h.symm
    refine⟨λz hz=>?_,?_⟩
    ·rcases Qq8.mp hz with rfl|hz
     ·exact⟨c,h1⟩
     ·exact i1 z hz
    ·rw[hb,Bool.or_eq_true];constructor
     ·rintro(hc|hd)
      ·exact⟨y,Qqz,by rw[h1,hc]⟩
      ·obtain⟨z,hz,e⟩:=i2.mp hd;exact⟨z,Qqj _ hz,e⟩
     ·rintro⟨z,hz,e⟩;rcases Qq8.mp hz with rfl|hz
      ·rw[h1] at e;left;simpa using e
      ·right;exact i2.mpr ⟨z,hz,e⟩
open Classical in
noncomputable def Hx(h:Heap)(x:D)(u:Value):Bool:=decide (∃y,Sh h y u/\aX 59 y x=some true)
open Classical in
theorem By{h:Heap}{x y:D}{u:Value}{c:Bool}(hy:Sh h y u)(e:aX 59 y x=some c):Hx h x u=c:=by
 unfold Hx;cases c with
 | true=>exact Qww ⟨y,hy,e⟩
 | false=>
  refine Qq9 ?_;rintro⟨z,hz,e'⟩;have:=Jy 59 z y x u true false hz hy e' e;cases this
theorem Hf{s:Shared}{A:Around}{x:D}{v:Value}{ys:List D}{us:List Value}{b:Bool}(hx:Sh s.heap x v)(hs:lq s.heap ys us)(h:Mf x ys=some b)(hu:A.units+59<cLine) :
  (∀w,w∈us.toArray->SeqAt.EqAt A s w v (Hx s.heap x w))/\us.toArray.any (Hx s.heap x)=b:=by
 obtain⟨h1,h2⟩:=Jk x ys b h;have item:∀w∈us,∃y∈ys,Sh s.heap y w:=λw hw=>by
  obtain⟨j,hj,e⟩:=List.mem_iff_getElem.mp hw;obtain⟨d,e1,e2⟩:=lD hs (show us[j]? = some w by rw[Qq2 hj,e]);exact⟨d,Qz6 e1,e2⟩
 have back:∀{ys:List D} {us:List Value},lq s.heap ys us->∀y∈ys,∃w∈us,Sh s.heap y w:=by
  intro ys
  induction ys with
  | nil=>intro us _ y hy;cases hy
  | cons z zs ih=>
   intro us hs y hy;obtain⟨w,r,rfl,g1,g2⟩:=hs;rcases Qq8.mp hy with rfl|hy
   ·exact⟨w,Qqz,g1⟩
   ·obtain⟨w',m,g⟩:=ih g2 y hy;exact⟨w',Qqj _ m,g⟩
 refine⟨λw hw=>?_,?_⟩
 ·obtain⟨y,hy,sy⟩:=item w (by simpa using hw);obtain⟨c,hc⟩:=h1 y hy;rw[By sy hc];exact o6 59 y x w v c A s sy hx hc hu
 ·rw[List.any_toArray,Qkw,h2,List.any_eq_true];constructor
  ·rintro⟨w,hw,e⟩;obtain⟨y,hy,sy⟩:=item w hw;obtain⟨c,hc⟩:=h1 y hy;rw[By sy hc] at e;subst e;exact⟨y,hy,hc⟩
  ·rintro⟨y,hy,e⟩;obtain⟨w,hw,sy⟩:=back hs y hy;exact⟨w,hw,By sy e⟩
def M5:D->Option (List D)
 | .tup xs=>some xs
 | .lst xs=>some xs
 | .arr xs=>some xs
 | _=>none
def W7(K:Fg)(neg:Bool):R2:=λx y H Q=>∃dx dy ys b,Rep K H dx x/\Rep K H dy y/\M5 dy=some ys/\Mf dx ys=some b/\Q (.bl (if neg then !b else b)) H
theorem XR(hu:X.A.units+61<cLine):mD X (compareOp .In) (W7 X.K false):=by
 intro pins s σ H x y v u Q I rx ry h;obtain⟨dx,dy,ys,b,h1,h2,h3,h4,q⟩:=h;have hx:=Rep.sh I dx x v h1 rx;have hy:=Rep.sh I dy y u h2 ry;have hin:X.A.in1.units+59<cLine:=by show X.A.units+1+59<cLine;omega
 cases dy with
 | tup zs=>
  cases h3;obtain⟨a,its,rfl,p,hs⟩:=hy;obtain⟨g1,g2⟩:=Hf (A:=X.A.in1) hx hs h4 hin;refine SeqAt.in_tupleAt (Hx s.heap dx) p g1 ⟨.bl _,H,I,rfl,?_⟩;rw[g2];exact q
 | lst zs=>
  cases h3;obtain⟨a,its,rfl,p,hs⟩:=hy;obtain⟨g1,g2⟩:=Hf (A:=X.A.in1) hx hs h4 hin;refine SeqAt.in_listAt (Hx s.heap dx) p.isList g1 ⟨.bl _,H,I,rfl,?_⟩;rw[g2];exact q
 | arr zs=>
  cases h3;obtain⟨a,its,rfl,p,hs⟩:=hy;obtain⟨g1,g2⟩:=Hf (A:=X.A.in1) hx hs h4 hin;refine SeqAt.in_listAt (Hx s.heap dx) p.isList g1 ⟨.bl _,H,I,rfl,?_⟩;rw[g2];exact q
 | _=>cases h3
end
theorem n8.or{C:Cfg}{r r':R2}{g g':D->D->Option D}(h:n8 C r g)(h':n8 C r' g'):n8 C (λx y H Q=>r x y H Q\/r' x y H Q) (λx y=>(g x y).or (g' x y)):=by
 intro Pr F env σ H x y d vx vy Q rl hx hy e q;have e:(g x y).or (g' x y)=some d:=e;cases e1:g x y with
 | some c=>
  rw[e1] at e;cases e;exact .inl (h Pr F env σ H x y d vx vy Q rl hx hy e1 q)
 | none=>
  rw[e1] at e;exact .inr (h' Pr F env σ H x y d vx vy Q rl hx hy e q)
section
variable{X:Cx}{C:Cfg}
def Zo(x y:D):Option D:=match M5 y with
 | some ys=>(Mf x ys).map .bl
 | none=>none
theorem Yn:n8 C (W7 C.K false) Zo:=by
 intro Pr F env σ H x y d vx vy Q r hx hy h q;unfold Zo at h;cases e1:M5 y with
 | none=>rw[e1] at h;cases h
 | some ys=>
  rw[e1] at h;cases e:Mf x ys with
  | none=>simp only[e,Option.map_none] at h;cases h
  | some b=>
   simp only[e,Option.map_some] at h;cases h;exact⟨x,y,ys,b,hx.rep r.fr,hy.rep r.fr,e1,e,q _ H F r (aP.refl F) rfl⟩
def Zm(x y:D):Option D:=match x,y with
 | .str [c],.str z=>some (.bl (decide (c∈z)))
 | _,_=>none
abbrev abf:R2:=λx y H Q=>∃i j,x = .str i/\y = .str j/\Q (.bl (!(Builtin.Str.occurrences j i 0 j.length 1).isEmpty)) H
theorem one_sign(c:Nat)(z:List Nat):(!(Builtin.Str.occurrences (strOf z) (strOf [c]) 0 (strOf z).length 1).isEmpty)=decide (c∈z):=by
 have:=StrLaws.found_one (strOf z) c;unfold strOf at this ⊢
 simpa using this
theorem Ym:n8 C abf Zm:=by
 intro Pr F env σ H x y d vx vy Q r hx hy h q;unfold Zm at h;split at h
 ·rename_i c z;cases h;obtain⟨rfl,_⟩:=hx.str;obtain⟨rfl,_⟩:=hy.str;refine⟨_,_,rfl,rfl,?_⟩;rw[one_sign];exact q _ H F r (aP.refl F) rfl
 ·cases h
def gIn(x y:D):Option D:=(Zo x y).or (Zm x y)
abbrev abh(K:Fg):R2:=λx y H Q=>W7 K false x y H Q\/abf x y H Q
theorem XX(hu:X.A.units+61<cLine):mD X (compareOp .In) (abh X.K):=(XR hu).or KJ
theorem abF:n8 C (abh C.K) gIn:=Yn.or Ym
def isPlain(x:V):Prop:=x = .non\/∃b,x = .bl b
theorem XQ:mD X (compareOp .Is) (λx y H Q=>isPlain y/\Q (.bl (decide (x=y))) H):=by
 intro pins s σ H x y v u Q I rx ry h;obtain⟨hp,q⟩:=h;rcases hp with rfl|⟨b,rfl⟩
 ·exact XN pins s σ H x .non v u Q I rx ry ⟨rfl,q⟩
 ·cases ry;refine wpAny_is_plain ?_ (Bj I q ?_)
  ·cases x<;>first|(cases rx;rfl)|(obtain⟨t,rfl⟩:=rx;rfl)
  ·cases x with
   | bl c=>cases rx;cases b<;>cases c<;>rfl
   | _=>first|(cases rx;rfl)|(obtain⟨t,rfl⟩:=rx;rfl)
def isD:D->D->Option Bool
 | .non,.non=>some true
 | .bl a,.bl b=>some (a == b)
 | _,.non=>some false
 | _,.bl _=>some false
 | _,_=>none
def gIs(x y:D):Option D:=(isD x y).map .bl
theorem abX{F H:Hp}{x y:D}{vx vy:V}{b:Bool}(hx:gD C.K F H x vx)(hy:gD C.K F H y vy)(h:isD x y=some b):isPlain vy/\decide (vx=vy)=b:=by
 have adJ:∀a,¬(V.ref a=V.non):=λa e=>by cases e
 cases y with
 | non=>
  obtain rfl:=hy.non;refine⟨.inl rfl,?_⟩;cases x with
  | non=>obtain rfl:=hx.non;simp[isD] at h;simp[h]
  | bl c=>obtain rfl:=hx.bl;simp[isD] at h;simp[h]
  | int i=>obtain rfl:=hx.int;simp[isD] at h;simp[h]
  | str z=>obtain⟨rfl,_⟩:=hx.str;simp[isD] at h;simp[h]
  | tup xs=>rcases hx with ⟨_,a,_,rfl,_⟩|⟨a,rfl,_⟩<;>(simp[isD] at h;simp[h])
  | lst xs=>rcases hx with ⟨_,a,_,rfl,_⟩|⟨a,rfl,_⟩<;>(simp[isD] at h;simp[h])
  | arr xs=>rcases hx with ⟨_,a,_,rfl,_⟩|⟨a,rfl,_⟩<;>(simp[isD] at h;simp[h])
  | dct xs=>rcases hx with ⟨_,a,_,rfl,_⟩|⟨a,rfl,_⟩<;>(simp[isD] at h;simp[h])
  | iQ xs=>rcases hx with ⟨_,a,_,rfl,_⟩|⟨a,rfl,_⟩<;>(simp[isD] at h;simp[h])
  | clo st xs=>rcases hx with ⟨a,_,rfl,_⟩|⟨a,rfl,_⟩<;>(simp[isD] at h;simp[h])
 | bl k=>
  obtain rfl:=hy.bl;refine⟨.inr ⟨k,rfl⟩,?_⟩;cases x with
  | non=>obtain rfl:=hx.non;simp[isD] at h;simp[h]
  | bl c=>obtain rfl:=hx.bl;simp only[isD,Qw7] at h;rw[<-h,ZD]
  | int i=>obtain rfl:=hx.int;simp[isD] at h;simp[h]
  | str z=>obtain⟨rfl,_⟩:=hx.str;simp[isD] at h;simp[h]
  | tup xs=>rcases hx with ⟨_,a,_,rfl,_⟩|⟨a,rfl,_⟩<;>(simp[isD] at h;simp[h])
  | lst xs=>rcases hx with ⟨_,a,_,rfl,_⟩|⟨a,rfl,_⟩<;>(simp[isD] at h;simp[h])
  | arr xs=>rcases hx with ⟨_,a,_,rfl,_⟩|⟨a,rfl,_⟩<;>(simp[isD] at h;simp[h])
  | dct xs=>rcases hx with ⟨_,a,_,rfl,_⟩|⟨a,rfl,_⟩<;>(simp[isD] at h;simp[h])
  | iQ xs=>rcases hx with ⟨_,a,_,rfl,_⟩|⟨a,rfl,_⟩<;>(simp[isD] at h;simp[h])
  | clo st xs=>rcases hx with ⟨a,_,rfl,_⟩|⟨a,rfl,_⟩<;>(simp[isD] at h;simp[h])
 | _=>cases x<;>simp[isD] at h
theorem abE:n8 C (λx y H Q=>isPlain y/\Q (.bl (decide (x=y))) H) gIs:=by
 intro Pr F env σ H x y d vx vy Q r hx hy h q;unfold gIs at h;cases e:isD x y with
 | none=>rw[e] at h;cases h
 | some b=>
  rw[e] at h;cases h;obtain⟨h1,h2⟩:=abX hx hy e;exact⟨h1,by rw[h2];exact q _ H F r (aP.refl F) rfl⟩
def gI(c:Int->Int->Bool)(f:Int->Int->D)(x y:D):Option D:=match x,y with
 | .int i,.int j=>if c i j=true then some (f i j) else none
 | _,_=>none
theorem O8{Cd:Int->Int->Prop}{c:Int->Int->Bool}{f:Int->Int->D}{g:Int->Int->V}(hc:∀i j,c i j=true->Cd i j)(hf:∀i j F,Rep C.K F (f i j) (g i j)):n8 C (rI Cd g) (gI c f):=by
 intro Pr F env σ H x y d vx vy Q r hx hy h q;unfold gI at h;split at h
 ·rename_i i j;split at h
  ·rename_i hcc;cases h;obtain rfl:=hx.int;obtain rfl:=hy.int;exact⟨i,j,rfl,rfl,hc i j hcc,q _ H F r (aP.refl F) (hf i j F)⟩
  ·cases h
 ·cases h
theorem Jb{f:Int->Int->D}{g:Int->Int->V}(hf:∀i j F,Rep C.K F (f i j) (g i j)):n8 C (Im g) (gI (λ_ _=>true) f):=by
 intro Pr F env σ H x y d vx vy Q r hx hy h q;unfold gI at h;split at h
 ·rename_i i j;rw[if_pos rfl] at h;cases h;obtain rfl:=hx.int;obtain rfl:=hy.int;exact⟨i,j,rfl,rfl,q _ H F r (aP.refl F) (hf i j F)⟩
 ·cases h
def jG(i j:Int):Bool:=decide (Builtin.Int.intBits i+Builtin.Int.intBits j<=134217728)
theorem Tf:mD X (binaryOp .Mult) (rI (λi j=>jG i j=true) λi j=>.int (i*j)):=
 opI λi j _ _ _ _ _ hc q=>mul_int q (mulOk_of_bits (Qq0 _) (Qq0 _) (Qx0 hc))
def qt:D->D->Option D:=gI jG λi j=>.int (i*j)
def Eg:D->D->Option D:=gI (λ_ _=>true) λi j=>.int (i - j)
def Zj:D->D->Option D:=gI (λ_ j=>decide (0<j)) λi j=>.int (i % j)
def Hi:D->D->Option D:=gI (λi j=>decide (0<=j/\j<=1000000/\i.natAbs<2^64)) λi j=>.int (i^j.toNat)
def Hh:D->D->Option D:=gI (λi j=>decide (0<=j/\j<=1000000/\i.natAbs<2^64)) λi j=>.int (i*2^j.toNat)
def wY:D->D->Option D:=gI (λ_ j=>decide (0<=j)) λi j=>.int (i / 2^j.toNat)
def yF:D->D->Option D:=gI (λ_ _=>true) λi j=>.int (Builtin.bitAnd i j)
theorem Yi:n8 C (rI (λi j=>jG i j=true) λi j=>.int (i*j)) qt:=O8 (λ_ _ h=>h) λ_ _ _=>rfl
theorem Yd:n8 C (Im λi j=>.int (i - j)) Eg:=Jb λ_ _ _=>rfl
theorem Yj:n8 C (rI (λ_ j=>0<j) λi j=>.int (i % j)) Zj:=O8 (λ_ _ h=>Qx0 h) λ_ _ _=>rfl
theorem Yh:n8 C (rI Vb λi j=>.int (i^j.toNat)) Hi:=O8 (λi j h=>(show 0<=j/\j<=1000000/\i.natAbs<2^64 from Qx0 h)) λ_ _ _=>rfl
theorem Yg:n8 C (rI Vb λi j=>.int (i*2^j.toNat)) Hh:=O8 (λi j h=>(show 0<=j/\j<=1000000/\i.natAbs<2^64 from Qx0 h)) λ_ _ _=>rfl
theorem Ye:n8 C (rI (λ_ j=>0<=j) λi j=>.int (i / 2^j.toNat)) wY:=O8 (λ_ _ h=>Qx0 h) λ_ _ _=>rfl
theorem Yo:n8 C (Im λi j=>.int (Builtin.bitAnd i j)) yF:=Jb λ_ _ _=>rfl
abbrev aa9:R2:=λx y H Q=>∃i j,x = .str i/\y = .str j/\Q (.bl (decide (i.cps.toList<j.cps.toList))) H
def acf:D->D->Option D:=gI (λ_ _=>true) λi j=>.bl (decide (i<j))
def Zk(x y:D):Option D:=match x,y with
 | .str a,.str b=>some (.bl (decide (a<b)))
 | _,_=>none
def gLt(x y:D):Option D:=(acf x y).or (Zk x y)
def gGt:D->D->Option D:=gI (λ_ _=>true) λi j=>.bl (decide (j<i))
theorem Yk:n8 C aa9 Zk:=by
 intro Pr F env σ H x y d vx vy Q r hx hy h q;unfold Zk at h;split at h
 ·cases h;obtain⟨rfl,_⟩:=hx.str;obtain⟨rfl,_⟩:=hy.str;exact⟨_,_,rfl,rfl,q _ H F r (aP.refl F) (by show V.bl _=V.bl _;congr)⟩
 ·cases h
abbrev aba:R2:=λx y H Q=>Im (λi j=>.bl (decide (i<j))) x y H Q\/aa9 x y H Q
theorem XM:mD X (compareOp .Lt) aba:=aby.or KH
theorem Yl:n8 C (Im λi j=>.bl (decide (i<j))) acf:=Jb λ_ _ _=>rfl
theorem abD:n8 C aba gLt:=Yl.or Yk
theorem abG:n8 C (Im λi j=>.bl (decide (j<i))) gGt:=Jb λ_ _ _=>rfl
def Ny(K:Fg):R2:=λx y H Q=>∃a b ys,x = .ref a/\y = .ref b/\j8 K H a []/\j8 K H b ys/\Q (.ref b) H
theorem O6:mD X (binaryOp .Add) (Ny X.K):=by
 intro pins s σ H x y v u Q I rx ry h;obtain⟨a,b,ys,rfl,rfl,ha,hb,q⟩:=h;cases rx;cases ry;obtain⟨its,r1,p1,_⟩:=I.tuple ha;obtain⟨its2,r2,p2,_⟩:=I.tuple hb;cases r1;obtain⟨⟨cls,dd,data,sl⟩,ho,hc,n,hd⟩:=id p1;obtain⟨⟨cls2,dd2,data2,sl2⟩,ho2,hc2,n2,hd2⟩:=id p2;simp only at hc hd hc2 hd2;subst hc hd hc2 hd2;exact concat_meets ⟨_,ho,rfl⟩ ⟨_,ho2,rfl⟩ noFill_tuple_add seq_tuple_add PySem.F.slot_tuple_add PySem.F.entry_tuple_add (PySem.F.args_tuple_add_2 _ _)
  (tuple_addW0 a b ([]:List Value).toArray its2.toArray n n2 dd dd2 sl sl2 (by simp)) ⟨ho,ho2,⟨.ref b,H,I,rfl,q⟩⟩
abbrev abk:R2:=λx y H Q=>∃i j,x = .str i/\y = .str j/\i.length+j.length<=sizeLine/\Q (.str (i++j)) H
abbrev abl(K:Fg):R2:=λx y H Q=>Im (λi j=>.int (i+j)) x y H Q\/abk x y H Q\/abj x y H Q\/Vs K x y H Q\/Ny K x y H Q
theorem Th:mD X (binaryOp .Add) (abl X.K):=X6.or (GQ.or (X4.or (Tg.or O6)))
def dw(x y:D):Option D:=match x,y with
 | .int i,.int j=>some (.int (i+j))
 | .str a,.str b=>if a.length+b.length<=sizeLine then some (.str (a++b)) else none
 | .lst a,.lst b=>if a.length+b.length<=sizeLine then some (.lst (a++b)) else none
 | .tup a,.tup b=>if a.length+b.length<=sizeLine then some (.tup (a++b)) else none
 | _,_=>none
theorem zW(a b:List Nat):strOf a++strOf b=strOf (a++b):=by show(⟨(strOf a).cps++(strOf b).cps⟩:Str)=_;unfold strOf;simp
theorem fD(a:List Nat):(strOf a).length=a.length:=by show a.toArray.size=a.length;simp
theorem Yp:n8 C (abl C.K) dw:=by
 intro Pr F env σ H x y d vx vy Q r hx hy h q;unfold dw at h;split at h
 ·cases h;obtain rfl:=hx.int;obtain rfl:=hy.int;exact .inl ⟨_,_,rfl,rfl,q _ H F r (aP.refl F) rfl⟩
 ·split at h
  ·rename_i hz;cases h;obtain⟨rfl,_⟩:=hx.str;obtain⟨rfl,_⟩:=hy.str;refine .inr (.inl ⟨_,_,rfl,rfl,by rw[fD,fD];exact hz,?_⟩);rw[zW];exact q _ H F r (aP.refl F) ⟨rfl,by rw[Qqk];exact hz⟩
  ·cases h
 ·split at h
  ·rename_i hz;cases h;obtain⟨_,a,vs,rfl,h1,h2⟩:=hx.lst r.fr;obtain⟨_,b,ws,rfl,h3,h4⟩:=hy.lst r.fr;refine .inr (.inr (.inl ⟨a,b,vs,ws,rfl,rfl,h1,h3,by rw[h2.length,h4.length];exact hz,λp hp=>?_⟩));obtain⟨r2,s2⟩:=r.new (o:=.lst (vs++ws)) hp;exact q _ _ _ r2 s2 ⟨by rw[Qqk];exact hz,p,_,rfl,aQ,bH.mono s2 _ _ (h2.append h4)⟩
  ·cases h
 ·split at h
  ·rename_i hz;cases h;obtain⟨z1,a,vs,rfl,h1,f1,h2⟩:=hx.tup r.fr;obtain⟨z2,b,ws,rfl,h3,f3,h4⟩:=hy.tup r.fr;by_cases hv:vs=[]
   ·subst hv;have e1:_=0:=h2.length.symm;have e2:=List.eq_nil_of_length_eq_zero e1;subst e2;refine .inr (.inr (.inr (.inr ⟨a,b,ws,rfl,rfl,h1,h3,?_⟩)));exact q _ H F r (aP.refl F) ⟨z2,b,ws,rfl,f3,h4⟩
   ·refine .inr (.inr (.inr (.inl ⟨a,b,vs,ws,rfl,rfl,h1,h3,hv,by rw[h2.length,h4.length];exact hz,λhw=>?_,λhw p hp=>?_⟩)))
    ·subst hw;have e1:_=0:=h4.length.symm;have e2:=List.eq_nil_of_length_eq_zero e1;subst e2;rw[Qx1] at q;exact q _ H F r (aP.refl F) ⟨z1,a,vs,rfl,f1,h2⟩
    ·obtain⟨r2,s2⟩:=r.new (o:=.tup (vs++ws)) hp;exact q _ _ _ r2 s2 ⟨by rw[Qqk];exact hz,p,_,rfl,j8.of aQ,bH.mono s2 _ _ (h2.append h4)⟩
  ·cases h
 ·cases h
def Fo(K:Fg)(F H:Hp):List D->List V->Prop
 | [],vs=>vs=[]
 | d::ds,vs=>∃v r,vs=v::r/\gD K F H d v/\Fo K F H ds r
def tAB(C:Cfg)(ev:dG):TA:=λσ H Q=>∃(Pr F:Hp) (env env':Env) (ds:List D),Rel C Pr F env σ H/\ev env = .ok ds env'/\
 ∀vs H' F',Rel C Pr F' env' σ H'->aP F F'->Fo C.K F' H' ds vs->Q vs H'
def U7(X:Cx)(C:Cfg)(es:List Expr)(ev:dG):Prop:=PA X es (tAB C ev)
def CallD(C:Cfg)(r:List V->Hp->VK->Prop)(g:List D->Option D):Prop:=∀(Pr F:Hp) (env:Env) (σ:L2.St) (H:Hp) (ds:List D) (d:D) (vs:List V) (Q:VK),Rel C Pr F env σ H->Fo C.K F H ds vs->g ds=some d->
 (∀v H' F',Rel C Pr F' env σ H'->aP F F'->Rep C.K F' d v->Q v H')->r vs H Q
def ao(g:List D->Option D)(a:dG):Ev:=λenv=>bindR (a env) λds aK=>iY (g ds) aK
theorem JF{r:List V->Hp->VK->Prop}{g:List D->Option D}{a:dG}(o:CallD C r g)(σ:L2.St)(H:Hp)(Q:VK)(h:tE C (ao g a) σ H Q):tCB r (tAB C a) σ H Q:=by obtain⟨Pr,F,env,env',d,rl,e,q⟩:=h;obtain⟨ds,aK,e1,e2⟩:=aW e;obtain⟨e3,rfl⟩:=gr e2;exact⟨Pr,F,env,env',ds,rl,e1,λvs H1 F1 r1 s1 p1=>o Pr F1 env' σ H1 ds d vs Q r1 p1 e3 λv H2 F2 r2 s2 p2=>q v H2 F2 r2 (s1.trans s2) p2⟩
theorem mH{x:Str}{p pos:Pos}{e:Expr}{es:List Expr}{id:String}{r:List V->Hp->VK->Prop}{g:List D->Option D}{a:dG}(hc:jt X (.builtin id) r)(o:CallD C r g)(hg:Gl X x)(hm:X.mg x=none)(hv:bootBuiltins x=some (.builtin id))(ha:U7 X C (e::es) a)
  (hn:x ≠ "__name__":=by decide) (hdb:mZ x:=by decide) (he:starEach (e::es) X.env=(false,eval e X.env)::starEach es X.env:=by rfl) (hpl:(backTo pos (starEach es X.env)).any (·.1)=false:=by rfl) :
  PX X C (.Call (.Name x p) (e::es) [] pos) (ao g a):=(O2 hc hg hm hv ha hn hdb he hpl).imp (JF o)
theorem tL{x:Str}{p pos:Pos}{e:Expr}{es:List Expr}{T:String}{r:List V->Hp->VK->Prop}{g:List D->Option D}{a:dG}(hc:jt X (.type T) r)(o:CallD C r g)(hg:Gl X x)(hm:X.mg x=none)(hv:bootBuiltins x=some (.type T))(ha:U7 X C (e::es) a)
  (hn:x ≠ "__name__":=by decide) (hdb:mZ x:=by decide) (he:starEach (e::es) X.env=(false,eval e X.env)::starEach es X.env:=by rfl) (hpl:(backTo pos (starEach es X.env)).any (·.1)=false:=by rfl) :
  PX X C (.Call (.Name x p) (e::es) [] pos) (ao g a):=(Kz hc hg hm hv ha hn hdb he hpl).imp (JF o)
theorem lZ{K:Fg}{F H:Hp}{d:D}{vs:List V}(h:Fo K F H [d] vs):∃v,vs=[v]/\gD K F H d v:=by obtain⟨v,r,rfl,h1,h2⟩:=h;cases h2;exact⟨v,rfl,h1⟩
theorem Hv{K:Fg}{F H:Hp}{d e:D}{vs:List V}(h:Fo K F H [d,e] vs):∃v w,vs=[v,w]/\gD K F H d v/\gD K F H e w:=by obtain⟨v,r,rfl,h1,h2⟩:=h;obtain⟨w,rfl,h3⟩:=lZ h2;exact⟨v,w,rfl,h1,h3⟩
def eV:List D->Option D
 | [.str x]=>some (.int x.length)
 | [.tup xs]=>some (.int xs.length)
 | [.lst xs]=>some (.int xs.length)
 | [.arr xs]=>some (.int xs.length)
 | _=>none
theorem ZR:CallD C (λxs H Q=>∃x n,xs=[x]/\acF C.K x H n/\Q (.int n) H) eV:=by
 intro Pr F env σ H ds d vs Q r hs h q;unfold eV at h;split at h
 ·cases h;obtain⟨v,rfl,hv⟩:=lZ hs;obtain⟨rfl,hz⟩:=hv.str;exact⟨_,_,rfl,⟨by rw[fD];exact hz,(fD _).symm⟩,q _ H F r (aP.refl F) rfl⟩
 ·cases h;obtain⟨v,rfl,hv⟩:=lZ hs;obtain⟨_,a,ws,rfl,h1,_,h2⟩:=hv.tup r.fr;exact⟨_,_,rfl,.inr ⟨ws,h1,h2.length.symm⟩,q _ H F r (aP.refl F) rfl⟩
 ·cases h;obtain⟨v,rfl,hv⟩:=lZ hs;obtain⟨_,a,ws,rfl,h1,h2⟩:=hv.lst r.fr;exact⟨_,_,rfl,.inl ⟨ws,mV.of h1,h2.length.symm⟩,q _ H F r (aP.refl F) rfl⟩
 ·cases h;obtain⟨v,rfl,hv⟩:=lZ hs;obtain⟨_,a,ws,rfl,h1,h2⟩:=hv.arr r.fr;exact⟨_,_,rfl,.inl ⟨ws,h1,h2.length.symm⟩,q _ H F r (aP.refl F) rfl⟩
 ·cases h
def cz:List D->Option D
 | [.tup xs]=>some (.tup xs)
 | [.lst xs]=>some (.tup xs)
 | _=>none
abbrev Nq(K:Fg):List V->Hp->VK->Prop:=λxs H Q=>∃p ys,xs=[.ref p]/\((mV K H p ys/\∀l,H l=none->Q (.ref l) (upd H l (.tup ys)))\/(j8 K H p ys/\Q (.ref p) H))
theorem QJ:CallD C (Nq C.K) cz:=by
 intro Pr F env σ H ds d vs Q r hs h q;unfold cz at h;split at h
 ·cases h;obtain⟨v,rfl,hv⟩:=lZ hs;obtain⟨z,a,ws,rfl,h1,f1,h2⟩:=hv.tup r.fr;exact⟨a,ws,rfl,.inr ⟨h1,q _ H F r (aP.refl F) ⟨z,a,ws,rfl,f1,h2⟩⟩⟩
 ·cases h;obtain⟨v,rfl,hv⟩:=lZ hs;obtain⟨z,a,ws,rfl,h1,h2⟩:=hv.lst r.fr;refine⟨a,ws,rfl,.inl ⟨mV.of h1,λl hl=>?_⟩⟩;obtain⟨r2,s2⟩:=r.new (o:=.tup ws) hl;exact q _ _ _ r2 s2 ⟨z,l,ws,rfl,j8.of aQ,bH.mono s2 _ _ h2⟩
 ·cases h
def signs(x:List Nat):List D:=x.map λc=>.str [c]
abbrev Nr:List V->Hp->VK->Prop:=λxs H Q=>∃z,xs=[.str z]/\z.length<=sizeLine/\∀l,H l=none->Q (.ref l) (upd H l (.lst (z.cps.toList.map λc=>V.str ⟨#[c]⟩)))
theorem Ht(hh:X.calm=true):jt X (.type "list") Nr:=by
 intro pins s σ H xs us Q I r h;obtain⟨z,rfl,hz,q⟩:=h;obtain⟨u,rfl,⟨t,rfl⟩⟩:=vals1 r;refine call_list_str (I.ok.hd hh) z t (λh' tk acc' c' kp e hacc=>?_) hz;refine⟨.ref s.heap.objs.size,_,I.laid kp (Qq0 _) (show fY X.prog X.w _ h' _ (.lst (z.cps.toList.map λc=>V.str ⟨#[c]⟩)) from⟨?_,acc'.toList,c',?_,by simpa using e⟩),rfl,q _ (I.hok.fresh (Qq0 _))⟩
 ·simpa[Str.length] using hz
 ·obtain⟨hsz,hit⟩:=hacc;have go:∀(cs:List Nat) (vs:List Value),vs.length=cs.length->(∀(j:Nat) (v:Value),vs[j]? = some v->∃(c:Nat) (u:Tok),cs[j]? = some c/\v=Value.str ⟨#[c]⟩ u)->Vals (cs.map λc=>V.str ⟨#[c]⟩) vs:=by
   intro cs
   induction cs with
   | nil=>intro vs hl _;rw[List.eq_nil_of_length_eq_zero hl];exact .nil
   | cons c cs ih=>
    intro vs hl hv;cases vs with
    | nil=>simp at hl
    | cons v vs=>
     obtain⟨c',u,e1,e2⟩:=hv 0 v rfl;simp at e1;subst e1 e2;exact .cons ⟨u,rfl⟩ (ih vs (by simpa using hl) λj w hw=>by simpa using hv (j+1) w (by simpa using hw))
  refine go _ _ (by simpa using hsz) λj v hv=>?_;obtain⟨c,u,e1,e2⟩:=hit j v (by simpa using hv);exact⟨c,u,by simpa using e1,e2⟩
def wZ:List D->Option D
 | [.tup xs]=>some (.lst xs)
 | [.lst xs]=>some (.lst xs)
 | [.str x]=>some (.lst (signs x))
 | _=>none
abbrev Nt(K:Fg):List V->Hp->VK->Prop:=λxs H Q=>(∃p ys,xs=[.ref p]/\(mV K H p ys\/j8 K H p ys)/\∀l,H l=none->Q (.ref l) (upd H l (.lst ys)))\/Nr xs H Q
theorem Hu(hh:X.calm=true):jt X (.type "list") (Nt X.K):=Bt.or (Ht hh)
theorem vW{K:Fg}{F:Hp}:∀x:List Nat,bH K F (signs x) (x.map λc=>V.str ⟨#[c]⟩)
 | []=>rfl
 | c::x=>⟨_,_,rfl,⟨rfl,by rw[Qj1];simp⟩,vW x⟩
theorem Uu:CallD C (Nt C.K) wZ:=by
 intro Pr F env σ H ds d vs Q r hs h q;unfold wZ at h;split at h
 ·cases h;obtain⟨v,rfl,hv⟩:=lZ hs;obtain⟨z,a,ws,rfl,h1,f1,h2⟩:=hv.tup r.fr;refine .inl ⟨a,ws,rfl,.inr h1,λl hl=>?_⟩;obtain⟨r2,s2⟩:=r.new (o:=.lst ws) hl;exact q _ _ _ r2 s2 ⟨z,l,ws,rfl,aQ,bH.mono s2 _ _ h2⟩
 ·cases h;obtain⟨v,rfl,hv⟩:=lZ hs;obtain⟨z,a,ws,rfl,h1,h2⟩:=hv.lst r.fr;refine .inl ⟨a,ws,rfl,.inl (mV.of h1),λl hl=>?_⟩;obtain⟨r2,s2⟩:=r.new (o:=.lst ws) hl;exact q _ _ _ r2 s2 ⟨z,l,ws,rfl,aQ,bH.mono s2 _ _ h2⟩
 ·rename_i x;cases h;obtain⟨v,rfl,hv⟩:=lZ hs;obtain⟨rfl,hz⟩:=hv.str;refine .inr ⟨_,rfl,by rw[fD];exact hz,λl hl=>?_⟩;obtain⟨r2,s2⟩:=r.new (o:=.lst ((strOf x).cps.toList.map λc=>V.str ⟨#[c]⟩)) hl;refine q _ _ _ r2 s2 ⟨by simpa[signs] using hz,l,_,rfl,aQ,?_⟩;have e:(strOf x).cps.toList=x:=by simp[strOf]
  rw[e];exact vW x
 ·cases h
def Lf:List D->Option D
 | [.int i,.int j]=>some (.int (if j > i then j else i))
 | _=>none
def Le:List D->Option D
 | [.int i,.int j]=>some (.int (if j<i then j else i))
 | _=>none
theorem ZQ:CallD C (λxs H Q=>∃i j,xs=[.int i,.int j]/\Q (.int (if j > i then j else i)) H) Lf:=by
 intro Pr F env σ H ds d vs Q r hs h q;unfold Lf at h;split at h
 ·cases h;obtain⟨v,w,rfl,hv,hw⟩:=Hv hs;obtain rfl:=hv.int;obtain rfl:=hw.int;exact⟨_,_,rfl,q _ H F r (aP.refl F) rfl⟩
 ·cases h
theorem ZP:CallD C (λxs H Q=>∃i j,xs=[.int i,.int j]/\Q (.int (if j<i then j else i)) H) Le:=by
 intro Pr F env σ H ds d vs Q r hs h q;unfold Le at h;split at h
 ·cases h;obtain⟨v,w,rfl,hv,hw⟩:=Hv hs;obtain rfl:=hv.int;obtain rfl:=hw.int;exact⟨_,_,rfl,q _ H F r (aP.refl F) rfl⟩
 ·cases h
def rG:List D->Option D
 | [.int i,.int j]=>if 0<j/\j<1073741824 then some (.tup [.int (i / j),.int (i % j)]) else none
 | _=>none
theorem Lr:CallD C (λxs H Q=>∃i j,xs=[.int i,.int j]/\acI i j/\∀p,H p=none->Q (.ref p) (upd H p (.tup [.int (i / j),.int (i % j)]))) rG:=by
 intro Pr F env σ H ds d vs Q r hs h q;unfold rG at h;split at h
 ·split at h
  ·rename_i hj;cases h;obtain⟨v,w,rfl,hv,hw⟩:=Hv hs;obtain rfl:=hv.int;obtain rfl:=hw.int;refine⟨_,_,rfl,hj,λp hp=>?_⟩;obtain⟨r2,s2⟩:=r.new (o:=.tup [.int _,.int _]) hp;exact q _ _ _ r2 s2 ⟨by rw[Qj1];simp,p,_,rfl,j8.of aQ,⟨_,_,rfl,rfl,_,_,rfl,rfl,rfl⟩⟩
  ·cases h
 ·cases h
def iu:List D->Option (List (List Nat))
 | []=>some []
 | .str x::r=>(iu r).map (x :: ·)
 | _=>none
def uz(sep:List Nat):List (List Nat)->List Nat
 | []=>[]
 | x::r=>r.foldl (λacc y=>acc++sep++y) x
theorem Qc(sep:List Nat)(xs:List (List Nat)):Txt.join (strOf sep) (xs.map strOf)=strOf (uz sep xs):=by
 unfold Txt.join;unfold Builtin.Str.glued;cases xs with
 | nil=>rfl
 | cons x r=>
  show(⟨(r.map strOf).foldl (λacc p=>acc++(strOf sep).cps++p.cps) (strOf x).cps⟩:Str)=strOf (r.foldl (λacc y=>acc++sep++y) x);have go:∀(r:List (List Nat)) (x:List Nat),(r.map strOf).foldl (λacc p=>acc++(strOf sep).cps++p.cps) (strOf x).cps=(strOf (r.foldl (λacc y=>acc++sep++y) x)).cps:=by
   intro r
   induction r with
   | nil=>intro x;rfl
   | cons y r ih=>
    intro x;rw[Qwx,List.foldl_cons,List.foldl_cons];rw[<-ih (x++sep++y)]
    congr 1
    simp[strOf]
  rw[go]
theorem tH{K:Fg}{F:Hp}:∀{ds:List D} {xs:List (List Nat)} {vs:List V},iu ds=some xs->bH K F ds vs->vs=xs.map λx=>V.str (strOf x)
 | [],bs,vs,h,hr=>by simp[iu] at h;subst h;cases hr;rfl
 | d::ds,bs,vs,h,hr=>by
  obtain⟨v,r,rfl,h1,h2⟩:=hr;cases d with
  | str b=>
   simp only[iu] at h;cases e:iu ds with
   | none=>rw[e] at h;cases h
   | some cs=>
    rw[e] at h;cases h;cases h1.1;rw[tH e h2]
    rfl
  | _=>simp[iu] at h
theorem sG:∀{xs:List (List Nat)} {us:List Value},Vals (xs.map λx=>V.str (strOf x)) us->StrsAre us (xs.map strOf)
 | [],_,.nil=>.nil
 | x::xs,_,.cons r t=>by
  obtain⟨k,rfl⟩:=r;exact .cons _ k (sG t)
def joinFits(sep:List Nat)(xs:List (List Nat)):Bool:=decide ((xs.map List.length).sum+xs.length*sep.length<=16777216)
def rJoin(K:Fg):V->List V->Hp->VK->Prop:=λx vs H Q=>∃sep xs p,x = .str (strOf sep)/\vs=[.ref p]/\mV K H p (xs.map λx=>V.str (strOf x))/\joinFits sep xs=true/\Q (.str (strOf (uz sep xs))) H
theorem Tt:MtR X "str.join" (rJoin X.K):=by
 intro pins s σ H x vs v us Q I rx rv h;obtain⟨sep,xs,p,rfl,rfl,hq,hf,q⟩:=h;obtain⟨t,rfl⟩:=rx;obtain⟨u,rfl,ru⟩:=vals1 rv;cases ru;obtain⟨its,r,pl,_⟩:=I.list hq;have hs:=sG r;refine join_list pl.isList (by simpa using hs) ?_ λt' k=>?_
 ·have hf':=Qx0 hf;have e:((xs.map strOf).map (·.length))=xs.map List.length:=by
   rw[Qj5];apply Qz9;intro z _;exact fD z
  rw[e,fD,Qqy];exact hf'
 ·rw[Qc];exact⟨.str _,H,I.tok k,⟨t',rfl⟩,q⟩
theorem Cw(sep:List Nat):∀(r:List (List Nat)) (x:List Nat),(r.foldl (λacc y=>acc++sep++y) x).length=x.length+(r.map List.length).sum+r.length*sep.length
 | [],x=>by simp
 | y::r,x=>by
  rw[List.foldl_cons,Cw sep r,Qqk,Qqk,Qwx,List.sum_cons,Qqv,Nat.add_mul];omega
theorem Qd{sep:List Nat}{xs:List (List Nat)}(h:joinFits sep xs=true):(uz sep xs).length<=sizeLine:=by
 have h':=Qx0 h;rw[Qj1];cases xs with
 | nil=>simp[uz]
 | cons x r=>
  show(r.foldl (λacc y=>acc++sep++y) x).length<=_;rw[Cw];rw[Qwx,List.sum_cons,Qqv,Nat.add_mul] at h';omega
def jL(x y:D):Option D:=match x,y with
 | .str sep,.lst ds=>(match iu ds with
  | some xs=>if joinFits sep xs=true then some (.str (uz sep xs)) else none
  | none=>none)
 | _,_=>none
theorem R7{o e:Expr}{a b:Ev}{apos cpos:Pos}(hK:X.K=C.K)(ho:PX X C o a)(he:Q7 X C e b)(hbase:attributeBase o "join" X.env (eval o X.env)=eval o X.env:=by rfl)
  (hs:Ma e X.env:=by rfl)
  (hfew:((backTo cpos (starEach [e] X.env)).all (λx=>!x.1)&&(backToKw cpos (keywordEach [] X.env)).all (λx=>x.1.isSome)
   && decide ([e].length+([]:List Keyword).length+(if ([]:List Keyword).isEmpty then 0 else 1)<30))=true:=by rfl)
  (hline:(apos.endLine == cpos.line)=true:=by rfl) (hplain:(backTo cpos (starEach [] X.env)).any (·.1)=false:=by rfl) :
  PX X C (.Call (.Attribute o "join" apos) [e] [] cpos) (aM jL a b):=by
 refine(Vy PySem.F.plainAttrs_str PySem.F.slot_str_join PySem.F.type_str_join Tt ho (nq he Ao hs) hbase hfew hline hs hplain).imp λσ H Q h=>?_;obtain⟨Pr,F,env,env',d,rl,e0,q⟩:=h;obtain⟨x,aK,e1,e2⟩:=aW e0;obtain⟨y,d7,e3,e4⟩:=aW e2;obtain⟨e5,rfl⟩:=gr e4;unfold jL at e5;split at e5
 ·rename_i sep ds;split at e5
  ·rename_i xs hxs;split at e5
   ·rename_i hf;cases e5;refine⟨Pr,F,env,aK,_,rl,e1,λvx H1 F1 r1 s1 p1=>?_⟩;obtain⟨rfl,_⟩:=p1;refine⟨rfl,Pr,F1,aK,env',_,r1,e3,λvy H2 F2 r2 s2 p2=>?_⟩;obtain⟨z,l,ws,rfl,h1,h2⟩:=p2.lst r2.fr;have e6:=tH hxs h2;subst e6;exact⟨sep,xs,l,rfl,rfl,mV.of h1,hf,q _ H2 F2 r2 (s1.trans s2) ⟨rfl,Qd hf⟩⟩
   ·cases e5
  ·cases e5
 ·cases e5
end
theorem Rel.put{C:Cfg}{Pr F:Hp}{env:Env}{σ:L2.St}{H:Hp}(r:Rel C Pr F env σ H){i:Nat}{d:D}{v:V}(hfx:C.fx i=none)(p:Rep C.K F d v):Rel C Pr F (env.set i (some (false,d))) (σ.set i (some v)) H:=by
 refine⟨r.pr,r.fr,by rw[Qx7,Qx7];exact r.len,λj e he=>?_,λj e he=>?_,λj k e f b hj hk g1 g2=>?_,r.dj,λj a hj=>?_⟩
 ·by_cases hji:j=i
  ·subst hji;have hl:j<env.length:=by
    have:=(Qq5.mp he).1
    rwa [Qx7] at this
   rw[Qw2 hl] at he;cases he;exact⟨v,Qw2 (by rw[<-r.len];exact hl),p⟩
  ·rw[Qwv (Ne.symm hji)] at he ⊢;exact r.val j e he
 ·by_cases hji:j=i
  ·subst hji;have hl:j<env.length:=by
    have:=(Qq5.mp he).1
    rwa [Qx7] at this
   rw[Qw2 hl] at he;cases he
  ·rw[Qwv (Ne.symm hji)] at he ⊢;exact r.own j e he
 ·have nn:∀(j:Nat) (e:D),(env.set i (some (false,d)))[j]? = some (some (true,e))->j≠i:=λj e he z=>by
   subst z;have hl:j<env.length:=by
    have:=(Qq5.mp he).1
    rwa [Qx7] at this
   rw[Qw2 hl] at he;cases he
  have nj:=nn j e hj;have nk:=nn k f hk;rw[Qwv (Ne.symm nj)] at hj g1;rw[Qwv (Ne.symm nk)] at hk g2;exact r.apart j k e f b hj hk g1 g2
 ·have hji:j≠i:=λz=>by rw[z,hfx] at hj;cases hj
  rw[Qwv (Ne.symm hji)];exact r.fix j a hj
structure Mg(K:Fg)(Pr F:Hp)(env:Env)(σ:L2.St)(H:Hp)(d:D)(a:Addr):Prop where
 own:jx K F H d a
 nF:F a=none
 nP:Pr a=none
 ap:∀(j:Nat) (e:D),env[j]? = some (some (true,e))->σ[j]? = some (some (V.ref a))->False
theorem Mg.of{C:Cfg}{Pr F:Hp}{env:Env}{σ:L2.St}{H:Hp}{a:Addr}{o:HO}{d:D}(r:Rel C Pr F env σ H)(h:H a=none)(ho:jx C.K F (upd H a o) d a):Mg C.K Pr F env σ (upd H a o) d a:=
 ⟨ho,r.fr.free h,r.pr.free h,λj e he hs=>by
  obtain⟨b,h1,h2,_⟩:=r.own j e he;rw[hs] at h1;cases h1;obtain⟨u,hu⟩:=h2.some;rw[h] at hu;cases hu⟩
theorem Rel.Od{C:Cfg}{Pr F:Hp}{env:Env}{σ:L2.St}{H:Hp}(r:Rel C Pr F env σ H){i:Nat}{d:D}{a:Addr}(hfx:C.fx i=none)(n:Mg C.K Pr F env σ H d a):Rel C Pr F (env.set i (some (true,d))) (σ.set i (some (.ref a))) H:=by
 have same:∀(j:Nat) (x:Bool×D),(env.set i (some (true,d)))[j]? = some (some x)->j=i->x=(true,d)/\j<env.length:=λj x he z=>by
  subst z;have hl:j<env.length:=by
   have:=(Qq5.mp he).1
   rwa [Qx7] at this
  rw[Qw2 hl] at he;cases he;exact⟨rfl,hl⟩
 refine⟨r.pr,r.fr,by rw[Qx7,Qx7];exact r.len,λj e he=>?_,λj e he=>?_,λj k e f b hj hk g1 g2=>?_,r.dj,λj a hj=>?_⟩
 ·by_cases hji:j=i
  ·have:=(same j _ he hji).1;cases this
  ·rw[Qwv (Ne.symm hji)] at he ⊢;exact r.val j e he
 ·by_cases hji:j=i
  ·obtain⟨z,hl⟩:=same j _ he hji;cases z;subst hji;exact⟨a,Qw2 (by rw[<-r.len];exact hl),n.own,n.nF,n.nP⟩
  ·rw[Qwv (Ne.symm hji)] at he ⊢;exact r.own j e he
 ·by_cases nj:j=i
  ·by_cases nk:k=i
   ·rw[nj,nk]
   ·obtain⟨z,hl⟩:=same j _ hj nj;subst nj;rw[Qw2 (by rw[<-r.len];exact hl)] at g1;cases g1;rw[Qwv (Ne.symm nk)] at hk g2;exact(n.ap k f hk g2).elim
  ·rw[Qwv (Ne.symm nj)] at hj g1;by_cases nk:k=i
   ·obtain⟨z,hl⟩:=same k _ hk nk;subst nk;rw[Qw2 (by rw[<-r.len];exact hl)] at g2;cases g2;exact(n.ap j e hj g1).elim
   ·rw[Qwv (Ne.symm nk)] at hk g2;exact r.apart j k e f b hj hk g1 g2
 ·have hji:j≠i:=λz=>by rw[z,hfx] at hj;cases hj
  rw[Qwv (Ne.symm hji)];exact r.fix j a hj
theorem Rel.keep{C:Cfg}{Pr F:Hp}{env:Env}{σ:L2.St}{H:Hp}{d:D}{a:Addr}(r:Rel C Pr F env σ H)(n:Mg C.K Pr F env σ H d a):∃F',Rel C Pr F' env σ H/\aP F F'/\Rep C.K F' d (.ref a):=by
 obtain⟨o,ho⟩:=n.own.some;have s1:aP F (upd F a o):=km n.nF;have rep:Rep C.K (upd F a o) d (.ref a):=by
  have h2:=n.own;cases d with
  | lst xs=>obtain⟨z,vs,g1,g2⟩:=h2;rw[ho] at g1;cases g1;exact⟨z,a,vs,rfl,aQ,bH.mono s1 _ _ g2⟩
  | dct kvs=>obtain⟨z,ks,g1,g2⟩:=h2;rw[ho] at g1;cases g1;exact⟨z,a,ks,rfl,.inl aQ,dC.mono s1 _ _ g2⟩
  | iQ kvs=>obtain⟨z,ks,g1,g2⟩:=h2;rw[ho] at g1;cases g1;exact⟨z,a,ks,rfl,.inl aQ,cW.mono s1 _ _ g2⟩
  | _=>exact h2.elim
 refine⟨upd F a o,⟨r.pr,λb u e=>?_,r.len,λj e he=>?_,λj e he=>?_,r.apart,λb u e=>?_,r.fix⟩,s1,rep⟩
 ·by_cases hb:b=a
  ·subst hb;rw[aQ] at e;cases e;exact ho
  ·rw[bw hb] at e;exact r.fr b u e
 ·obtain⟨v,g1,g2⟩:=r.val j e he;exact⟨v,g1,Rep.mono s1 e v g2⟩
 ·obtain⟨b,g1,g2,g3,g4⟩:=r.own j e he;have hb:b≠a:=λz=>by subst z;exact n.ap j e he g1
  exact⟨b,g1,g2.mono s1 rfl,by rw[bw hb];exact g3,g4⟩
 ·by_cases hb:b=a
  ·subst hb;exact n.nP
  ·rw[bw hb] at e;exact r.dj b u e
theorem Rel.write{C:Cfg}{Pr F:Hp}{env:Env}{σ:L2.St}{H:Hp}{i:Nat}{d d':D}{a:Addr}{u:HO}(r:Rel C Pr F env σ H)(h:env[i]? = some (some (true,d)))(hs:σ[i]? = some (some (V.ref a)))(ho:jx C.K F (upd H a u) d' a) :
  Rel C Pr F (env.set i (some (true,d'))) σ (upd H a u):=by
 obtain⟨a',h1,h2,h3,h4⟩:=r.own i d h;rw[hs] at h1;cases h1;have hi:i<env.length:=(Qq5.mp h).1;have ne:∀(j:Nat) (e:D) (b:Addr),j≠i->env[j]? = some (some (true,e))->σ[j]? = some (some (V.ref b))->b≠a:=λj e b hj he g z=>hj (r.apart j i e d a he h (by rw[<-z];exact g) hs);refine⟨λb w e=>?_,λb w e=>?_,by rw[Qx7];exact r.len,λj e he=>?_,λj e he=>?_,λj k e f b hj hk g1 g2=>?_,r.dj,r.fix⟩
 ·have hb:b≠a:=λz=>by rw[z,h4] at e;cases e
  rw[bw hb];exact r.pr b w e
 ·have hb:b≠a:=λz=>by rw[z,h3] at e;cases e
  rw[bw hb];exact r.fr b w e
 ·by_cases hj:j=i
  ·subst hj;rw[Qw2 hi] at he;cases he
  ·rw[Qwv (Ne.symm hj)] at he;exact r.val j e he
 ·by_cases hj:j=i
  ·subst hj;rw[Qw2 hi] at he;cases he;exact⟨a,hs,ho,h3,h4⟩
  ·rw[Qwv (Ne.symm hj)] at he;obtain⟨b,g1,g2,g3,g4⟩:=r.own j e he;exact⟨b,g1,g2.mono (aP.refl F) (bw (ne j e b hj he g1)),g3,g4⟩
 ·have un:∀(j:Nat) (e:D),(env.set i (some (true,d')))[j]? = some (some (true,e))->∃e',env[j]? = some (some (true,e')):=λj e he=>by
   by_cases hj:j=i
   ·subst hj;exact⟨d,h⟩
   ·rw[Qwv (Ne.symm hj)] at he;exact⟨e,he⟩
  obtain⟨e',hj'⟩:=un j e hj;obtain⟨f',hk'⟩:=un k f hk;exact r.apart j k e' f' b hj' hk' g1 g2
def tN(C:Cfg)(ev:Ev):TE:=λσ H Q=>∃(Pr F:Hp) (env env':Env) (d:D),Rel C Pr F env σ H/\ev env = .ok d env'/\
 ∀a H' F',Rel C Pr F' env' σ H'->aP F F'->Mg C.K Pr F' env' σ H' d a->Q (.ref a) H'
def Rh(X:Cx)(C:Cfg)(e:Expr)(ev:Ev):Prop:=PE X e (tN C ev)
section
variable{X:Cx}{C:Cfg}{pos:Pos}
theorem Rh.px{e:Expr}{ev:Ev}(h:Rh X C e ev):PX X C e ev:=PE.imp h λσ H Q hq=>by
 obtain⟨Pr,F,env,env',d,r,e,q⟩:=hq;refine⟨Pr,F,env,env',d,r,e,λa H' F' r' s' n'=>?_⟩;obtain⟨F2,r2,s2,p2⟩:=r'.keep n';exact q _ _ F2 r2 (s'.trans s2) p2
theorem Ip{es:List Expr}{r:dG}(h:Q8 X C es r):Rh X C (.List es pos) (cu r):=(Xx h).imp λσ H Q hq=>by
 obtain⟨Pr,F,env,env',d,rl,e,q⟩:=hq;obtain⟨ds,aK,e1,e2⟩:=aW e;split at e2
 ·rename_i hz;cases e2;refine⟨Pr,F,env,env',ds,rl,e1,λvs H1 F1 r1 s1 p1=>⟨by rw[p1.length];exact hz,λp hp=>?_⟩⟩;exact q _ _ F1 (r1.fresh hp) s1 (Mg.of r1 hp ⟨hz,vs,aQ,p1⟩)
 ·cases e2
abbrev GV:=D->Env->Option Env
abbrev Ri:=List D->Env->Option Env
def tG(C:Cfg)(lo:Nat)(gv:GV):TG:=λv σ H Q=>∃(Pr F:Hp) (env env':Env) (d:D),Rel C Pr F env σ H/\Rep C.K F d v/\gv d env=some env'/\
 ∀σ' H' F',Rel C Pr F' env' σ' H'->aP F F'->σ'.take lo=σ.take lo->Q σ' H'
def tGs(C:Cfg)(lo:Nat)(gv:Ri):UW:=λvs σ H Q=>∃(Pr F:Hp) (env env':Env) (ds:List D),Rel C Pr F env σ H/\bH C.K F ds vs/\gv ds env=some env'/\
 ∀σ' H' F',Rel C Pr F' env' σ' H'->aP F F'->σ'.take lo=σ.take lo->Q σ' H'
def U6(X:Cx)(C:Cfg)(lo:Nat)(e:Expr)(gv:GV):Prop:=PG X e (tG C lo gv)
def Z8(X:Cx)(C:Cfg)(lo:Nat)(es:List Expr)(gv:Ri):Prop:=We X es (tGs C lo gv)
theorem _root_.L2.PG.imp{X:Cx}{e:Expr}{t t':TG}(h:PG X e t)(i:∀v σ H Q,t' v σ H Q->t v σ H Q):PG X e t':=λpins s σ H v u Q I r q=>h pins s σ H v u Q I r (i v σ H Q q)
theorem _root_.L2.We.imp{X:Cx}{e:List Expr}{t t':UW}(h:We X e t)(i:∀v σ H Q,t' v σ H Q->t v σ H Q):We X e t':=λpins s σ H v u Q I r q=>h pins s σ H v u Q I r (i v σ H Q q)
def ak(i:Nat):GV:=λd env=>some (env.set i (some (false,d)))
theorem N8{lo i:Nat}{x:Str}(hN:X.N.Nodup)(hi:X.N[i]? = some x)(hx:Loc X.env.scope x)(hlo:lo<=i)(hfx:C.fx i=none)(hf:X.fn x=true\/X.env.scope.names.lookup x=some .local:=by first|exact .inl rfl|exact .inr rfl|assumption):U6 X C lo (.Name x pos) (ak i):=
 (SQ hN hi hx hf).imp λv σ H Q h=>by
  obtain⟨Pr,F,env,env',d,r,p,e,q⟩:=h;cases e;exact q _ _ F (r.put hfx p) (aP.refl F) (by rw[List.take_set_of_le hlo])
def cD:Ri:=λds env=>if ds.isEmpty then some env else none
def aJ(g:GV)(gs:Ri):Ri:=λds env=>match ds with
 | d::r=>(g d env).bind λe1=>gs r e1
 | []=>none
theorem N7{lo:Nat}:Z8 X C lo [] cD:=SN.imp λv σ H Q h=>by
 obtain⟨Pr,F,env,env',ds,r,p,e,q⟩:=h;cases ds with
 | nil=>cases e;cases p;exact⟨rfl,q _ _ F r (aP.refl F) rfl⟩
 | cons d ds=>cases e
def cC(n:Nat)(gs:Ri):GV:=λd env=>match d with
 | .tup ds=>if ds.length=n then gs ds env else none
 | _=>none
theorem R5{lo:Nat}{es:List Expr}{k:Nat}{gs:Ri}{n:Nat}(hc:X.calm=true)(hK:X.K=C.K)(h:Z8 X C lo es gs)
  (hn:(assignEach es X.env).length=n:=by rfl) (hst:(assignEach es X.env).findIdx? (·.1)=none:=by rfl):U6 X C lo (.Tuple es k pos) (cC n gs):=(Xo hc h hn hst).imp λv σ H Q h=>by
 obtain⟨Pr,F,env,env',d,r,p,e,q⟩:=h;cases d with
 | tup ds=>
  obtain⟨z,a,vs,rfl,h1,h2⟩:=p;unfold cC at e;simp only at e;split at e
  ·rename_i hl;rw[hK];exact⟨a,vs,rfl,aP.tupK r.fr h1,by rw[h2.length];exact hl,Pr,F,env,env',ds,r,h2,e,q⟩
  ·cases e
 | _=>cases e
def Ud(i:Nat)(ix:Ev):GV:=λd env=>match env[i]? with
 | some (some (_,_))=>(match ix env with
  | .ok (.int k) aK=>(match aK[i]? with
   | some (some (true,.lst xs))=>(T7 xs.length k).map λj=>aK.set i (some (true,.lst (xs.set j d)))
   | _=>none)
  | _=>none)
 | _=>none
theorem W9{lo i:Nat}{x:Str}{ix:Expr}{ev:Ev}{px:Pos}(hN:X.N[i]? = some x)(hv:uW X.env.scope x)(h:PX X C ix ev)
  (ha:∀v,assign (.Subscript (.Name x px) ix pos) X.env v=(do
   let ov <-holding [v] (eval (.Name x px) X.env)
   let iv <-holding [v,ov] (eval ix X.env)
   standAt pos
   holding [v,ov,iv] (setItem ov iv v)
   release [v,ov,iv] []):=by intro _;rfl)
  (hd:mZ x:=by decide) (hcd:vp x:=by decide):U6 X C lo (.Subscript (.Name x px) ix pos) (Ud i ev):=
 (Xp (jz hN hv hd hcd) h set_list ha).imp λv σ H Q hq=>by
  obtain⟨Pr,F,env,env',d,r,p,e,q⟩:=hq;unfold Ud at e;split at e
  ·rename_i o0 d0 h0;obtain⟨v0,hv0,_⟩:=r.rd h0;split at e
   ·rename_i k aK e1;split at e
    ·rename_i xs h2;obtain⟨j,hj,e3⟩:=Qwj.mp e;subst e3;refine⟨v0,hv0,Pr,F,env,aK,.int k,r,e1,λvi H1 F1 r1 s1 p1=>?_⟩;cases p1;obtain⟨a,g1,⟨z,vs,g2,g3⟩,g4,g5⟩:=r1.own i _ h2;rw[hv0] at g1;cases g1;refine⟨a,vs,k,j,rfl,rfl,g2,by rw[g3.length];exact hj,?_⟩;refine q σ _ F1 (r1.write h2 hv0 ⟨by rw[Qx7];exact z,vs.set j v,aQ,bH.set (Rep.mono s1 d v p) j g3⟩) s1 rfl
    ·cases e
   ·cases e
  ·cases e
end
inductive Out where
 | nx (env:Env)
 | rt (o:Bool) (d:D) (env:Env)
 | bk (env:Env)
 | ct (env:Env)
 | stuck
abbrev bK:=Env->Out
def Fin(C:Cfg)(Pr F:Hp)(D:Ends):Out->Prop
 | .nx env'=>∀σ' H' F',Rel C Pr F' env' σ' H'->aP F F'->D.nx σ' H'
 | .rt false d env'=>∀v σ' H' F',Rel C Pr F' env' σ' H'->aP F F'->Rep C.K F' d v->D.rt v H'
 | .rt true d env'=>∀a σ' H' F',Rel C Pr F' env' σ' H'->aP F F'->Mg C.K Pr F' env' σ' H' d a->D.rt (.ref a) H'
 | .bk env'=>∀σ' H' F',Rel C Pr F' env' σ' H'->aP F F'->D.bk σ' H'
 | .ct env'=>∀σ' H' F',Rel C Pr F' env' σ' H'->aP F F'->D.ct σ' H'
 | .stuck=>False
theorem Fin.mono{C:Cfg}{Pr F F1:Hp}{D:Ends}(s:aP F F1):∀{o:Out},Fin C Pr F D o->Fin C Pr F1 D o
 | .nx _,h=>λσ' H' F' r t=>h σ' H' F' r (s.trans t)
 | .rt false _ _,h=>λv σ' H' F' r t=>h v σ' H' F' r (s.trans t)
 | .rt true _ _,h=>λv σ' H' F' r t=>h v σ' H' F' r (s.trans t)
 | .bk _,h=>λσ' H' F' r t=>h σ' H' F' r (s.trans t)
 | .ct _,h=>λσ' H' F' r t=>h σ' H' F' r (s.trans t)
 | .stuck,h=>h
def tS(C:Cfg)(ev:bK):TS:=λD σ H=>∃(Pr F:Hp) (env:Env),Rel C Pr F env σ H/\Fin C Pr F D (ev env)
def U4(X:Cx)(C:Cfg)(st:Stmt)(ev:bK):Prop:=PS X st (tS C ev)
def yI(X:Cx)(C:Cfg)(st:List Stmt)(ev:bK):Prop:=BR X st (tS C ev)
def jn{α:Type}(x:R α)(f:α->Env->Out):Out:=match x with
 | .ok a env=>f a env
 | .stuck=>.stuck
theorem dR{C:Cfg}{Pr F:Hp}{D:Ends}{α:Type}{x:R α}{f:α->Env->Out}(h:Fin C Pr F D (jn x f)):∃a aK,x = .ok a aK/\Fin C Pr F D (f a aK):=by
 cases x with
 | ok a aK=>exact⟨a,aK,rfl,h⟩
 | stuck=>exact h.elim
section
variable{X:Cx}{C:Cfg}{pos:Pos}
def cL:bK:=λenv=>.nx env
def aA(a b:bK):bK:=λenv=>match a env with
 | .nx e=>b e
 | .rt o d e=>.rt o d e
 | .bk e=>.bk e
 | .ct e=>.ct e
 | .stuck=>.stuck
theorem NP:yI X C [] cL:=Sd.imp λD σ H h=>by
 obtain⟨Pr,F,env,r,f⟩:=h;exact f σ H F r (aP.refl F)
def gk(t:f9)(a b:bK):bK:=λenv=>jn (t env) λc aK=>if c=true then a aK else b aK
def bu(a:Ev):bK:=λenv=>jn (a env) λd aK=>.rt false d aK
def vL(a:Ev):bK:=λenv=>jn (a env) λd aK=>.rt true d aK
def PK(o:Option Env):Out:=match o with
 | some e=>.nx e
 | none=>.stuck
def aR(a:Ev)(g:GV):bK:=λenv=>jn (a env) λd aK=>PK (g d aK)
theorem ZW{a:Ev}{g:GV}{D:Ends}{σ:L2.St}{H:Hp}(h:tS C (aR a g) D σ H):Rw (tE C a) (tG C 0 g) D σ H:=by
 obtain⟨Pr,F,env,r,f⟩:=h;obtain⟨d,aK,e1,f1⟩:=dR f;refine⟨Pr,F,env,aK,d,r,e1,λv H1 F1 r1 s1 p1=>?_⟩;cases e2:g d aK with
 | none=>rw[e2] at f1;exact f1.elim
 | some d7=>rw[e2] at f1;exact⟨Pr,F1,aK,d7,d,r1,p1,e2,λσ2 H2 F2 r2 s2 _=>f1 σ2 H2 F2 r2 (s1.trans s2)⟩
theorem RW{i:Nat}{x:Str}{e:Expr}{a:Ev}{pos':Pos}(hN:X.N.Nodup)(hi:X.N[i]? = some x)(hx:Loc X.env.scope x)(hfx:C.fx i=none)(he:PX X C e a)(hs:swapsWith e (some (.Name x pos')) pos.line X.env=pure false:=by rfl)(hf:X.fn x=true\/X.env.scope.names.lookup x=some .local:=by first|exact .inl rfl|exact .inr rfl|assumption) :
  U4 X C (.Assign [.Name x pos'] e pos) (aR a (ak i)):=(Om hN hi hx he hs hf).imp λD σ H h=>by
 obtain⟨Pr,F,env,r,f⟩:=h;obtain⟨d,aK,e1,f1⟩:=dR f;exact⟨Pr,F,env,aK,d,r,e1,λv H1 F1 r1 s1 p1=>f1 _ H1 F1 (r1.put hfx p1) s1⟩
def cZ(i:Nat)(a:Ev):bK:=λenv=>jn (a env) λd aK=>.nx (aK.set i (some (true,d)))
theorem RX{i:Nat}{x:Str}{e:Expr}{a:Ev}{pos':Pos}(hN:X.N.Nodup)(hi:X.N[i]? = some x)(hx:Loc X.env.scope x)(hfx:C.fx i=none)(he:Rh X C e a)(hs:swapsWith e (some (.Name x pos')) pos.line X.env=pure false:=by rfl)(hf:X.fn x=true\/X.env.scope.names.lookup x=some .local:=by first|exact .inl rfl|exact .inr rfl|assumption) :
  U4 X C (.Assign [.Name x pos'] e pos) (cZ i a):=(Om hN hi hx he hs hf).imp λD σ H h=>by
 obtain⟨Pr,F,env,r,f⟩:=h;obtain⟨d,aK,e1,f1⟩:=dR f;exact⟨Pr,F,env,aK,d,r,e1,λv H1 F1 r1 s1 p1=>f1 _ H1 F1 (r1.Od hfx p1) s1⟩
def dJ(i:Nat)(a:Ev):bK:=λenv=>match env[i]? with
 | some (some (true,.lst _))=>jn (a env) λd aK=>(match aK[i]? with
  | some (some (true,.lst xs))=>if xs.length<sizeLine then .nx (aK.set i (some (true,.lst (xs++[d])))) else .stuck
  | _=>.stuck)
 | _=>.stuck
theorem R0{i:Nat}{x:Str}{e:Expr}{a:Ev}{px apos cpos:Pos}(hN:X.N[i]? = some x)(hv:uW X.env.scope x)(he:PX X C e a)(hK:X.K=C.K)
  (hs:swapsWith (.Call (.Attribute (.Name x px) "append" apos) [e] [] cpos) none pos.line X.env=pure false:=by rfl)
  (hfew:((backTo cpos (starEach [e] X.env)).all (λx=>!x.1)&&(backToKw cpos (keywordEach [] X.env)).all (λx=>x.1.isSome)
   && decide (([e]:List Expr).length+([]:List Keyword).length+(if ([]:List Keyword).isEmpty then 0 else 1)<30))=true:=by rfl)
  (hbase:attributeBase (.Name x px) "append" X.env (eval (.Name x px) X.env)=eval (.Name x px) X.env:=by rfl)
  (hline:(apos.endLine == cpos.line)=true:=by rfl) (hst:Ma e X.env:=by rfl) (hplain:(backTo cpos (starEach [] X.env)).any (·.1)=false:=by rfl)
  (hd:mZ x:=by decide) (hcd:vp x:=by decide):U4 X C (.Expr (.Call (.Attribute (.Name x px) "append" apos) [e] [] cpos) pos) (dJ i a):=by
 refine PS.imp (Sg (Vy PySem.F.plainAttrs_list PySem.F.slot_list_append PySem.F.type_list_append zg (jz hN hv hd hcd) (nq he Ao hst) hbase hfew hline hst hplain) hs) λD σ H h=>?_;obtain⟨Pr,F,env,r,f⟩:=h;unfold dJ at f;split at f
 ·rename_i xs0 h0;obtain⟨d,aK,e1,f1⟩:=dR f;obtain⟨a0,hv0,⟨z0,vs0,g0,_⟩,_⟩:=r.own i _ h0;refine⟨_,hv0,.inl ⟨rfl,vs0,mV.of g0⟩,Pr,F,env,aK,d,r,e1,λv H1 F1 r1 s1 p1=>?_⟩;split at f1
  ·rename_i xs h1;split at f1
   ·rename_i hz;obtain⟨a,g1,⟨z,vs,g2,g3⟩,g4,g5⟩:=r1.own i _ h1;rw[hv0] at g1;cases g1;refine⟨a0,vs,v,rfl,rfl,g2,by rw[g3.length];exact hz,?_⟩;exact f1 σ _ F1 (r1.write h1 hv0 ⟨by rw[Qqk];exact hz,vs++[v],aQ,g3.append (bH.one p1)⟩) s1
   ·exact f1.elim
  ·exact f1.elim
 ·exact f.elim
def pg(K:Fg)(F:Hp)(ds:List D)(J:It):Prop:=∀(i:Nat) (H:Hp),aP F H->(ds[i]? = none->i=ds.length->J.stop i H)/\∀d,ds[i]? = some d->J.go i H/\∀x H',J.yld i H x H'->
 (H'=H/\Rep K F d x)\/∃p vs es,H p=none/\H'=upd H p (.tup vs)/\x = .ref p/\d = .tup es/\es.length<=sizeLine/\bH K F es vs
def tI(C:Cfg)(ev:dG):TI:=λσ H R=>∃(Pr F:Hp) (env env':Env) (ds:List D),Rel C Pr F env σ H/\ev env = .ok ds env'/\
 ∀J H' F',Rel C Pr F' env' σ H'->aP F F'->pg C.K F' ds J->R J H'
def U5(X:Cx)(C:Cfg)(tg iter:Expr)(ev:dG):Prop:=PI X tg iter (tI C ev)
theorem _root_.L2.PI.imp{X:Cx}{tg e:Expr}{t t':TI}(h:PI X tg e t)(i:∀σ H R,t' σ H R->t σ H R):PI X tg e t':=λpins s σ H R I q=>h pins s σ H R I (i σ H R q)
theorem pg.item{Pr F F1:Hp}{env:Env}{σ:L2.St}{H:Hp}{ds:List D}{J:It}{i:Nat}{d:D}{x:V}{H':Hp}(r:Rel C Pr F1 env σ H)(s:aP F F1)(y:pg C.K F ds J)(hd:ds[i]? = some d)(hy:J.yld i H x H') :
  ∃F2,Rel C Pr F2 env σ H'/\aP F1 F2/\Rep C.K F2 d x:=by
 rcases((y i H (s.trans r.fr)).2 d hd).2 x H' hy with ⟨rfl,p⟩|⟨p,vs,es,hp,rfl,rfl,rfl,hz,q⟩
 ·exact⟨F1,r,aP.refl F1,Rep.mono s _ _ p⟩
 ·obtain⟨r2,s2⟩:=r.new (o:=.tup vs) hp;exact⟨_,r2,s2,hz,p,vs,rfl,j8.of aQ,bH.mono (s.trans s2) _ _ q⟩
def jw(g:GV)(b:bK):List D->bK
 | [],env=>.nx env
 | d::ds,env=>(match g d env with
  | none=>.stuck
  | some e1=>(match b e1 with
   | .nx e2=>jw g b ds e2
   | .ct e2=>jw g b ds e2
   | .bk e2=>.nx e2
   | .rt o d e2=>.rt o d e2
   | .stuck=>.stuck))
def fQ(it:dG)(g:GV)(b:bK):bK:=λenv=>jn (it env) λds aK=>jw g b ds aK
theorem RZ{tg iter:Expr}{body:List Stmt}{it:dG}{g:GV}{b:bK}(hp:PassesOwn (model X.prog X.w) X.A X.env X.xe)(hc:X.calm=true)(hi:U5 X C tg iter it)(hg:U6 X C 0 tg g)(hb:yI X C body b)
  (hs:∀x,foldedSetIterable iter X.env x=pure x:=by intro _;rfl):U4 X C (.For tg iter body [] pos) (fQ it g b):=(Xj hp hc hi hg hb hs).imp λD σ H h=>by
 obtain⟨Pr,F,env,r,f⟩:=h;obtain⟨ds,aK,e1,f1⟩:=dR f;refine⟨Pr,F,env,aK,ds,r,e1,λJ H1 F1 r1 s1 y1=>?_⟩;refine⟨λi m σ' H'=>m=ds.length - i/\i<=ds.length/\∃F' env',Rel C Pr F' env' σ' H'/\aP F1 F'/\Fin C Pr F' D (jw g b (ds.drop i) env'),⟨ds.length,rfl,Qxk _,F1,aK,r1,aP.refl _,f1.mono s1⟩,?_⟩;rintro i m σ' H' ⟨rfl,hi,F',env',r',s',f'⟩;by_cases hl:i<ds.length
 ·have hd:ds[i]? = some ds[i]:=Qq2 hl;have hdr:ds.drop i=ds[i]::ds.drop (i+1):=Qx4 hl;have yy:=y1 i H' (s'.trans r'.fr);refine .inr ⟨(yy.2 _ hd).1,λσ2 H2=>∃F' env',Rel C Pr F' env' σ2 H2/\aP F1 F'/\Fin C Pr F' D (jw g b (ds.drop (i+1)) env'),λσ2 H2 h2=>⟨ds.length - (i+1),by omega,rfl,hl,h2⟩,λx H2 hy=>?_⟩;obtain⟨F2,r2,s2,p2⟩:=pg.item r' s' y1 hd hy;rw[hdr] at f';have f2:=f'.mono s2;unfold jw at f2;cases eg:g ds[i] env' with
  | none=>rw[eg] at f2;exact f2.elim
  | some e2=>
   rw[eg] at f2;refine⟨Pr,F2,env',e2,ds[i],r2,p2,eg,λσ3 H3 F3 r3 s3 _=>⟨Pr,F3,e2,r3,?_⟩⟩;simp only at f2;have s13:aP F1 F3:=(s'.trans s2).trans s3;cases eb:b e2 with
   | nx e3=>rw[eb] at f2;exact λσ4 H4 F4 r4 s4=>⟨F4,e3,r4,s13.trans s4,f2.mono (s3.trans s4)⟩
   | ct e3=>rw[eb] at f2;exact λσ4 H4 F4 r4 s4=>⟨F4,e3,r4,s13.trans s4,f2.mono (s3.trans s4)⟩
   | bk e3=>rw[eb] at f2;exact λσ4 H4 F4 r4 s4=>f2 σ4 H4 F4 r4 (s3.trans s4)
   | rt o d e3=>rw[eb] at f2;cases o<;>exact λv σ4 H4 F4 r4 s4 p4=>f2 v σ4 H4 F4 r4 (s3.trans s4) p4
   | stuck=>rw[eb] at f2;exact f2.elim
 ·have e:i=ds.length:=by omega
  subst e;rw[List.drop_length] at f';exact .inl ⟨(y1 _ H' (s'.trans r'.fr)).1 (List.getElem?_eq_none (Qq0 _)) rfl,f' σ' H' F' r' (aP.refl F')⟩
def iI(t:f9)(b:bK):Nat->bK
 | 0,_=>.stuck
 | n+1,env=>jn (t env) λc e1=>if c=true then (match b e1 with
   | .nx e2=>iI t b n e2
   | .ct e2=>iI t b n e2
   | .bk e2=>.nx e2
   | .rt o d e2=>.rt o d e2
   | .stuck=>.stuck) else .nx e1
theorem Kh{c:Expr}{body:List Stmt}{t:f9}{b:bK}(n:Nat)(hp:PassesOwn (model X.prog X.w) X.A X.env X.xe)(hc:PXT X C c t)(hb:yI X C body b):U4 X C (.While c body [] pos) (iI t b n):=(Oj hp hc hb).imp λD σ H h=>by
 obtain⟨Pr,F,env,r,f⟩:=h;refine⟨λm σ' H'=>∃F' env',Rel C Pr F' env' σ' H'/\aP F F'/\Fin C Pr F' D (iI t b m env'),⟨n,F,env,r,aP.refl _,f⟩,?_⟩;rintro m σ' H' ⟨F',env',r',s',f'⟩;cases m with
 | zero=>exact f'.elim
 | succ m=>
  unfold iI at f';obtain⟨k,e1,e2,f1⟩:=dR f';refine⟨Pr,F',env',e1,k,r',e2,λH1 F1 r1 s1=>?_⟩;have f2:=f1.mono s1;show if k=true then _ else _
  split at f2
  ·rename_i hk;rw[if_pos hk];refine⟨λσ2 H2=>∃F' env',Rel C Pr F' env' σ2 H2/\aP F F'/\Fin C Pr F' D (iI t b m env'),λσ2 H2 h2=>⟨m,Nat.lt_succ_self _,h2⟩,Pr,F1,e1,r1,?_⟩;have s13:aP F F1:=s'.trans s1;cases eb:b e1 with
   | nx e3=>rw[eb] at f2;exact λσ4 H4 F4 r4 s4=>⟨F4,e3,r4,s13.trans s4,f2.mono s4⟩
   | ct e3=>rw[eb] at f2;exact λσ4 H4 F4 r4 s4=>⟨F4,e3,r4,s13.trans s4,f2.mono s4⟩
   | bk e3=>rw[eb] at f2;exact λσ4 H4 F4 r4 s4=>f2 σ4 H4 F4 r4 s4
   | rt o d e3=>rw[eb] at f2;cases o<;>exact λv σ4 H4 F4 r4 s4 p4=>f2 v σ4 H4 F4 r4 s4 p4
   | stuck=>rw[eb] at f2;exact f2.elim
  ·rename_i hk;rw[if_neg hk];exact f2 σ' H1 F1 r1 (aP.refl F1)
end
end Ev
namespace L2
open PySem PySem.Spec PyProof.Rows
def Its(z:Str):It:=⟨λi _=>i<z.cps.size,λi H x H'=>H'=H/\∃c,z.cps[i]? = some c/\x = .str ⟨#[c]⟩,λi _=>z.cps.size<=i⟩
theorem J3{P:Program}{w:World}{K:PySem.W.Frag}{tg:Expr}(it:Addr)(z:Str)(t:Tok):Turn P w K tg (Its z) [it] it (λi h=>h.IsStrIter it "str_ascii_iterator" z t i/\i<=z.cps.size) where
 mem:=by simp
 obj:=λi h st b hb=>by
  have e:b=it:=by simpa using hb
  subst e;obtain⟨⟨o,ho,hc,hd⟩,_⟩:=st;exact⟨o,ho,λv z=>by rw[hd] at z;cases z⟩
 keep:=λi h h' st k=>let ⟨⟨o,ho,r⟩,l⟩:=st;⟨⟨o,k it (by simp) o ho,r⟩,l⟩
 item:=by intro X hP hw hK hc i pins s σ H E I hf st hg;subst hP hw hK;obtain⟨f0,f1,f2,f3,f4,f5⟩:=hf it (by simp);have hg':i<z.cps.size:=hg;refine wpAny_pyNext_ascii_item st.1 (c:=z.cps[i]) (by simp[hg']) λh' hit' hs'=>?_;have I1:Inv X pins σ H { s with heap:=h',toks:=s.toks+1 }:=I.turned (λb o hb e=>hs'.extBut b o hb e) f0 f1 f3 f4 f5;obtain⟨o,ho,hcl,hda⟩:=hit';refine⟨_,rfl,Ed (s:={ s with heap:=h',toks:=s.toks+1 }) (n:="str_ascii_iterator") ho hcl hda (by decide) ⟨.str ⟨#[z.cps[i]]⟩,H,I1,⟨_,rfl⟩,⟨rfl,_,by simp[hg'],rfl⟩,⟨⟨o,ho,hcl,hda⟩,hg'⟩,λb hb=>(hf b hb).1⟩⟩
 done:=by intro X hP hw hK hc i pins s σ H E I hf st hg;subst hP hw hK;obtain⟨f0,f1,f2,f3,f4,f5⟩:=hf it (by simp);have hg':z.cps.size<=i:=hg;exact wpAny_pyNext_ascii_end (I.ok.hd hc) st.1 (by simp;omega) λh' eb=>⟨rfl,I.turned (t':=s.toks) (λb o hb e=>eb b o hb e) f0 f1 f3 f4 f5⟩
 self:=λ_ _ _ _ _ st h=>wpAny_pyIter_striter_ascii st.1 h
theorem J0{P:Program}{w:World}{K:PySem.W.Frag}{tg:Expr}(it:Addr)(z:Str)(t:Tok):Turn P w K tg (Its z) [it] it (λi h=>h.IsStrIter it "str_iterator" z t i/\i<=z.cps.size) where
 mem:=by simp
 obj:=λi h st b hb=>by
  have e:b=it:=by simpa using hb
  subst e;obtain⟨⟨o,ho,hc,hd⟩,_⟩:=st;exact⟨o,ho,λv z=>by rw[hd] at z;cases z⟩
 keep:=λi h h' st k=>let ⟨⟨o,ho,r⟩,l⟩:=st;⟨⟨o,k it (by simp) o ho,r⟩,l⟩
 item:=by intro X hP hw hK hc i pins s σ H E I hf st hg;subst hP hw hK;obtain⟨f0,f1,f2,f3,f4,f5⟩:=hf it (by simp);have hg':i<z.cps.size:=hg;refine wpAny_pyNext_wide_item st.1 (c:=z.cps[i]) (by simp[hg']) λh' hit' hs'=>?_;have I1:Inv X pins σ H { s with heap:=h',toks:=s.toks+1 }:=I.turned (λb o hb e=>hs'.extBut b o hb e) f0 f1 f3 f4 f5;obtain⟨o,ho,hcl,hda⟩:=hit';refine⟨_,rfl,Ed (s:={ s with heap:=h',toks:=s.toks+1 }) (n:="str_iterator") ho hcl hda (by decide) ⟨.str ⟨#[z.cps[i]]⟩,H,I1,⟨_,rfl⟩,⟨rfl,_,by simp[hg'],rfl⟩,⟨⟨o,ho,hcl,hda⟩,hg'⟩,λb hb=>(hf b hb).1⟩⟩
 done:=by intro X hP hw hK hc i pins s σ H E I hf st hg;subst hP hw hK;obtain⟨f0,f1,f2,f3,f4,f5⟩:=hf it (by simp);have hg':z.cps.size<=i:=hg;exact wpAny_pyNext_wide_end (I.ok.hd hc) st.1 (by simp;omega) λh' eb=>⟨rfl,I.turned (t':=s.toks) (λb o hb e=>eb b o hb e) f0 f1 f3 f4 f5⟩
 self:=λ_ _ _ _ _ st h=>wpAny_pyIter_striter_wide st.1 h
section
variable{X:Cx}{tg:Expr}
def ad4(K:PySem.W.Frag)(tl:TE):TI:=λσ H R=>tl σ H λx H1=>(∃a,x = .ref a/\(∃xs,mV K H1 a xs)/\R (Itl K a) H1)\/(∃a,x = .ref a/\(∃xs,j8 K H1 a xs)/\R (Itt K a) H1)\/∃z,x = .str z/\R (Its z) H1
theorem Xn{l:Expr}{tl:TE}(hl:PE X l tl):PI X tg l (ad4 X.K tl):=by
 intro pins s σ H R I h;refine fP (hl pins s σ H _ I h) λv s1 ⟨x,H1,I1,r1,q1⟩=>?_;have own:∀b ∈ [s1.heap.objs.size],qC X pins H1 b:=λb hb=>by
  have e:b=s1.heap.objs.size:=by simpa using hb
  subst e;exact I1.Qq (Qq0 _) (I1.hok.fresh (Qq0 _))
 rcases q1 with ⟨a,e,⟨xs,hq⟩,q⟩|⟨a,e,⟨xs,hq⟩,q⟩|⟨z,e,q⟩
 ·subst e;cases r1;obtain⟨its,rv,p,hz⟩:=I1.list hq;refine wpAny_pyIter_list p.isList ?_;exact⟨s1.heap.objs.size,[s1.heap.objs.size],_,_,H1,rfl,I1.kept (t':=s1.toks) λb o e=>Qqw _ e,J4 a _,⟨_,Qw1 _ rfl,rfl,rfl⟩,own,q⟩
 ·subst e;cases r1;obtain⟨its,rv,p,hz⟩:=I1.tuple hq;refine wpAny_pyIter_tuple (show s1.heap.IsTuple a its.toArray from p) ?_;exact⟨s1.heap.objs.size,[s1.heap.objs.size],_,_,H1,rfl,I1.kept (t':=s1.toks) λb o e=>Qqw _ e,FQ a _,⟨_,Qw1 _ rfl,rfl,rfl⟩,own,q⟩
 ·subst e;obtain⟨t,rfl⟩:=r1;cases ha:z.cps.all (·< 128)
  ·exact wpAny_pyIter_wide ha ⟨s1.heap.objs.size,[s1.heap.objs.size],_,_,H1,rfl,I1.kept (t':=s1.toks) λb o e=>Qqw _ e,J0 _ z t,⟨⟨_,Qw1 _ rfl,rfl,rfl⟩,Qxk _⟩,own,q⟩
  ·exact wpAny_pyIter_ascii ha ⟨s1.heap.objs.size,[s1.heap.objs.size],_,_,H1,rfl,I1.kept (t':=s1.toks) λb o e=>Qqw _ e,J3 _ z t,⟨⟨_,Qw1 _ rfl,rfl,rfl⟩,Qxk _⟩,own,q⟩
end
end L2
namespace Ev
open PySem PySem.Spec PyProof.Rows L2
section
variable{X:Cx}{C:Cfg}{pos:Pos}{tg:Expr}
def nW(x:List Nat):List D:=x.map λc=>.str [c]
theorem Fv{F:Hp}{a:Addr}{vs:List V}{ds:List D}(h:j8 C.K F a vs)(p:bH C.K F ds vs):pg C.K F ds (Itt C.K a):=λi H s=>by
 refine⟨λ_ e=>⟨vs,aP.tupK s h,by rw[p.length,e];exact Qq0 _⟩,λd hd=>?_⟩;obtain⟨v,h1,h2⟩:=p.get hd;refine⟨⟨vs,v,aP.tupK s h,h1⟩,λx H' hy=>.inl ⟨hy.1,?_⟩⟩;have:=hy.2 vs (aP.tupK s h);rw[h1] at this;cases this;exact h2
theorem Fw{F:Hp}{x:List Nat}:pg C.K F (nW x) (Its (strOf x)):=λi H s=>by
 refine⟨λ_ e=>?_,λd hd=>?_⟩
 ·show x.toArray.size<=i;rw[e];simp[nW]
 ·unfold nW at hd;rw[Qxy] at hd;obtain⟨c,hc,rfl⟩:=Qwj.mp hd;refine⟨?_,λv H' hy=>.inl ⟨hy.1,?_⟩⟩
  ·show i<x.toArray.size;have:=(Qq5.mp hc).1
   simpa using this
  ·obtain⟨c',h1,rfl⟩:=hy.2;have h2:x[i]? = some c':=by simpa[strOf] using h1
   rw[hc] at h2;cases h2;exact⟨rfl,by show 1<=sizeLine;decide⟩
def itD:D->Option (List D)
 | .lst xs=>some xs
 | .arr xs=>some xs
 | .tup xs=>some xs
 | .str x=>some (nW x)
 | _=>none
def gV(a:Ev):dG:=λenv=>bindR (a env) λd aK=>iY (itD d) aK
theorem R4{l:Expr}{a:Ev}(hK:X.K=C.K)(h:PX X C l a):U5 X C tg l (gV a):=(Xn h).imp λσ H R hq=>by
 obtain⟨Pr,F,env,env',ds,r,e,q⟩:=hq;obtain⟨d,aK,e1,e2⟩:=aW e;obtain⟨e3,rfl⟩:=gr e2;refine⟨Pr,F,env,env',d,r,e1,λv H1 F1 r1 s1 p1=>?_⟩;rw[hK];cases d with
 | lst xs=>
  cases e3;obtain⟨z,a,vs,rfl,g1,g2⟩:=p1;refine .inl ⟨a,rfl,⟨vs,mV.of (r1.fr _ _ g1)⟩,q _ H1 F1 r1 s1 λi H s=>?_⟩;refine⟨λ_ e=>⟨vs,mV.of (s _ _ g1),by rw[g2.length,e];exact Qq0 _⟩,λd hd=>?_⟩;obtain⟨v,h1,h2⟩:=g2.get hd;refine⟨⟨vs,v,mV.of (s _ _ g1),h1⟩,λx H' hy=>.inl ⟨hy.1,?_⟩⟩;have:=hy.2 vs (mV.of (s _ _ g1));rw[h1] at this;cases this;exact h2
 | arr xs=>
  cases e3;obtain⟨z,a,vs,rfl,g1,g2⟩:=p1;refine .inl ⟨a,rfl,⟨vs,r1.fr.seq g1⟩,q _ H1 F1 r1 s1 λi H s=>?_⟩;refine⟨λ_ e=>⟨vs,s.seq g1,by rw[g2.length,e];exact Qq0 _⟩,λd hd=>?_⟩;obtain⟨v,h1,h2⟩:=g2.get hd;refine⟨⟨vs,v,s.seq g1,h1⟩,λx H' hy=>.inl ⟨hy.1,?_⟩⟩;have:=hy.2 vs (s.seq g1);rw[h1] at this;cases this;exact h2
 | tup xs=>
  cases e3;obtain⟨z,a,vs,rfl,g1,g2⟩:=p1;exact .inr (.inl ⟨a,rfl,⟨vs,aP.tupK r1.fr g1⟩,q _ H1 F1 r1 s1 (Fv g1 g2)⟩)
 | str x=>
  cases e3;obtain⟨rfl,z⟩:=p1;exact .inr (.inr ⟨_,rfl,q _ H1 F1 r1 s1 Fw⟩)
 | _=>cases e3
def gH(lo c:Int)(n:Nat):List D:=(List.range n).map λ(i:Nat)=>.int (lo+i*c)
theorem m6(lo c:Int)(n:Nat):(gH lo c n).length=n:=by simp[gH]
theorem Gm{lo c:Int}{n i:Nat}{d:D}(h:(gH lo c n)[i]? = some d):i<n/\d = .int (lo+i*c):=by
 have hi:i<n:=by
  have:=(Qq5.mp h).1
  rwa [m6] at this
 refine⟨hi,?_⟩;unfold gH at h;rw[Qxy,List.getElem?_range hi] at h;cases h;rfl
theorem vG{F:Hp}{lo:Int}{n:Nat}:pg C.K F (gH lo 1 n) (Itr lo n):=λi H s=>by
 refine⟨λ_ e=>by show n<=i;rw[e,m6];exact Qq0 _,λd hd=>?_⟩;obtain⟨hi,rfl⟩:=Gm hd;refine⟨hi,λx H' hy=>.inl ⟨hy.1,?_⟩⟩;show x = .int _;rw[Int.mul_one];exact hy.2
def iD(j:Int):Bool:=decide (-(2^62)<=j)&&decide (j<2^62)
theorem qg{j:Int}(h:iD j=true) : -(2^62)<=j/\j<2^62:=by unfold iD at h;rw[Qzy] at h;exact⟨Qx0 h.1,Qx0 h.2⟩
def qW:List D->Option (List D)
 | [.int j]=>if iD j=true then some (gH 0 1 j.toNat) else none
 | [.int i,.int j]=>if iD i=true/\iD j=true then some (gH i 1 (j - i).toNat) else none
 | [.int i,.int j,.int c]=>if c≠0/\c.natAbs<1073741824/\Builtin.Range.small i j c=true then some (gH i c (Builtin.Range.rangeSize i j c).toNat) else none
 | _=>none
def gb(a:dG):dG:=λenv=>bindR (a env) λds aK=>iY (qW ds) aK
theorem bH.ad2{F:Hp}{i:Int}{vs:List V}(h:bH C.K F [.int i] vs):vs=[.int i]:=by obtain⟨v,r,rfl,h1,h2⟩:=h;cases h1;cases h2;rfl
theorem bH.ad1{F:Hp}{i j:Int}{vs:List V}(h:bH C.K F [.int i,.int j] vs):vs=[.int i,.int j]:=by obtain⟨v,r,rfl,h1,v',r',rfl,h2,h3⟩:=h;cases h1;cases h2;cases h3;rfl
theorem GK{a:Expr}{ea:dG}{p pos:Pos}(hg:Gl X "range")(hm:X.mg "range" = none)(ha:Q8 X C [a] ea)(hl:∀env ds env',ea env = .ok ds env'->ds.length=1)(hs:starEach [a] X.env=[(false,eval a X.env)]:=by rfl):U5 X C tg (.Call (.Name "range" p) [a] [] pos) (gb ea):=
 (Ky hg hm ha hs).imp λσ H R hq=>by
  obtain⟨Pr,F,env,env',ds,r,e,q⟩:=hq;obtain⟨as,aK,e1,e2⟩:=aW e;obtain⟨e3,rfl⟩:=gr e2;refine⟨Pr,F,env,env',as,r,e1,λvs H1 F1 r1 s1 p1=>?_⟩;have:=hl _ _ _ e1;unfold qW at e3;split at e3
  ·split at e3
   ·rename_i hf;cases e3;have hb:=qg hf;exact⟨_,p1.ad2,hb.1,hb.2,q _ H1 F1 r1 s1 vG⟩
   ·cases e3
  ·simp at this
  ·simp at this
  ·cases e3
theorem GJ{a b:Expr}{ea:dG}{p pos:Pos}(hg:Gl X "range")(hm:X.mg "range" = none)(ha:Q8 X C [a,b] ea)(hl:∀env ds env',ea env = .ok ds env'->ds.length=2)(hs:starEach [a,b] X.env=[(false,eval a X.env),(false,eval b X.env)]:=by rfl)(hs2:starEach [b] X.env=[(false,eval b X.env)]:=by rfl):U5 X C tg (.Call (.Name "range" p) [a,b] [] pos) (gb ea):=
 (Kw hg hm ha hs hs2).imp λσ H R hq=>by
  obtain⟨Pr,F,env,env',ds,r,e,q⟩:=hq;obtain⟨as,aK,e1,e2⟩:=aW e;obtain⟨e3,rfl⟩:=gr e2;refine⟨Pr,F,env,env',as,r,e1,λvs H1 F1 r1 s1 p1=>?_⟩;have:=hl _ _ _ e1;unfold qW at e3;split at e3
  ·simp at this
  ·split at e3
   ·rename_i hf;cases e3;have hb:=qg hf.1;have hb2:=qg hf.2;exact⟨_,_,p1.ad1,⟨hb.1,hb.2,hb2.1,hb2.2⟩,q _ H1 F1 r1 s1 vG⟩
   ·cases e3
  ·simp at this
  ·cases e3
theorem Lh(env:Env)(ds:List D)(env':Env)(h:aj env = .ok ds env'):ds.length=0:=by cases h;rfl
theorem Ho{a:Ev}{r:dG}{n:Nat}(hr:∀env ds env',r env = .ok ds env'->ds.length=n)(env:Env)(ds:List D)(env':Env)(h:aa a r env = .ok ds env'):ds.length=n+1:=by obtain⟨d,aK,e1,e2⟩:=aW h;obtain⟨ds2,d7,e3,e4⟩:=aW e2;cases e4;rw[Qqv,hr _ _ _ e3]
theorem bH.qF{F:Hp}{K:Fg}{ds:List D}{vs:List V}{k:Int}{d:D}(h:bH K F ds vs)(e:L2.qF ds k=some d):∃v,L2.qF vs k=some v/\Rep K F d v:=by unfold L2.qF at e ⊢;rw[h.length];obtain⟨j,h1,h2⟩:=Qx8.mp e;obtain⟨v,h3,h4⟩:=h.get h2;exact⟨v,by rw[h1];exact h3,h4⟩
def fZ:D->D->Option D
 | .lst xs,.int k=>qF xs k
 | .arr xs,.int k=>qF xs k
 | .tup xs,.int k=>qF xs k
 | .str x,.int k=>(qF x k).map λc=>.str [c]
 | _,_=>none
theorem VD:n8 C (rIx C.K) fZ:=by
 intro Pr F env σ H x y d vx vy Q r px py e q;unfold fZ at e;split at e
 ·obtain⟨z,a,vs,rfl,h1,h2⟩:=px.lst r.fr;cases py.int;obtain⟨v,e1,p1⟩:=h2.qF e;exact .inl ⟨a,vs,_,v,rfl,rfl,mV.of h1,e1,q _ _ F r (aP.refl F) p1⟩
 ·obtain⟨z,a,vs,rfl,h1,h2⟩:=px.arr r.fr;cases py.int;obtain⟨v,e1,p1⟩:=h2.qF e;exact .inl ⟨a,vs,_,v,rfl,rfl,h1,e1,q _ _ F r (aP.refl F) p1⟩
 ·obtain⟨z,a,vs,rfl,h1,_,h2⟩:=px.tup r.fr;cases py.int;obtain⟨v,e1,p1⟩:=h2.qF e;exact .inr (.inl ⟨a,vs,_,v,rfl,rfl,h1,e1,q _ _ F r (aP.refl F) p1⟩)
 ·obtain⟨rfl,z⟩:=px.str;cases py.int;obtain⟨c,e1,rfl⟩:=Qwj.mp e;exact .inr (.inr ⟨_,_,c,rfl,rfl,by simpa[strOf,Str.length] using z,by simpa[strOf] using e1,q _ _ F r (aP.refl F) ⟨rfl,by show 1<=sizeLine;decide⟩⟩)
 ·cases e
theorem abp{x y:Expr}{a b:Ev}(hK:X.K=C.K)(ha:PX X C x a)(hb:Q7 X C y b)(hs:rY y:=by intro _ _;rfl):PX X C (.Subscript x y pos) (aM fZ a b):=by have h:=(Vx (pos:=pos) Qf ha hb hs);rw[hK] at h;exact h.imp (Bu VD)
theorem Xe{y:Expr}{b:Ev}{px:Pos}(i:Nat){x:Str}(hK:X.K=C.K)(hN:X.N[i]? = some x)(hv:uW X.env.scope x)(hb:Q7 X C y b)(hs:rY y:=by intro _ _;rfl)
  (hd:mZ x:=by decide) (hcd:vp x:=by decide):PX X C (.Subscript (.Name x px) y pos) (aB fZ i b):=by
 have h:=(Vx (pos:=pos) Qf (jz (pos:=px) hN hv hd hcd) hb hs);rw[hK] at h;exact h.imp (pG VD)
def cutD{α:Type}(xs:List α)(lo hi:Option Int):List α:=(xs.drop (HT.ju xs.length 0 lo)).take (HT.ju xs.length xs.length hi - HT.ju xs.length 0 lo)
theorem rN{α:Type}(xs:List α)(lo hi:Option Int):(cutD xs lo hi).length<=xs.length:=by unfold cutD;rw[Qw3,Qxj];omega
theorem bH.cut{F:Hp}{K:Fg}{ds:List D}{vs:List V}(h:bH K F ds vs)(lo hi:Option Int):bH K F (cutD ds lo hi) (xR vs lo hi):=by unfold cutD xR;rw[h.length];exact bH.take _ (bH.drop _ h)
abbrev Wg:=Env->R (Option Int)
def tP(C:Cfg)(ev:Wg):TO:=λσ H Q=>∃(Pr F:Hp) (env env':Env) (o:Option Int),Rel C Pr F env σ H/\ev env = .ok o env'/\∀H' F',Rel C Pr F' env' σ H'->aP F F'->Q o H'
def PXP(X:Cx)(C:Cfg)(e:Option Expr)(ev:Wg):Prop:=PO X e (tP C ev)
theorem _root_.L2.PO.imp{X:Cx}{e:Option Expr}{t t':TO}(h:PO X e t)(i:∀σ H Q,t' σ H Q->t σ H Q):PO X e t':=λpins s σ H Q I q=>h pins s σ H Q I (i σ H Q q)
def xD:Wg:=λenv=>.ok none env
def BP(a:Ev):Wg:=λenv=>bindR (a env) λd aK=>match d with
 | .int i=>.ok (some i) aK
 | _=>.stuck
theorem NT:PXP X C none xD:=Sv.imp λσ H Q h=>by
 obtain⟨Pr,F,env,env',d,r,e,q⟩:=h;cases e;exact q H F r (aP.refl F)
def gSl:D->Option Int->Option Int->Option D
 | .lst xs,lo,hi=>some (.lst (cutD xs lo hi))
 | .arr xs,lo,hi=>some (.lst (cutD xs lo hi))
 | .tup xs,lo,hi=>if HT.ju xs.length 0 lo=0/\HT.ju xs.length xs.length hi=xs.length then none else some (.tup (cutD xs lo hi))
 | _,_,_=>none
def ue(a:Ev)(lo hi:Wg):Ev:=λenv=>bindR (a env) λd aK=>bindR (lo aK) λl d7=>bindR (hi d7) λu Lj=>iY (gSl d l u) Lj
theorem aaT{Pr F:Hp}{env:Env}{σ:L2.St}{H:Hp}{x d:D}{v:V}{lo hi:Option Int}{Q:VK}(r:Rel C Pr F env σ H)(p:gD C.K F H x v)(e:gSl x lo hi=some d)(q:∀v H' F',Rel C Pr F' env σ H'->aP F F'->Rep C.K F' d v->Q v H') :
  aa6 C.K v lo hi H Q\/aa5 C.K v lo hi H Q:=by
 unfold gSl at e;split at e
 ·cases e;obtain⟨z,a,vs,rfl,h1,h2⟩:=p.lst r.fr;refine .inl ⟨a,vs,rfl,mV.of h1,λb hb=>?_⟩;obtain⟨r2,s2⟩:=r.new (o:=.lst (xR vs lo hi)) hb;exact q _ _ _ r2 s2 ⟨Qq3 (rN _ _ _) z,b,_,rfl,aQ,bH.mono s2 _ _ (h2.cut lo hi)⟩
 ·cases e;obtain⟨z,a,vs,rfl,h1,h2⟩:=p.arr r.fr;refine .inl ⟨a,vs,rfl,h1,λb hb=>?_⟩;obtain⟨r2,s2⟩:=r.new (o:=.lst (xR vs lo hi)) hb;exact q _ _ _ r2 s2 ⟨Qq3 (rN _ _ _) z,b,_,rfl,aQ,bH.mono s2 _ _ (h2.cut lo hi)⟩
 ·obtain⟨z,a,vs,rfl,h1,_,h2⟩:=p.tup r.fr;split at e
  ·cases e
  ·rename_i hn;cases e;refine .inr ⟨a,vs,rfl,h1,by rw[h2.length];exact hn,λb hb=>?_⟩;obtain⟨r2,s2⟩:=r.new (o:=.tup (xR vs lo hi)) hb;exact q _ _ _ r2 s2 ⟨Qq3 (rN _ _ _) z,b,_,rfl,j8.of aQ,bH.mono s2 _ _ (h2.cut lo hi)⟩
 ·cases e
theorem abn{x:Expr}{lo hi:Option Expr}{a:Ev}{el eh:Wg}{p2:Pos}(hK:X.K=C.K)(ha:PX X C x a)(hl:PXP X C lo el)(hh:PXP X C hi eh):PX X C (.Subscript x (.Slice lo hi none p2) pos) (ue a el eh):=by have h:=Ow (pos:=pos) (p2:=p2) (Wb.or Ry WW) ha hl hh;rw[hK] at h;refine h.imp λσ H Q hq=>?_;obtain⟨Pr,F,env,env',d,r,e,q⟩:=hq;obtain⟨x,aK,e1,e2⟩:=aW e;obtain⟨l,d7,e3,e4⟩:=aW e2;obtain⟨u,Lj,e5,e6⟩:=aW e4;obtain⟨e7,rfl⟩:=gr e6;refine⟨Pr,F,env,aK,x,r,e1,λv H1 F1 r1 s1 p1=>⟨Pr,F1,aK,d7,l,r1,e3,λH2 F2 r2 s2=>⟨Pr,F2,d7,env',u,r2,e5,λH3 F3 r3 s3=>?_⟩⟩⟩;exact aaT r3 (.inl (Rep.mono (s2.trans s3) _ _ p1)) e7 λv H' F' r' s' p'=>q v H' F' r' (((s1.trans s2).trans s3).trans s') p'
def j9(kvs:List (D×D))(q:Key):Option D:=match kvs with
 | []=>none
 | (k,d)::r=>if mL k=some q then some d else j9 r q
def uP(kvs:List (D×D))(q:Key)(d:D):List (D×D):=match kvs with
 | []=>[]
 | (k,e)::r=>(if mL k=some q then (k,d) else (k,e))::uP r q d
def putD(kvs:List (D×D))(k:D)(q:Key)(d:D):List (D×D):=if (j9 kvs q).isSome then uP kvs q d else kvs++[(k,d)]
theorem dC.length{K:Fg}{F:Hp}:∀{ds:List (D×D)} {vs:List (Key×V)},dC K F ds vs->vs.length=ds.length
 | [],_,h=>by cases h;rfl
 | (k,d)::ds,vs,h=>by
  obtain⟨q,v,r,rfl,_,_,h2⟩:=h;rw[Qqv,Qqv,h2.length]
theorem dC.val{K:Fg}{F:Hp}(q:Key):∀{ds:List (D×D)} {vs:List (Key×V)},dC K F ds vs->(j9 ds q=none/\pU vs q=none)\/∃d v,j9 ds q=some d/\pU vs q=some v/\Rep K F d v
 | [],_,h=>by cases h;exact .inl ⟨rfl,rfl⟩
 | (k,d)::ds,vs,h=>by
  obtain⟨q',v,r,rfl,hk,h1,h2⟩:=h;unfold j9;by_cases e:q'=q
  ·subst e;rw[if_pos hk];exact .inr ⟨d,v,rfl,qJ rfl,h1⟩
  ·rw[if_neg (λz=>e (Qw4 (hk.symm.trans z))),qK (p:=(q',v)) e];exact dC.val q h2
theorem dC.set{K:Fg}{F:Hp}(q:Key){d:D}{v:V}(hd:Rep K F d v):∀{ds:List (D×D)} {vs:List (Key×V)},dC K F ds vs->dC K F (uP ds q d) (vs.map λkv=>if kv.1=q then (kv.1,v) else kv)
 | [],_,h=>by cases h;exact rfl
 | (k,e)::ds,vs,h=>by
  obtain⟨q',u,r,rfl,hk,h1,h2⟩:=h;unfold uP;by_cases e':q'=q
  ·subst e';rw[if_pos hk];refine⟨q',v,_,?_,hk,hd,dC.set q' hd h2⟩;rw[Qwx,if_pos rfl]
  ·rw[if_neg (λz=>e' (Qw4 (hk.symm.trans z)))];refine⟨q',u,_,?_,hk,h1,dC.set q hd h2⟩;rw[Qwx,if_neg e']
theorem dC.append{K:Fg}{F:Hp}:∀{ds es:List (D×D)} {vs ws:List (Key×V)},dC K F ds vs->dC K F es ws->dC K F (ds++es) (vs++ws)
 | [],es,vs,ws,h,g=>by cases h;exact g
 | (k,d)::ds,es,vs,ws,h,g=>by
  obtain⟨q,v,r,rfl,h0,h1,h2⟩:=h;exact⟨q,v,r++ws,rfl,h0,h1,dC.append h2 g⟩
theorem CG(q:Key)(d:D):∀kvs:List (D×D),(uP kvs q d).length=kvs.length
 | []=>rfl
 | (k,e)::r=>by unfold uP;rw[Qqv,Qqv,CG q d r]
theorem Dh(kvs:List (D×D))(k:D)(q:Key)(d:D):(putD kvs k q d).length<=kvs.length+1:=by
 unfold putD;split
 ·rw[CG];omega
 ·rw[Qqk];exact Qq0 _
theorem dC.put{K:Fg}{F:Hp}{ds:List (D×D)}{vs:List (Key×V)}{k:D}{q:Key}{d:D}{v:V}(h:dC K F ds vs)(hk:mL k=some q)(hd:Rep K F d v):dC K F (putD ds k q d) (putK vs q v):=by
 unfold putD putK;rw[vJ];rcases h.val q with ⟨e1,e2⟩|⟨d',v',e1,e2,_⟩
 ·rw[e1,e2];exact h.append ⟨q,v,[],rfl,hk,hd,rfl⟩
 ·rw[e1,e2];exact dC.set q hd h
theorem Bf{K:Fg}{F:Hp}{k:D}{q:Key}{v:V}(h:mL k=some q)(p:Rep K F k v):v=kV q:=by
 cases k with
 | int i=>cases h;exact p
 | str x=>cases h;exact p.1
 | _=>cases h
theorem Hc{K:Fg}{F H:Hp}{k:D}{q:Key}{v:V}(h:mL k=some q)(p:gD K F H k v):v=kV q:=by
 cases k with
 | int i=>cases h;exact p.int
 | str x=>cases h;exact p.str.1
 | _=>cases h
theorem gD.dct{K:Fg}{F H:Hp}{kvs:List (D×D)}{v:V}(s:aP F H)(h:gD K F H (.dct kvs) v):kvs.length<=sizeLine/\∃a ks,v = .ref a/\Rd H a (.dK ks)/\dC K F kvs ks:=by
 rcases h with ⟨z,a,vs,rfl,h1,h2⟩|⟨a,rfl,z,vs,h1,h2⟩
 ·exact⟨z,a,vs,rfl,aP.rd s h1,h2⟩
 ·exact⟨z,a,vs,rfl,.inl h1,h2⟩
def Vr:R2:=λx y H Q=>∃a v,x = .ref a/\Fl H a y (some v)/\Q v H
def gY:D->D->Option D
 | .dct kvs,k=>(mL k).bind λq=>j9 kvs q
 | _,_=>none
theorem Tp:n8 C Vr gY:=by
 intro Pr F env σ H x y d vx vy Q r px py e q;unfold gY at e;split at e
 ·obtain⟨z,a,ks,rfl,h1,h2⟩:=px.dct r.fr;obtain⟨k,hk,hv⟩:=Qx8.mp e;cases Hc hk py;rcases h2.val k with ⟨e1,_⟩|⟨d',v',e1,e2,p2⟩
  ·rw[e1] at hv;cases hv
  ·rw[e1] at hv;cases hv;exact⟨a,v',rfl,.inl ⟨ks,k,h1,rfl,e2.symm⟩,q _ _ F r (aP.refl F) p2⟩
 ·cases e
theorem Ob{y:Expr}{b:Ev}{px:Pos}(i:Nat){x:Str}(hu:X.A.units+1<cLine)(hN:X.N[i]? = some x)(hv:uW X.env.scope x)(hb:Q7 X C y b)(hs:LK y:=by intro _ _;rfl)
  (hd:mZ x:=by decide) (hcd:vp x:=by decide):PX X C (.Subscript (.Name x px) y pos) (aB gY i b):=by
 have h:PE X (.Subscript (.Name x px) y pos) (Ru Vr _ _):=S8 (pos:=pos) hu (jz (pos:=px) hN hv hd hcd) hb hs;exact h.imp (pG Tp)
def xE:Ev:=λenv=>.ok (.dct []) env
theorem NZ:Rh X C (.Dict [] [] pos) xE:=Oz.imp λσ H Q hq=>by
 obtain⟨Pr,F,env,env',d,r,e,q⟩:=hq;cases e;exact λp hp=>q _ _ F (r.fresh hp) (aP.refl F) (Mg.of r hp ⟨Qxk _,[],aQ,rfl⟩)
def oA(i:Nat)(k a:Ev):bK:=λenv=>jn (a env) λd aK=>match aK[i]? with
 | some (some (_,_))=>jn (k aK) λkd d7=>(match d7[i]?,mL kd with
  | some (some (true,.dct kvs)),some q=>if kvs.length<sizeLine then .nx (d7.set i (some (true,.dct (putD kvs kd q d)))) else .stuck
  | _,_=>.stuck)
 | _=>.stuck
theorem NQ{i:Nat}{x:Str}{k e:Expr}{ek a:Ev}{px pos':Pos}(hu:X.A.units+1<cLine)(hN:X.N[i]? = some x)(hv:uW X.env.scope x)(hk:PX X C k ek)(he:PX X C e a)
  (hs:swapsWith e (some (.Subscript (.Name x px) k pos')) pos.line X.env=pure false:=by rfl)
  (hd:mZ x:=by decide) (hcd:vp x:=by decide):U4 X C (.Assign [.Subscript (.Name x px) k pos'] e pos) (oA i ek a):=
 (Sq hu (jz hN hv hd hcd) hk he hs).imp λD σ H h=>by
  obtain⟨Pr,F,env,r,f⟩:=h;obtain⟨d,aK,e1,f1⟩:=dR f;refine⟨Pr,F,env,aK,d,r,e1,λv H1 F1 r1 s1 p1=>?_⟩;split at f1
  ·rename_i o0 d0 h0;obtain⟨v0,hv0,_⟩:=r1.rd h0;obtain⟨kd,d7,e2,f2⟩:=dR f1;refine⟨v0,hv0,Pr,F1,aK,d7,kd,r1,e2,λvk H2 F2 r2 s2 p2=>?_⟩;split at f2
   ·rename_i kvs q h2 hq;split at f2
    ·rename_i hz;obtain⟨b,g1,⟨z,ks,g2,g3⟩,g4,g5⟩:=r2.own i _ h2;rw[hv0] at g1;cases g1;have hz':ks.length<sizeLine:=by rw[g3.length];exact hz
     cases Bf hq p2;refine⟨b,_,rfl,Rc.k g2 hz',?_⟩;refine f2 σ _ F2 (r2.write h2 hv0 ⟨Qq3 (Dh _ _ _ _) hz,_,aQ,g3.put hq (Rep.mono s2 _ _ p1)⟩) (s1.trans s2)
    ·exact f2.elim
   ·exact f2.elim
  ·exact f1.elim
def K9(x:List Nat):List (List Nat)->List (List Nat)
 | []=>[x]
 | y::r=>if y<x then y::K9 x r else x::y::r
def iw:List (List Nat)->List (List Nat)
 | []=>[]
 | x::r=>K9 x (iw r)
theorem tX(x:List Nat):∀l,(K9 x l).Perm (x::l)
 | []=>.refl _
 | y::r=>by
  unfold K9;split
  ·exact((tX x r).cons y).trans (.swap x y r)
  ·exact .refl _
theorem gJ:∀l,(iw l).Perm l
 | []=>.refl _
 | x::r=>(tX x (iw r)).trans ((gJ r).cons x)
theorem uA(x:List Nat):∀l,l.Pairwise (λa b=>a<=b)->(K9 x l).Pairwise (λa b=>a<=b)
 | [],_=>List.pairwise_singleton _ _
 | y::r,h=>by
  unfold K9;have h1:=Qzk.mp h;split
  ·rename_i hyx;refine Qzk.mpr ⟨λz hz=>?_,uA x r h1.2⟩;rcases Qq8.mp ((tX x r).mem_iff.mp hz) with rfl|hz
   ·exact List.le_of_lt hyx
   ·exact h1.1 z hz
  ·rename_i hyx;have hxy:x<=y:=List.not_lt.mp hyx;refine Qzk.mpr ⟨λz hz=>?_,h⟩;rcases Qq8.mp hz with rfl|hz
   ·exact hxy
   ·exact List.le_trans hxy (h1.1 z hz)
theorem qR:∀l,(iw l).Pairwise (λa b=>a<=b)
 | []=>.nil
 | x::r=>uA x _ (qR r)
theorem yS:∀(p:Str) (l:List Str),risingS p l=true->(p::l).Pairwise (λa b=>a.cps.toList<=b.cps.toList)
 | p,[],_=>List.pairwise_singleton _ _
 | p,x::r,h=>by
  have h':(!Spec.ltCps x.cps.toList p.cps.toList&&risingS x r)=true:=h;rw[Qzy,PyProof.Rows.ltCps_eq] at h';have hxp:¬x.cps.toList<p.cps.toList:=by
   have:=h'.1
   simpa using this
  have ih:=yS x r h'.2;refine Qzk.mpr ⟨λz hz=>?_,ih⟩;have hpx:p.cps.toList<=x.cps.toList:=List.not_lt.mp hxp;rcases Qq8.mp hz with rfl|hz
  ·exact hpx
  ·exact List.le_trans hpx ((Qzk.mp ih).1 z hz)
theorem Kc:∀(l:List Str),sortedS l=true->l.Pairwise (λa b=>a.cps.toList<=b.cps.toList)
 | [],_=>.nil
 | x::r,h=>yS x r h
theorem J9(s:Str):strOf s.cps.toList=s:=by obtain⟨c⟩:=s;simp[strOf]
theorem zY{xs:List (List Nat)}{ss ss':List Str}(e:ss=xs.map strOf)(hp:ss'.Perm ss)(hs:sortedS ss'=true):ss'=(iw xs).map strOf:=by
 subst e;have h1:(ss'.map λs=>s.cps.toList).Perm xs:=by
  have:=hp.map (λs:Str=>s.cps.toList);rw[Qj5] at this;have e2:xs.map ((λs:Str=>s.cps.toList) ∘ strOf)=xs:=by rw[Qz9 (g:=id) (λx _=>by simp[strOf])];simp
  rwa [e2] at this
 have h2:(ss'.map λs=>s.cps.toList)=iw xs:=by refine List.Perm.eq_of_pairwise (le:=λa b=>a<=b) (λa b _ _=>List.le_antisymm) ?_ (qR xs) (h1.trans (gJ xs).symm);exact List.pairwise_map.mpr (Kc ss' hs)
 rw[<-h2,Qj5];have e3:∀l:List Str,l.map (strOf ∘ λs=>s.cps.toList)=l:=λl=>by
  induction l with
  | nil=>rfl
  | cons a r ih=>rw[Qwx,ih];show strOf a.cps.toList::r=a::r;rw[J9]
 exact(e3 ss').symm
theorem qI:∀{us:List Value} {ss:List Str},StrsAre us ss->Vals (ss.map V.str) us
 | _,_,.nil=>.nil
 | _,_,.cons y t h=>.cons ⟨t,rfl⟩ (qI h)
theorem qX{K:Fg}{F:Hp}:∀(xs:List (List Nat)),(∀x∈xs,x.length<=sizeLine)->bH K F (xs.map D.str) (xs.map λz=>V.str (strOf z))
 | [],_=>rfl
 | x::xs,h=>⟨_,_,rfl,⟨rfl,h x (Qqz ..)⟩,qX xs λy hy=>h y (Qqj _ hy)⟩
def Aj(K:Fg):List V->Hp->VK->Prop:=λxs H Q=>∃p zs,xs=[.ref p]/\(mV K H p (zs.map λz=>V.str (strOf z))\/∃ks,Rd H p (.dK ks)/\ks.map (·.1)=zs.map λz=>Sum.inr (strOf z))/\zs.length<64/\∀l,H l=none->Q (.ref l) (upd H l (.lst ((iw zs).map λz=>V.str (strOf z))))
theorem Cz{pins:List (Addr×Obj)}{s:Shared}{σ:L2.St}{H:Hp}{Q:VK}{zs:List (List Nat)}{out:Array Value}{ss':List Str}{a:Addr}{e:Nat}{h':Heap}{tk:Nat}(I:Inv X pins σ H s)(hz:zs.length<64)(q:∀l,H l=none->Q (.ref l) (upd H l (.lst ((iw zs).map λz=>V.str (strOf z)))))
  (a1:StrsAre out.toList ss') (a2:ss'.Perm (zs.map strOf)) (a3:sortedS ss'=true) (hk:∀b o,s.heap.get? b=some o->h'.get? b=some o) (ha:s.heap.objs.size<=a) (ho:h'.get? a=some (seqObj "list" out e)):EP X pins σ Q (.ref a) { s with heap:=h',toks:=tk }:=by
 have e1:=zY rfl a2 a3;subst e1;have rv:=qI a1;rw[Qj5] at rv;have hl:((iw zs).map λz=>V.str (strOf z)).length<=sizeLine:=by rw[Qqy,(gJ zs).length_eq];exact Qq3 (Qxv hz) (by decide)
 exact⟨.ref a,_,I.laid (t':=tk) hk ha (show fY X.prog X.w _ h' a (.lst ((iw zs).map λz=>V.str (strOf z))) from⟨hl,out.toList,e,rv,by simpa[seqObj] using ho⟩),rfl,q a (I.hok.fresh ha)⟩
theorem Ez(hc:X.calm=true):jt X (.builtin "sorted") (Aj X.K):=by
 intro pins s σ H xs us Q I r h;obtain⟨p,zs,rfl,hq,hz,q⟩:=h;obtain⟨u,rfl,rx⟩:=vals1 r;cases rx;rcases hq with hq|⟨ks,hq,hks⟩
 ·obtain⟨its,r',pl,hzz⟩:=I.list hq;have hS:StrsAre its (zs.map strOf):=sG r';refine sorted_strs pl.isList hS (by rw[<-r'.length,Qqy];exact hz) λout ss' a1 a2 a3=>?_;obtain⟨e,he⟩:=sortedAll_at s.heap its out;exact Cz (tk:=s.toks) I hz q a1 a2 a3 (λb o e=>sortedAll_old e) (Nat.le_succ _) he
 ·obtain⟨hz2,hsys,vs,rkv,hD⟩:=xO I.hok hq;obtain⟨ep,hat⟩:=hD.dictAt;have hlen:vs.length=zs.length:=by
   have e1:=rkv.length;have e2:=Qw8 List.length hks;rw[Qqy,Qqy] at e2;omega
  refine Calls.call_function_entry kind_sorted plain_sorted entry_sorted (args_sorted1 _) ?_;unfold Builtin.«sorted»;refine Qqx (m:=checkCount "sorted" 1 1 _) (Qq6 ?_);refine Qqx (PySem.W.kdu_collect (A:=X.A.in1) (PySem.W.kdl_dict (knd:=dh X.prog X.w) (kvs:=vs) (ep:=ep) hsys) (I.ok.hd hc) hat (by rw[hlen];exact Qq3 (Qxv hz) (by decide)) λh' tk acc hk hacc=>?_);have hl:acc.toList.length=vs.length:=by rw[Qqq];exact hacc.1
  have hS:StrsAre acc.toList (zs.map strOf):=by
   have keys:∀j:Nat,j<vs.length->∃v t,acc.toList[j]? = some v/\v=Value.str (strOf (zs.getD j [])) t:=λj hj=>by
    have hja:j<acc.size:=by rw[hacc.1];exact hj
    have e1:acc[j]? = some acc[j]:=by simp[hja]
    obtain⟨k,x,hx,hkx⟩:=hacc.2 j _ e1;have e2:(vs.map (·.1))[j]? = some k:=by rw[Qxy,hx];rfl
    rw[<-rkv.keys,hks,Qxy] at e2;obtain⟨z,hzj,rfl⟩:=Qwj.mp e2;rcases d8 (k:=Sum.inr (strOf z)) (v:=acc[j]) hkx with ⟨i,t,z1,_⟩|⟨y,t,z1,z2⟩
    ·cases z1
    ·cases z1;exact⟨_,t,by rw[Qj7];exact e1,by rw[z2,Qq7,hzj];rfl⟩
   have build:∀(us:List Value) (ys:List (List Nat)),us.length=ys.length->(∀j:Nat,j<us.length->∃v t,us[j]? = some v/\v=Value.str (strOf (ys.getD j [])) t)->StrsAre us (ys.map strOf):=λus=>by
    induction us with
    | nil=>intro ys hl _;cases ys with
     | nil=>exact .nil
     | cons _ _=>cases hl
    | cons u us ih=>intro ys hl hk;cases ys with
     | nil=>cases hl
     | cons y ys=>
      obtain⟨v,t,e1,e2⟩:=hk 0 (Nat.succ_pos _);cases e1;rw[e2];exact .cons _ t (ih ys (by simpa using hl) λj hj=>by
       obtain⟨v,t,e1,e2⟩:=hk (j+1) (by simpa using hj);exact⟨v,t,by simpa using e1,by simpa using e2⟩)
   exact build _ _ (by rw[hl,hlen]) λj hj=>keys j (by rw[<-hl];exact hj)
  refine Qqx (wpAny_newList ?_ (by rw[hl,hlen];exact Qq3 (Qxv hz) (by decide)));have hoL:(h'.push (seqObj "list" acc.toList.toArray 0)).get? h'.objs.size=some (seqObj "list" acc.toList.toArray 0):=Qw1 _ rfl;show wpAny _ _ _ _ _ { s with heap:=h'.push (seqObj "list" acc.toList.toArray 0),toks:=tk };refine Qqx (Qjq (Qz8 slot_list_sort ⟨_,hoL,rfl⟩ entry_list_sort (list_sort_treeK strKind_oneLt hoL hS.keysOf (λv₁ v₂ rest e=>keyKind_strs (by rw[<-e];exact hS)) (by rw[hl,hlen];exact hz) λst' b1 b2=>⟨_,rfl,?_⟩) (args_list_sort _)));obtain⟨ss',a1,a2,a3⟩:=sorted_out_str hS b1 b2;obtain⟨e,he⟩:=sortedHeap_at (out:=(arrOf st').map (·.2)) hoL;refine Qq6 ⟨_,rfl,?_⟩;have I1:L2.Inv X pins σ H { s with heap:=h',toks:=tk }:=I.kept hk;refine Cz (s:={ s with heap:=h',toks:=tk }) (tk:=tk) I1 hz q a1 a2 a3 (λb o e=>?_) (Qq0 _) he;have lt':=Qwq e;rw[sortedHeap_old (Qw9 lt') (by rw[size_push'];exact Nat.lt_succ_of_lt lt')];exact Qqw _ e
def gF:List D->Option D
 | [.lst ds]=>(iu ds).bind λzs=>if zs.length<64/\(∀z∈zs,z.length<=sizeLine) then some (.lst ((iw zs).map .str)) else none
 | [.dct kvs]=>(iu (kvs.map (·.1))).bind λzs=>if zs.length<64/\(∀z∈zs,z.length<=sizeLine) then some (.lst ((iw zs).map .str)) else none
 | _=>none
theorem dC.keys{K:Fg}{F:Hp}:∀{kvs:List (D×D)} {ks:List (Key×V)} {zs:List (List Nat)},dC K F kvs ks->iu (kvs.map (·.1))=some zs->ks.map (·.1)=zs.map λz=>Sum.inr (strOf z)
 | [],ks,zs,h,e=>by cases h;simp[iu] at e;subst e;rfl
 | (k,d)::kvs,ks,zs,h,e=>by
  obtain⟨q,v,r,rfl,h0,h1,h2⟩:=h;cases k with
  | str x=>
   cases h0;have e':(iu (kvs.map (·.1))).map (x :: ·)=some zs:=by simpa[iu] using e
   obtain⟨zs',e1,rfl⟩:=Qwj.mp e';rw[Qwx,Qwx,dC.keys h2 e1]
  | _=>simp[iu] at e
theorem Gn{Pr F:Hp}{env:Env}{σ:L2.St}{H:Hp}{l:Addr}{zs:List (List Nat)}(r:Rel C Pr F env σ H)(hl:H l=none)(hz:zs.length<64/\∀z∈zs,z.length<=sizeLine) :
  jx C.K F (upd H l (.lst ((iw zs).map λz=>V.str (strOf z)))) (.lst ((iw zs).map .str)) l:=by
 refine⟨by rw[Qqy,(gJ zs).length_eq];exact Qq3 (Qxv hz.1) (by decide),_,aQ,qX _ λz h=>hz.2 z ((gJ zs).mem_iff.mp h)⟩
theorem Lq:CallD C (Aj C.K) gF:=by
 intro Pr F env σ H ds d vs Q r p e q;have fin:∀(zs:List (List Nat)) (l:Addr),(zs.length<64/\∀z∈zs,z.length<=sizeLine)->d = .lst ((iw zs).map .str)->H l=none->Q (.ref l) (upd H l (.lst ((iw zs).map λz=>V.str (strOf z)))):=λzs l hz hd hl=>by
  subst hd;obtain⟨F2,r2,s2,p2⟩:=(r.fresh (o:=.lst ((iw zs).map λz=>V.str (strOf z))) hl).keep (Mg.of r hl (Gn r hl hz));exact q _ _ F2 r2 s2 p2
 unfold gF at e;split at e
 ·obtain⟨v,w,rfl,p1,p2⟩:=p;cases p2;obtain⟨zs,e1,e2⟩:=Qx8.mp e;split at e2
  ·rename_i hz;cases e2;obtain⟨z,a,ws,rfl,h1,h2⟩:=p1.lst r.fr;have e6:=tH e1 h2;subst e6;exact⟨a,zs,rfl,.inl (mV.of h1),hz.1,λl hl=>fin zs l hz rfl hl⟩
  ·cases e2
 ·obtain⟨v,w,rfl,p1,p2⟩:=p;cases p2;obtain⟨zs,e1,e2⟩:=Qx8.mp e;split at e2
  ·rename_i hz;cases e2;obtain⟨z,a,ks,rfl,h1,h2⟩:=p1.dct r.fr;exact⟨a,zs,rfl,.inr ⟨ks,h1,h2.keys e1⟩,hz.1,λl hl=>fin zs l hz rfl hl⟩
  ·cases e2
 ·cases e
theorem Kr{p:Pos}{e:Expr}{a:dG}(hK:X.K=C.K)(hc:X.calm=true)(hg:Gl X "sorted")(hm:X.mg "sorted" = none)(ha:U7 X C [e] a)(he:Ma e X.env:=by rfl)(hpl:(backTo pos (starEach [] X.env)).any (·.1)=false:=by rfl) :
  PX X C (.Call (.Name "sorted" p) [e] [] pos) (ao gF a):=
 mH (X:=X) (r:=Aj C.K) (by rw[<-hK];exact Ez hc) Lq hg hm PyProof.Rows.boot_sorted ha (by decide) (by decide) he hpl
end
theorem Rel.pad{C:Cfg}{Pr F:Hp}{env:Env}{σ:L2.St}{H:Hp}(m:Nat)(r:Rel C Pr F env σ H):Rel C Pr F (env++List.replicate m none) (qZ m σ) H:=by
 have un:∀(j:Nat) (x:Bool×D),(env++List.replicate m none)[j]? = some (some x)->env[j]? = some (some x):=λj x he=>by
  by_cases hj:j<env.length
  ·rwa [Qxq hj] at he
  ·rw[Qzj (by omega),Qz5] at he;split at he<;>cases he
 have up:∀(j:Nat) (v:V),σ[j]? = some (some v)->(qZ m σ)[j]? = some (some v):=λj v h=>by
  unfold qZ;rw[Qxq (Qq5.mp h).1];exact h
 have dn:∀(j:Nat) (v:V),(qZ m σ)[j]? = some (some v)->σ[j]? = some (some v):=λj v he=>by
  unfold qZ at he;by_cases hj:j<σ.length
  ·rwa [Qxq hj] at he
  ·rw[Qzj (by omega),Qz5] at he;split at he<;>cases he
 refine⟨r.pr,r.fr,by unfold qZ;rw[Qqk,Qqk,Qzz,Qzz,r.len],λj e he=>?_,λj e he=>?_,λj k e f b hj hk g1 g2=>r.apart j k e f b (un _ _ hj) (un _ _ hk) (dn _ _ g1) (dn _ _ g2),r.dj,λj a h=>up _ _ (r.fix j a h)⟩
 ·obtain⟨v,h1,h2⟩:=r.val j e (un _ _ he);exact⟨v,up _ _ h1,h2⟩
 ·obtain⟨a,h1,h2⟩:=r.own j e (un _ _ he);exact⟨a,up _ _ h1,h2⟩
theorem Rel.cut{C:Cfg}{Pr F:Hp}{env:Env}{σ σ0:L2.St}{H:Hp}(r:Rel C Pr F env σ H)(h:σ.take σ0.length=σ0)(fix:∀i a,C.fx i=some a->σ0[i]? = some (some (V.ref a))):Rel C Pr F (env.take σ0.length) σ0 H:=by
 have hl:σ0.length<=σ.length:=by have:=Qw8 List.length h;rw[Qw3] at this;omega
 have un:∀(j:Nat) (x:Bool×D),(env.take σ0.length)[j]? = some (some x)->env[j]? = some (some x)/\j<σ0.length:=λj x he=>by
  have hj:j<σ0.length:=by have:=(Qq5.mp he).1;rw[Qw3] at this;omega
  rw[Qjz hj] at he;exact⟨he,hj⟩
 have dn:∀(j:Nat),j<σ0.length->σ[j]? = σ0[j]?:=λj hj=>by
  have:=Qjz (l:=σ) hj;rw[h] at this;exact this.symm
 refine⟨r.pr,r.fr,by rw[Qw3,r.len];omega,λj e he=>?_,λj e he=>?_,λj k e f b hj hk g1 g2=>r.apart j k e f b (un _ _ hj).1 (un _ _ hk).1 (by rw[dn _ (un _ _ hj).2];exact g1) (by rw[dn _ (un _ _ hk).2];exact g2),r.dj,fix⟩
 ·obtain⟨e1,e2⟩:=un _ _ he;rw[<-dn j e2];exact r.val j e e1
 ·obtain⟨e1,e2⟩:=un _ _ he;rw[<-dn j e2];exact r.own j e e1
def BL(g:GV)(c:f9)(e:Ev):List D->Env->R (List D)
 | [],env=>.ok [] env
 | d::ds,env=>(match g d env with
  | none=>.stuck
  | some e1=>bindR (c e1) λb e2=>if b=true then bindR (e e2) λy e3=>bindR (BL g c e ds e3) λys e4=>.ok (y::ys) e4 else BL g c e ds e2)
def fX(lo n:Nat)(it:dG)(g:GV)(c:f9)(e:Ev):Ev:=λenv=>bindR (it env) λds aK=>if aK.length=lo then bindR (BL g c e ds (aK++List.replicate (n - lo) none)) λys d7=>(if ys.length<=sizeLine then .ok (.lst ys) (d7.take lo) else .stuck) else .stuck
def LC(X:Cx)(C:Cfg)(ifs:List Expr)(ev:f9):Prop:=PIf X ifs (tT C ev)
def dW:f9:=λenv=>.ok true env
theorem N6{X:Cx}{C:Cfg}:LC X C [] dW:=λpins s σ H Q I h=>by
 obtain⟨Pr,F,env,env',b,r,e,q⟩:=h;cases e;exact Sy pins s σ H Q I (q H F r (aP.refl F))
theorem VM{C:Cfg}{lo n:Nat}{it:dG}{g:GV}{c:f9}{e:Ev}{σ:L2.St}{H:Hp}{Q:VK}(h:tN C (fX lo n it g c e) σ H Q):tLC n (tI C it) (tG C lo g) (tT C c) (tE C e) σ H Q:=by
 obtain⟨Pr,F,env,env',d,r,ev,q⟩:=h;obtain⟨ds,aK,e1,e2⟩:=aW ev;split at e2
 ·rename_i hlo;obtain⟨ys,d7,e3,e4⟩:=aW e2;split at e4
  ·rename_i hz;cases e4;refine⟨Pr,F,env,aK,ds,r,e1,λJ H1 F1 r1 s1 y1 a ha=>?_⟩;have hσ:σ.length=lo:=r1.len.symm.trans hlo;have hPa:Pr a=none:=r1.pr.free ha;refine⟨λi m σ' H'=>m=ds.length - i/\i<=ds.length/\∃F' Es acc ws rest,Rel C (upd Pr a (.lst ws)) F' Es σ' H'/\aP F1 F'/\bH C.K F' acc ws/\σ'.take lo=σ/\BL g c e (ds.drop i) Es = .ok rest d7/\acc++rest=ys,
    ⟨ds.length,rfl,Qxk _,F1,aK++List.replicate (n - lo) none,[],[],ys,?_,aP.refl _,rfl,?_,e3,rfl⟩,?_⟩
   ·rw[hσ];exact(r1.aside (o:=.lst []) ha).pad _
   ·unfold qZ;rw[<-hσ,List.take_left]
   rintro i m σ' H' ⟨rfl,hi,F',Es,acc,ws,rest,r',s',p',t',l',hacc⟩;have hFa:F' a=none:=by
    cases ez:F' a with
    | none=>rfl
    | some w=>have:=r'.dj a w ez;rw[aQ] at this;cases this
   by_cases hl:i<ds.length
   ·have hd:ds[i]? = some ds[i]:=Qq2 hl;have hdr:ds.drop i=ds[i]::ds.drop (i+1):=Qx4 hl;have yy:=y1 i H' (s'.trans r'.fr);refine .inr ⟨(yy.2 _ hd).1,λσ2 H2=>∃F' Es acc ws rest,Rel C (upd Pr a (.lst ws)) F' Es σ2 H2/\aP F1 F'/\bH C.K F' acc ws/\σ2.take lo=σ/\BL g c e (ds.drop (i+1)) Es = .ok rest d7/\acc++rest=ys,
     λσ2 H2 h2=>⟨ds.length - (i+1),by omega,rfl,hl,h2⟩,λx H2 hy=>?_⟩
    obtain⟨F2,r2,s2,p2⟩:=pg.item r' s' y1 hd hy;rw[hdr] at l';unfold BL at l';cases eg:g ds[i] Es with
    | none=>rw[eg] at l';cases l'
    | some e5=>
     rw[eg] at l';obtain⟨b,e6,c1,l2⟩:=aW l';refine⟨_,F2,Es,e5,ds[i],r2,p2,eg,λσ3 H3 F3 r3 s3 t3=>⟨_,F3,e5,e6,b,r3,c1,λH4 F4 r4 s4=>?_⟩⟩;have t3':σ3.take lo=σ:=t3.trans t';have s24:aP F' F4:=(s2.trans s3).trans s4;cases b with
     | false=>
      show if false=true then _ else _
      rw[if_neg Qxx];rw[if_neg Qxx] at l2;exact⟨F4,e6,acc,ws,rest,r4,s'.trans s24,bH.mono s24 _ _ p',t3',l2,hacc⟩
     | true=>
      show if true=true then _ else _
      rw[if_pos rfl];rw[if_pos rfl] at l2;obtain⟨y,e7,c2,l3⟩:=aW l2;obtain⟨ys2,e8,c3,l4⟩:=aW l3;cases l4;refine⟨_,F4,e6,e7,y,r4,c2,λv H5 F5 r5 s5 p5=>?_⟩;have hlen:acc.length+(ys2.length+1)=ys.length:=by rw[<-hacc,Qqk,Qqv]
      refine⟨ws,r5.pr _ _ aQ,by rw[p'.length];omega,F5,e7,acc++[y],ws++[v],ys2,?_,s'.trans (s24.trans s5),(bH.mono (s24.trans s5) _ _ p').append (bH.one p5),t3',c3,by rw[Qwy];exact hacc⟩;have r6:=r5.turn (u:=.lst (ws++[v])) aQ
      rwa [Rp] at r6
   ·have ei:i=ds.length:=by omega
    subst ei;rw[List.drop_length] at l';cases l';rw[Qx1] at hacc;subst hacc;refine .inl ⟨(y1 _ H' (s'.trans r'.fr)).1 (List.getElem?_eq_none (Qq0 _)) rfl,?_⟩;have sP:aP Pr (upd Pr a (.lst ws)):=km hPa;have r7:Rel C Pr F' (d7.take lo) σ H':=by
     have:=(r'.less sP).cut (σ0:=σ) (by rw[hσ];exact t') r1.fix
     rwa [hσ] at this
    refine q a H' F' r7 (s1.trans s') ⟨⟨hz,ws,r'.pr _ _ aQ,p'⟩,hFa,hPa,λj e he hs=>?_⟩;have hj:j<σ.length:=(Qq5.mp hs).1;have he':d7[j]? = some (some (true,e)):=by rw[Qjz (by rw[<-hσ];exact hj)] at he;exact he
    obtain⟨b,g1,_,_,g4⟩:=r'.own j e he';have:σ'[j]? = some (some (V.ref a)):=by rw[<-t',Qjz (by rw[<-hσ];exact hj)] at hs;exact hs
    rw[this] at g1;cases g1;rw[aQ] at g4;cases g4
  ·cases e4
 ·cases e2
section
variable{X:Cx}{C:Cfg}{pos:Pos}
theorem W8{elt tg iter:Expr}{ifs:List Expr}{scope:Scope}(N':List Str){it:dG}{g:GV}{c:f9}{e:Ev}(lo:Nat)(ok:lr X scope N')(hc:X.calm=true)(hi:U5 X C tg iter it)
  (bg:∀X',jr X scope N' X'->U6 X' C lo tg g) (bc:∀X',jr X scope N' X'->LC X' C ifs c) (be:∀X',jr X scope N' X'->PX X' C elt e)
  (hs:∀x,foldedSetIterable iter X.env x=pure x:=by intro _;rfl):Rh X C (.ListComp elt [⟨tg,iter,ifs,0⟩] scope pos) (fX lo N'.length it g c e):=
 (abw ok hc hi bg bc be hs).imp λσ H Q h=>VM h
theorem Km{elt tg iter:Expr}{ifs:List Expr}{scope:Scope}(N':List Str){spos py:Pos}{it:dG}{g:GV}{c:f9}{e:Ev}(lo:Nat){i:Nat}{y:Str}(ok:lr X scope N')(hc:X.calm=true)(hi:U5 X C tg iter it)
  (bg:∀X',jr X scope N' X'->U6 X' C lo tg g) (bc:∀X',jr X scope N' X'->LC X' C ifs c) (be:∀X',jr X scope N' X'->PX X' C elt e)
  (hN:X.N.Nodup) (hy:X.N[i]? = some y) (hx:Loc X.env.scope y) (hfx:C.fx i=none)
  (hsw:swapsWith (.ListComp elt [⟨tg,iter,ifs,0⟩] scope pos) (some (.Name y py)) spos.line X.env=pure true)
  (hf:X.fn y=true\/X.env.scope.names.lookup y=some .local:=by first|exact .inl rfl|exact .inr rfl|assumption)
  (hs:∀x,foldedSetIterable iter X.env x=pure x:=by intro _;rfl):U4 X C (.Assign [.Name y py] (.ListComp elt [⟨tg,iter,ifs,0⟩] scope pos) spos) (cZ i (fX lo N'.length it g c e)):=
 (Ol ok hc hi bg bc be hN hy hx hsw hf hs).imp λD σ H h=>by
  obtain⟨Pr,F,env,r,f⟩:=h;obtain⟨d,aK,e1,f1⟩:=dR f;have:tN C (fX lo N'.length it g c e) σ H λv H1=>Ei i v σ H1 D.nx:=⟨Pr,F,env,aK,d,r,e1,λv H1 F1 r1 s1 p1=>f1 _ H1 F1 (r1.Od hfx p1) s1⟩;exact VM this
end
def oE(K:Fg)(n:Nat)(f:List D->Option D):Sp:=λvs H Q _=>∃(F:Hp) (ds:List D) (d:D),ds.length=n/\aP F H/\bH K F ds vs/\f ds=some d/\
 ∀v H' F',aP H H'->aP F' H'->aP F F'->(∀b o,F' b=some o->F b=some o\/H b=none)->Rep K F' d v->Q v H'
def WT(K:Fg)(n:Nat)(f:List D->Option D):Sp:=λvs H Q _=>∃(F:Hp) (ds:List D) (d:D),ds.length=n/\aP F H/\bH K F ds vs/\f ds=some d/\
 ∀a H' F',aP H H'->aP F' H'->aP F F'->(∀b o,F' b=some o->F b=some o\/H b=none)->jx K F' H' d a->F' a=none->H a=none->Q (.ref a) H'
def pI(K:Fg)(n:Nat)(f:List D->Option (D×D)):Sp:=λvs H Q _=>∃(F:Hp) (a:Addr) (r:List V) (x:D) (ds:List D) (d x':D),vs = .ref a::r/\ds.length+1=n/\aP F H/\F a=none/\jx K F H x a/\bH K F ds r/\f (x::ds)=some (d,x')/\
 ∀v H' F',(∀b o,b≠a->H b=some o->H' b=some o)->aP F' H'->aP F F'->(∀b o,F' b=some o->F b=some o\/H b=none)->jx K F' H' x' a->Rep K F' d v->Q v H'
theorem Rel.after{C:Cfg}{Pr F F':Hp}{env:Env}{σ:L2.St}{H H':Hp}(r:Rel C Pr F env σ H)(s:aP H H')(sF:aP F' H')(Vo:aP F F')(nw:∀b o,F' b=some o->F b=some o\/H b=none):Rel C Pr F' env σ H':=by
 refine⟨r.pr.trans s,sF,r.len,λj e he=>?_,λj e he=>?_,r.apart,λb o e=>?_,r.fix⟩
 ·obtain⟨v,h1,h2⟩:=r.val j e he;exact⟨v,h1,Rep.mono Vo _ _ h2⟩
 ·obtain⟨a,h1,h2,h3,h4⟩:=r.own j e he;obtain⟨o,ho⟩:=h2.some;refine⟨a,h1,h2.mono Vo (by rw[ho,s _ _ ho]),?_,h4⟩;cases e:F' a with
  | none=>rfl
  | some u=>
   rcases nw a u e with z|z
   ·rw[h3] at z;cases z
   ·rw[ho] at z;cases z
 ·rcases nw b o e with z|z
  ·exact r.dj b o z
  ·exact r.pr.free z
theorem Rel.UG{C:Cfg}{Pr F F':Hp}{env:Env}{σ:L2.St}{H H':Hp}{i:Nat}{a:Addr}{d d':D}(r:Rel C Pr F env σ H)(h:env[i]? = some (some (true,d)))(hs:σ[i]? = some (some (V.ref a)))(s:∀b o,b≠a->H b=some o->H' b=some o)(sF:aP F' H')(Vo:aP F F')(nw:∀b o,F' b=some o->F b=some o\/H b=none)(ho:jx C.K F' H' d' a):Rel C Pr F' (env.set i (some (true,d'))) σ H':=by
 obtain⟨a',h1,h2,h3,h4⟩:=r.own i d h;rw[hs] at h1;cases h1;have hi:i<env.length:=(Qq5.mp h).1;obtain⟨oa,hoa⟩:=h2.some;have ne:∀(j:Nat) (e:D) (b:Addr),j≠i->env[j]? = some (some (true,e))->σ[j]? = some (some (V.ref b))->b≠a:=λj e b hj he g z=>hj (r.apart j i e d a he h (by rw[<-z];exact g) hs);have nF:∀b u,F b=none->H b=some u->F' b=none:=λb u e1 e2=>by
  cases e:F' b with
  | none=>rfl
  | some w=>
   rcases nw b w e with z|z
   ·rw[e1] at z;cases z
   ·rw[e2] at z;cases z
 refine⟨λb w e=>?_,sF,by rw[Qx7];exact r.len,λj e he=>?_,λj e he=>?_,λj k e f b hj hk g1 g2=>?_,λb o e=>?_,r.fix⟩
 ·have hb:b≠a:=λz=>by rw[z,h4] at e;cases e
  exact s b w hb (r.pr b w e)
 ·by_cases hj:j=i
  ·subst hj;rw[Qw2 hi] at he;cases he
  ·rw[Qwv (Ne.symm hj)] at he;obtain⟨v,g1,g2⟩:=r.val j e he;exact⟨v,g1,Rep.mono Vo _ _ g2⟩
 ·by_cases hj:j=i
  ·subst hj;rw[Qw2 hi] at he;cases he;exact⟨a,hs,ho,nF a oa h3 hoa,h4⟩
  ·rw[Qwv (Ne.symm hj)] at he;obtain⟨b,g1,g2,g3,g4⟩:=r.own j e he;obtain⟨ob,hob⟩:=g2.some;exact⟨b,g1,g2.mono Vo (by rw[hob,s b ob (ne j e b hj he g1) hob]),nF b ob g3 hob,g4⟩
 ·have un:∀(j:Nat) (e:D),(env.set i (some (true,d')))[j]? = some (some (true,e))->∃e',env[j]? = some (some (true,e')):=λj e he=>by
   by_cases hj:j=i
   ·subst hj;exact⟨d,h⟩
   ·rw[Qwv (Ne.symm hj)] at he;exact⟨e,he⟩
  obtain⟨e',hj'⟩:=un j e hj;obtain⟨f',hk'⟩:=un k f hk;exact r.apart j k e' f' b hj' hk' g1 g2
 ·rcases nw b o e with z|z
  ·exact r.dj b o z
  ·exact r.pr.free z
section
variable{X:Cx}{C:Cfg}{pos p:Pos}{k n:Nat}{f:Addr}{fd:FuncData}{ps:List Str}{x:Str}{e:Expr}{es:List Expr}
theorem xF{g:List D->Option D}{a:dG}{env env':Env}{d:D}(h:ao g a env = .ok d env'):∃ds,a env = .ok ds env'/\g ds=some d:=by obtain⟨ds,aK,e1,e2⟩:=aW h;obtain⟨e3,rfl⟩:=gr e2;exact⟨ds,e1,e3⟩
theorem Xb{g:List D->Option D}{a:dG}(G:mz X.prog X.w X.K X.mg X.base zO k f fd ps (oE C.K n g))(hr:iU k X.A)(hg:Gl X x)(hm:X.mg x=some (.ref f))(hk:PySem.W.keepIn X.K (.ref f)=true)(hb:Binds X.K fd ps [])
  (ha:Q8 X C (e::es) a) (hn:∀env ds env',a env = .ok ds env'->ds.length=n) (hdb:mZ x:=by decide) (he:starEach (e::es) X.env=(false,eval e X.env)::starEach es X.env:=by rfl) (hpl:(backTo pos (starEach es X.env)).any (·.1)=false:=by rfl) :
  PX X C (.Call (.Name x p) (e::es) [] pos) (ao g a):=(vo G hr hg hm hk hb .nil Ja ha hdb he hpl).imp λσ H Q hq=>by
 obtain⟨Pr,F,env,env',d,r,e,q⟩:=hq;obtain⟨ds,e1,e2⟩:=xF e;refine⟨Pr,F,env,env',ds,r,e1,λvs H1 F1 r1 s1 p1=>?_⟩;show oE C.K n g (vs++[]) H1 Q E0;rw[Qx1];exact⟨F1,ds,d,hn _ _ _ e1,r1.fr,p1,e2,λv H2 F2 t1 t2 t3 t4 p2=>q v H2 F2 (r1.after t1 t2 t3 t4) (s1.trans t3) p2⟩
theorem R1{g:List D->Option D}{a:dG}(G:mz X.prog X.w X.K X.mg X.base zO k f fd ps (WT C.K n g))(hr:iU k X.A)(hg:Gl X x)(hm:X.mg x=some (.ref f))(hk:PySem.W.keepIn X.K (.ref f)=true)(hb:Binds X.K fd ps [])
  (ha:Q8 X C (e::es) a) (hn:∀env ds env',a env = .ok ds env'->ds.length=n) (hdb:mZ x:=by decide) (he:starEach (e::es) X.env=(false,eval e X.env)::starEach es X.env:=by rfl) (hpl:(backTo pos (starEach es X.env)).any (·.1)=false:=by rfl) :
  Rh X C (.Call (.Name x p) (e::es) [] pos) (ao g a):=(vo G hr hg hm hk hb .nil Ja ha hdb he hpl).imp λσ H Q hq=>by
 obtain⟨Pr,F,env,env',d,r,e,q⟩:=hq;obtain⟨ds,e1,e2⟩:=xF e;refine⟨Pr,F,env,env',ds,r,e1,λvs H1 F1 r1 s1 p1=>?_⟩;show WT C.K n g (vs++[]) H1 Q E0;rw[Qx1];refine⟨F1,ds,d,hn _ _ _ e1,r1.fr,p1,e2,λb H2 F2 t1 t2 t3 t4 ho hF hH=>q b H2 F2 (r1.after t1 t2 t3 t4) (s1.trans t3) ⟨ho,hF,r1.pr.free hH,λj e he hs=>?_⟩⟩;obtain⟨c,h1,h2,_⟩:=r1.own j e he;rw[hs] at h1;cases h1;obtain⟨u,hu⟩:=h2.some;rw[hH] at hu;cases hu
def cQ(f:List D->Option (D×D))(i:Nat)(a:dG):Ev:=λenv=>match env[i]? with
 | some (some (true,_))=>bindR (a env) λds aK=>(match aK[i]? with
  | some (some (true,x))=>(match f (x::ds) with
   | some (d,x')=>.ok d (aK.set i (some (true,x')))
   | none=>.stuck)
  | _=>.stuck)
 | _=>.stuck
theorem abq{g:List D->Option (D×D)}{a:dG}{i:Nat}{y:Str}{py:Pos}(hN:X.N[i]? = some y)(hv:uW X.env.scope y)(G:mz X.prog X.w X.K X.mg X.base zO k f fd ps (pI C.K n g))(hr:iU k X.A)(hg:Gl X x)(hm:X.mg x=some (.ref f))(hk:PySem.W.keepIn X.K (.ref f)=true)(hb:Binds X.K fd ps [])
  (ha:Q8 X C es a) (hn:∀env ds env',a env = .ok ds env'->ds.length+1=n) (hdb:mZ x:=by decide) (he:starEach (.Name y py::es) X.env=(false,eval (.Name y py) X.env)::starEach es X.env:=by rfl) (hpl:(backTo pos (starEach es X.env)).any (·.1)=false:=by rfl)
  (hd:mZ y:=by decide) (hcd:vp y:=by decide) :
  PX X C (.Call (.Name x p) (.Name y py::es) [] pos) (cQ g i a):=(vo G hr hg hm hk hb .nil Ja (nq (jz hN hv hd hcd) ha he) hdb he hpl).imp λσ H Q hq=>by
 obtain⟨Pr,F,env,env',d,r,e,q⟩:=hq;unfold cQ at e;split at e
 ·rename_i d0 h0;obtain⟨ds,aK,e1,e2⟩:=aW e;split at e2
  ·rename_i z hz;split at e2
   ·rename_i d1 z' hg;cases e2;obtain⟨a0,hs0,_⟩:=r.own i _ h0;refine⟨_,hs0,Pr,F,env,aK,ds,r,e1,λvs H1 F1 r1 s1 p1=>?_⟩;obtain⟨a1,hs1,ho1,hF1,hP1⟩:=r1.own i _ hz;rw[hs0] at hs1;cases hs1;show pI C.K n g (_::vs++[]) H1 Q E0;rw[Qx1];exact⟨F1,a0,vs,z,ds,d,z',rfl,hn _ _ _ e1,r1.fr,hF1,ho1,p1,hg,λv H2 F2 t1 t2 t3 t4 t5 p2=>q v H2 F2 (r1.UG hz hs0 t1 t2 t3 t4 t5) (s1.trans t3) p2⟩
   ·cases e2
  ·cases e2
 ·cases e
end
def envOf(n:Nat)(ds:List D):Env:=ds.map (λd=>some (false,d))++List.replicate (n - ds.length) none
def xM(n:Nat)(x:D)(ds:List D):Env:=some (true,x)::(ds.map (λd=>some (false,d))++List.replicate (n - (ds.length+1)) none)
def bO(n:Nat)(ev:bK)(ds:List D):Option D:=match ev (envOf n ds) with
 | .rt false d _=>some d
 | .nx _=>some .non
 | _=>none
def runN(n:Nat)(ev:bK)(ds:List D):Option D:=match ev (envOf n ds) with
 | .rt true d _=>some d
 | _=>none
def fU(n:Nat)(ev:bK)(ds:List D):Option (D×D):=match ds with
 | []=>none
 | x::r=>(match ev (xM n x r) with
  | .rt false d env=>(match env[0]? with
   | some (some (true,x'))=>some (d,x')
   | _=>none)
  | .nx env=>(match env[0]? with
   | some (some (true,x'))=>some (.non,x')
   | _=>none)
  | _=>none)
def C0(K:Fg):Cfg:=⟨K,λ_=>none⟩
def C1(K:Fg)(a:Addr):Cfg:=⟨K,λi=>if i=0 then some a else none⟩
def Ay(H F:Hp):Hp:=λb=>if (F b).isSome then none else H b
theorem DK{H F:Hp}{b:Addr}{o:HO}(h:Ay H F b=some o):H b=some o/\F b=none:=by
 unfold Ay at h;split at h
 ·cases h
 ·rename_i z;exact⟨h,by cases e:F b with|none=>rfl|some w=>rw[e] at z;exact absurd rfl z⟩
theorem wI{H F:Hp}{b:Addr}(h:Ay H F b=none):H b=none\/∃o,F b=some o:=by
 unfold Ay at h;split at h
 ·rename_i z;exact .inr (Qzq.mp z)
 ·exact .inl h
theorem yV{K:Fg}{F H:Hp}{ds:List D}{vs:List V}{N:List Str}(s:aP F H)(p:bH K F ds vs):Rel (C0 K) (Ay H F) F (envOf N.length ds) (start N vs) H:=by
 have un:∀(j:Nat) (x:Bool×D),(envOf N.length ds)[j]? = some (some x)->∃d,x=(false,d)/\ds[j]? = some d:=λj x he=>by
  unfold envOf at he;by_cases hj:j<(ds.map λd=>some (false,d)).length
  ·rw[Qxq hj,Qxy] at he;obtain⟨d,h1,h2⟩:=Qwj.mp he;cases h2;exact⟨d,rfl,h1⟩
  ·rw[Qzj (by omega),Qz5] at he;split at he<;>cases he
 refine⟨λb o e=>(DK e).1,s,?_,λj d he=>?_,λj d he=>?_,λj k d e a hj hk=>?_,λb o e=>?_,λi a h=>by cases h⟩
 ·unfold envOf L2.start;rw[Qqk,Qqk,Qqy,Qqy,Qzz,Qzz,p.length]
 ·obtain⟨d',z,hd⟩:=un j _ he;cases z;obtain⟨v,h1,h2⟩:=p.get hd;refine⟨v,?_,h2⟩;unfold L2.start;rw[Qxq (by rw[Qqy];exact(Qq5.mp h1).1),Qxy,h1]
  rfl
 ·obtain⟨d',z,_⟩:=un j _ he;cases z
 ·obtain⟨d',z,_⟩:=un j _ hj;cases z
 ·unfold Ay;rw[e];rfl
theorem aP.GR{H F F' H':Hp}(s1:aP (Ay H F) H')(s2:aP F F')(s3:aP F' H')(sF:aP F H):aP H H':=λb o e=>by
 cases z:F b with
 | none=>exact s1 b o (by unfold Ay;rw[z];exact e)
 | some w=>
  have:=sF b w z;rw[e] at this;cases this;exact s3 b o (s2 b o z)
theorem G6{H F F':Hp}(s2:aP F F')(dj:∀b o,F' b=some o->Ay H F b=none)(b:Addr)(o:HO)(h:F' b=some o):F b=some o\/H b=none:=by
 rcases wI (dj b o h) with z|⟨w,z⟩
 ·exact .inr z
 ·have:=s2 b w z;rw[h] at this;cases this;exact .inl z
section
variable{P:Program}{w:World}{K:Fg}{mg:Str->Option Value}{base:Heap}{x qual:Str}{st:Stmt}{f:Addr}{fd:FuncData}{N ps:List Str}{k:Nat}{ev:bK}
abbrev bx(P:Program)(w:World)(K:Fg)(mg:Str->Option Value)(base:Heap)(N:List Str)(qual:Str)(st:Stmt)(f:Addr)(cdv:Value)(A:Around)(outer:List PySem.Env)(s:Shared)(H:Hp)(E:XK):Cx:=(Hr zO P w K mg base N qual (aO st) f cdv A outer s H E).Pb
theorem Ex(F:Q9 K x qual st f fd)(S:bC N ps (aO st))
  (hb:∀(cdv:Value) (A:Around) (outer:List PySem.Env) (s:Shared) (H:Hp) (E:XK),iU k (A.deeper (envOfC qual (aO st) s.heap.objs.size f cdv))->yI (bx P w K mg base N qual st f cdv A outer s H E) (C0 K) (eZ st) ev) :
  mz P w K mg base zO (k+1) f fd ps (oE K ps.length (bO N.length ev)):=by
 refine F.ok S (λvs H Q E h=>?_) (λcdv A outer s H vs Q E hr h=>?_)
 ·obtain⟨F0,ds,d,hl,_,p,_⟩:=h;rw[p.length,hl]
 ·obtain⟨F0,ds,d,hl,sF,p,e,q⟩:=h;refine⟨_,hb cdv A outer s H E hr,Ay H F0,F0,envOf N.length ds,yV sF p,?_⟩;unfold bO at e;split at e
  ·rename_i d' env' h1;cases e;rw[h1];exact λv σ' H' F' r' s' p'=>q v H' F' (aP.GR r'.pr s' r'.fr sF) r'.fr s' (G6 s' r'.dj) p'
  ·rename_i env' h1;cases e;rw[h1];exact λσ' H' F' r' s'=>q .non H' F' (aP.GR r'.pr s' r'.fr sF) r'.fr s' (G6 s' r'.dj) rfl
  ·cases e
theorem Uq(F:Q9 K x qual st f fd)(S:bC N ps (aO st))
  (hb:∀(cdv:Value) (A:Around) (outer:List PySem.Env) (s:Shared) (H:Hp) (E:XK),iU k (A.deeper (envOfC qual (aO st) s.heap.objs.size f cdv))->yI (bx P w K mg base N qual st f cdv A outer s H E) (C0 K) (eZ st) ev) :
  mz P w K mg base zO (k+1) f fd ps (WT K ps.length (runN N.length ev)):=by
 refine F.ok S (λvs H Q E h=>?_) (λcdv A outer s H vs Q E hr h=>?_)
 ·obtain⟨F0,ds,d,hl,_,p,_⟩:=h;rw[p.length,hl]
 ·obtain⟨F0,ds,d,hl,sF,p,e,q⟩:=h;refine⟨_,hb cdv A outer s H E hr,Ay H F0,F0,envOf N.length ds,yV sF p,?_⟩;unfold runN at e;split at e
  ·rename_i d' env' h1;cases e;rw[h1];refine λa σ' H' F' r' s' n'=>q a H' F' (aP.GR r'.pr s' r'.fr sF) r'.fr s' (G6 s' r'.dj) n'.own n'.nF ?_;rcases wI n'.nP with z|⟨u,z⟩
   ·exact z
   ·have:=s' a u z;rw[n'.nF] at this;cases this
  ·cases e
theorem CV{K:Fg}{F H:Hp}{y:D}{a:Addr}{ds:List D}{vs:List V}{N:List Str}(s:aP F H)(hF:F a=none)(ho:jx K F H y a)(p:bH K F ds vs):Rel (C1 K a) (λb=>if b=a then none else Ay H F b) F (xM N.length y ds) (start N (.ref a::vs)) H:=by
 have un:∀(j:Nat) (x:Bool×D),(xM N.length y ds)[j]? = some (some x)->(j=0/\x=(true,y))\/∃i d,j=i+1/\x=(false,d)/\ds[i]? = some d:=λj x he=>by
  unfold xM at he;cases j with
  | zero=>cases he;exact .inl ⟨rfl,rfl⟩
  | succ i=>
   rw[List.getElem?_cons_succ] at he;by_cases hj:i<(ds.map λd=>some (false,d)).length
   ·rw[Qxq hj,Qxy] at he;obtain⟨d,h1,h2⟩:=Qwj.mp he;cases h2;exact .inr ⟨i,d,rfl,rfl,h1⟩
   ·rw[Qzj (by omega),Qz5] at he;split at he<;>cases he
 have z0:(start N (.ref a::vs))[0]? = some (some (V.ref a)):=rfl;refine⟨λb o e=>?_,s,?_,λj d he=>?_,λj d he=>?_,λj k d e b hj hk _ _=>?_,λb o e=>?_,λi b h=>?_⟩
 ·have e':(if b=a then none else Ay H F b)=some o:=e;split at e'
  ·cases e'
  ·exact(DK e').1
 ·unfold xM L2.start;simp only[Qqv,Qqk,Qqy,Qzz,p.length,Qwx];omega
 ·rcases un j _ he with ⟨_,z⟩|⟨i,d',rfl,z,hd⟩
  ·cases z
  ·cases z;obtain⟨v,h1,h2⟩:=p.get hd;refine⟨v,?_,h2⟩;unfold L2.start;rw[Qwx,List.cons_append,List.getElem?_cons_succ,Qxq (by rw[Qqy];exact(Qq5.mp h1).1),Qxy,h1]
   rfl
 ·rcases un j _ he with ⟨rfl,z⟩|⟨i,d',rfl,z,hd⟩
  ·cases z;exact⟨a,z0,ho,hF,if_pos rfl⟩
  ·cases z
 ·rcases un j _ hj with ⟨rfl,_⟩|⟨i,d',rfl,z,_⟩
  ·rcases un k _ hk with ⟨rfl,_⟩|⟨i,d',rfl,z,_⟩
   ·rfl
   ·cases z
  ·cases z
 ·show(if b=a then none else Ay H F b)=none;split
  ·rfl
  ·unfold Ay;rw[e];rfl
 ·have h':(if i=0 then some a else none)=some b:=h;split at h'
  ·rename_i hi;cases h';rw[hi];exact z0
  ·cases h'
theorem ZC{y:Str}{qs:List Str}(F:Q9 K x qual st f fd)(S:bC N (y::qs) (aO st))
  (hb:∀(cdv:Value) (A:Around) (outer:List PySem.Env) (s:Shared) (H:Hp) (E:XK) (a:Addr),iU k (A.deeper (envOfC qual (aO st) s.heap.objs.size f cdv))->yI (bx P w K mg base N qual st f cdv A outer s H E) (C1 K a) (eZ st) ev) :
  mz P w K mg base zO (k+1) f fd (y::qs) (pI K (qs.length+1) (fU N.length ev)):=by
 refine F.ok S (λvs H Q E h=>?_) (λcdv A outer s H vs Q E hr h=>?_)
 ·obtain⟨F0,a,r,z,ds,d,z',rfl,hl,_,_,_,p,_⟩:=h;rw[Qqv,Qqv,p.length];exact hl
 ·obtain⟨F0,a,r,z,ds,d,z',rfl,hl,sF,hFa,ho,p,e,q⟩:=h;refine⟨_,hb cdv A outer s H E a hr,_,F0,xM N.length z ds,CV sF hFa ho p,?_⟩;have fin:∀(env':Env) (σ':L2.St) (H' F':Hp) (v:V) (d:D) (z':D),env'[0]? = some (some (true,z'))->Rel (C1 K a) (λb=>if b=a then none else Ay H F0 b) F' env' σ' H'->aP F0 F'->Rep K F' d v->(∀v H' F',(∀b o,b≠a->H b=some o->H' b=some o)->aP F' H'->aP F0 F'->(∀b o,F' b=some o->F0 b=some o\/H b=none)->jx K F' H' z' a->Rep K F' d v->Q v H')->Q v H':=λenv' σ' H' F' v d z' h0 r' s' p' q=>by
   obtain⟨b,g1,g2,g3,g4⟩:=r'.own 0 z' h0;have g5:=r'.fix 0 a rfl;rw[g1] at g5;cases g5;refine q v H' F' (λc o hc e=>?_) r'.fr s' (λc o e=>?_) g2 p'
   ·cases u:F0 c with
    | none=>exact r'.pr c o (by show(if c=a then none else Ay H F0 c)=some o;rw[if_neg hc];unfold Ay;rw[u];exact e)
    | some w=>
     have:=sF c w u;rw[e] at this;cases this;exact r'.fr c o (s' c o u)
   ·by_cases hc:c=a
    ·subst hc;rw[g3] at e;cases e
    ·have h1:=r'.dj c o e;have h1':(if c=a then none else Ay H F0 c)=none:=h1;rw[if_neg hc] at h1';rcases wI h1' with u|⟨w,u⟩
     ·exact .inr u
     ·have:=s' c w u;rw[e] at this;cases this;exact .inl u
  unfold fU at e;simp only at e;split at e
  ·rename_i d' env' h1;split at e
   ·rename_i z1 h0;cases e;rw[h1];exact λv σ' H' F' r' s' p'=>fin env' σ' H' F' v _ _ h0 r' s' p' q
   ·cases e
  ·rename_i env' h1;split at e
   ·rename_i z1 h0;cases e;rw[h1];exact λσ' H' F' r' s'=>fin env' σ' H' F' .non .non _ h0 r' s' rfl q
   ·cases e
  ·cases e
end
structure Good(X:Cx)(C:Cfg):Prop where
 K:X.K=C.K
 calm:X.calm=true
 un:X.A.units+64<cLine
theorem Good.u1{X:Cx}{C:Cfg}(G:Good X C):X.A.units+1<cLine:=Qw6 (Nat.add_le_add_left (by decide:1<=64) _) G.un
theorem Good.u60{X:Cx}{C:Cfg}(G:Good X C):X.A.units+60<cLine:=Qw6 (Nat.add_le_add_left (by decide:60<=64) _) G.un
theorem Good.u61{X:Cx}{C:Cfg}(G:Good X C):X.A.units+61<cLine:=Qw6 (Nat.add_le_add_left (by decide:61<=64) _) G.un
theorem Good.at{X X':Cx}{C:Cfg}{scope:Scope}{N':List Str}(G:Good X C)(h:jr X scope N' X'):Good X' C:=by obtain⟨_,_,_,_,_,rfl⟩:=h;exact⟨G.K,G.calm,G.un⟩
def Own(P:Program)(w:World)(K:Fg)(mg:Str->Option Value)(base:Heap)(x:Str)(k:Nat)(ps:List Str)(sp:Sp):Prop:=
 ∃f fd,mz P w K mg base zO k f fd ps sp/\mg x=some (.ref f)/\PySem.W.keepIn K (.ref f)=true/\Binds K fd ps []
def Glb(K:Fg)(mg:Str->Option Value)(x:Str)(d:D):Prop:=∃v u,mg x=some u/\RelV v u/\∀F,Rep K F d v
def dD(K:Fg)(mg:Str->Option Value)(x:Str)(st:Stmt)(ps:List Str):Prop:=∃f fd,Q9 K x x st f fd/\mg x=some (.ref f)/\Binds K fd ps []
def lX:List Str->Bool
 | []=>true
 | x::r=>!(r.contains x)&&lX r
theorem jA:∀{l:List Str},lX l=true->l.Nodup
 | [],_=>.nil
 | x::r,h=>by
  have h':(!(r.contains x)&&lX r)=true:=h;rw[Qzy] at h';refine Qzx.mpr ⟨λhm=>?_,jA h'.2⟩;have:r.contains x=true:=List.contains_iff_mem.mpr hm;rw[this] at h';exact absurd h'.1 (by decide)
def Jq(outer:List (Str×NameKind)):List (Str×NameKind)->Bool
 | []=>true
 | (n,k)::r=>(!decide (k = .free)||decide (outer.lookup n=some .cell)||decide (outer.lookup n=some .free))&&Jq outer r
theorem El{outer:List (Str×NameKind)}:∀{l:List (Str×NameKind)},Jq outer l=true->∀x∈l,x.2 = .free->outer.lookup x.1=some .cell\/outer.lookup x.1=some .free
 | [],_,x,hx,_=>by simp at hx
 | (n,k)::r,h,x,hx,hf=>by
  have h':((!decide (k = .free)||decide (outer.lookup n=some .cell)||decide (outer.lookup n=some .free))&&Jq outer r)=true:=h;rw[Qzy,Bool.or_eq_true,Bool.or_eq_true] at h';rcases Qq8.mp hx with rfl|hx
  ·rcases h'.1 with (z|z)|z
   ·have hf':k = .free:=hf;rw[Qww hf'] at z;exact absurd z (by decide)
   ·exact .inl (Qx0 z)
   ·exact .inr (Qx0 z)
  ·exact El h'.2 x hx hf
theorem lg{X:Cx}{scope:Scope}{N':List Str}(h1:scope.kind = .function:=by rfl)(h2:lX (scope.names.map (·.1))=true:=by rfl)(h3:Jq X.env.scope.names scope.names=true:=by rfl)(h4:QG scope.names N' X.N=true:=by rfl)(h5:Nat.ble X.N.length N'.length=true:=by rfl):lr X scope N':=
 ⟨h1,jA h2,El h3,h4,Qjx h5⟩
section
variable{X:Cx}{C:Cfg}{pos p px:Pos}{x y z:Expr}{a b c:Ev}{t u:f9}{i:Nat}{n:Str}
structure Bi(X:Cx)(C:Cfg)(op:Operator)(g:D->D->Option D):Prop where
 ex:∃r,mD X (binaryOp op) r/\n8 C r g
structure Cm(X:Cx)(C:Cfg)(op:CmpOp)(g:D->D->Option D):Prop where
 ex:∃r,mD X (compareOp op) r/\n8 C r g
theorem jY(G:Good X C):Bi X C .Add dw:=⟨_,Th,by rw[G.K];exact Yp⟩
theorem acv:Bi X C .Sub Eg:=⟨_,Xz,Yd⟩
theorem QS:Bi X C .Mult qt:=⟨_,Tf,Yi⟩
theorem acx:Bi X C .Mod Zj:=⟨_,XJ,Yj⟩
theorem V6:Bi X C .Pow Hi:=⟨_,XF,Yh⟩
theorem acw:Bi X C .LShift Hh:=⟨_,XD,Yg⟩
theorem V5:Bi X C .RShift wY:=⟨_,XC,Ye⟩
theorem V8:Bi X C .BitAnd yF:=⟨_,X5,Yo⟩
theorem xX(G:Good X C):Cm X C .Eq qD:=⟨_,X3 G.u60,by rw[G.K];exact abH⟩
theorem Fb(G:Good X C):Cm X C .NotEq zq:=⟨_,XH G.u60,by rw[G.K];exact abC⟩
theorem aeu(G:Good X C):Cm X C .In gIn:=⟨_,XX G.u61,by rw[G.K];exact abF⟩
theorem aet:Cm X C .Is gIs:=⟨_,XQ,abE⟩
theorem aes:Cm X C .Lt gLt:=⟨_,XM,abD⟩
theorem aev:Cm X C .Gt gGt:=⟨_,abz,abG⟩
variable{e:Expr}{es:List Expr}{ea:dG}
theorem len0:∀(env:Env) (ds:List D) (env':Env),aj env = .ok ds env'->ds.length=0:=Lh
theorem bj{a:Ev}{r:dG}{m:Nat}(hr:∀env ds env',r env = .ok ds env'->ds.length=m):∀(env:Env) (ds:List D) (env':Env),aa a r env = .ok ds env'->ds.length=m+1:=Ho hr
theorem iC{r:dG}{m:Nat}(hr:∀env ds env',r env = .ok ds env'->ds.length=m):∀(env:Env) (ds:List D) (env':Env),r env = .ok ds env'->ds.length+1=m+1:=λenv ds env' h=>by rw[hr env ds env' h]
theorem adQ{elt tg iter:Expr}{ifs:List Expr}{scope:Scope}(N':List Str){it:dG}{g:GV}{cc:f9}{ee:Ev}(lo:Nat)(ok:lr X scope N')(G:Good X C)(hi:U5 X C tg iter it)
  (bg:∀X',jr X scope N' X'->U6 X' C lo tg g) (bc:∀X',jr X scope N' X'->LC X' C ifs cc) (be:∀X',jr X scope N' X'->PX X' C elt ee)
  (hs:∀x,foldedSetIterable iter X.env x=pure x:=by intro _;rfl):Rh X C (.ListComp elt [⟨tg,iter,ifs,0⟩] scope pos) (fX lo N'.length it g cc ee):=W8 N' lo ok G.calm hi bg bc be hs
theorem adH{elt tg iter:Expr}{ifs:List Expr}{scope:Scope}(N':List Str){spos py:Pos}{it:dG}{g:GV}{cc:f9}{ee:Ev}(lo:Nat)(i:Nat)(ok:lr X scope N')(G:Good X C)(hi:U5 X C tg iter it)
  (bg:∀X',jr X scope N' X'->U6 X' C lo tg g) (bc:∀X',jr X scope N' X'->LC X' C ifs cc) (be:∀X',jr X scope N' X'->PX X' C elt ee)
  (hnd:lX X.N=true:=by rfl) (hfx:C.fx i=none:=by rfl) (hy:X.N[i]? = some n:=by rfl) (hx:Loc X.env.scope n:=by first|exact Or.inl rfl|exact Or.inr rfl)
  (hsw:swapsWith (.ListComp elt [⟨tg,iter,ifs,0⟩] scope pos) (some (.Name n py)) spos.line X.env=pure true:=by rfl)
  (hf:X.fn n=true\/X.env.scope.names.lookup n=some .local:=by first|exact .inl rfl|exact .inr rfl)
  (hs:∀x,foldedSetIterable iter X.env x=pure x:=by intro _;rfl):U4 X C (.Assign [.Name n py] (.ListComp elt [⟨tg,iter,ifs,0⟩] scope pos) spos) (cZ i (fX lo N'.length it g cc ee)):=Km N' lo ok G.calm hi bg bc be (jA hnd) hy hx hfx hsw hf hs
end
section
variable{P:Program}{w:World}{K:Fg}{mg:Str->Option Value}{base:Heap}{x:Str}{st:Stmt}{N ps:List Str}{k:Nat}{ev:bK}
theorem vA{x:Str}{f:Addr}{cdv:Value}{A:Around}{outer:List PySem.Env}{s:Shared}{H:Hp}{E:XK}{C:Cfg}(hC:C.K=K)(hr:iU k (A.deeper (envOfC x (aO st) s.heap.objs.size f cdv))):Good (bx P w K mg base N x st f cdv A outer s H E) C:=⟨hC.symm,rfl,hr.units⟩
theorem cA(F:dD K mg x st ps)(S:bC N ps (aO st))
  (hb:∀(f:Addr) (cdv:Value) (A:Around) (outer:List PySem.Env) (s:Shared) (H:Hp) (E:XK),iU k (A.deeper (envOfC x (aO st) s.heap.objs.size f cdv))->Good (bx P w K mg base N x st f cdv A outer s H E) (C0 K)->yI (bx P w K mg base N x st f cdv A outer s H E) (C0 K) (eZ st) ev) :
  Own P w K mg base x (k+1) ps (oE K ps.length (bO N.length ev)):=by
 obtain⟨f,fd,h1,h2,h3⟩:=F;exact⟨f,fd,Ex h1 S λcdv A outer s H E hr=>hb f cdv A outer s H E hr (vA rfl hr),h2,h1.kp,h3⟩
theorem Tc(F:dD K mg x st ps)(S:bC N ps (aO st))
  (hb:∀(f:Addr) (cdv:Value) (A:Around) (outer:List PySem.Env) (s:Shared) (H:Hp) (E:XK),iU k (A.deeper (envOfC x (aO st) s.heap.objs.size f cdv))->Good (bx P w K mg base N x st f cdv A outer s H E) (C0 K)->yI (bx P w K mg base N x st f cdv A outer s H E) (C0 K) (eZ st) ev) :
  Own P w K mg base x (k+1) ps (WT K ps.length (runN N.length ev)):=by
 obtain⟨f,fd,h1,h2,h3⟩:=F;exact⟨f,fd,Uq h1 S λcdv A outer s H E hr=>hb f cdv A outer s H E hr (vA rfl hr),h2,h1.kp,h3⟩
theorem ql{y:Str}{qs:List Str}(F:dD K mg x st (y::qs))(S:bC N (y::qs) (aO st))
  (hb:∀(f:Addr) (cdv:Value) (A:Around) (outer:List PySem.Env) (s:Shared) (H:Hp) (E:XK) (a:Addr),iU k (A.deeper (envOfC x (aO st) s.heap.objs.size f cdv))->Good (bx P w K mg base N x st f cdv A outer s H E) (C1 K a)->yI (bx P w K mg base N x st f cdv A outer s H E) (C1 K a) (eZ st) ev) :
  Own P w K mg base x (k+1) (y::qs) (pI K (qs.length+1) (fU N.length ev)):=by
 obtain⟨f,fd,h1,h2,h3⟩:=F;exact⟨f,fd,ZC h1 S λcdv A outer s H E a hr=>hb f cdv A outer s H E a hr (vA rfl hr),h2,h1.kp,h3⟩
theorem ie{sc:Scope}(h1:sc.kind = .function:=by rfl)(h2:sc.isCoroutine=false:=by rfl)(h3:sc.isGenerator=false:=by rfl)(h4:lX N=true:=by rfl)(h5:N.take ps.length=ps:=by rfl)
  (h6:(ps.all λx=>decide (sc.names.lookup x=some .local)||decide (sc.names.lookup x=some .cell))=true:=by rfl) (h7:(sc.names.all λy=>!decide (y.2 = .free))=true:=by rfl):bC N ps sc:=by
 refine⟨h1,h2,h3,jA h4,h5,λx hx=>?_,λy hy z=>?_⟩
 ·have:=Qxw.mp h6 x hx;rw[Bool.or_eq_true] at this;rcases this with z|z
  ·exact .inl (Qx0 z)
  ·exact .inr (Qx0 z)
 ·have:=Qxw.mp h7 y hy;rw[Qww z] at this;exact absurd this (by decide)
end
open PySem PySem.Spec PySem.W PySem.Calls PyProof.Rows L2
theorem uq:∀(ns:List Int) (i:Int),i∈ns->Builtin.Int.intBits i<=WData.weightAll (ns.map WData.int)
 | [],_,h=>by simp at h
 | n::ns,i,h=>by
  rw[Qwx,WData.weightAll];rcases Qq8.mp h with rfl|h
  ·have e:WData.weight (.int i)=Builtin.Int.intBits i:=by rw[WData.weight];rfl
   rw[e];omega
  ·have:=uq ns i h;omega
def HH(ns:List Int):Prop:=∀i∈ns,Builtin.Int.intBits i<=2^20
theorem Bv{l:OpenLaw}{n:Nat}{q:Program}{loose:List Str}{XP:(Str->Option Value)->Heap->Prop}{YP:World->Heap->Prop}{d:DefRec}
  (hn:l.most=some n) (hdf:d.params.defaults=[])
  (call:∀(w:World) (s₀ s₁:Shared) (mg mb:Str->Option Value) (fa:Addr) (o:Obj) (pm cd doc:Value) (a:Addr) (vs:List Value) (ns:List Int),
   Ground q loose [] XP w s₀ mg mb s₁.heap->YP w s₁.heap->
   s₁.heap.get? fa=some o->o.data = .func (docDef d.name d.params d.body d.scope pm cd doc)->s₁.heap.CodeRec cd d.name->mg d.name=some (.ref fa)->
   s₁.heap.get? a=some { cls:=.type "list",data:=.seq vs.toArray }->IntsAre vs ns->ns.length<=n->HH ns->s₁.gens = #[]->
   codeAny (model l.prog w) callerA (.call (.ref fa) ⟨[.ref a],[]⟩) (λr s'=>r = .ok (.ret (.bool true))/\OldK s₁.heap s'.heap/\s'.os=s₁.os/\AllBare s'.gens) s₁) :
  WalkO q loose XP YP l.row.toRowW d [] (λf vs=>PySem.call f vs):=by
 intro w s₀ s₁ mg mb G Y fa o pm cd doc dV kV ho hd hcd hD hmg hg args vals as hpre hlay hrd hwl hlo;obtain rfl:dV = .none:=Dflts.none hD hdf;obtain rfl:kV = .none:=Dflts.noKw hD;obtain⟨a,vs,ns,rfl,rfl,hobj,hints,hlen⟩:=Att.Ke hn hpre hwl;have Jm:HH ns:=λi hi=>by
  have h1:=(layableW_iff.mp (layableW_arg hlay _ (Qq1.mpr rfl))).2.2;rw[WData.weight] at h1;exact Qq3 (uq ns i hi) h1
 refine enter_call (codeAny_mono (call w s₀ s₁ mg mb fa o pm cd doc a vs ns G Y ho (fd_plain hd) hcd hmg hobj hints hlen Jm hg) λr s' hq=>?_);obtain⟨rfl,h2,h3,h4⟩:=hq;exact⟨.inl ⟨.bool true,.bool true,[],rfl,λ_=>rfl,.bool true,Att.Kv l _,λ_=>⟨List.Pairwise.nil,λ_ hm=>(nomatch hm)⟩⟩,h2,h3,h4⟩
theorem aau{l:PySem.W.OpenLaw}{n k:Nat}{q:Program}{loose:List Str}{XP:(Str->Option Value)->Heap->Prop}{YP:World->Heap->Prop}{d:DefRec}{K:Params->PySem.W.Frag}{x:Str}{f:List D->Option D}
  (hn:l.most=some n) (hn2:n<=sizeLine) (hdf:d.params.defaults=[]) (hr:iU k callerA)
  (hY:∀(w:World) (h:Heap),YP w h->(K w.params).In h)
  (hf:∀ns:List Int,ns.length<=n->HH ns->f [.arr (ns.map .int)]=some (.bl true))
  (F:∀(w:World) (mg:Str->Option Value) (fa:Addr) (h:Heap),(K w.params).In h->h.Ns mainGlobals mg->mg d.name=some (.ref fa)->
   ∃fd:FuncData,(∀(s:Shared) (u:Value),BindsTo s fd ⟨[u],[]⟩ [(x,u)])/\
    ∀base:Heap,(K w.params).In base->base.Ns mainGlobals mg->mz l.prog w (K w.params) mg base zO k fa fd [x] (oE (K w.params) 1 f)) :
  PySem.W.WalkO q loose XP YP l.row.toRowW d [] (λf vs=>PySem.call f vs):=by
 refine Bv hn hdf λw s₀ s₁ mg mb fa o pm cd doc a vs ns G Y ho hd hcd hmg hobj hints hlen Jm hg=>?_;have KX:=hY w _ Y;obtain⟨fd,hb,hF⟩:=F w mg fa _ KX G.T.g hmg;refine PN KX G.T.g G.T.b G.T.builtins G.T.nolimit hg hobj hints (Qq3 hlen hn2) hr hF hb (λH hO hS=>?_) λH e s' z=>z;refine⟨H,[.arr (ns.map .int)],.bl true,rfl,aP.refl H,⟨_,_,rfl,⟨by rw[Qqy];exact Qq3 hlen hn2,a,_,rfl,hS,?_⟩,rfl⟩,hf ns hlen Jm,λv H' F' _ _ _ _ p=>p⟩;clear hints hlen Jm hS
 induction ns with
 | nil=>exact rfl
 | cons m ns ih=>exact⟨_,_,rfl,rfl,ih⟩
section
variable{K:Fg}{h:Heap}{mg:Str->Option Value}
theorem funAt{x:Str}{st:Stmt}{ps:List Str}{f:Addr}{oc:Value}{od an:Option Addr}{osl:Array (Option Value)}{kV doc pm cdv ct:Value}(X:K.In h)(G:h.Ns mainGlobals mg)
  (a:PySem.W.nsIn K mainGlobals x=some (some (.ref f))) (l:K.lookup f=some ⟨oc,od,.func (PySem.W.fnOf x x (jm st) (eZ st) (aO st) .none kV doc pm an cdv ct),osl⟩)
  (c:PySem.W.codeIn K cdv x=true) (k:PySem.W.keepIn K (.ref f)=true)
  (b:∀(kV doc pm:Value) (an:Option Addr) (cdv ct:Value) (us:List Value),us.length=ps.length->bindArgs (PySem.W.fnOf x x (jm st) (eZ st) (aO st) .none kV doc pm an cdv ct) ⟨us,[]⟩=pure (ps.zip us)):dD K mg x st ps:=
 ⟨f,_,Hk l c k,PySem.W.mg_of X G a,(Hk (st:=st) l c k).binds b⟩
theorem Ue{x s:Str}{z:List Nat}{t:Tok}(X:K.In h)(G:h.Ns mainGlobals mg)(a:PySem.W.nsIn K mainGlobals x=some (some (.str s t)))(hs:s=strOf z)(hz:z.length<=sizeLine):Glb K mg x (.str z):=
 ⟨.str s,_,PySem.W.mg_of X G a,⟨t,rfl⟩,λF=>⟨by rw[hs],hz⟩⟩
theorem wH{x:Str}(X:K.In h)(G:h.Ns mainGlobals mg)(e:PySem.W.nsIn K mainGlobals x=some none):mg x=none:=PySem.W.mg_none_of X G e
end
open PySem L2
theorem xn{g:GV}{b:bK}(P:Env->Prop):∀(ds:List D),(∀d∈ds,∀env,P env->∃e1 e2,g d env=some e1/\b e1 = .nx e2/\P e2)->∀env,P env->∃e',jw g b ds env = .nx e'/\P e'
 | [],_,env,hp=>⟨env,rfl,hp⟩
 | d::ds,h,env,hp=>by
  obtain⟨e1,e2,h1,h2,h3⟩:=h d (Qqz ..) env hp;obtain⟨e',h4,h5⟩:=xn P ds (λd' hd=>h d' (Qqj _ hd)) e2 h3;refine⟨e',?_,h5⟩;unfold jw;rw[h1];simp only;rw[h2];exact h4
theorem Jr{g:GV}{b:bK}{all:List D}(P:List D->Env->Prop)(h:∀done d rest,all=done++d::rest->∀env,P done env->∃e1 e2,g d env=some e1/\b e1 = .nx e2/\P (done++[d]) e2):∀(ds done:List D),all=done++ds->∀env,P done env->∃e',jw g b ds env = .nx e'/\P all e'
 | [],done,ha,env,hp=>⟨env,rfl,by rw[ha,Qx1];exact hp⟩
 | d::ds,done,ha,env,hp=>by
  obtain⟨e1,e2,h1,h2,h3⟩:=h done d ds ha env hp;obtain⟨e',h4,h5⟩:=Jr P h ds (done++[d]) (by rw[Qwy];exact ha) e2 h3;refine⟨e',?_,h5⟩;unfold jw;rw[h1];simp only;rw[h2];exact h4
theorem j6{g:GV}{b:bK}(all:List D)(P:List D->Env->Prop)(h:∀done d rest,all=done++d::rest->∀env,P done env->∃e1 e2,g d env=some e1/\b e1 = .nx e2/\P (done++[d]) e2)(env:Env)(h0:P [] env):∃e',jw g b all env = .nx e'/\P all e':=Jr P h all [] rfl env h0
theorem az{a b:bK}{env e:Env}(h:a env = .nx e):aA a b env=b e:=by unfold aA;rw[h]
theorem jK{a b:bK}{env e:Env}{o:Bool}{d:D}(h:a env = .rt o d e):aA a b env = .rt o d e:=by unfold aA;rw[h]
theorem gq{it:dG}{g:GV}{b:bK}{env e:Env}{ds:List D}(h:it env = .ok ds e):fQ it g b env=jw g b ds e:=by unfold fQ;rw[h];rfl
theorem bM{a:Ev}{g:GV}{env e e':Env}{d:D}(h:a env = .ok d e)(h':g d e=some e'):aR a g env = .nx e':=by unfold aR;rw[h];show PK (g d e)=_;rw[h'];rfl
theorem gZ{t:f9}{a b:bK}{env e:Env}(h:t env = .ok true e):gk t a b env=a e:=by unfold gk;rw[h];rfl
theorem fK{t:f9}{a b:bK}{env e:Env}(h:t env = .ok false e):gk t a b env=b e:=by unfold gk;rw[h];rfl
theorem bA{a:Ev}{env e:Env}{d:D}(h:a env = .ok d e):bu a env = .rt false d e:=by unfold bu;rw[h];rfl
theorem aD{g:List D->Option D}{a:dG}{env e:Env}{ds:List D}{d:D}(h:a env = .ok ds e)(h':g ds=some d):ao g a env = .ok d e:=by unfold ao;rw[h];show iY (g ds) e=_;rw[h'];rfl
theorem bF{g:D->D->Option D}{a b:Ev}{env e1 e2:Env}{x y d:D}(h1:a env = .ok x e1)(h2:b e1 = .ok y e2)(h3:g x y=some d):aM g a b env = .ok d e2:=by
 unfold aM;rw[h1];show bindR (b e1) _=_;rw[h2];show iY (g x y) e2=_;rw[h3]
 rfl
theorem bQ{g:D->D->Option D}{i:Nat}{b:Ev}{env e2:Env}{x y d:D}{o o':Bool}{x0:D}(h1:env[i]? = some (some (o',x0)))(h2:b env = .ok y e2)(h4:e2[i]? = some (some (o,x)))(h3:g x y=some d):aB g i b env = .ok d e2:=by
 unfold aB;rw[h1];show bindR (b env) _=_;rw[h2];show(match e2[i]? with|some (some (_,x))=>iY (g x y) e2|_=>.stuck)=_;rw[h4];show iY (g x y) e2=_;rw[h3]
 rfl
theorem aH{a:Ev}{r:dG}{env e1 e2:Env}{d:D}{ds:List D}(h1:a env = .ok d e1)(h2:r e1 = .ok ds e2):aa a r env = .ok (d::ds) e2:=by
 unfold aa;rw[h1];show bindR (r e1) _=_;rw[h2]
 rfl
theorem bD{env:Env}:aj env = .ok [] env:=rfl
theorem Er{r:dG}{env e:Env}{ds:List D}(h:r env = .ok ds e)(hz:ds.length<=sizeLine):cu r env = .ok (.lst ds) e:=by unfold cu;rw[h];show(if ds.length<=sizeLine then _ else _)=_;rw[if_pos hz]
theorem di{r:dG}{env e:Env}{ds:List D}(h:r env = .ok ds e)(hz:ds.length<=sizeLine):cj r env = .ok (.tup ds) e:=by unfold cj;rw[h];show(if ds.length<=sizeLine then _ else _)=_;rw[if_pos hz]
theorem gG{f:List D->Option (D×D)}{i:Nat}{a:dG}{env e1:Env}{ds:List D}{x0 x d x':D}(h0:env[i]? = some (some (true,x0)))(h1:a env = .ok ds e1)(h2:e1[i]? = some (some (true,x)))(h3:f (x::ds)=some (d,x')):cQ f i a env = .ok d (e1.set i (some (true,x'))):=by unfold cQ;rw[h0];show bindR (a env) _=_;rw[h1];show(match e1[i]? with|some (some (true,x))=>(match f (x::ds) with|some (d,x')=>R.ok d (e1.set i (some (true,x')))|none=>R.stuck)|_=>R.stuck)=_;rw[h2];show(match f (x::ds) with|some (d,x')=>R.ok d (e1.set i (some (true,x')))|none=>.stuck)=_;rw[h3]
theorem Jp{i j:Int}(h:jG i j=true):qt (.int i) (.int j)=some (.int (i*j)):=by show gI jG (λi j=>D.int (i*j)) (.int i) (.int j)=_;unfold gI;simp only;rw[if_pos h]
theorem Ej{a b:List D}(h:a.length+b.length<=sizeLine):dw (.lst a) (.lst b)=some (.lst (a++b)):=by show(if a.length+b.length<=sizeLine then _ else _)=_;rw[if_pos h]
theorem fC{a:Ev}{env e:Env}{b:Bool}(h:a env = .ok (.bl b) e):gf a env = .ok b e:=by unfold gf;rw[h];rfl
theorem qP{i:Nat}{a:Ev}{env e:Env}{d:D}(h:a env = .ok d e):cZ i a env = .nx (e.set i (some (true,d))):=by unfold cZ;rw[h];rfl
theorem rJ{a:Ev}{env e:Env}{d:D}{ds:List D}(h:a env = .ok d e)(h':itD d=some ds):gV a env = .ok ds e:=by unfold gV;rw[h];show iY (itD d) e=_;rw[h'];rfl
theorem jh{n:Nat}{ev:bK}{x d x':D}{r:List D}{env:Env}(h:ev (xM n x r) = .rt false d env)(h0:env[0]? = some (some (true,x'))):fU n ev (x::r)=some (d,x'):=by unfold fU;simp only;rw[h];simp only;rw[h0]
theorem bV{n:Nat}{ev:bK}{d:D}{ds:List D}{env:Env}(h:ev (envOf n ds) = .rt false d env):bO n ev ds=some d:=by unfold bO;rw[h]
theorem Zr{a b:Ev}{env e:Env}(h:a env = .ok (.bl true) e):Bl a b env = .ok (.bl true) e:=by unfold Bl;rw[h];rfl
theorem Qu{a b:Ev}{env e:Env}(h:a env = .ok (.bl false) e):Bl a b env=b e:=by unfold Bl;rw[h];rfl
theorem Jv{a b:f9}{env e:Env}(h:a env = .ok false e):Ep a b env=b e:=by unfold Ep;rw[h];rfl
theorem rA{g:GV}{e:Ev}(P:Env->Prop)(f:D->D):∀(ds:List D) (env:Env),P env->(∀d∈ds,∀env,P env->∃e1 e2,g d env=some e1/\e e1 = .ok (f d) e2/\P e2)->∃env',BL g dW e ds env = .ok (ds.map f) env'/\P env'
 | [],env,hp,_=>⟨env,rfl,hp⟩
 | d::ds,env,hp,h=>by
  obtain⟨e1,e2,h1,h2,h3⟩:=h d (Qqz ..) env hp;obtain⟨e3,h4,h5⟩:=rA P f ds e2 h3 λd' hd=>h d' (Qqj _ hd);refine⟨e3,?_,h5⟩;unfold BL;rw[h1];show bindR (e e1) _=_;rw[h2];show bindR (BL g dW e ds e2) _=_;rw[h4]
  rfl
theorem lM{lo n:Nat}{it:dG}{g:GV}{c:f9}{e:Ev}{env aK d7:Env}{ds ys:List D}(h1:it env = .ok ds aK)(hl:aK.length=lo)(h2:BL g c e ds (aK++List.replicate (n - lo) none) = .ok ys d7)(hz:ys.length<=sizeLine):fX lo n it g c e env = .ok (.lst ys) (d7.take lo):=by unfold fX;rw[h1];show(if aK.length=lo then _ else _)=_;rw[if_pos hl,h2];show(if ys.length<=sizeLine then _ else _)=_;rw[if_pos hz]
theorem dig(n:Int)(m:Nat)(hm:0<m):∃d:Nat,d<m/\n % (m:Int)=(d:Int):=by have h1:0<=n % (m:Int):=Int.emod_nonneg n (by omega);have h2:n % (m:Int)<m:=Int.emod_lt_of_pos n (by omega);exact⟨(n % (m:Int)).toNat,by omega,by omega⟩
theorem Bw{α:Type}{xs:List α}{d:Nat}(h:d<xs.length):qF xs (d:Int)=some xs[d]:=nR (Qq2 h)
def okN:Nat->D->Bool
 | 0,_=>false
 | n+1,.tup xs=>xs.all (okN n)
 | n+1,.lst xs=>xs.all (okN n)
 | _+1,.dct _=>false
 | _+1,.iQ _=>false
 | _+1,.clo _ _=>false
 | _+1,.arr _=>false
 | _+1,_=>true
theorem xK{f:D->D->Option Bool}:∀(xs:List D),(∀x∈xs,f x x=some true)->su f xs xs=some true
 | [],_=>rfl
 | x::r,h=>by
  unfold su;rw[h x (Qqz ..),xK r λy hy=>h y (Qqj _ hy)]
  rfl
theorem xH:∀(n:Nat) (d:D),okN n d=true->aX n d d=some true
 | 0,_,h=>by cases h
 | n+1,d,h=>by
  cases d with
  | tup xs=>exact xK xs λx hx=>xH n x (Qxw.mp h x hx)
  | lst xs=>exact xK xs λx hx=>xH n x (Qxw.mp h x hx)
  | dct _=>cases h
  | iQ _=>cases h
  | clo _ _=>cases h
  | arr _=>cases h
  | non=>rfl
  | bl b=>show some (b == b)=_;simp
  | int i=>show some (i == i)=_;simp
  | str x=>show some (x == x)=_;simp
end Ev
namespace L2
open PySem PySem.Spec PyProof.Rows
section
variable{X:Cx}{pins:List (Addr×Obj)}{σ:St}{H:Hp}{s:Shared}{h':Heap}
theorem Inv.drawn{t':Nat}{ch:List Addr}{T:Addr}{o:HO}(I:Inv X pins σ H s)(hch:∀b∈ch,qC X pins H b)(k:∀b u,b ∉ ch->s.heap.get? b=some u->h'.get? b=some u)(hT:s.heap.objs.size<=T)
  (new:fY X.prog X.w (upd H T o) h' T o):Inv X pins σ (upd H T o) { s with heap:=h',toks:=t' }:=by
 have nT:H T=none:=I.hok.fresh hT;have VG:∀b u,H b=some u->b ∉ ch:=λb u e z=>by rw[(hch b z).1] at e;cases e
 have up:∀b u,H b=some u->upd H T o b=some u:=λb u e=>by rw[bw (dU e nT)];exact e
 refine I.step (g':=s.gens) (d':=s.drawn) (ch:=ch) (λb hb=>?_) (λb u _ _ hc e _=>k b u hc e) (λb u _ _ hc e _=>⟨u.slots,k b u hc e⟩) (λb u hc e n=>?_)
  (λb u hc e=>⟨u,k b u hc e⟩) (λb xs e=>up b _ e) (λb u v e=>up b _ e) (λb ps e=>⟨#[],by rw[up b _ e];simp⟩) (λm hm=>?_) (λb u e=>?_) I.bare (λb qs e=>up b _ e)
 ·obtain⟨h0,h1,h2,h3,h4,h5⟩:=hch b hb;exact⟨h3,h1,h4,h5⟩
 ·have hb:b≠T:=λz=>by
   subst z;exact absurd (Qwq e) (Nat.not_lt.mpr hT)
  rw[bw hb];exact n
 ·obtain⟨u,es,ep,ho,r⟩:=hm;have hL:X.env.locals ∉ ch:=λz=>(hch _ z).2.1 rfl;exact⟨u,es,ep,k _ u hL ho,r⟩
 ·by_cases hb:b=T
  ·subst hb;rw[aQ] at e;cases e;exact new
  ·rw[bw hb] at e;refine(I.hok b u e).stay (λc v hc q=>k c v ?_ q) (λc q=>up _ _ q) (λc xs q=>up _ _ q) λc _ _ _ _ q=>up _ _ q;rcases hc with z|z
   ·rw[z];exact VG b u e
   ·exact VG c _ z
theorem Inv.HW{t':Nat}{ch:List Addr}(I:Inv X pins σ H s)(hch:∀b∈ch,qC X pins H b)(k:∀b u,b ∉ ch->s.heap.get? b=some u->h'.get? b=some u):Inv X pins σ H { s with heap:=h',toks:=t' }:=by
 have VG:∀b u,H b=some u->b ∉ ch:=λb u e z=>by rw[(hch b z).1] at e;cases e
 refine I.step (g':=s.gens) (d':=s.drawn) (ch:=ch) (λb hb=>?_) (λb u _ _ hc e _=>k b u hc e) (λb u _ _ hc e _=>⟨u.slots,k b u hc e⟩) (λb u hc e n=>n)
  (λb u hc e=>⟨u,k b u hc e⟩) (λb xs e=>e) (λb u v e=>e) (λb ps e=>⟨#[],by rw[e];simp⟩) (λm hm=>?_) (λb u e=>?_) I.bare
 ·obtain⟨h0,h1,h2,h3,h4,h5⟩:=hch b hb;exact⟨h3,h1,h4,h5⟩
 ·obtain⟨u,es,ep,ho,r⟩:=hm;have hL:X.env.locals ∉ ch:=λz=>(hch _ z).2.1 rfl;exact⟨u,es,ep,k _ u hL ho,r⟩
 ·refine(I.hok b u e).stay (λc v hc q=>k c v ?_ q) (λ_ q=>q) λ_ _ q=>q;rcases hc with z|z
  ·rw[z];exact VG b u e
  ·exact VG c _ z
end
def Ite(z:Str):It:=⟨λi _=>i<z.cps.size,λi H x H'=>∃p c,z.cps[i]? = some c/\H p=none/\H'=upd H p (.tup [.int i,.str ⟨#[c]⟩])/\x = .ref p,λi _=>i=z.cps.size⟩
theorem yO{P:Program}{w:World}{K:PySem.W.Frag}{elts:List Expr}{k:Nat}{pos:Pos}(e it:Addr)(z:Str)(t:Tok)(ty:String)(hei:e≠it)
  (D:∀A:Around,A.handled=none->Draws P w A it [it] z.cps.size (λi v=>∃c u,z.cps[i]? = some c/\v = .str ⟨#[c]⟩ u) (λi h=>h.IsStrIter it ty z t i)) :
  Turn P w K (.Tuple elts k pos) (Ite z) [e,it] e (λi h=>(∃old,IsEnum h e it i old)/\h.IsStrIter it ty z t i) where
 mem:=by simp
 obj:=λi h st b hb=>by
  obtain⟨⟨old,he⟩,o,ho,hc,hd⟩:=st;rcases Qq8.mp hb with rfl|hb
  ·exact⟨_,he,λv z=>by cases z⟩
  ·rw[Qq1.mp hb];exact⟨o,ho,λv z=>by rw[hd] at z;cases z⟩
 keep:=λi h h' st kk=>by
  obtain⟨⟨old,he⟩,o,ho,r⟩:=st;exact⟨⟨old,kk e (by simp) _ he⟩,o,kk it (by simp) o ho,r⟩
 item:=by
  intro X hP hw hK hc i pins s σ H E I hf st hg;subst hP hw hK;obtain⟨⟨old,he⟩,hit⟩:=st;refine wpAny_pyNext_enum_itemD (A:=X.A) (D X.A.in1 (I.ok.hd hc)) he hit hg hei (by simp[hei]) λx h' tk hv ho hSt aea hsz hk=>?_;obtain⟨c,u,hcz,rfl⟩:=hv;have hT:s.heap.objs.size<=s.heap.objs.size:=Qq0 _;have helt:e<s.heap.objs.size:=Qwq he;have hilt:it<s.heap.objs.size:=by obtain⟨_,x,_⟩:=hit;exact Qwq x
  have nT:H s.heap.objs.size=none:=I.hok.fresh hT;refine⟨_,rfl,?_⟩;refine wpAny_letOwnedTupleGo_enum (s:={ s with heap:=h',toks:=tk+1 }) ho λh'' ad7 hs''=>?_;have pM:∀b o,b≠e->h'.get? b=some o->h''.get? b=some o:=λb o hb q=>(hs''.2 b hb).trans q;have hnT:s.heap.objs.size ∉ [e,it]:=λhb=>by
   rcases Qq8.mp hb with z|hb
   ·exact Qjv helt z
   ·exact Qjv hilt (Qq1.mp hb)
  refine⟨.ref s.heap.objs.size,upd H s.heap.objs.size (.tup [.int i,.str ⟨#[c]⟩]),I.drawn (t':=tk+1) (ch:=[e,it]) hf (λb o hb q=>pM b o (λz=>hb (by simp[z])) (hk b o (λz=>hb (by simp[z])) (λz=>hb (by simp[z])) q)) hT ?_,rfl,⟨_,c,hcz,nT,rfl,rfl⟩,⟨⟨_,by simpa using ad7⟩,?_⟩,λb hb=>?_⟩
  ·exact⟨by show 2<=sizeLine;decide,[.int i tk,.str ⟨#[c]⟩ u],.cons ⟨_,rfl⟩ (.cons ⟨_,rfl⟩ .nil),_,pM _ _ (Qjv helt) aea,rfl,⟨_,rfl⟩,rfl⟩
  ·obtain⟨o,q,r⟩:=hSt;exact⟨o,pM it o hei.symm q,r⟩
  ·have hne:b≠s.heap.objs.size:=λz=>by
    subst z;exact hnT hb
   rw[bw hne];exact(hf b hb).1
 done:=by intro X hP hw hK hc i pins s σ H E I hf st hg;subst hP hw hK;have W:=WalksT.enumerateD (A:=X.A) (D X.A.in1 (I.ok.hd hc)) e hei (by simp[hei]) (by simp);have hg':i=z.cps.size:=hg;subst hg';exact W.done s _ _ st λh' tk hk=>⟨rfl,I.HW (t':=tk) (ch:=[e,it]) hf λb o hb e=>hk b o hb e⟩
 self:=λA i s Q E st h=>by
  obtain⟨⟨old,he⟩,_⟩:=st;exact wpAny_pyIter_enum he h
section
variable{X:Cx}{tg:Expr}
def ab0(ta:TA):TI:=λσ H R=>ta σ H λvs H1=>∃z,vs=[.str z]/\R (Ite z) H1
theorem SJ{elts:List Expr}{k:Nat}{tp:Pos}{a:Expr}{ta:TA}{p pos:Pos}(hg:Gl X "enumerate")(hm:X.mg "enumerate" = none)(ha:PA X [a] ta)(hs:starEach [a] X.env=[(false,eval a X.env)]:=by rfl):PI X (.Tuple elts k tp) (.Call (.Name "enumerate" p) [a] [] pos) (ab0 ta):=by
 intro pins s σ H R I h;refine Call_ (tR I hg hm PyProof.Rows.boot_enumerate (Qz2 (fP (ha pos pins s σ H _ I h) λus s1 ⟨vs,H1,I1,r1,q1⟩=>?_) hs rfl));obtain⟨z,e,q⟩:=q1;subst e;cases r1 with
 | cons r rr=>
  cases rr;obtain⟨t,rfl⟩:=r;refine call_enumerate_str λh' he hit hsz hk=>?_;refine wpAny_pyIter_enum he ?_;have I2:Inv X pins σ H1 { s1 with heap:=h' }:=I1.kept (t':=s1.toks) hk;have own:∀b ∈ [s1.heap.objs.size+1,s1.heap.objs.size],qC X pins H1 b:=λb hb=>by
   rcases Qq8.mp hb with rfl|hb
   ·exact I1.Qq (Nat.le_succ _) (I1.hok.fresh (Nat.le_succ _))
   ·rw[Qq1.mp hb];exact I1.Qq (Qq0 _) (I1.hok.fresh (Qq0 _))
  cases hz:z.cps.all (·< 128)
  ·have hit':h'.IsStrIter s1.heap.objs.size "str_iterator" z t 0:=by simpa[strIterType,hz] using hit
   exact⟨s1.heap.objs.size+1,[s1.heap.objs.size+1,s1.heap.objs.size],_,_,H1,rfl,I2,yO _ _ z t "str_iterator" (Nat.succ_ne_self _) (λA hA=>Draws.strWide hA _ z t),⟨⟨_,he⟩,hit'⟩,own,q⟩
  ·have hit':h'.IsStrIter s1.heap.objs.size "str_ascii_iterator" z t 0:=by simpa[strIterType,hz] using hit
   exact⟨s1.heap.objs.size+1,[s1.heap.objs.size+1,s1.heap.objs.size],_,_,H1,rfl,I2,yO _ _ z t "str_ascii_iterator" (Nat.succ_ne_self _) (λA hA=>Draws.strAscii hA _ z t),⟨⟨_,he⟩,hit'⟩,own,q⟩
end
open PySem PySem.Spec PyProof.Rows PySem.Builtin PySem.Builtin.Str
section
variable{X:Cx}{pins:List (Addr×Obj)}{σ:St}{H:Hp}{s:Shared}{a:Addr}{xs:List V}
theorem Inv.Wv(I:Inv X pins σ H s)(h:j8 X.K H a xs):∃its:List Value,Vals xs its/\yH s.heap a its.toArray:=by
 rcases h with h|⟨o,its,n,hk,hc,hdn,hs,hz,r⟩
 ·obtain⟨z,its,r,p⟩:=h.ok I.hok;exact⟨its,r,p⟩
 ·exact⟨its.toList,r,⟨o,I.YT a o hk,hc,⟨n,by simpa using hs⟩,hdn⟩⟩
end
section
variable{X:Cx}{o e:Expr}{to te:TE}{name:Str}{apos cpos:Pos}{id:String}{r:V->List V->Hp->VK->Prop}{t:TA}
def adu(te ts:TE):TE:=λσ H Q=>te σ H λx H1=>ts σ H1 λy H2=>∃z,x = .str z/\z.length<=sizeLine/\y = .int (-1)/\Q (.str ⟨z.cps.toList.reverse.toArray⟩) H2
theorem Gy(z:Str)(u:Tok):(⟨((slicePicked z none none (some (-1,u))).filterMap (z.cps[·]?)).toArray⟩:Str)=⟨z.cps.toList.reverse.toArray⟩:=by
 have h:=PyProof.Rows.step_rev_list z u;unfold Txt.sliceBy at h;have h1:¬(((((some ((-1:Int),u)).map (·.1)).getD 1 == 1)&&((slicePicked z none none (some (-1,u))).length == z.length))=true):=by have:((((some ((-1:Int),u)).map (·.1)).getD 1 == 1))=false:=rfl;rw[this];simp
 rw[if_neg h1] at h;have h2:((slicePicked z none none (some (-1,u))).filterMap (z.cps[·]?))=z.cps.toList.reverse:=by
  have h3:((slicePicked z none none (some (-1,u))).filterMap (z.cps[·]?))=(List.range z.length).map λk=>z.cps.getD (z.length - 1 - k) 0:=by simpa using h
  rw[h3];apply List.ext_getElem
  ·simp[Str.length]
  ·intro i h4 h5;have hi:i<z.cps.size:=by simpa[Str.length] using h4
   simp[Str.length,Array.getD,List.getElem_reverse];rw[dif_pos (by omega)]
 rw[h2]
theorem Xu{st:Expr}{ts:TE}{p2 pos:Pos}(he:PE X e te)(hst:PE X st ts):PE X (.Subscript e (.Slice none none (some st) p2) pos) (adu te ts):=by
 intro pins s σ H Q I h;refine Subscript_ (fP (he pins s σ H _ I h) λv s1 ⟨x,H1,I1,r1,q1⟩=>?_);refine wpAny_Slice ?_;rw[evalPart_none,evalPart_some];refine Qq6 (Qq6 (fP (hst pins s1 σ H1 _ I1 q1) λw s2 ⟨y,H2,I2,r2,q2⟩=>?_));obtain⟨z,ex,hz,ey,q⟩:=q2;subst ex;subst ey;obtain⟨t,rfl⟩:=r1;obtain⟨t',rfl⟩:=r2;have I4:Inv X pins σ H2 { s2 with heap:=s2.heap.push { cls:=.type "slice",data:=.fields #[.none,.none,.int (-1) t'] } }:=I2.kept (t':=s2.toks) λb ob q=>Qqw _ q;show wpAny (model X.prog X.w) X.A (subscriptTail e (.Slice none none (some st) p2) (.str z t) (.ref s2.heap.objs.size)) (EP X pins σ Q) X.xe { s2 with heap:=s2.heap.push { cls:=.type "slice",data:=.fields #[.none,.none,.int (-1) t'] } };refine tail_any (ops:=[.ref s2.heap.objs.size,.str z t]) (typeIs_str _ z t) PySem.F.slot_str_getitem.lookup ?_ (by with_unfolding_all rfl);refine wpAny_getItem_str_slice (l:=none) (u:=none) (st:=some (-1,t')) ⟨_,Qw1 _ rfl,rfl,rfl⟩ rfl ?_;unfold sliceMade;have h1:¬(((((some ((-1:Int),t')).map (·.1)).getD 1 == 1)&&((slicePicked z none none (some (-1,t'))).length == z.length))=true):=by have:((((some ((-1:Int),t')).map (·.1)).getD 1 == 1))=false:=rfl;rw[this];simp
 rw[if_neg h1,Gy];refine⟨?_,⟨.str ⟨z.cps.toList.reverse.toArray⟩,H2,I4.tok _,⟨_,rfl⟩,q⟩⟩;show z.cps.toList.reverse.toArray.size<=sizeLine
 simpa[Str.length] using hz
end
end L2
namespace Ev
open PySem PySem.Spec PyProof.Rows L2 PySem.Builtin
section
variable{X:Cx}{C:Cfg}{pos:Pos}{e x y:Expr}{a b:Ev}
def Hj:D->Option D
 | .int i=>some (.int (-i))
 | _=>none
theorem Ws:UnD C (rU λi=>.int (-i)) Hj:=by
 intro Pr F env σ H x d vx Q r px e q;cases x with
 | int i=>cases e;exact⟨i,px.int,q _ H F r (aP.refl F) rfl⟩
 | _=>cases e
def aej:D->Option D
 | .str z=>some (.str z.reverse)
 | _=>none
def mQ(a:Ev):Ev:=λenv=>bindR (a env) λd aK=>iY (aej d) aK
def uC(x:List Nat):List D:=x.zipIdx.map λp=>.tup [.int (p.2:Nat),.str [p.1]]
def Hn(a:dG):dG:=λenv=>bindR (a env) λds aK=>match ds with
 | [.str x]=>.ok (uC x) aK
 | _=>.stuck
end
theorem K4{prog:Program}{w:World}{A:Around}{E:Value->Shared->Prop}{s:Shared}{a:Addr}{o:Obj}{xs:Array Value}{k:Nat}{Q:Option Value->Shared->Prop}
  (hx:s.heap.get? a=some o) (hc:o.cls = .type "tuple") (hdat:o.data = .seq xs k) (hd:o.dict=none) (hA:A.handled=none)
  (h:∀h' tk,(∀b u,s.heap.get? b=some u->h'.get? b=some u)->Q none { s with heap:=h',toks:=tk }):wpAny (model prog w) A (getAttr? (.ref a) "keys") Q E s:=by
 obtain⟨hp,g,d,tk,os⟩:=s;obtain⟨oc,od,dt,sl⟩:=o;cases hc;cases hdat;cases hd;have hT:∀tk',(⟨hp,g,d,tk',os⟩:Shared).TypeIs (.ref a) "tuple":=λ_=>⟨_,hx,rfl⟩;have f1:=sub_AttributeError;have f3:=F.slot_tuple_getattribute.lookup;have f4:=F.slot_tuple_getattribute.bind (.ref a);have f5:=am_tuple_getattr_none;have hmiss:typeLookup (.type "tuple") "keys" = pure none:=by rw[typeLookup_type,builtinLookup_eq_fast];kernel_rfl
 unfold getAttr? getAttrBy? getAttrBy
 repeat (any_goals (first|assumption|exact hT _|((with_reducible show wpAny _ _ (call (Value.builtin "tuple.__getattribute__") _ _) _ _ _);refine call_meets F.slot_tuple_getattribute (hT _) am_entry_tuple_getattribute (F.args_tuple_getattribute_2 _ _) (meets_getattribute_miss_tuple a xs k sl "keys" _ hmiss (by decide +kernel) (by decide +kernel)) ⟨hx,hA,λh' tk' e hx'=>?_⟩)|wp_step))
 obtain⟨t',u',he⟩:=hx'.there;show wpAny _ _ (getattributeRaised _ _ _ _ _ _ _) _ _ _;unfold getattributeRaised
 repeat (any_goals (first|assumption|wp_step))
 exact h _ _ hx'.keeps
structure Pr where
 p:Addr
 k:Key
 kv:Value
 v:Value
def Q6(h:Heap)(r:Pr):Prop:=h.IsTuple r.p #[r.kv,r.v]/\wR r.k r.kv=true
theorem Q6.keep{h h':Heap}{r:Pr}{c d:Addr}(x:Q6 h r)(n1:r.p≠c)(n2:r.p≠d)(k:∀b o,b≠c->b≠d->h.get? b=some o->h'.get? b=some o):Q6 h' r:=
 let ⟨⟨o,ho,q⟩,y⟩:=x;⟨⟨o,k _ o n1 n2 ho,q⟩,y⟩
def putAll(kvs:List (Key×Value))(rs:List Pr):List (Key×Value):=rs.foldl (λacc r=>stored acc r.k r.v) kvs
theorem ji:plainId "dict.update.loop" = true:=by decide +kernel
theorem o7:entryFor table "dict.update.loop" = some Builtin.«dict.update.loop»:=entryFor_of_tree (by kernel_rfl)
theorem BZ{prog:Program}{w:World}{d it a:Addr}{its:List Value}(hdi:d≠it)(hda:d≠a)(hia:it≠a):∀(rs:List Pr) (i:Nat) (kvs:List (Key×Value)) (A:Around) (R:Result->Shared->Prop) (s:Shared),
  A.handled=none->its.drop i=rs.map (λr=>Value.ref r.p)->s.heap.IsTuple a its.toArray->s.heap.IsTupleIter it a i->s.heap.DictOf (dh prog w) d kvs->(∀r∈rs,Q6 s.heap r/\r.p≠d/\r.p≠it)->kvs.length+rs.length<=sizeLine->
  (∀h' tk,h'.DictOf (dh prog w) d (putAll kvs rs)->(∀b o,b≠d->b≠it->s.heap.get? b=some o->h'.get? b=some o)->R (.ok (.ret .none)) { s with heap:=h',toks:=tk })->
  wpAny (model prog w) A.in1 (Builtin.«dict.update.loop» ⟨[.ref d,.ref it,rawInt i,.none],[]⟩) (λfin s'=>match fin with|.done f=>R (.ok f) s'|.again c'=>c'.quiet=true/\codeAny (model prog w) A c' R s') (λe s'=>R (.error e) s') s
 | [],i,kvs,A,R,s,hh,hdr,ht,hit,hD,_,_,h=>by
  unfold Builtin.«dict.update.loop»;have hx:its.toArray[i]? = none:=by
   have:its.length<=i:=by have:=Qw8 List.length hdr;rw[Qxj] at this;simp at this;omega
   simp;omega
  refine Qqx (wpAny_pyNext_tuple_end hh hit ht hx λh' hex=>?_);show wpAny _ _ (Builtin.Dict.addKeywords d [] >>= _) _ _ _;refine Qqx (Qq6 (Qq6 ?_));exact h h' s.toks (hD.extBut hex hdi) λb o _ h2 e=>hex b o h2 e
 | r::rs,i,kvs,A,R,s,hh,hdr,ht,hit,hD,hrs,hz,h=>by
  unfold Builtin.«dict.update.loop»;obtain⟨⟨hpt,hkey⟩,n1,n2⟩:=hrs r (Qqz ..);have hlt:i<its.length:=by have:=Qw8 List.length hdr;rw[Qxj,Qwx,Qqv] at this;omega
  have hx0:its[i]? = some (.ref r.p):=by
   have:=Qw8 (λl=>l[0]?) hdr
   simpa using this
  have hx:its.toArray[i]? = some (.ref r.p):=by simpa using hx0
  have ad8:its.drop (i+1)=rs.map (λr=>Value.ref r.p):=by
   have:=Qw8 List.tail hdr;rw[List.tail_drop] at this
   simpa using this
  refine Qqx (wpAny_pyNext_tuple_item hit ht hx λh' hit' hs'=>?_);have k1:∀b o,b≠it->s.heap.get? b=some o->h'.get? b=some o:=λb o hb e=>(hs'.2 b hb).trans e;obtain⟨op,hop,hcp,np,hdp⟩:=hpt;have hop':h'.get? r.p=some op:=k1 _ _ n2 hop;dsimp only;refine Qqx (Qjq (Qqx (wpAny_tryCatch ?_)));unfold Builtin.Dict.pairItems;refine Qqx (wpAny_typeOf (T:="tuple") ⟨op,hop',hcp⟩ ?_);rw[if_pos (by decide)];unfold seqItems?;refine Qqx (Qqx (wpAny_load hop' ?_));rw[hdp];refine Qq6 (Qq6 ?_);show wpAny _ _ (holding [r.kv,r.v] (dictSet d r.kv r.v)) _ _ _;have hzk:kvs.length<=sizeLine:=by rw[Qqv] at hz;omega
  refine Qjq (wpAny_dictSet_pairs (knd:=dh prog w) (kvs:=kvs) (k:=r.k) (hsz:=hzk) hkey (hD.sameBut hs' hdi) λh'' aee hs''=>?_);have k2:∀b o,b≠d->b≠it->s.heap.get? b=some o->h''.get? b=some o:=λb o hb1 hb2 e=>(hs''.2 b hb1).trans (k1 b o hb2 e);have hc:((i:Int)+1)=((i+1:Nat):Int):=by push_cast;rfl
  rw[hc];refine Qq6 ⟨plainId_quiet ji _,codeAny_builtin o7 ?_⟩;rw[Around.under_plainId ji _];have hln:(stored kvs r.k r.v).length<=kvs.length+1:=by have:=stored_length_le kvs r.k r.v;exact this
  refine BZ hdi hda hia rs (i+1) (stored kvs r.k r.v) A R _ hh ad8 ?_ ?_ aee (λq hq=>?_) (by rw[Qqv] at hz;omega) λh3 tk hD3 k3=>?_
  ·obtain⟨o,ho,q⟩:=ht;exact⟨o,k2 a o hda.symm hia.symm ho,q⟩
  ·obtain⟨o,ho,q⟩:=hit';exact⟨o,(hs''.2 it hdi.symm).trans ho,q⟩
  ·obtain⟨p1,p2,p3⟩:=hrs q (Qqj _ hq);exact⟨p1.keep p2 p3 k2,p2,p3⟩
  ·exact h h3 tk hD3 λb o hb1 hb2 e=>k3 b o hb1 hb2 (k2 b o hb1 hb2 e)
section
variable{X:Cx}{C:Cfg}{pos:Pos}
abbrev Pv:=Addr×Key×V
def lE(kvs:List (Key×V))(rs:List Pv):List (Key×V):=rs.foldl (λacc r=>putK acc r.2.1 r.2.2) kvs
def Nx(K:Fg):List V->Hp->VK->Prop:=λxs H Q=>∃(a:Addr) (rs:List Pv),xs=[.ref a]/\j8 K H a (rs.map λr=>V.ref r.1)/\(∀r∈rs,j8 K H r.1 [kV r.2.1,r.2.2])/\rs.length<=sizeLine/\∀l,H l=none->Q (.ref l) (upd H l (.dK (lE [] rs)))
theorem Dl{pins:List (Addr×Obj)}{σ:L2.St}{H:Hp}{s:Shared}(I:L2.Inv X pins σ H s):∀(rs:List Pv) (us:List Value),Vals (rs.map λr=>V.ref r.1) us->(∀r∈rs,j8 X.K H r.1 [kV r.2.1,r.2.2])->∃ps:List Pr,us=ps.map (λr=>Value.ref r.p)/\(∀r∈ps,Q6 s.heap r)/\Paired (λ(r:Pv) (q:Pr)=>r.2.1=q.k/\RelV r.2.2 q.v) rs ps
 | [],us,h,_=>by cases h;exact⟨[],rfl,λr hr=>by simp at hr,.nil⟩
 | r::rs,us,h,hp=>by
  cases h with
  | cons h1 h2=>
   cases h1;obtain⟨ps,rfl,q1,q2⟩:=Dl I rs _ h2 λr' hr=>hp r' (Qqj _ hr);obtain⟨its,rv,ht,_⟩:=I.tuple (hp r (Qqz ..));obtain⟨u1,u2,rfl,r1,r2⟩:=rv.two;refine⟨⟨r.1,r.2.1,u1,u2⟩::ps,rfl,λq hq=>?_,.cons ⟨rfl,r2⟩ q2⟩;rcases Qq8.mp hq with rfl|hq
   ·exact⟨ht,wU (P:=X.prog) (w:=X.w) r1⟩
   ·exact q1 q hq
theorem yX:∀{rs:List Pv} {ps:List Pr} {kvs:List (Key×V)} {vs:List (Key×Value)},Paired (λ(r:Pv) (q:Pr)=>r.2.1=q.k/\RelV r.2.2 q.v) rs ps->KV kvs vs->KV (lE kvs rs) (putAll vs ps)
 | _,_,_,_,.nil,h=>h
 | _,_,kvs,vs,.cons (a:=r) (b:=q) ⟨h1,h2⟩ hr,h=>by
  show KV (lE (putK kvs r.2.1 r.2.2) _) (putAll (stored vs q.k q.v) _);refine yX hr ?_;rw[h1];exact h.put q.k h2
theorem uv:∀(rs:List Pv) (kvs:List (Key×V)),(lE kvs rs).length<=kvs.length+rs.length
 | [],kvs=>Qq0 _
 | r::rs,kvs=>by
  have h1:=uv rs (putK kvs r.2.1 r.2.2);have h2:=lF kvs r.2.1 r.2.2;show(lE (putK kvs r.2.1 r.2.2) rs).length<=_;rw[Qqv];omega
theorem Ly(hc:X.calm=true):jt X (.type "dict") (Nx X.K):=by
 intro pins s σ H xs us Q I r h;obtain⟨a,rs,rfl,hq,hp,hz,q⟩:=h;obtain⟨u,rfl,rx⟩:=vals1 r;cases rx;obtain⟨its,rv,ob,h1,h2,⟨n,h3⟩,h4⟩:=I.Wv hq;obtain⟨ps,rfl,hps,hpr⟩:=Dl I rs its rv hp;have hA:=I.ok.hd hc;have hlt:a<s.heap.objs.size:=Qwq h1;refine callType_codes (Q₁:=λobj s₁=>obj = .ref s.heap.objs.size/\s₁ = { s with heap:=s.heap.push { cls:=.type "dict",data:=.dict #[] } }) F.kt_called_dict (F.kt_typeCall_dict_1 _) F.entry_dict_init (kt_code_dict_new _ ⟨rfl,rfl⟩) ?_;rintro obj s₁ ⟨rfl,rfl⟩;have hnew:(s.heap.push { cls:=.type "dict",data:=.dict #[] }).DictOf (dh X.prog X.w) s.heap.objs.size []:=Heap.DictOf.new s.heap;have k0:∀b o,s.heap.get? b=some o->(s.heap.push { cls:=.type "dict",data:=.dict #[] }).get? b=some o:=λb o e=>Qqw _ e;refine⟨hnew.typeIs,F.args_dict_init_2 _ _,?_⟩;unfold Builtin.«dict.__init__»;refine Qqx ?_;unfold Builtin.Dict.selfAndRest;refine Qqx (wpAny_notOrdered_dict hnew.typeIs ?_);show wpAny _ _ (pure (s.heap.objs.size,[Value.ref a])) _ _ _;refine Qq6 ?_;show wpAny _ _ (Builtin.Dict.updateFrom "dict.__init__" s.heap.objs.size (.ref a) [] .none) _ _ _;unfold Builtin.Dict.updateFrom;refine Qqx (wpAny_typeOf (T:="tuple") ⟨ob,k0 _ _ h1,h2⟩ ?_);rw[if_pos (by decide)];refine Qqx (K4 (k0 _ _ h1) h2 h3 h4 hA λh' tk hk=>?_);simp only[Option.isNone_none,if_true];refine Qqx (Qkj (Qqx ?_));have hT:h'.IsTuple a (ps.map λr=>Value.ref r.p).toArray:=⟨ob,hk _ _ (k0 _ _ h1),h2,n,h3⟩;refine wpAny_pyIter_tuple hT ?_;refine Qq6 ⟨plainId_quiet ji _,codeAny_builtin o7 ?_⟩;rw[Around.under_plainId ji _];have hD0:h'.DictOf (dh X.prog X.w) s.heap.objs.size []:=hnew.keep hk;have Zc:s.heap.objs.size<h'.objs.size:=by obtain⟨o,_,_,ho,_⟩:=hD0;exact Qwq ho
 have halt:a<h'.objs.size:=Qwq (hk _ _ (k0 _ _ h1));have hda:s.heap.objs.size≠a:=Qjv hlt;refine BZ (Qw9 Zc) hda (Qjv halt) ps 0 [] X.A.in1 _ _ hA rfl ?_ ⟨_,Qw1 _ rfl,rfl,rfl⟩ (hD0.push _) (λq hq=>?_) ?_ λh3 tk' hD3 k3=>?_
 ·obtain⟨o,ho,r⟩:=hT;exact⟨o,Qqw _ ho,r⟩
 ·obtain⟨⟨o,ho,r⟩,y⟩:=hps q hq;have ab3:q.p<s.heap.objs.size:=Qwq ho;refine⟨⟨⟨o,Qqw _ (hk _ _ (k0 _ _ ho)),r⟩,y⟩,Qw9 ab3,Qw9 (Nat.lt_trans ab3 Zc)⟩
 ·rw[<-Paired.length hpr]
  simpa using hz
 ·refine⟨rfl,?_⟩;have kk:∀b u,s.heap.get? b=some u->h3.get? b=some u:=λb u e=>by
   have hb:b<s.heap.objs.size:=Qwq e;exact k3 b u (Qw9 hb) (Qw9 (Nat.lt_trans hb Zc)) (Qqw _ (hk _ _ (k0 _ _ e)))
  have hsys:(s.heap.objs.size == sysModules)=false:=by rw[Qz0];exact Qjv I.big
  refine⟨.ref s.heap.objs.size,upd H s.heap.objs.size (.dK (lE [] rs)),I.laid (t':=tk') kk (Qq0 _) ⟨?_,hsys,_,yX hpr .nil,hD3⟩,rfl,q _ (I.hok.fresh (Qq0 _))⟩;have:=uv rs [];exact Qq3 this (by simpa using hz)
def Ji:D->Option (D×D)
 | .tup [k,v]=>(mL k).map λ_=>(k,v)
 | _=>none
def ni:List D->Option (List (D×D))
 | []=>some []
 | d::ds=>match Ji d,ni ds with
  | some p,some r=>some (p::r)
  | _,_=>none
def jF(kvs : List (D × D)) : List (D × D) → List (D × D)
  | [] => kvs
  | (k, v) :: r => (match mL k with
    | some q => jF (putD kvs k q v) r
    | none => jF kvs r)
def pN:List D->Option D
 | [.tup ds]=>(ni ds).map λps=>.dct (jF [] ps)
 | _=>none
theorem oV:∀(ps:List (D×D)) (kvs:List (D×D)),(jF kvs ps).length<=kvs.length+ps.length
 | [],kvs=>Qq0 _
 | (k,v)::r,kvs=>by
  unfold jF;split
  ·rename_i q hq;have h1:=oV r (putD kvs k q v);have h2:=Dh kvs k q v;rw[Qqv];omega
  ·have h1:=oV r kvs;rw[Qqv];omega
theorem wk:∀{ds:List D} {ps:List (D×D)},ni ds=some ps->ps.length=ds.length
 | [],ps,h=>by cases h;rfl
 | d::ds,ps,h=>by
  unfold ni at h;split at h
  ·rename_i p r h1 h2;cases h;rw[Qqv,Qqv,wk h2]
  ·cases h
theorem yZ{K:Fg}{F:Hp}:∀{ds:List D} {ps:List (D×D)} {vs:List V} {kvs:List (D×D)} {ks:List (Key×V)},ni ds=some ps->bH K F ds vs->dC K F kvs ks->
  ∃rs:List Pv,vs=rs.map (λr=>V.ref r.1)/\(∀r∈rs,j8 K F r.1 [kV r.2.1,r.2.2])/\dC K F (jF kvs ps) (lE ks rs)
 | [],ps,vs,kvs,ks,h,hr,hk=>by cases h;cases hr;exact⟨[],rfl,λr hr=>by simp at hr,hk⟩
 | d::ds,ps,vs,kvs,ks,h,hr,hk=>by
  unfold ni at h;split at h
  ·rename_i p r h1 h2;cases h;obtain⟨v,w,rfl,p1,p2⟩:=hr;unfold Ji at h1;split at h1
   ·rename_i k x;obtain⟨q,hq,rfl⟩:=Qwj.mp h1;obtain⟨_,a,us,rfl,h3,h4⟩:=p1;obtain⟨u1,w1,rfl,q1,u2,w2,rfl,q2,q3⟩:=h4;cases q3;cases Bf hq q1;obtain⟨rs,rfl,g1,g2⟩:=yZ (kvs:=putD kvs k q x) (ks:=putK ks q u2) h2 p2 (hk.put hq q2);refine⟨(a,q,u2)::rs,rfl,λr hr=>?_,?_⟩
    ·rcases Qq8.mp hr with rfl|hr
     ·exact h3
     ·exact g1 r hr
    ·unfold jF;rw[hq];exact g2
   ·cases h1
  ·cases h
theorem Uv:CallD C (Nx C.K) pN:=by
 intro Pr F env σ H ds d vs Q r p e q;unfold pN at e;split at e
 ·rename_i ds;obtain⟨v,w,rfl,p1,p2⟩:=p;cases p2;obtain⟨ps,e1,rfl⟩:=Qwj.mp e;obtain⟨z,a,us,rfl,h1,h1F,h2⟩:=p1.tup r.fr;obtain⟨rs,rfl,g1,g2⟩:=yZ (kvs:=[]) (ks:=[]) e1 h2 rfl;have hl:rs.length=ds.length:=by
   have:=h2.length
   rwa [Qqy] at this
  refine⟨a,rs,rfl,h1,λr' hr=>aP.tupK r.fr (g1 r' hr),by rw[hl];exact z,λl hlf=>?_⟩;obtain⟨F2,r2,s2,p2⟩:=(r.fresh (o:=.dK (lE [] rs)) hlf).keep (Mg.of (d:=.dct (jF [] ps)) r hlf ⟨by
   have h5:=oV ps [];rw[wk e1] at h5;exact Qq3 h5 (by simpa using z),_,aQ,g2⟩)
  exact q _ _ F2 r2 s2 p2
 ·cases e
end
end Ev
namespace L2
open PySem PySem.Spec PyProof.Rows PySem.Builtin PySem.Builtin.Str
section
variable{X:Cx}
def Nu:R2:=λx y H Q=>∃a o,y = .ref a/\Fl H a x o/\Q (.bl o.isSome) H
theorem O5(hu:X.A.units+1<cLine):mD X (compareOp .In) Nu:=by intro pins s σ H x y v u Q I rx ry h;obtain⟨a,o,rfl,g,q⟩:=h;cases ry;exact aeq hu I g rx λs' I'=>⟨.bl o.isSome,H,I',rfl,q⟩
end
end L2
namespace Ev
open PySem PySem.Spec PyProof.Rows L2 PySem.Builtin
section
variable{X:Cx}{C:Cfg}{pos:Pos}{x y:Expr}{a b:Ev}
def tZ(k y:D):Option D:=match y with
 | .dct kvs=>(mL k).map λq=>.bl (j9 kvs q).isSome
 | _=>none
theorem O7:n8 C Nu tZ:=by
 intro Pr F env σ H x y d vx vy Q r px py e q;cases y with
 | dct kvs=>
  obtain⟨k,hk,rfl⟩:=Qwj.mp (show(mL x).map (λq=>D.bl (j9 kvs q).isSome)=some d from e);obtain⟨z,p,ks,rfl,h1,h2⟩:=py.dct r.fr;cases Hc hk px;refine⟨p,pU ks k,rfl,.inl ⟨ks,k,h1,rfl,rfl⟩,?_⟩;have e2:(pU ks k).isSome=(j9 kvs k).isSome:=by rcases h2.val k with ⟨g1,g2⟩|⟨d',v',g1,g2,_⟩<;>rw[g1,g2]<;>rfl
  rw[e2];exact q _ H F r (aP.refl F) rfl
 | _=>cases e
theorem Uy(G:Good X C):Cm X C .In tZ:=⟨_,O5 G.u1,O7⟩
end
open PySem PySem.Spec PyProof.Rows L2
section
variable{X:Cx}{C:Cfg}{pos apos:Pos}{x y z:Expr}{a b c:Ev}
def Qn:D->D->D->Option D
 | .dct kvs,k,t=>(mL k).map λq=>(j9 kvs q).getD t
 | _,_,_=>none
def Bm(a b c:Ev):Ev:=λenv=>bindR (a env) λd e1=>bindR (b e1) λk e2=>bindR (c e2) λt e3=>match d with
 | .dct kvs=>iY (Qn (.dct kvs) k t) e3
 | _=>.stuck
end
end Ev
namespace ZT
open PySem PySem.Spec PyProof.Rows L2 PySem.Builtin
section
variable{prog:Program}{w:World}{A:Around}{E:Value->Shared->Prop}{s:Shared}
theorem Ph{j t:Addr}{n:Nat}{its:Array Value}{x:Value}{Q:Value->Shared->Prop}(hj:s.heap.IsTupleIter j t n)(ht:s.heap.IsTuple t its)(hx:its[n]? = some x)
  (q:∀g,g.IsTupleIter j t (n+1)->Heap.SameBut j s.heap g->Q x { s with heap:=g }):wpAny (model prog w) A (Builtin.SmallTypes.nextOf (.ref j)) Q E s:=by
 obtain⟨u,hu,uc,ud⟩:=id hj;obtain⟨ut,hut,_,m,mt⟩:=ht;unfold Builtin.SmallTypes.nextOf;refine Qqx (Qjk (name:=Str.ofString "__next__") hj.typeIs F.slot_tuple_iterator_next (Qz8 F.slot_tuple_iterator_next hj.typeIs F.entry_tuple_iterator_next ?_ (F.args_tuple_iterator_next_1 _)));show wpAny _ _ (field (.ref j) 0 >>= _) _ _ s;refine Qqx (Qz4 hu ud (x:=.ref t) rfl ?_);show wpAny _ _ (if (Value.ref t == Value.none)=true then _ else _) _ _ s;rw[if_neg (show ¬((Value.ref t == Value.none)=true) from Qxx)];show wpAny _ _ (field (.ref j) 1 >>= _) _ _ s;refine Qqx (Qz4 hu ud (x:=.int n 0) rfl ?_);show wpAny _ _ (seqItems? (.ref t) >>= _) _ _ s;refine Qqx (Qjw hut mt ?_);simp only[Qkx,hx];refine Qqx (wpAny_setField hu ud (by simp) (Qq6 ⟨x,rfl,Qq6 (q _ ?_ (Heap.SameBut.update ..))⟩));exact⟨_,Heap.get?_update_self _ hu (Obj.isFreed_of_fields (Obj.data_mapFields ud _)),(Obj.cls_mapFields ..).trans uc,by rw[Obj.data_mapFields ud];simp[rawInt]⟩
theorem Aw{j t:Addr}{n:Nat}{its:Array Value}{Q:Value->Shared->Prop}(hh:A.handled=none)(hj:s.heap.IsTupleIter j t n)(ht:s.heap.IsTuple t its)(hx:its[n]? = none)
  (q:∀g e,Heap.ExtBut j s.heap g->(∃o,g.get? e=some o/\o.cls = .type "StopIteration")->E (.ref e) { s with heap:=g }):wpAny (model prog w) A (Builtin.SmallTypes.nextOf (.ref j)) Q E s:=by
 obtain⟨u,hu,uc,ud⟩:=id hj;obtain⟨ut,hut,_,m,mt⟩:=ht;unfold Builtin.SmallTypes.nextOf;refine Qqx (Qjk (name:=Str.ofString "__next__") hj.typeIs F.slot_tuple_iterator_next (Qz8 F.slot_tuple_iterator_next hj.typeIs F.entry_tuple_iterator_next ?_ (F.args_tuple_iterator_next_1 _)));show wpAny _ _ (field (.ref j) 0 >>= _) _ _ s;refine Qqx (Qz4 hu ud (x:=.ref t) rfl ?_);show wpAny _ _ (if (Value.ref t == Value.none)=true then _ else _) _ _ s;rw[if_neg (show ¬((Value.ref t == Value.none)=true) from Qxx)];show wpAny _ _ (field (.ref j) 1 >>= _) _ _ s;refine Qqx (Qz4 hu ud (x:=.int n 0) rfl ?_);show wpAny _ _ (seqItems? (.ref t) >>= _) _ _ s;refine Qqx (Qjw hut mt ?_);simp only[Qkx,hx];refine Qqx (Qkj (Qqx (wpAny_setField hu ud (by simp) ?_)));show wpAny _ _ (newExc (.type "StopIteration") [] >>= _) _ _ _;refine Qqx ?_;simp only[newExc,newTuple];refine Qqx (Qjy ?_ (by size_fits));refine Qqx (m:=firstArgMember _ _) (wpAny_of_eq (a:=Value.none) (by first|rfl|(simp only[firstArgMember];rfl)) ?_);refine Qjy ?_ (by size_fits);simp only[raiseNew];refine Qqx (wpAny_handled ?_)
 first|rw[show A.in1.handled=none from hh]|rw[hh]
 refine Qqx (Qq6 (wpAny_throw ?_));exact q _ _ (((Heap.SameBut.update ..).extBut.push _).push _) ⟨_,Qw1 _ rfl,rfl⟩
end
theorem pD{prog:Program}{w:World}{A:Around}(hh:A.handled=none)(j t:Addr)(hne:t≠j)(its:Array Value) :
  Draws prog w A j [j,t] its.size (λi v=>its[i]? = some v) (λi h=>h.IsTupleIter j t i/\h.IsTuple t its) where
 live:=λ_ _ st=>let ⟨o,ho,_⟩:=st.1;⟨o,ho⟩
 frame:=λ_ _ _ st hk=>by
  obtain⟨⟨o,ho,r⟩,o2,ho2,r2⟩:=st;exact⟨⟨o,hk j (by simp) o ho,r⟩,o2,hk t (by simp) o2 ho2,r2⟩
 item:=λi s Q E hi st hQ=>by
  refine Ph st.1 st.2 (x:=its[i]) (by simp[hi]) λh' hit' hs'=>?_;exact hQ _ h' s.toks (by simp[hi]) ⟨hit',st.2.extBut hs'.extBut hne⟩ hs'
 done:=λs Q E st hE=>Aw hh st.1 st.2 (by simp) hE
structure Ap(z TI TO j1 j2:Addr)(f1 f2:List Addr):Prop where
 a1:TI≠z
 a2:TO≠z
 a3:TI≠TO
 a4:j1≠j2
 b1:j1∈f1
 b2:j2∈f2
 c1:z ∉ f1
 c2:z ∉ f2
 c3:TO ∉ f1
 c4:TO ∉ f2
 c5:TI ∉ f1
 c6:TI ∉ f2
 c7:j2 ∉ f1
 c8:j1 ∉ f2
section
variable{prog:Program}{w:World}{A:Around}{E:Value->Shared->Prop}{s:Shared}{z TI TO j1 j2:Addr}{f1 f2:List Addr}{n1 n2 k:Nat}{P1 P2:Nat->Value->Prop}{S1 S2:Nat->Heap->Prop}{a b:Value}
theorem fj{c d:Addr}{f:List Addr}(h:c∈f)(h':d ∉ f):c≠d:=λe=>h' (e ▸ h)
theorem Mh{Q:Value->Shared->Prop}(D:Ap z TI TO j1 j2 f1 f2)(D1:Draws prog w A j1 f1 n1 P1 S1)(D2:Draws prog w A j2 f2 n2 P2 S2)(k1:k<n1)(k2:k<n2)
  (hz:IsZip s.heap z TI TO .none) (hTI:IsPair s.heap TI (.ref j1) (.ref j2)) (hTO:IsPair s.heap TO a b) (s1:S1 k s.heap) (s2:S2 k s.heap)
  (q:∀x y g tk,P1 k x->P2 k y->IsZip g z TI TO (rawInt s.heap.objs.size)->IsPair g TO x y->S1 (k+1) g->S2 (k+1) g->IsPair g s.heap.objs.size x y->g.objs.size=s.heap.objs.size+1->
   (∀c o,c≠z->c≠TO->c≠j1->c≠j2->s.heap.get? c=some o->g.get? c=some o)->Q (.ref s.heap.objs.size) { s with heap:=g,toks:=tk }) :
  wpAny (model prog w) A (Builtin.«zip.__next__» ⟨[.ref z],[]⟩) (λfin s'=>∃v,fin = .done (.ret v)/\Q v s') E s:=by
 have Uo:j1≠z:=fj D.b1 D.c1;have Zy:j2≠z:=fj D.b2 D.c2;have Zz:j1≠TO:=fj D.b1 D.c3;have acs:j2≠TO:=fj D.b2 D.c4;show wpAny _ _ (field (.ref z) 2 >>= _) _ _ _;refine Qqx (Qz4 hz rfl (x:=.bool false) rfl ?_);show wpAny _ _ (field (.ref z) 3 >>= _) _ _ _;refine Qqx (Qz4 hz rfl (x:=.ref TI) rfl ?_);refine Qqx (Qjw hTI rfl ?_);show wpAny _ _ (Builtin.SmallTypes.ownedTupleIsFree (.ref z) >>= _) _ _ _;refine Qqx ?_;unfold Builtin.SmallTypes.ownedTupleIsFree;refine Qqx (Qz4 hz rfl (x:=.none) rfl (Qq6 ?_));simp only[if_true];refine Qqx (Qkj ?_);refine Qqx (Qz4 hz rfl (x:=.ref TO) rfl ?_);refine Qqx (Qj6 hz (by simp) λg1 hz1 e1=>?_)
 replace hz1:IsZip g1 z TI TO .ellipsis:=hz1
 refine Qqx ?_;simp only[List.zipIdx_cons,List.zipIdx_nil,Qkv,Qj8];refine Qqx (Qqx (wpAny_onRaise ?_));show wpAny _ _ (Builtin.SmallTypes.nextOf (.ref j1) >>= _) _ _ _;have W4:S1 k g1:=D1.frame k _ _ s1 λc hc o e=>e1.extBut _ _ (fj hc D.c1) e;refine Qqx (D1.item k { s with heap:=g1 } _ _ k1 W4 λx g2 tk2 px sx e2=>Qq6 ?_);have t2:IsPair g2 TO a b:=e2.extBut _ _ Zz.symm (e1.extBut _ _ D.a2 hTO);refine Qqx (Qjw t2 rfl ?_);refine Qqx (wpAny_updateSeq_pair t2 λg3 t3 e3=>?_)
 replace t3:IsPair g3 TO x b:=t3
 refine Qqx (wpAny_letGo (Qq6 ?_));refine Qqx (Qqx (wpAny_onRaise ?_));show wpAny _ _ (Builtin.SmallTypes.nextOf (.ref j2) >>= _) _ _ _;have s2':S2 k g3:=D2.frame k _ _ s2 λc hc o e=>e3.extBut _ _ (fj hc D.c4) (e2.extBut _ _ (fj hc D.c8) (e1.extBut _ _ (fj hc D.c2) e));refine Qqx (D2.item k { s with heap:=g3,toks:=tk2 } _ _ k2 s2' λy g4 tk4 py sy e4=>Qq6 ?_);have t4:IsPair g4 TO x b:=e4.extBut _ _ acs.symm t3;refine Qqx (Qjw t4 rfl ?_);refine Qqx (wpAny_updateSeq_pair t4 λg5 t5 e5=>?_)
 replace t5:IsPair g5 TO x y:=t5
 refine Qqx (wpAny_letGo (Qq6 (Qq6 ?_)));refine Qqx (Qjw t5 rfl ?_);refine Qqx (wpAny_newTuple ?_);have hsz:g5.objs.size=s.heap.objs.size:=by rw[e5.1,e4.1,e3.1,e2.1,e1.1]
 have hz5:IsZip g5 z TI TO .ellipsis:=e5.extBut _ _ D.a2.symm (e4.extBut _ _ Zy.symm (e3.extBut _ _ D.a2.symm (e2.extBut _ _ Uo.symm hz1)));have abU:∀c o,c≠z->c≠TO->c≠j1->c≠j2->s.heap.get? c=some o->g5.get? c=some o:=λc o c1 c2 c3 c4 e=>
  e5.extBut _ _ c2 (e4.extBut _ _ c4 (e3.extBut _ _ c2 (e2.extBut _ _ c3 (e1.extBut _ _ c1 e))))
 have s15:S1 (k+1) g5:=D1.frame _ _ _ sx λc hc o e=>e5.extBut _ _ (fj hc D.c3) (e4.extBut _ _ (fj hc D.c7) (e3.extBut _ _ (fj hc D.c3) e));have s25:S2 (k+1) g5:=D2.frame _ _ _ sy λc hc o e=>e5.extBut _ _ (fj hc D.c4) e;have zlt:z<g5.objs.size:=Qwq hz5;show wpAny _ _ (Builtin.SmallTypes.ownedTupleHandOut (.ref z) (.ref g5.objs.size) >>= _) _ _ _;refine Qqx ?_;unfold Builtin.SmallTypes.ownedTupleHandOut;have hz6:IsZip (g5.push { cls:=.type "tuple",data:=.seq #[x,y] }) z TI TO .ellipsis:=Qqw _ hz5;refine Qqx (Qj6 hz6 (by simp) λg7 hz7 e7=>?_)
 replace hz7:IsZip g7 z TI TO (rawInt g5.objs.size):=hz7
 refine Qj6 hz7 (by simp) λg8 hz8 e8=>?_
 replace hz8:IsZip g8 z TI TO (rawInt g5.objs.size):=hz8
 have up:∀c o,c≠z->g5.get? c=some o->g8.get? c=some o:=λc o c1 e=>e8.extBut _ _ c1 (e7.extBut _ _ c1 (Qqw _ e));have t8:IsPair g8 g5.objs.size x y:=e8.extBut _ _ (Qjv zlt) (e7.extBut _ _ (Qjv zlt) (Qw1 _ rfl));have l8:g8.objs.size=g5.objs.size+1:=by rw[e8.1,e7.1,Qz1]
 rw[hsz] at hz8 t8 l8;refine Qq6 ⟨_,rfl,?_⟩;show Q (.ref g5.objs.size) _;rw[hsz];exact q x y g8 _ px py hz8 (up _ _ D.a2 t5) (D1.frame _ _ _ s15 λc hc o e=>up c o (fj hc D.c1) e) (D2.frame _ _ _ s25 λc hc o e=>up c o (fj hc D.c2) e) t8 l8 λc o c1 c2 c3 c4 e=>up c o c1 (abU c o c1 c2 c3 c4 e)
theorem Rj{Q:Fin->Shared->Prop}(D:Ap z TI TO j1 j2 f1 f2)(D1:Draws prog w A j1 f1 n1 P1 S1)(D2:Draws prog w A j2 f2 n2 P2 S2)(hk:k=n1\/(k<n1/\k=n2))
  (hz:IsZip s.heap z TI TO .none) (hTI:IsPair s.heap TI (.ref j1) (.ref j2)) (hTO:IsPair s.heap TO a b) (s1:S1 k s.heap) (s2:S2 k s.heap)
  (q:∀g e tk,(∀c o,c≠z->c≠TO->c≠j1->c≠j2->s.heap.get? c=some o->g.get? c=some o)->(∃o,g.get? e=some o/\o.cls = .type "StopIteration")->E (.ref e) { s with heap:=g,toks:=tk }) :
  wpAny (model prog w) A (Builtin.«zip.__next__» ⟨[.ref z],[]⟩) Q E s:=by
 have Uo:j1≠z:=fj D.b1 D.c1;have Zy:j2≠z:=fj D.b2 D.c2;have Zz:j1≠TO:=fj D.b1 D.c3;have acs:j2≠TO:=fj D.b2 D.c4;show wpAny _ _ (field (.ref z) 2 >>= _) _ _ _;refine Qqx (Qz4 hz rfl (x:=.bool false) rfl ?_);show wpAny _ _ (field (.ref z) 3 >>= _) _ _ _;refine Qqx (Qz4 hz rfl (x:=.ref TI) rfl ?_);refine Qqx (Qjw hTI rfl ?_);show wpAny _ _ (Builtin.SmallTypes.ownedTupleIsFree (.ref z) >>= _) _ _ _;refine Qqx ?_;unfold Builtin.SmallTypes.ownedTupleIsFree;refine Qqx (Qz4 hz rfl (x:=.none) rfl (Qq6 ?_));simp only[if_true];refine Qqx (Qkj ?_);refine Qqx (Qz4 hz rfl (x:=.ref TO) rfl ?_);refine Qqx (Qj6 hz (by simp) λg1 hz1 e1=>?_)
 replace hz1:IsZip g1 z TI TO .ellipsis:=hz1
 refine Qqx ?_;simp only[List.zipIdx_cons,List.zipIdx_nil,Qkv,Qj8];refine Qqx (Qqx (wpAny_onRaise ?_));show wpAny _ _ (Builtin.SmallTypes.nextOf (.ref j1) >>= _) _ _ _;have W4:S1 k g1:=D1.frame k _ _ s1 λc hc o e=>e1.extBut _ _ (fj hc D.c1) e;rcases hk with rfl|⟨k1,rfl⟩
 ·refine Qqx (D1.done { s with heap:=g1 } _ _ W4 λg2 e x2 he=>?_);obtain⟨oe,hoe,hce⟩:=he;have hz2:IsZip g2 z TI TO .ellipsis:=x2 _ _ Uo.symm hz1;have hez:e≠z:=λx=>by subst x;rw[hz2] at hoe;cases hoe;simp at hce
  exact Qj6 hz2 (by simp) λg3 _ e3=>q g3 e s.toks (λc o c1 _ c3 _ x=>e3.extBut _ _ c1 (x2 _ _ c3 (e1.extBut _ _ c1 x))) ⟨oe,e3.extBut _ _ hez hoe,hce⟩
 ·refine Qqx (D1.item k { s with heap:=g1 } _ _ k1 W4 λx g2 tk2 px sx e2=>Qq6 ?_);have t2:IsPair g2 TO a b:=e2.extBut _ _ Zz.symm (e1.extBut _ _ D.a2 hTO);refine Qqx (Qjw t2 rfl ?_);refine Qqx (wpAny_updateSeq_pair t2 λg3 t3 e3=>?_);refine Qqx (wpAny_letGo (Qq6 ?_));refine Qqx (Qqx (wpAny_onRaise ?_));show wpAny _ _ (Builtin.SmallTypes.nextOf (.ref j2) >>= _) _ _ _;have s2':S2 k g3:=D2.frame k _ _ s2 λc hc o e=>e3.extBut _ _ (fj hc D.c4) (e2.extBut _ _ (fj hc D.c8) (e1.extBut _ _ (fj hc D.c2) e));refine Qqx (D2.done { s with heap:=g3,toks:=tk2 } _ _ s2' λg4 e x4 he=>?_);obtain⟨oe,hoe,hce⟩:=he;have hz4:IsZip g4 z TI TO .ellipsis:=x4 _ _ Zy.symm (e3.extBut _ _ D.a2.symm (e2.extBut _ _ Uo.symm hz1));have hez:e≠z:=λx=>by subst x;rw[hz4] at hoe;cases hoe;simp at hce
  exact Qj6 hz4 (by simp) λg5 _ e5=>q g5 e tk2 (λc o c1 c2 c3 c4 x=>e5.extBut _ _ c1 (x4 _ _ c4 (e3.extBut _ _ c2 (e2.extBut _ _ c3 (e1.extBut _ _ c1 x))))) ⟨oe,e5.extBut _ _ hez hoe,hce⟩
theorem uR{Q:Option Value->Shared->Prop}(D:Ap z TI TO j1 j2 f1 f2)(D1:Draws prog w A.in1 j1 f1 n1 P1 S1)(D2:Draws prog w A.in1 j2 f2 n2 P2 S2)(k1:k<n1)(k2:k<n2)
  (hz:IsZip s.heap z TI TO .none) (hTI:IsPair s.heap TI (.ref j1) (.ref j2)) (hTO:IsPair s.heap TO a b) (s1:S1 k s.heap) (s2:S2 k s.heap)
  (q:∀x y g tk,P1 k x->P2 k y->IsZip g z TI TO (rawInt s.heap.objs.size)->IsPair g TO x y->S1 (k+1) g->S2 (k+1) g->IsPair g s.heap.objs.size x y->g.objs.size=s.heap.objs.size+1->
   (∀c o,c≠z->c≠TO->c≠j1->c≠j2->s.heap.get? c=some o->g.get? c=some o)->Q (some (.ref s.heap.objs.size)) { s with heap:=g,toks:=tk }) :
  wpAny (model prog w) A (pyNext (.ref z)) Q E s:=by
 have hT:s.TypeIs (.ref z) "zip":=⟨_,hz,rfl⟩;unfold pyNext;exact Qqx (wpAny_attempt (Qjk (name:=Str.ofString "__next__") hT F.slot_zip_next (Qz8 F.slot_zip_next hT F.entry_zip_next
  (Mh D D1 D2 k1 k2 hz hTI hTO s1 s2 λx y g tk u1 u2 u3 u4 u5 u6 u7 u8 u9=>Qq6 (q x y g tk u1 u2 u3 u4 u5 u6 u7 u8 u9)) (F.args_zip_next_1 _))))
theorem vX{Q:Option Value->Shared->Prop}(D:Ap z TI TO j1 j2 f1 f2)(D1:Draws prog w A.in1 j1 f1 n1 P1 S1)(D2:Draws prog w A.in1 j2 f2 n2 P2 S2)(hk:k=n1\/(k<n1/\k=n2))
  (hz:IsZip s.heap z TI TO .none) (hTI:IsPair s.heap TI (.ref j1) (.ref j2)) (hTO:IsPair s.heap TO a b) (s1:S1 k s.heap) (s2:S2 k s.heap)
  (q:∀g tk,(∀c o,c≠z->c≠TO->c≠j1->c≠j2->s.heap.get? c=some o->g.get? c=some o)->Q none { s with heap:=g,toks:=tk }):wpAny (model prog w) A (pyNext (.ref z)) Q E s:=by
 have hT:s.TypeIs (.ref z) "zip":=⟨_,hz,rfl⟩;unfold pyNext;refine Qqx (wpAny_attempt (Qjk (name:=Str.ofString "__next__") hT F.slot_zip_next (Qz8 F.slot_zip_next hT F.entry_zip_next
  (Rj D D1 D2 hk hz hTI hTO s1 s2 λg e tk hkp he=>?_) (F.args_zip_next_1 _))))
 obtain⟨o,ho,hc⟩:=he;refine Qqx (wpAny_isInstance (T:="StopIteration") (b:=true) ⟨o,ho,hc⟩ isSubtype_stop ?_);exact Qq6 (q _ _ hkp)
end
end ZT
namespace L2
open PySem PySem.Spec PyProof.Rows PySem.Builtin ZT
def Itz(K:PySem.W.Frag)(a1 a2:Addr):It:=
 ⟨λi H=>∃xs ys x y,j8 K H a1 xs/\j8 K H a2 ys/\xs[i]? = some x/\ys[i]? = some y,
 λi H v H'=>∃p x y,(∀xs,j8 K H a1 xs->xs[i]? = some x)/\(∀ys,j8 K H a2 ys->ys[i]? = some y)/\H p=none/\H'=upd H p (.tup [x,y])/\v = .ref p,
 λi H=>∃xs ys,j8 K H a1 xs/\j8 K H a2 ys/\(i=xs.length\/(i<xs.length/\i=ys.length))⟩
structure Apz(z TI TO j1 j2 a1 a2:Addr):Prop where
 t1:TI≠z
 t2:TO≠z
 t3:TI≠TO
 t4:j1≠j2
 b1:z ∉ [j1,a1]
 b2:z ∉ [j2,a2]
 b3:TO ∉ [j1,a1]
 b4:TO ∉ [j2,a2]
 b5:TI ∉ [j1,a1]
 b6:TI ∉ [j2,a2]
 b7:j2 ∉ [j1,a1]
 b8:j1 ∉ [j2,a2]
 c1:a1≠j1
 c2:a2≠j2
theorem Apz.ap{z TI TO j1 j2 a1 a2:Addr}(D:Apz z TI TO j1 j2 a1 a2):Ap z TI TO j1 j2 [j1,a1] [j2,a2]:=⟨D.t1,D.t2,D.t3,D.t4,by simp,by simp,D.b1,D.b2,D.b3,D.b4,D.b5,D.b6,D.b7,D.b8⟩
theorem My{P:Program}{w:World}{K:PySem.W.Frag}{elts:List Expr}{kk:Nat}{pos:Pos}(z TI TO j1 j2 a1 a2:Addr)(D:Apz z TI TO j1 j2 a1 a2) :
  Turn P w K (.Tuple elts kk pos) (Itz K a1 a2) [z,TI,TO,j1,j2] z (λi h=>IsZip h z TI TO .none/\IsPair h TI (.ref j1) (.ref j2)/\(∃a b,IsPair h TO a b)/\h.IsTupleIter j1 a1 i/\h.IsTupleIter j2 a2 i) where
 mem:=by simp
 obj:=λi h st b hb=>by
  obtain⟨hz,hTI,⟨a,c,hTO⟩,⟨o1,e1,_,d1⟩,o2,e2,_,d2⟩:=st;simp only[Qq8,Qx5,Qk1] at hb;rcases hb with rfl|rfl|rfl|rfl|rfl
  ·exact⟨_,hz,λv q=>by cases q⟩
  ·exact⟨_,hTI,λv q=>by cases q⟩
  ·exact⟨_,hTO,λv q=>by cases q⟩
  ·exact⟨o1,e1,λv q=>by rw[d1] at q;cases q⟩
  ·exact⟨o2,e2,λv q=>by rw[d2] at q;cases q⟩
 keep:=λi h h' st k=>by
  obtain⟨hz,hTI,⟨a,c,hTO⟩,⟨o1,e1,r1⟩,o2,e2,r2⟩:=st;exact⟨k z (by simp) _ hz,k TI (by simp) _ hTI,⟨a,c,k TO (by simp) _ hTO⟩,⟨o1,k j1 (by simp) _ e1,r1⟩,o2,k j2 (by simp) _ e2,r2⟩
 item:=by
  intro X hP hw hK hc i pins s σ H E I hf st hg;subst hP hw hK;obtain⟨hz,hTI,⟨a,b,hTO⟩,i1,i2⟩:=st;obtain⟨xs,ys,x,y,hx,hy,gx,gy⟩:=hg;obtain⟨us,ru,pu,zu⟩:=I.tuple hx;obtain⟨vs,rv,pv,zv⟩:=I.tuple hy;obtain⟨u,hu,rxu⟩:=ru.get gx;obtain⟨v,hv,ryv⟩:=rv.get gy;have lu:i<us.toArray.size:=by rw[Qq4];exact(Qq5.mp hu).1
  have lv:i<vs.toArray.size:=by rw[Qq4];exact(Qq5.mp hv).1
  have D1:Draws X.prog X.w X.A.in1 j1 [j1,a1] _ _ _:=pD (A:=X.A.in1) (show X.A.in1.handled=none from I.ok.hd hc) j1 a1 D.c1 us.toArray;have D2:Draws X.prog X.w X.A.in1 j2 [j2,a2] _ _ _:=pD (A:=X.A.in1) (show X.A.in1.handled=none from I.ok.hd hc) j2 a2 D.c2 vs.toArray;refine uR (A:=X.A) D.ap D1 D2 lu lv hz hTI hTO ⟨i1,pu⟩ ⟨i2,pv⟩ λx' y' g tk px py hz' aeb s1 s2 hT hsz hk=>?_;have ex:x'=u:=by have:us.toArray[i]? = some x':=px;rw[List.getElem?_toArray,hu] at this;exact(Qw4 this).symm
  have ey:y'=v:=by have:vs.toArray[i]? = some y':=py;rw[List.getElem?_toArray,hv] at this;exact(Qw4 this).symm
  subst ex ey;refine⟨_,rfl,?_⟩;refine wpAny_letOwnedTupleGo_zip (s:={ s with heap:=g,toks:=tk }) hz' λg' hz'' e'=>?_;have pM:∀b o,b≠z->g.get? b=some o->g'.get? b=some o:=λb o hb q=>(e'.2 b hb).trans q;have lts:∀b ∈ [z,TI,TO,j1,j2],b<s.heap.objs.size:=λb hb=>by
   simp only[Qq8,Qx5,Qk1] at hb;rcases hb with rfl|rfl|rfl|rfl|rfl
   ·exact Qwq hz
   ·exact Qwq hTI
   ·exact Qwq hTO
   ·obtain⟨_,q,_⟩:=i1;exact Qwq q
   ·obtain⟨_,q,_⟩:=i2;exact Qwq q
  have nT:H s.heap.objs.size=none:=I.hok.fresh (Qq0 _);refine⟨.ref s.heap.objs.size,upd H s.heap.objs.size (.tup [x,y]),I.drawn (t':=tk) (ch:=[z,TI,TO,j1,j2]) hf (λb o hb q=>?_) (Qq0 _) ?_,rfl,⟨_,x,y,λzs hq=>by rw[I.sI hq hx];exact gx,λzs hq=>by rw[I.sI hq hy];exact gy,nT,rfl,rfl⟩,⟨hz'',?_,⟨_,_,pM TO _ D.t2 aeb⟩,?_,?_⟩,λb hb=>?_⟩
  ·have n1:b≠z:=λq=>hb (by simp[q]);exact pM b o n1 (hk b o n1 (λq=>hb (by simp[q])) (λq=>hb (by simp[q])) (λq=>hb (by simp[q])) q)
  ·exact⟨by show 2<=sizeLine;decide,[x',y'],.cons rxu (.cons ryv .nil),_,pM _ _ (Qjv (lts z (by simp))) hT,rfl,⟨_,rfl⟩,rfl⟩
  ·exact pM TI _ D.t1 (hk TI _ D.t1 D.t3 (λq=>D.b5 (by simp[q])) (λq=>D.b6 (by simp[q])) hTI)
  ·obtain⟨o,q,r⟩:=s1.1;exact⟨o,pM j1 o (λq=>D.b1 (by simp[q])) q,r⟩
  ·obtain⟨o,q,r⟩:=s2.1;exact⟨o,pM j2 o (λq=>D.b2 (by simp[q])) q,r⟩
  ·rw[bw (Qw9 (lts b hb))];exact(hf b hb).1
 done:=by intro X hP hw hK hc i pins s σ H E I hf st hg;subst hP hw hK;obtain⟨hz,hTI,⟨a,b,hTO⟩,i1,i2⟩:=st;obtain⟨xs,ys,hx,hy,hi⟩:=hg;obtain⟨us,ru,pu,zu⟩:=I.tuple hx;obtain⟨vs,rv,pv,zv⟩:=I.tuple hy;have l1:=ru.length;have l2:=rv.length;have D1:Draws X.prog X.w X.A.in1 j1 [j1,a1] _ _ _:=pD (A:=X.A.in1) (show X.A.in1.handled=none from I.ok.hd hc) j1 a1 D.c1 us.toArray;have D2:Draws X.prog X.w X.A.in1 j2 [j2,a2] _ _ _:=pD (A:=X.A.in1) (show X.A.in1.handled=none from I.ok.hd hc) j2 a2 D.c2 vs.toArray;refine vX (A:=X.A) (k:=i) D.ap D1 D2 (by rw[Qq4,Qq4];omega) hz hTI hTO ⟨i1,pu⟩ ⟨i2,pv⟩ λg tk hk=>⟨rfl,I.HW (t':=tk) (ch:=[z,TI,TO,j1,j2]) hf λb o hb e=>?_⟩;exact hk b o (λq=>hb (by simp[q])) (λq=>hb (by simp[q])) (λq=>hb (by simp[q])) (λq=>hb (by simp[q])) e
 self:=λA i s Q E st h=>wpAny_pyIter_zip st.1 h
end L2
namespace ZT
open PySem PySem.Spec PyProof.Rows L2 PySem.Builtin
abbrev h1T(h:Heap)(l1:Addr):Heap:=h.push { cls:=.type "tuple_iterator",data:=.fields #[.ref l1,.int 0 0] }
abbrev h2T(h:Heap)(l1 l2:Addr):Heap:=(h1T h l1).push { cls:=.type "tuple_iterator",data:=.fields #[.ref l2,.int 0 0] }
abbrev h3T(h:Heap)(l1 l2:Addr):Heap:=(h2T h l1 l2).push { cls:=.type "tuple",data:=.seq #[.ref h.objs.size,.ref (h1T h l1).objs.size] }
abbrev h4T(h:Heap)(l1 l2:Addr):Heap:=(h3T h l1 l2).push { cls:=.type "tuple",data:=.seq #[.none,.none] }
abbrev Ze(h:Heap)(l1 l2:Addr):Heap:=(h4T h l1 l2).push { cls:=.type "zip",data:=.fields #[.none,.bool false,.bool false,.ref (h2T h l1 l2).objs.size,.ref (h3T h l1 l2).objs.size] }
theorem Ys(l1 l2:Addr)(xs ys:Array Value):Meets (Builtin.«zip.__new__» ⟨[.type "zip",.ref l1,.ref l2],[]⟩) (λ_ R s=>s.heap.IsTuple l1 xs/\s.heap.IsTuple l2 ys/\
   R (.ok (.ret (.ref (h4T s.heap l1 l2).objs.size))) { s with heap:=Ze s.heap l1 l2 }):=
 .of_wp λprog w A R s h=>by
  obtain⟨hp,g,d,tk,os⟩:=s;obtain⟨hl1,hl2,h⟩:=h;have hsub:=sub_zip;have hL1:Heap.IsTuple (Shared.heap ⟨hp,g,d,tk,os⟩) l1 xs:=hl1;have hL2:Heap.IsTuple (Shared.heap ⟨hp.push { cls:=.type "tuple_iterator",data:=.fields #[.ref l1,.int 0 0] },g,d,tk,os⟩) l2 ys:=Heap.IsTuple.push hl2 _
  wp_walk using wpAny_pyIter_tuple hL1,wpAny_pyIter_tuple hL2
  exact⟨_,rfl,h⟩
section
variable{prog:Program}{w:World}{A:Around}{E:Value->Shared->Prop}{s:Shared}
theorem Ux{l1 l2:Addr}{xs ys:Array Value}{Q:Value->Shared->Prop}(hl1:s.heap.IsTuple l1 xs)(hl2:s.heap.IsTuple l2 ys)
  (h:∀g,IsZip g (s.heap.objs.size+4) (s.heap.objs.size+2) (s.heap.objs.size+3) .none->IsPair g (s.heap.objs.size+2) (.ref s.heap.objs.size) (.ref (s.heap.objs.size+1))->
   IsPair g (s.heap.objs.size+3) .none .none->g.IsTupleIter s.heap.objs.size l1 0->g.IsTupleIter (s.heap.objs.size+1) l2 0->g.objs.size=s.heap.objs.size+5->
   (∀c o,s.heap.get? c=some o->g.get? c=some o)->Q (.ref (s.heap.objs.size+4)) { s with heap:=g }) :
  wpAny (model prog w) A (call (.type "zip") [.ref l1,.ref l2]) Q E s:=by
 refine callType_new F.called_zip (by decide) (F.typeCall_zip_2 _ _) (F.newCall_zip_2 _ _) (λobj=>F.args_object_init_3 obj _ _) F.entry_zip_new (Ys l1 l2 xs ys) ⟨hl1,hl2,?_⟩;have z1:(h1T s.heap l1).objs.size=s.heap.objs.size+1:=Qz1 ..;have z2:(h2T s.heap l1 l2).objs.size=s.heap.objs.size+2:=by rw[Qz1,z1]
 have z3:(h3T s.heap l1 l2).objs.size=s.heap.objs.size+3:=by rw[Qz1,z2]
 have z4:(h4T s.heap l1 l2).objs.size=s.heap.objs.size+4:=by rw[Qz1,z3]
 have z5:(Ze s.heap l1 l2).objs.size=s.heap.objs.size+5:=by rw[Qz1,z4]
 have g5:(Ze s.heap l1 l2).get? (h4T s.heap l1 l2).objs.size=some _:=Qw1 _ rfl;have g4:(Ze s.heap l1 l2).get? (h3T s.heap l1 l2).objs.size=some _:=Qqw _ (Qw1 _ rfl);have g3:(Ze s.heap l1 l2).get? (h2T s.heap l1 l2).objs.size=some _:=Qqw _ (Qqw _ (Qw1 _ rfl));have g2:(Ze s.heap l1 l2).get? (h1T s.heap l1).objs.size=some _:=Qqw _ (Qqw _ (Qqw _ (Qw1 _ rfl)));have g1:(Ze s.heap l1 l2).get? s.heap.objs.size=some _:=Qqw _ (Qqw _ (Qqw _ (Qqw _ (Qw1 _ rfl))));show _/\_;rw[z2,z3,z4] at g5;rw[z1,z2] at g3;rw[z3] at g4;rw[z1] at g2;rw[z4];exact⟨⟨_,g5,rfl⟩,h _ g5 g3 g4 ⟨_,g1,rfl,rfl⟩ ⟨_,g2,rfl,rfl⟩ z5 λc o x=>Qqw _ (Qqw _ (Qqw _ (Qqw _ (Qqw _ x))))⟩
end
end ZT
namespace L2
open PySem PySem.Spec PyProof.Rows PySem.Builtin ZT
section
variable{X:Cx}
def ad3(K:PySem.W.Frag)(ta:TA):TI:=λσ H R=>ta σ H λvs H1=>∃a1 a2,vs=[.ref a1,.ref a2]/\(∃xs,j8 K H1 a1 xs)/\(∃ys,j8 K H1 a2 ys)/\R (Itz K a1 a2) H1
theorem Xm{elts:List Expr}{k:Nat}{tp:Pos}{a b:Expr}{ta:TA}{p pos:Pos}(hg:Gl X "zip")(hm:X.mg "zip" = none)(ha:PA X [a,b] ta)(hs:starEach [a,b] X.env=(false,eval a X.env)::starEach [b] X.env:=by rfl)(hs2:starEach [b] X.env=[(false,eval b X.env)]:=by rfl):PI X (.Tuple elts k tp) (.Call (.Name "zip" p) [a,b] [] pos) (ad3 X.K ta):=by
 intro pins s σ H R I h;refine Call_ (tR I hg hm PyProof.Rows.boot_zip (Qz2 (fP (ha pos pins s σ H _ I h) λus s1 ⟨vs,H1,I1,r1,q1⟩=>?_) hs (by rw[hs2];rfl)));obtain⟨a1,a2,e,⟨xs,hx⟩,⟨ys,hy⟩,q⟩:=q1;subst e;cases r1 with
 | cons r rr=>
  cases rr with
  | cons r' rr'=>
   cases rr';cases r;cases r';obtain⟨u1,ru1,p1,z1⟩:=I1.tuple hx;obtain⟨u2,ru2,p2,z2⟩:=I1.tuple hy;have lt1:a1<s1.heap.objs.size:=by obtain⟨_,e,_⟩:=p1;exact Qwq e
   have yC:a2<s1.heap.objs.size:=by obtain⟨_,e,_⟩:=p2;exact Qwq e
   refine Ux p1 p2 λg hz hTI hTO i1 i2 hsz hk=>?_;refine wpAny_pyIter_zip hz ?_;have I2:Inv X pins σ H1 { s1 with heap:=g }:=I1.kept (t':=s1.toks) hk;have own:∀b,s1.heap.objs.size<=b->qC X pins H1 b:=λb hb=>I1.Qq hb (I1.hok.fresh hb);generalize hn:s1.heap.objs.size=n at *;have ne:∀{c d:Nat},c<d->(c:Addr)≠d:=λh e=>Qz3 _ (by subst e;exact h);have ne':∀{c d:Nat},d<c->(c:Addr)≠d:=λh e=>Qz3 _ (by subst e;exact h);have D:Apz (n+4) (n+2) (n+3) n (n+1) a1 a2:={
    t1:=ne (by omega),t2:=ne (by omega),t3:=ne (by omega),t4:=ne (by omega)
    b1:=by simp only[Qq8,Qx5,Qk1,not_or];exact⟨ne' (by omega),ne' (Qwz lt1 (by omega))⟩
    b2:=by simp only[Qq8,Qx5,Qk1,not_or];exact⟨ne' (by omega),ne' (Qwz yC (by omega))⟩
    b3:=by simp only[Qq8,Qx5,Qk1,not_or];exact⟨ne' (by omega),ne' (Qwz lt1 (by omega))⟩
    b4:=by simp only[Qq8,Qx5,Qk1,not_or];exact⟨ne' (by omega),ne' (Qwz yC (by omega))⟩
    b5:=by simp only[Qq8,Qx5,Qk1,not_or];exact⟨ne' (by omega),ne' (Qwz lt1 (by omega))⟩
    b6:=by simp only[Qq8,Qx5,Qk1,not_or];exact⟨ne' (by omega),ne' (Qwz yC (by omega))⟩
    b7:=by simp only[Qq8,Qx5,Qk1,not_or];exact⟨ne' (by omega),ne' (Qwz lt1 (by omega))⟩
    b8:=by simp only[Qq8,Qx5,Qk1,not_or];exact⟨ne (by omega),ne' yC⟩
    c1:=ne lt1,c2:=ne (Qwz yC (by omega)) }
   refine⟨n+4,[n+4,n+2,n+3,n,n+1],_,_,H1,rfl,I2,My _ _ _ _ _ a1 a2 D,⟨hz,hTI,⟨_,_,hTO⟩,i1,i2⟩,λb hb=>own b ?_,q⟩;simp only[Qq8,Qx5,Qk1] at hb;rcases hb with rfl|rfl|rfl|rfl|rfl
   ·exact Nat.le_add_right _ _
   ·exact Nat.le_add_right _ _
   ·exact Nat.le_add_right _ _
   ·exact Qq0 _
   ·exact Nat.le_add_right _ _
end
end L2
namespace Ev
open PySem PySem.Spec PyProof.Rows L2 PySem.Builtin
section
variable{X:Cx}{C:Cfg}{pos:Pos}{e e2:Expr}
def zP(x y:List D):List D:=(x.zip y).map λp=>.tup [p.1,p.2]
def xB(a:dG):dG:=λenv=>bindR (a env) λds aK=>match ds with
 | [.tup x,.tup y]=>.ok (zP x y) aK
 | _=>.stuck
theorem Ag{K:Fg}{F:Hp}:∀{ds:List D} {vs:List V},bH K F ds vs->∀{i:Nat} {d:D},ds[i]? = some d->∃v,vs[i]? = some v/\Rep K F d v
 | [],vs,_,i,d,h=>by simp at h
 | x::ds,vs,r,i,d,h=>by
  obtain⟨v,w,rfl,p,q⟩:=r;cases i with
  | zero=>simp at h;subst h;exact⟨v,rfl,p⟩
  | succ i=>obtain⟨u,h1,h2⟩:=Ag q (i:=i) (by simpa using h);exact⟨u,by simpa using h1,h2⟩
end
open PySem PySem.Spec PyProof.Rows L2
theorem Rel.hold{C:Cfg}{Pr F:Hp}{env:Env}{σ:L2.St}{H:Hp}{d:D}{a:Addr}{o:HO}(r:Rel C Pr F env σ H)(n:Mg C.K Pr F env σ H d a)(ho:H a=some o):Rel C (upd Pr a o) F env σ H:=by
 refine⟨λb u e=>?_,r.fr,r.len,r.val,λj e he=>?_,r.apart,λb u e=>?_,r.fix⟩
 ·by_cases hb:b=a
  ·subst hb;rw[aQ] at e;cases e;exact ho
  ·rw[bw hb] at e;exact r.pr b u e
 ·obtain⟨b,h1,h2,h3,h4⟩:=r.own j e he;have hb:b≠a:=λz=>n.ap j e he (by rw[<-z];exact h1);exact⟨b,h1,h2,h3,by rw[bw hb];exact h4⟩
 ·have hb:b≠a:=λz=>by rw[z,n.nF] at e;cases e
  rw[bw hb];exact r.dj b u e
theorem Rel.ZX{C:Cfg}{Pr F F':Hp}{env:Env}{σ:L2.St}{H H':Hp}{a:Addr}{oa:HO}(r:Rel C (upd Pr a oa) F env σ H)(nP:Pr a=none)(s:∀b o,b≠a->H b=some o->H' b=some o)(sF:aP F' H')(Vo:aP F F')(nw:∀b o,F' b=some o->F b=some o\/H b=none):Rel C Pr F' env σ H':=by
 refine⟨λb u e=>?_,sF,r.len,λj e he=>?_,λj e he=>?_,r.apart,λb o e=>?_,r.fix⟩
 ·have hb:b≠a:=λz=>by rw[z,nP] at e;cases e
  exact s b u hb (r.pr b u (by rw[bw hb];exact e))
 ·obtain⟨v,h1,h2⟩:=r.val j e he;exact⟨v,h1,Rep.mono Vo _ _ h2⟩
 ·obtain⟨b,h1,h2,h3,h4⟩:=r.own j e he;obtain⟨o,ho⟩:=h2.some;have hb:b≠a:=λz=>by rw[z,aQ] at h4;cases h4
  refine⟨b,h1,h2.mono Vo (by rw[ho,s _ _ hb ho]),?_,Dv h4⟩;cases e:F' b with
  | none=>rfl
  | some u=>
   rcases nw b u e with z|z
   ·rw[h3] at z;cases z
   ·rw[ho] at z;cases z
 ·rcases nw b o e with z|z
  ·exact Dv (r.dj b o z)
  ·cases hp:Pr b with
   | none=>rfl
   | some u=>
    have hb:b≠a:=λy=>by rw[y,nP] at hp;cases hp
    have:=r.pr b u (by rw[bw hb];exact hp);rw[this] at z;cases z
def Jx(f:List D->Option (D×D))(c:Ev)(a:dG):Ev:=λenv=>bindR (c env) λx aK=>bindR (a aK) λds d7=>match f (x::ds) with
 | some (d,_)=>.ok d d7
 | none=>.stuck
section
variable{X:Cx}{C:Cfg}{pos p:Pos}{n:Str}{e1:Expr}{es:List Expr}{ea:dG}{c:Ev}
theorem Ug{K:Fg}{h:Heap}{mg:Str->Option Value}{x:Str}{i:Int}{t:Tok}(X:K.In h)(G:h.Ns mainGlobals mg)(a:PySem.W.nsIn K mainGlobals x=some (some (.int i t))):Glb K mg x (.int i):=
 ⟨.int i,_,PySem.W.mg_of X G a,⟨t,rfl⟩,λF=>rfl⟩
end
end Ev
namespace SX
open PySem PySem.Spec PyProof.Rows L2 PySem.Builtin
def led(w:World):Bool:=!(w.params.followText "set-order")
structure TOk(P:Program)(w:World)(es:Array (Int×Value))(t:SetTable)(ys:List Str):Prop where
 el:ElemsOf (strKind P w) es.toList
 tx:∃ss:List Str,StrsAre (es.toList.map (·.2)) ss/\ss.Perm ys
 fit:t.fits es.size=true
 ld:t.led=led w
 pl:es.size≠0->t.plain=false
def HD(P:Program)(w:World)(h:Heap)(a:Addr)(ys:List Str):Prop:=
 ∃o es ep t,h.get? a=some o/\o.ExactSet/\o.data = .set es ep t/\TOk P w es t ys
open PySem PySem.Spec PyProof.Rows L2 PySem.Builtin Ev
def acB(P:Program)(w:World)(a:Addr)(ys:List Str):HO:=.ext λh=>HD P w h a ys
theorem mG{x y:List Nat}(h:Ev.strOf x=Ev.strOf y):x=y:=by
 have:=Qw8 (λs:Str=>s.cps.toList) h
 simpa[Ev.strOf] using this
end SX
namespace Ev
open PySem PySem.Spec PyProof.Rows L2 PySem.Builtin
section
variable{X:Cx}{C:Cfg}{pos:Pos}
structure PXL(X:Cx)(C:Cfg)(es:List Expr)(ev:dG):Prop where
 go:Q8 X C es ev
theorem R3:PXL X C [] aj:=⟨Ir⟩
end
open PySem L2
theorem nr{α:Type}{a b:α}(h:a=b):a=b:=h
theorem bR{α β:Type}(a:α)(e:Env)(f:α->Env->R β):bindR (.ok a e) f=f a e:=nr rfl
def jd{α:Type}(_:Env):R α:=.stuck
theorem WN(n:Nat):gH 0 1 n=(List.range n).map λ(i:Nat)=>D.int (i:Int):=by
 unfold gH;apply Qz9;intro i _
 congr 1
 omega
theorem RM{n:Nat}(h:n<2^62):qW [.int (n:Int)]=some ((List.range n).map λ(i:Nat)=>D.int (i:Int)):=by
 have hf:iD (n:Int)=true:=by unfold iD;simp only[Qzy,decide_eq_true_eq];omega
 show(if iD (n:Int)=true then some (gH 0 1 (n:Int).toNat) else none)=_;rw[if_pos hf,Qkx,WN]
theorem VN{α:Type}{g:GV}{c:f9}{e:Ev}(enc:α->D)(ext:α->Env)(p:α->Bool)(out:α->D)(env:Env)(k:Nat):∀(l:List α) (vs:Env),vs.length=k->
  (∀a∈l,(ext a).length=k/\(∀vs:Env,vs.length=k->g (enc a) (env++vs)=some (env++ext a))/\c (env++ext a) = .ok (p a) (env++ext a)/\(p a=true->e (env++ext a) = .ok (out a) (env++ext a)))->
  ∃vs',vs'.length=k/\BL g c e (l.map enc) (env++vs) = .ok ((l.filter p).map out) (env++vs')
 | [],vs,hv,_=>⟨vs,hv,rfl⟩
 | a::l,vs,hv,h=>by
  obtain⟨h1,h2,h3,h4⟩:=h a Qqz;obtain⟨vs',h5,h6⟩:=VN enc ext p out env k l (ext a) h1 λb hb=>h b (Qqj _ hb);refine⟨vs',h5,?_⟩;rw[Qwx];unfold BL;rw[h2 vs hv];show bindR (c (env++ext a)) _=_;rw[h3,bR];cases hp:p a with
  | true=>rw[if_pos rfl,h4 hp,bR,h6,bR,List.filter_cons_of_pos hp,Qwx]
  | false=>rw[if_neg Qxx,h6,List.filter_cons_of_neg (by rw[hp];exact Qxx)]
theorem Zu{α:Type}{lo n:Nat}{it:dG}{g:GV}{c:f9}{e:Ev}{env aK:Env}(l:List α)(enc:α->D)(ext:α->Env)(p:α->Bool)(out:α->D)(hit:it env = .ok (l.map enc) aK)(hlo:aK.length=lo)
  (h:∀a∈l,(ext a).length=n - lo/\(∀vs:Env,vs.length=n - lo->g (enc a) (aK++vs)=some (aK++ext a))/\c (aK++ext a) = .ok (p a) (aK++ext a)/\(p a=true->e (aK++ext a) = .ok (out a) (aK++ext a)))
  (hz:l.length<=sizeLine):fX lo n it g c e env = .ok (.lst ((l.filter p).map out)) aK:=by
 obtain⟨vs',h5,h6⟩:=VN enc ext p out aK (n - lo) l (List.replicate (n - lo) none) Qzz h;have:=lM hit hlo h6 (Qq3 (by rw[Qqy];exact List.length_filter_le _ _) hz);rw[this,<-hlo,List.take_left]
theorem Jw{α:Type}{lo n:Nat}{it:dG}{c:f9}{e:Ev}{env aK:Env}(l:List α)(enc:α->D)(p:α->Bool)(out:α->D)(hit:it env = .ok (l.map enc) aK)(hlo:aK.length=lo)(hn:n=lo+1)
  (hc:∀a∈l,c (aK++[some (false,enc a)]) = .ok (p a) (aK++[some (false,enc a)]))
  (h:∀a∈l,p a=true->e (aK++[some (false,enc a)]) = .ok (out a) (aK++[some (false,enc a)])) (hz:l.length<=sizeLine):fX lo n it (ak lo) c e env = .ok (.lst ((l.filter p).map out)) aK:=by
 subst hn hlo;refine Zu (lo:=aK.length) (n:=aK.length+1) l enc (λa=>[some (false,enc a)]) p out hit rfl (λa ha=>⟨by simp,λvs hv=>?_,hc a ha,λhp=>h a ha hp⟩) hz;have hv:vs.length=1:=by omega
 obtain⟨v,rfl⟩:=List.length_eq_one_iff.mp hv;unfold ak;rw[List.set_append_right _ _ (Qq0 _),Nat.sub_self]
 rfl
structure SX(X:Cx)(C:Cfg)(e:Expr)(ev:Ev):Prop where
 u:Ev.PX X C e ev
structure JR(X:Cx)(C:Cfg)(e:Expr)(ev:Ev):Prop where
 u:Ev.Q7 X C e ev
structure Q5(X:Cx)(C:Cfg)(e:Expr)(ev:Ev):Prop where
 u:Ev.Rh X C e ev
structure Q4(X:Cx)(C:Cfg)(e:Expr)(ev:f9):Prop where
 u:Ev.PXT X C e ev
structure Z7(X:Cx)(C:Cfg)(e:Expr)(ev:f9):Prop where
 u:Ev.PXW X C e ev
structure HF(X:Cx)(C:Cfg)(e:List Expr)(ev:dG):Prop where
 u:Ev.Q8 X C e ev
structure uY(X:Cx)(C:Cfg)(e:List Expr)(ev:dG):Prop where
 u:Ev.U7 X C e ev
structure SXL(X:Cx)(C:Cfg)(e:List Expr)(ev:dG):Prop where
 u:Ev.PXL X C e ev
structure Fq(X:Cx)(C:Cfg)(e:Stmt)(ev:bK):Prop where
 u:Ev.U4 X C e ev
structure fO(X:Cx)(C:Cfg)(e:List Stmt)(ev:bK):Prop where
 u:Ev.yI X C e ev
structure U0(X:Cx)(C:Cfg)(e:List Expr)(ev:f9):Prop where
 u:Ev.LC X C e ev
structure SXP(X:Cx)(C:Cfg)(e:Option Expr)(ev:Wg):Prop where
 u:Ev.PXP X C e ev
structure Wc(X:Cx)(C:Cfg)(tg e:Expr)(ev:dG):Prop where
 u:Ev.U5 X C tg e ev
structure Wd(X:Cx)(C:Cfg)(lo:Nat)(e:Expr)(ev:GV):Prop where
 u:Ev.U6 X C lo e ev
structure U3(X:Cx)(C:Cfg)(lo:Nat)(e:List Expr)(ev:Ri):Prop where
 u:Ev.Z8 X C lo e ev
section
variable{X:Cx}{C:Cfg}{pos p px:Pos}{x y z:Expr}{a b c:Ev}{t u:f9}{i:Nat}{n:Str}{e:Expr}{es:List Expr}{ea:dG}{e1:Expr}{apos:Pos}{e2:Expr}
theorem aC{e:Expr}{es:List Expr}{a:Ev}{r:dG}(ha:SX X C e a)(hr:HF X C es r)(hs:starEach (e::es) X.env=(false,eval e X.env)::starEach es X.env:=by rfl):HF X C (e::es) (aa a r):=⟨Ev.Dg ha.u hr.u hs⟩
theorem bI(i:Nat)(hN:X.N[i]? = some n:=by rfl)(hv:uW X.env.scope n:=by first|exact Or.inl rfl|exact Or.inr (Or.inl rfl)|exact Or.inr (Or.inr rfl))(hd:mZ n:=by decide)(hcd:vp n:=by decide):SX X C (.Name n pos) (aU i):=⟨Xa i hN hv hd hcd⟩
theorem cR{X:Cx}{C:Cfg}{n:Str}{pos:Pos}{es:List Expr}{r:dG}(i:Nat)(hr:HF X C es r)(hN:X.N[i]? = some n:=by rfl)(hv:uW X.env.scope n:=by first|exact Or.inl rfl|exact Or.inr (Or.inl rfl)|exact Or.inr (Or.inr rfl))(hd:mZ n:=by decide)(hcd:vp n:=by decide)(hs:starEach (.Name n pos::es) X.env=(false,eval (.Name n pos) X.env)::starEach es X.env:=by rfl):HF X C (.Name n pos::es) (aa (aU i) r):=aC (bI i hN hv hd hcd) hr hs
theorem au  : HF X C [] aj:=⟨Ev.Ir ⟩
theorem aZ{e:Expr}{ev:Ev}(h:SX X C e ev):JR X C e ev:=⟨Ev.PX.b h.u⟩
theorem aV{i:Int}{j:Nat}:SX X C (.Constant (.int i) j pos) (xG (.int i)):=⟨Ev.Xf ⟩
theorem aq{st:Stmt}{rest:List Stmt}{a b:bK}(h1:Fq X C st a)(h2:fO X C rest b):fO X C (st::rest) (aA a b):=⟨(Oi h1.u h2.u).imp λD σ H h=>by
 obtain⟨Pr,F,env,r,f⟩:=h;refine⟨Pr,F,env,r,?_⟩;unfold aA at f;cases e:a env with
 | nx e1=>rw[e] at f;exact λσ' H' F' r' s'=>⟨Pr,F',e1,r',f.mono s'⟩
 | rt o d e1=>rw[e] at f;cases o<;>exact f
 | bk e1=>rw[e] at f;exact f
 | ct e1=>rw[e] at f;exact f
 | stuck=>rw[e] at f;exact f⟩
theorem aF{st:Stmt}{a:bK}(h1:Fq X C st a):fO X C [st] a:=⟨R9 h1.u⟩
theorem aN{lo:Nat}(i:Nat)(hnd:lX X.N=true:=by rfl)(hlo:Nat.ble lo i=true:=by rfl)(hfx:C.fx i=none:=by rfl)(hi:X.N[i]? = some n:=by rfl)(hx:Loc X.env.scope n:=by first|exact Or.inl rfl|exact Or.inr rfl)(hf:X.fn n=true\/X.env.scope.names.lookup n=some .local:=by first|exact .inl rfl|exact .inr rfl):Wd X C lo (.Name n pos) (ak i):=⟨N8 (jA hnd) hi hx (Qjx hlo) hfx hf⟩
theorem bL(z:List Nat){x:Str}{j:Nat}(hz:x=strOf z:=by decide +kernel)(hl:z.length<=sizeLine:=by decide):SX X C (.Constant (.str x) j pos) (xG (.str z)):=⟨by
 subst hz;refine Xr.imp λσ H Q h=>?_;obtain⟨Pr,F,env,env',d,r,e,q⟩:=h;cases e;exact q _ _ F r (aP.refl F) ⟨rfl,hl⟩⟩
theorem cV(i:Nat)(hN:X.N[i]? = some n:=by rfl)(hv:uW X.env.scope n:=by first|exact Or.inl rfl|exact Or.inr (Or.inl rfl)|exact Or.inr (Or.inr rfl))(hd:mZ n:=by decide)(hcd:vp n:=by decide):JR X C (.Name n pos) (bh i):=⟨R6 i hN hv hd hcd⟩
theorem bT{pos':Pos}(i:Nat)(he:SX X C e a)(hnd:lX X.N=true:=by rfl)(hfx:C.fx i=none:=by rfl)(hi:X.N[i]? = some n:=by rfl)(hx:Loc X.env.scope n:=by first|exact Or.inl rfl|exact Or.inr rfl)(hs:swapsWith e (some (.Name n pos')) pos.line X.env=pure false:=by rfl)(hf:X.fn n=true\/X.env.scope.names.lookup n=some .local:=by first|exact .inl rfl|exact .inr rfl):Fq X C (.Assign [.Name n pos'] e pos) (aR a (ak i)):=⟨RW (jA hnd) hi hx hfx he.u hs hf⟩
theorem aY{e:Expr}{a:Ev}(h:SX X C e a):Fq X C (.Return (some e) pos) (bu a):=⟨(Oo h.u).imp λD σ H hq=>by
 obtain⟨Pr,F,env,r,f⟩:=hq;obtain⟨d,aK,e1,f1⟩:=dR f;exact⟨Pr,F,env,aK,d,r,e1,λv H1 F1 r1 s1 p1=>f1 v σ H1 F1 r1 s1 p1⟩⟩
theorem bf{e:Expr}{a:Ev}(h:JR X C e a)(hs:Ma e X.env:=by rfl):uY X C [e] (aa a aj):=⟨(nq h.u Ao hs).imp λσ H Q hq=>by
 obtain⟨Pr,F,env,env',ds,rl,e,q⟩:=hq;obtain⟨d1,aK,e1,e2⟩:=aW e;cases e2;exact⟨Pr,F,env,env',d1,rl,e1,λv H1 F1 r1 s1 p1=>q _ H1 F1 r1 s1 ⟨v,[],rfl,p1,rfl⟩⟩⟩
theorem bJ{k k':Nat}{m:Nat}{ps:List Str}{g:List D->Option D}(O:Own X.prog X.w X.K X.mg X.base n k ps (oE X.K m g))(G:Good X C)(hr:iU k' X.A)(ha:HF X C (e::es) ea)(hn:∀env ds env',ea env = .ok ds env'->ds.length=m)(hk:Nat.ble k k'=true:=by rfl)(hg:Gl X n:=by rfl)(hdb:mZ n:=by decide)(he:starEach (e::es) X.env=(false,eval e X.env)::starEach es X.env:=by rfl)(hpl:(backTo pos (starEach es X.env)).any (·.1)=false:=by rfl):SX X C (.Call (.Name n p) (e::es) [] pos) (ao g ea):=⟨by
 obtain⟨f,fd,h1,h2,h3,h4⟩:=O;rw[G.K] at h1;have h1':mz X.prog X.w X.K X.mg X.base zO k f fd ps (oE C.K m g):=by rw[G.K];exact h1
 exact Xb h1' (hr.mono (Qjx hk)) hg h2 h3 h4 ha.u hn hdb he hpl⟩
theorem cN{es:List Expr}{r:dG}{k:Nat}(h:HF X C es r):SX X C (.Tuple es k pos) (cj r):=⟨(Xq h.u).imp λσ H Q hq=>by
 obtain⟨Pr,F,env,env',d,rl,e,q⟩:=hq;obtain⟨ds,aK,e1,e2⟩:=aW e;split at e2
 ·rename_i hz;cases e2;refine⟨Pr,F,env,env',ds,rl,e1,λvs H1 F1 r1 s1 p1=>⟨by rw[p1.length];exact hz,λp hp=>?_⟩⟩;obtain⟨r2,s2⟩:=r1.new (o:=.tup vs) hp;exact q _ _ _ r2 (s1.trans s2) ⟨hz,p,vs,rfl,j8.of aQ,bH.mono s2 _ _ p1⟩
 ·cases e2⟩
theorem aG{lo:Nat}{e:Expr}{es:List Expr}{g:GV}{gs:Ri}(h1:Wd X C lo e g)(h2:U3 X C lo es gs)(hs:(assignEach (e::es) X.env).map (·.2)=assign e X.env::(assignEach es X.env).map (·.2):=by rfl):U3 X C lo (e::es) (aJ g gs):=⟨(Ov h1.u h2.u hs).imp λv σ H Q h=>by
 obtain⟨Pr,F,env,env',ds,r,p,e,q⟩:=h;cases ds with
 | nil=>cases e
 | cons d ds=>
  obtain⟨u,w,rfl,p1,p2⟩:=p;obtain⟨aK,e1,e2⟩:=Qx8.mp e;refine⟨u,w,rfl,Pr,F,env,aK,d,r,p1,e1,λσ1 H1 F1 r1 s1 t1=>?_⟩;exact⟨Pr,F1,aK,env',ds,r1,bH.mono s1 _ _ p2,e2,λσ2 H2 F2 r2 s2 t2=>q σ2 H2 F2 r2 (s1.trans s2) (t2.trans t1)⟩⟩
theorem fc{e:Expr}{ev:Ev}(h:Q5 X C e ev):SX X C e ev:=⟨Ev.Rh.px h.u⟩
theorem gC(i:Nat)(G:Good X C)(hb:JR X C y b)(hN:X.N[i]? = some n:=by rfl)(hv:uW X.env.scope n:=by first|exact Or.inl rfl|exact Or.inr (Or.inl rfl)|exact Or.inr (Or.inr rfl))(hs:rY y:=by intro _ _;rfl)(hd:mZ n:=by decide)(hcd:vp n:=by decide):SX X C (.Subscript (.Name n px) y pos) (aB fZ i b):=⟨Xe i G.K hN hv hb.u hs hd hcd⟩
theorem iV{k k':Nat}{m:Nat}{ps:List Str}{g:List D->Option (D×D)}{v:Str}{pv:Pos}(i:Nat)(O:Own X.prog X.w X.K X.mg X.base n k ps (pI X.K m g))(G:Good X C)(hr:iU k' X.A)(ha:HF X C es ea)(hn:∀env ds env',ea env = .ok ds env'->ds.length+1=m)(hk:Nat.ble k k'=true:=by rfl)(hN:X.N[i]? = some v:=by rfl)(hv:uW X.env.scope v:=by first|exact Or.inl rfl|exact Or.inr (Or.inl rfl)|exact Or.inr (Or.inr rfl))(hg:Gl X n:=by rfl)(hdb:mZ n:=by decide)(he:starEach (.Name v pv::es) X.env=(false,eval (.Name v pv) X.env)::starEach es X.env:=by rfl)(hpl:(backTo pos (starEach es X.env)).any (·.1)=false:=by rfl)(hd:mZ v:=by decide)(hcd:vp v:=by decide):SX X C (.Call (.Name n p) (.Name v pv::es) [] pos) (cQ g i ea):=⟨by
 obtain⟨f,fd,h1,h2,h3,h4⟩:=O;rw[G.K] at h1;have h1':mz X.prog X.w X.K X.mg X.base zO k f fd ps (pI C.K m g):=by rw[G.K];exact h1
 exact abq hN hv h1' (hr.mono (Qjx hk)) hg h2 h3 h4 ha.u hn hdb he hpl hd hcd⟩
theorem iH{op:Operator}{g:D->D->Option D}(o:Bi X C op g)(ha:SX X C x a)(hb:JR X C y b):SX X C (.BinOp x op y pos) (aM g a b):=⟨let ⟨_,h1,h2⟩:=o.ex;abo h1 h2 ha.u hb.u⟩
theorem j5{e:Expr}{es:List Expr}{a:Ev}{r:dG}(ha:SX X C e a)(hr:SXL X C es r)(hs:starEach (e::es) X.env=(false,eval e X.env)::starEach es X.env:=by rfl):SXL X C (e::es) (aa a r):=⟨⟨Ev.Dg ha.u hr.u.go hs⟩⟩
theorem gQ{op:Operator}{g:D->D->Option D}(i:Nat)(o:Bi X C op g)(hb:JR X C y b)(hN:X.N[i]? = some n:=by rfl)(hv:uW X.env.scope n:=by first|exact Or.inl rfl|exact Or.inr (Or.inl rfl)|exact Or.inr (Or.inr rfl))(hd:mZ n:=by decide)(hcd:vp n:=by decide):SX X C (.BinOp (.Name n px) op y pos) (aB g i b):=⟨let ⟨_,h1,h2⟩:=o.ex;Xc i hN hv h1 h2 hb.u hd hcd⟩
theorem dM{c:Expr}{a b:List Stmt}{t:f9}{ea eb:bK}(hc:Q4 X C c t)(ha:fO X C a ea)(hb:fO X C b eb):Fq X C (.If c a b pos) (gk t ea eb):=⟨(abu hc.u ha.u hb.u).imp λD σ H h=>by
 obtain⟨Pr,F,env,r,f⟩:=h;obtain⟨k,aK,e1,f1⟩:=dR f;refine⟨Pr,F,env,aK,k,r,e1,λH1 F1 r1 s1=>?_⟩;split at f1
 ·rename_i hk;rw[if_pos hk];exact⟨Pr,F1,aK,r1,f1.mono s1⟩
 ·rename_i hk;rw[if_neg hk];exact⟨Pr,F1,aK,r1,f1.mono s1⟩⟩
theorem dB{es:List Expr}{r:dG}(h:HF X C es r):Q5 X C (.List es pos) (cu r):=⟨Ev.Ip h.u⟩
theorem cJ  : fO X C [] cL:=⟨Ev.NP ⟩
theorem jl{tg:Expr}(G:Good X C)(h:SX X C x a):Wc X C tg x (gV a):=⟨R4 G.K h.u⟩
theorem vY{b:Bool}{j:Nat}:SX X C (.Constant (.bool b) j pos) (xG (.bl b)):=⟨Ev.abr ⟩
theorem pK{elt tg iter:Expr}{ifs:List Expr}{scope:Scope}(N':List Str){it:dG}{g:GV}{cc:f9}{ee:Ev}(lo:Nat)(ok:lr X scope N')(G:Good X C)(hi:Wc X C tg iter it)(bg:∀X',jr X scope N' X'->Wd X' C lo tg g)(bc:∀X',jr X scope N' X'->U0 X' C ifs cc)(be:∀X',jr X scope N' X'->SX X' C elt ee)(hs:∀x,foldedSetIterable iter X.env x=pure x:=by intro _;rfl):Q5 X C (.ListComp elt [⟨tg,iter,ifs,0⟩] scope pos) (fX lo N'.length it g cc ee):=⟨Ev.adQ N' lo ok G hi.u (λX1 h1=>(bg X1 h1).u) (λX1 h1=>(bc X1 h1).u) (λX1 h1=>(be X1 h1).u) hs⟩
theorem jP(G:Good X C)(hm:X.mg "len" = none)(ha:uY X C [e] ea)(hg:Gl X "len":=by rfl)(he:Ma e X.env:=by rfl):SX X C (.Call (.Name "len" p) [e] [] pos) (ao eV ea):=⟨mH (by rw[<-G.K];exact QM) ZR hg hm PySem.boot_len ha.u (by decide) (by decide) he rfl⟩
theorem iy{e:Expr}{a:Ev}(h:SX X C e a)(he:∀whole,isTrue e X.env whole=(do let v <-whole;standAt e.pos;holding [v] (truthy v)):=by intro _;rfl):Q4 X C e (gf a):=⟨(Xh h.u he).imp λσ H Q hq=>MN hq⟩
theorem bU{lo:Nat}:U3 X C lo [] cD:=⟨Ev.N7 ⟩
theorem fB{lo:Nat}{k:Nat}{gs:Ri}{m:Nat}(G:Good X C)(h:U3 X C lo es gs)(hn:(assignEach es X.env).length=m:=by rfl)(hst:(assignEach es X.env).findIdx? (·.1)=none:=by rfl):Wd X C lo (.Tuple es k pos) (cC m gs):=⟨R5 G.calm G.K h.u hn hst⟩
theorem iW{X:Cx}{C:Cfg}:U0 X C [] dW:=⟨Ev.N6 ⟩
theorem jU{tg iter:Expr}{body:List Stmt}{it:dG}{g:GV}{bs:bK}(G:Good X C)(hi:Wc X C tg iter it)(hg:Wd X C 0 tg g)(hb:fO X C body bs)(hp:PassesOwn (model X.prog X.w) X.A X.env X.xe:=by exact PassesOwn.never)(hs:∀x,foldedSetIterable iter X.env x=pure x:=by intro _;rfl):Fq X C (.For tg iter body [] pos) (fQ it g bs):=⟨RZ hp G.calm hi.u hg.u hb.u hs⟩
theorem kh{op:CmpOp}{g:D->D->Option D}(o:Cm X C op g)(ha:SX X C x a)(hb:JR X C y b)(hm:behindInMarks op y=false:=by rfl):Q4 X C (.Compare x [op] [y] pos) (gf (aM g a b)):=⟨let ⟨_,h1,h2⟩:=o.ex;RV h1 h2 ha.u hb.u hm⟩
theorem jg{pos':Pos}(i:Nat)(he:Q5 X C e a)(hnd:lX X.N=true:=by rfl)(hfx:C.fx i=none:=by rfl)(hi:X.N[i]? = some n:=by rfl)(hx:Loc X.env.scope n:=by first|exact Or.inl rfl|exact Or.inr rfl)(hs:swapsWith e (some (.Name n pos')) pos.line X.env=pure false:=by rfl)(hf:X.fn n=true\/X.env.scope.names.lookup n=some .local:=by first|exact .inl rfl|exact .inr rfl):Fq X C (.Assign [.Name n pos'] e pos) (cZ i a):=⟨RX (jA hnd) hi hx hfx he.u hs hf⟩
theorem eO(G:Good X C)(hm:X.mg "tuple" = none)(ha:uY X C [e] ea)(hg:Gl X "tuple":=by rfl)(he:Ma e X.env:=by rfl):SX X C (.Call (.Name "tuple" p) [e] [] pos) (ao cz ea):=⟨tL (T:="tuple") (r:=Nq C.K) (by rw[<-G.K];exact yG) QJ hg hm (by decide +kernel) ha.u (by decide) (by decide) he rfl⟩
theorem oh(G:Good X C)(ha:SX X C x a)(hb:JR X C y b)(hs:rY y:=by intro _ _;rfl):SX X C (.Subscript x y pos) (aM fZ a b):=⟨abp G.K ha.u hb.u hs⟩
theorem jE{op:CmpOp}{g:D->D->Option D}(i:Nat)(o:Cm X C op g)(hb:JR X C y b)(hN:X.N[i]? = some n:=by rfl)(hv:uW X.env.scope n:=by first|exact Or.inl rfl|exact Or.inr (Or.inl rfl)|exact Or.inr (Or.inr rfl))(hm:behindInMarks op y=false:=by rfl)(hd:mZ n:=by decide)(hcd:vp n:=by decide):Q4 X C (.Compare (.Name n px) [op] [y] pos) (gf (aB g i b)):=⟨by
 obtain⟨r,h1,h2⟩:=o.ex;exact(Iw h1 (jz hN hv hd hcd) hb.u hm).imp λσ H Q h=>pG h2 σ H _ (MN h)⟩
theorem dX{tg e:Expr}{a:Ev}{g:GV}(he:SX X C e a)(hg:Wd X C 0 tg g)(hs:swapsWithSole [tg] e pos.line X.env=pure false:=by rfl)(hw:swappedStores [tg] e X.env=pure none:=by rfl)(h1:(assignEach [tg] X.env).map (·.2)=[assign tg X.env]:=by rfl):Fq X C (.Assign [tg] e pos) (aR a g):=⟨(Xk he.u hg.u hs hw h1).imp λD σ H h=>ZW h⟩
theorem pB{e:Expr}{a:Ev}(h:SX X C e a):SXP X C (some e) (BP a):=⟨(Su h.u).imp λσ H Q hq=>by
 obtain⟨Pr,F,env,env',o,r,e,q⟩:=hq;obtain⟨d,aK,e1,e2⟩:=aW e;refine⟨Pr,F,env,aK,d,r,e1,λv H1 F1 r1 s1 p1=>?_⟩;cases d with
 | int i=>cases e2;exact⟨i,p1,q H1 F1 r1 s1⟩
 | _=>cases e2⟩
theorem pH{e:Expr}{a:f9}(h:Z7 X C e a):Q4 X C e a:=⟨Ev.PXW.pt h.u⟩
theorem rE{tg:Expr}(hm:X.mg "range" = none)(ha:HF X C [e] ea)(hl:∀env ds env',ea env = .ok ds env'->ds.length=1)(hg:Gl X "range":=by rfl)(hs:starEach [e] X.env=[(false,eval e X.env)]:=by rfl):Wc X C tg (.Call (.Name "range" p) [e] [] pos) (gb ea):=⟨GK hg hm ha.u hl hs⟩
theorem zR{op:CmpOp}{g:D->D->Option D}(i:Nat)(o:Cm X C op g)(hb:JR X C y b)(hN:X.N[i]? = some n:=by rfl)(hv:uW X.env.scope n:=by first|exact Or.inl rfl|exact Or.inr (Or.inl rfl)|exact Or.inr (Or.inr rfl))(hm:behindInMarks op y=false:=by rfl)(hd:mZ n:=by decide)(hcd:vp n:=by decide):SX X C (.Compare (.Name n px) [op] [y] pos) (aB g i b):=⟨by
 obtain⟨r,h1,h2⟩:=o.ex;exact(IV h1 (jz hN hv hd hcd) hb.u hm).imp (pG h2)⟩
theorem Ak{j:Nat}:SX X C (.Constant .none j pos) (xG .non):=⟨Ev.Xd ⟩
theorem qj{e:Expr}{es:List Expr}{a:Ev}{r:dG}(ha:SX X C e a)(hr:uY X C es r)(hs:starEach (e::es) X.env=(false,eval e X.env)::starEach es X.env:=by rfl):uY X C (e::es) (aa a r):=⟨(nq ha.u hr.u hs).imp λσ H Q h=>by
  obtain⟨Pr,F,env,env',ds,rl,e,q⟩:=h;obtain⟨d1,aK,e1,e2⟩:=aW e;obtain⟨ds2,d7,e3,e4⟩:=aW e2;cases e4;refine⟨Pr,F,env,aK,d1,rl,e1,λv H1 F1 r1 s1 p1=>?_⟩;refine⟨Pr,F1,aK,env',ds2,r1,e3,λvs H2 F2 r2 s2 p2=>?_⟩;exact q _ H2 F2 r2 (s1.trans s2) ⟨v,vs,rfl,.inl (Rep.mono s2 d1 v p1),p2⟩⟩
theorem Iu{op:BoolOp}{x:Expr}{a:Ev}(h:SX X C x a):SX X C (.BoolOp op [x] pos) a:=⟨Xv h.u⟩
theorem jV{apos cpos:Pos}(i:Nat)(G:Good X C)(he:SX X C e a)(hN:X.N[i]? = some n:=by rfl)(hv:uW X.env.scope n:=by first|exact Or.inl rfl|exact Or.inr (Or.inl rfl)|exact Or.inr (Or.inr rfl))(hs:swapsWith (.Call (.Attribute (.Name n px) "append" apos) [e] [] cpos) none pos.line X.env=pure false:=by rfl) (hfew:((backTo cpos (starEach [e] X.env)).all (λx=>!x.1)&&(backToKw cpos (keywordEach [] X.env)).all (λx=>x.1.isSome)
   && decide (([e]:List Expr).length+([]:List Keyword).length+(if ([]:List Keyword).isEmpty then 0 else 1)<30))=true:=by rfl) (hbase:attributeBase (.Name n px) "append" X.env (eval (.Name n px) X.env)=eval (.Name n px) X.env:=by rfl) (hline:(apos.endLine == cpos.line)=true:=by rfl) (hst:Ma e X.env:=by rfl) (hplain:(backTo cpos (starEach [] X.env)).any (·.1)=false:=by rfl) (hd:mZ n:=by decide) (hcd:vp n:=by decide):Fq X C (.Expr (.Call (.Attribute (.Name n px) "append" apos) [e] [] cpos) pos) (dJ i a):=⟨R0 hN hv he.u G.K hs hfew hbase hline hst hplain hd hcd⟩
theorem yW  : SXP X C none xD:=⟨Ev.NT ⟩
theorem Io{x y:Expr}{rest:List Expr}{a b:f9}(ha:Q4 X C x a)(hb:Z7 X C (.BoolOp .Or (y::rest) pos) b):Z7 X C (.BoolOp .Or (x::y::rest) pos) (Ep a b):=⟨(pw_or ha.u hb.u).imp λσ H Q hq=>by
  obtain⟨Pr,F,env,env',k,rl,e,q⟩:=hq;obtain⟨c,aK,e1,e2⟩:=aW e;refine⟨Pr,F,env,aK,c,rl,e1,λH1 F1 r1 s1=>?_⟩;split at e2
  ·rename_i hc;rw[if_pos hc];cases e2;exact q H1 F1 r1 s1
  ·rename_i hc;rw[if_neg hc];exact⟨Pr,F1,aK,env',k,r1,e2,λH2 F2 r2 s2=>q H2 F2 r2 (s1.trans s2)⟩⟩
theorem De{x:Expr}{a:f9}(h:Q4 X C x a):Z7 X C (.BoolOp .Or [x] pos) a:=⟨pw_or1 h.u⟩
theorem tK{X:Cx}{C:Cfg}{c:Expr}{t:f9}(h:Q4 X C c t):U0 X C [c] t:=⟨Sx h.u⟩
theorem Pq{k k':Nat}{m:Nat}{ps:List Str}{g:List D->Option D}(O:Own X.prog X.w X.K X.mg X.base n k ps (WT X.K m g))(G:Good X C)(hr:iU k' X.A)(ha:HF X C (e::es) ea)(hn:∀env ds env',ea env = .ok ds env'->ds.length=m)(hk:Nat.ble k k'=true:=by rfl)(hg:Gl X n:=by rfl)(hdb:mZ n:=by decide)(he:starEach (e::es) X.env=(false,eval e X.env)::starEach es X.env:=by rfl)(hpl:(backTo pos (starEach es X.env)).any (·.1)=false:=by rfl):Q5 X C (.Call (.Name n p) (e::es) [] pos) (ao g ea):=⟨by
 obtain⟨f,fd,h1,h2,h3,h4⟩:=O;rw[G.K] at h1;have h1':mz X.prog X.w X.K X.mg X.base zO k f fd ps (WT C.K m g):=by rw[G.K];exact h1
 exact R1 h1' (hr.mono (Qjx hk)) hg h2 h3 h4 ha.u hn hdb he hpl⟩
theorem oU{x y:Expr}{rest:List Expr}{a b:f9}(ha:Q4 X C x a)(hb:Z7 X C (.BoolOp .And (y::rest) pos) b):Z7 X C (.BoolOp .And (x::y::rest) pos) (ik a b):=⟨(pw_and ha.u hb.u).imp λσ H Q hq=>by
  obtain⟨Pr,F,env,env',k,rl,e,q⟩:=hq;obtain⟨c,aK,e1,e2⟩:=aW e;refine⟨Pr,F,env,aK,c,rl,e1,λH1 F1 r1 s1=>?_⟩;split at e2
  ·rename_i hc;rw[if_pos hc];exact⟨Pr,F1,aK,env',k,r1,e2,λH2 F2 r2 s2=>q H2 F2 r2 (s1.trans s2)⟩
  ·rename_i hc;rw[if_neg hc];cases e2;exact q H1 F1 r1 s1⟩
theorem kI{x:Str}{v:V}{u:Value}(d:D)(hg:Gl X x)(hm:X.mg x=some u)(rv:RelV v u)(hr:∀F,Rep C.K F d v)(hd:mZ x:=by decide):SX X C (.Name x pos) (xG d):=⟨(S5 hg hm rv hd).imp λσ H Q h=>by
  obtain⟨Pr,F,env,env',d,r,e,q⟩:=h;cases e;exact q _ _ F r (aP.refl F) (hr F)⟩
theorem qG{o:Expr}{apos cpos:Pos}(G:Good X C)(ho:SX X C o a)(he:JR X C e b)(hbase:attributeBase o "join" X.env (eval o X.env)=eval o X.env:=by rfl)(hs:Ma e X.env:=by rfl) (hfew:((backTo cpos (starEach [e] X.env)).all (λx=>!x.1)&&(backToKw cpos (keywordEach [] X.env)).all (λx=>x.1.isSome)
   && decide ([e].length+([]:List Keyword).length+(if ([]:List Keyword).isEmpty then 0 else 1)<30))=true:=by rfl) (hline:(apos.endLine == cpos.line)=true:=by rfl) (hplain:(backTo cpos (starEach [] X.env)).any (·.1)=false:=by rfl):SX X C (.Call (.Attribute o "join" apos) [e] [] cpos) (aM jL a b):=⟨R7 G.K ho.u he.u hbase hs hfew hline hplain⟩
theorem Mm{lo hi:Option Expr}{el eh:Wg}{p2:Pos}(G:Good X C)(ha:SX X C x a)(hl:SXP X C lo el)(hh:SXP X C hi eh):SX X C (.Subscript x (.Slice lo hi none p2) pos) (ue a el eh):=⟨abn G.K ha.u hl.u hh.u⟩
theorem pA{x:Expr}{a:f9}(h:Q4 X C x a):Z7 X C (.BoolOp .And [x] pos) a:=⟨pw_and1 h.u⟩
theorem Fx(ha:SX X C x a):SX X C (.UnaryOp .USub x pos) (Hm Hj a):=⟨abm Mx Ws ha.u⟩
theorem Wk{op:CmpOp}{g:D->D->Option D}(o:Cm X C op g)(ha:SX X C x a)(hb:JR X C y b)(hm:behindInMarks op y=false:=by rfl):SX X C (.Compare x [op] [y] pos) (aM g a b):=⟨let ⟨_,h1,h2⟩:=o.ex;Xg h1 h2 ha.u hb.u hm⟩
theorem N5  : SXL X C [] aj:=⟨Ev.R3 ⟩
theorem Tr{es:List Expr}{a:dG}(h:SXL X C es a):Q5 X C (.List es pos) (cu a):=⟨Ev.Ip h.u.go⟩
theorem vH(i:Nat)(G:Good X C)(hb:JR X C y b)(hN:X.N[i]? = some n:=by rfl)(hv:uW X.env.scope n:=by first|exact Or.inl rfl|exact Or.inr (Or.inl rfl)|exact Or.inr (Or.inr rfl))(hs:LK y:=by intro _ _;rfl)(hd:mZ n:=by decide)(hcd:vp n:=by decide):SX X C (.Subscript (.Name n px) y pos) (aB gY i b):=⟨Ob i G.u1 hN hv hb.u hs hd hcd⟩
theorem zQ{p2 p3 p4:Pos}{k:Nat}(ha:SX X C x a):SX X C (.Subscript x (.Slice none none (some (.UnaryOp .USub (.Constant (.int 1) k p4) p3)) p2) pos) (mQ a):=⟨by
 refine(Xu (p2:=p2) (pos:=pos) ha.u (Vv (pos:=p3) Mx (Ox (i:=1) (j:=k) (pos:=p4)))).imp λσ H Q hq=>?_;obtain⟨Pr,F,env,env',d,r,e,q⟩:=hq;obtain⟨z,aK,e1,e2⟩:=aW e;obtain⟨e3,rfl⟩:=gr e2;cases z with
 | str z=>
  cases e3;refine⟨Pr,F,env,env',.str z,r,e1,λv H1 F1 r1 s1 p1=>?_⟩;obtain⟨rfl,hz⟩:=p1;refine⟨1,rfl,strOf z,rfl,by rw[fD];exact hz,rfl,q _ H1 F1 r1 s1 ⟨by simp[strOf],by rw[Qx2];exact hz⟩⟩
 | _=>cases e3⟩
theorem Wi{e2:Expr}(G:Good X C)(hm:X.mg "max" = none)(ha:uY X C [e,e2] ea)(hg:Gl X "max":=by rfl)(he:starEach [e,e2] X.env=(false,eval e X.env)::starEach [e2] X.env:=by rfl)(hpl:(backTo pos (starEach [e2] X.env)).any (·.1)=false:=by rfl):SX X C (.Call (.Name "max" p) [e,e2] [] pos) (ao Lf ea):=⟨mH (Lx G.calm) ZQ hg hm (by decide +kernel) ha.u (by decide) (by decide) he hpl⟩
theorem Kq  : Q5 X C (.Dict [] [] pos) xE:=⟨Ev.NZ ⟩
theorem Wh{e2:Expr}(G:Good X C)(hm:X.mg "min" = none)(ha:uY X C [e,e2] ea)(hg:Gl X "min":=by rfl)(he:starEach [e,e2] X.env=(false,eval e X.env)::starEach [e2] X.env:=by rfl)(hpl:(backTo pos (starEach [e2] X.env)).any (·.1)=false:=by rfl):SX X C (.Call (.Name "min" p) [e,e2] [] pos) (ao Le ea):=⟨mH (Lw G.calm) ZP hg hm (by decide +kernel) ha.u (by decide) (by decide) he hpl⟩
theorem yK(G:Good X C)(hm:X.mg "sorted" = none)(ha:uY X C [e] ea)(hg:Gl X "sorted":=by rfl)(he:Ma e X.env:=by rfl):SX X C (.Call (.Name "sorted" p) [e] [] pos) (ao gF ea):=⟨Kr G.K G.calm hg hm ha.u he rfl⟩
theorem Oa{x y:Expr}{rest:List Expr}{a b:Ev}(ha:SX X C x a)(hb:SX X C (.BoolOp .Or (y::rest) pos) b):SX X C (.BoolOp .Or (x::y::rest) pos) (Bl a b):=⟨(abv ha.u hb.u).imp λσ H Q hq=>by
  obtain⟨Pr,F,env,env',k,rl,e,q⟩:=hq;obtain⟨c,aK,e1,e2⟩:=aW e;refine⟨Pr,F,env,aK,c,rl,e1,λv H1 F1 r1 s1 p1=>?_⟩;cases c with
  | bl z=>
   refine⟨z,p1,?_⟩;cases z with
   | true=>cases e2;exact adW (q _ H1 F1 r1 s1 rfl)
   | false=>exact adX ⟨Pr,F1,aK,env',k,r1,e2,λv2 H2 F2 r2 s2 p2=>q v2 H2 F2 r2 (s1.trans s2) p2⟩
  | _=>cases e2⟩
theorem Rk(G:Good X C)(hm:X.mg "list" = none)(ha:uY X C [e] ea)(hg:Gl X "list":=by rfl)(he:Ma e X.env:=by rfl):SX X C (.Call (.Name "list" p) [e] [] pos) (ao wZ ea):=⟨tL (T:="list") (r:=Nt C.K) (by rw[<-G.K];exact Hu G.calm) Uu hg hm (by decide +kernel) ha.u (by decide) (by decide) he rfl⟩
theorem aaV{elt tg iter:Expr}{ifs:List Expr}{scope:Scope}(N':List Str){spos py:Pos}{it:dG}{g:GV}{cc:f9}{ee:Ev}(lo:Nat)(i:Nat)(ok:lr X scope N')(G:Good X C)(hi:Wc X C tg iter it)(bg:∀X',jr X scope N' X'->Wd X' C lo tg g)(bc:∀X',jr X scope N' X'->U0 X' C ifs cc)(be:∀X',jr X scope N' X'->SX X' C elt ee)(hnd:lX X.N=true:=by rfl)(hfx:C.fx i=none:=by rfl)(hy:X.N[i]? = some n:=by rfl)(hx:Loc X.env.scope n:=by first|exact Or.inl rfl|exact Or.inr rfl)(hsw:swapsWith (.ListComp elt [⟨tg,iter,ifs,0⟩] scope pos) (some (.Name n py)) spos.line X.env=pure true:=by rfl)(hf:X.fn n=true\/X.env.scope.names.lookup n=some .local:=by first|exact .inl rfl|exact .inr rfl)(hs:∀x,foldedSetIterable iter X.env x=pure x:=by intro _;rfl):Fq X C (.Assign [.Name n py] (.ListComp elt [⟨tg,iter,ifs,0⟩] scope pos) spos) (cZ i (fX lo N'.length it g cc ee)):=⟨Ev.adH N' lo i ok G hi.u (λX1 h1=>(bg X1 h1).u) (λX1 h1=>(bc X1 h1).u) (λX1 h1=>(be X1 h1).u) hnd hfx hy hx hsw hf hs⟩
theorem T8{tg e2:Expr}(hm:X.mg "range" = none)(ha:HF X C [e,e2] ea)(hl:∀env ds env',ea env = .ok ds env'->ds.length=2)(hg:Gl X "range":=by rfl)(hs:starEach [e,e2] X.env=[(false,eval e X.env),(false,eval e2 X.env)]:=by rfl)(hs2:starEach [e2] X.env=[(false,eval e2 X.env)]:=by rfl):Wc X C tg (.Call (.Name "range" p) [e,e2] [] pos) (gb ea):=⟨GJ hg hm ha.u hl hs hs2⟩
theorem JW{e2:Expr}(G:Good X C)(hm:X.mg "divmod" = none)(ha:uY X C [e,e2] ea)(hg:Gl X "divmod":=by rfl)(he:starEach [e,e2] X.env=(false,eval e X.env)::starEach [e2] X.env:=by rfl)(hpl:(backTo pos (starEach [e2] X.env)).any (·.1)=false:=by rfl):SX X C (.Call (.Name "divmod" p) [e,e2] [] pos) (ao rG ea):=⟨mH EY Lr hg hm (by decide +kernel) ha.u (by decide) (by decide) he hpl⟩
theorem Df{e:Expr}{a:Ev}(h:Q5 X C e a):Fq X C (.Return (some e) pos) (vL a):=⟨(Oo h.u).imp λD σ H hq=>by
 obtain⟨Pr,F,env,r,f⟩:=hq;obtain⟨d,aK,e1,f1⟩:=dR f;exact⟨Pr,F,env,aK,d,r,e1,λv H1 F1 r1 s1 p1=>f1 v σ H1 F1 r1 s1 p1⟩⟩
theorem ace{lo:Nat}{ix:Expr}{ev:Ev}(i:Nat)(h:SX X C ix ev)(hN:X.N[i]? = some n:=by rfl)(hv:uW X.env.scope n:=by first|exact Or.inl rfl|exact Or.inr (Or.inl rfl)|exact Or.inr (Or.inr rfl)) (ha:∀v,assign (.Subscript (.Name n px) ix pos) X.env v=(do
   let ov <-holding [v] (eval (.Name n px) X.env)
   let iv <-holding [v,ov] (eval ix X.env)
   standAt pos
   holding [v,ov,iv] (setItem ov iv v)
   release [v,ov,iv] []):=by intro _;rfl) (hd:mZ n:=by decide) (hcd:vp n:=by decide):Wd X C lo (.Subscript (.Name n px) ix pos) (Ud i ev):=⟨W9 hN hv h.u ha hd hcd⟩
theorem HQ{p:Pos}{e:Expr}{ea:dG}(G:Good X C)(hm:X.mg "dict" = none)(ha:uY X C [e] ea)(hg:Gl X "dict":=by rfl)(he:Ma e X.env:=by rfl):SX X C (.Call (.Name "dict" p) [e] [] pos) (ao pN ea):=⟨tL (T:="dict") (r:=Nx C.K) (by rw[<-G.K];exact Ly G.calm) Uv hg hm (by decide +kernel) ha.u (by decide) (by decide) he rfl⟩
theorem RJ{k:Expr}{ek:Ev}{pos':Pos}(i:Nat)(G:Good X C)(hk:SX X C k ek)(he:SX X C e a)(hN:X.N[i]? = some n:=by rfl)(hv:uW X.env.scope n:=by first|exact Or.inl rfl|exact Or.inr (Or.inl rfl)|exact Or.inr (Or.inr rfl))(hs:swapsWith e (some (.Subscript (.Name n px) k pos')) pos.line X.env=pure false:=by rfl)(hd:mZ n:=by decide)(hcd:vp n:=by decide):Fq X C (.Assign [.Subscript (.Name n px) k pos'] e pos) (oA i ek a):=⟨NQ G.u1 hN hv hk.u he.u hs hd hcd⟩
theorem Wj{k k':Nat}{m:Nat}{ps:List Str}{g:List D->Option (D×D)}(O:Own X.prog X.w X.K X.mg X.base n k ps (pI X.K m g))(G:Good X C)(hr:iU k' X.A)(hc:Q5 X C e1 c)(ha:HF X C es ea)(hn:∀env ds env',ea env = .ok ds env'->ds.length+1=m)(hk:Nat.ble k k'=true:=by rfl)(hg:Gl X n:=by rfl)(hdb:mZ n:=by decide)(he:starEach (e1::es) X.env=(false,eval e1 X.env)::starEach es X.env:=by rfl)(hpl:(backTo pos (starEach es X.env)).any (·.1)=false:=by rfl):SX X C (.Call (.Name n p) (e1::es) [] pos) (Jx g c ea):=⟨by
 obtain⟨f,fd,h1,h2,h3,h4⟩:=O;rw[G.K] at h1;have h1':mz X.prog X.w X.K X.mg X.base zO k f fd ps (pI C.K m g):=by rw[G.K];exact h1
 refine(vo h1' (hr.mono (Qjx hk)) hg h2 h3 h4 .nil Ja (nq hc.u ha.u he) hdb he hpl).imp λσ H Q hq=>?_;obtain⟨Pr,F,env,env',d,r,e,q⟩:=hq;obtain⟨x,aK,u1,u2⟩:=aW e;obtain⟨ds,d7,u3,u4⟩:=aW u2;split at u4
 ·rename_i d1 z' hf;cases u4;refine⟨Pr,F,env,aK,x,r,u1,λa H1 F1 r1 s1 n1=>?_⟩;obtain⟨o,ho⟩:=n1.own.some;refine⟨upd Pr a o,F1,aK,env',ds,r1.hold n1 ho,u3,λvs H2 F2 r2 s2 p2=>?_⟩;have ho2:H2 a=some o:=r2.pr a o aQ;have hF2:F2 a=none:=by
   cases z:F2 a with
   | none=>rfl
   | some w=>have:=r2.dj a w z;rw[aQ] at this;cases this
  show pI C.K m g (_::vs++[]) H2 Q E0;rw[Qx1];exact⟨F2,a,vs,x,ds,d,z',rfl,hn _ _ _ u3,r2.fr,hF2,n1.own.mono s2 (by rw[ho2,ho]),p2,hf,λv H3 F3 t1 t2 t3 t4 t5 p3=>q v H3 F3 (r2.ZX n1.nP t1 t2 t3 t4) ((s1.trans s2).trans t3) p3⟩
 ·cases u4⟩
theorem Rm(G:Good X C)(ha:SX X C x a)(hb:SX X C y b)(hc:SX X C z c)(m:M2 X x "get" apos y z pos:=by exact⟨by rfl,by rfl,by rfl,by rfl⟩):SX X C (.Call (.Attribute x "get" apos) [y,z] [] pos) (Bm a b c):=⟨by
 refine(O1 G.u1 ha.u hb.u hc.u m).imp λσ H Q hq=>?_;obtain⟨Pr,F,env,env',d,rl,e,q⟩:=hq;obtain⟨u,aK,e1,e2⟩:=aW e;obtain⟨k,d7,e3,e4⟩:=aW e2;obtain⟨t,Lj,e5,e6⟩:=aW e4;split at e6
 ·rename_i kvs;obtain⟨e7,rfl⟩:=gr e6;obtain⟨kk,hk,rfl⟩:=Qwj.mp (show(mL k).map (λq=>(j9 kvs q).getD t)=some d from e7);refine⟨Pr,F,env,aK,.dct kvs,rl,e1,λvu H1 F1 r1 s1 p1=>?_⟩;obtain⟨z1,a1,ks,rfl,h1,h2⟩:=gD.dct r1.fr (.inl p1);refine⟨a1,rfl,.inl ⟨ks,h1⟩,Pr,F1,aK,d7,k,r1,e3,λvk H2 F2 r2 s2 p2=>⟨Pr,F2,d7,env',t,r2,e5,λvt H3 F3 r3 s3 p3=>?_⟩⟩;obtain⟨z2,a2,ks2,ea,h3,h4⟩:=gD.dct r3.fr (.inl (Rep.mono (s2.trans s3) _ _ p1));cases ea;cases Hc hk (.inl (Rep.mono s3 _ _ p2):gD C.K F3 H3 k vk);refine⟨pU ks2 kk,.inl ⟨ks2,kk,h3,rfl,rfl⟩,?_⟩;rcases h4.val kk with ⟨g1,g2⟩|⟨d',v',g1,g2,g3⟩
  ·rw[g2];rw[g1] at q;exact q _ H3 F3 r3 ((s1.trans s2).trans s3) p3
  ·rw[g2];rw[g1] at q;exact q _ H3 F3 r3 ((s1.trans s2).trans s3) g3
 ·cases e6⟩
theorem T9{elts:List Expr}{k:Nat}{tp p:Pos}{ea:dG}(hm:X.mg "enumerate" = none)(ha:HF X C [e] ea)(hg:Gl X "enumerate":=by rfl)(hs:starEach [e] X.env=[(false,eval e X.env)]:=by rfl):Wc X C (.Tuple elts k tp) (.Call (.Name "enumerate" p) [e] [] pos) (Hn ea):=⟨(SJ hg hm ha.u hs).imp λσ H R hq=>by
  obtain⟨Pr,F,env,env',ds,r,e,q⟩:=hq;obtain⟨as,aK,e1,e2⟩:=aW e;refine⟨Pr,F,env,aK,as,r,e1,λvs H1 F1 r1 s1 p1=>?_⟩;split at e2
  ·rename_i x;cases e2;obtain⟨v,w,rfl,⟨rfl,hz⟩,p2⟩:=p1;cases p2;refine⟨strOf x,rfl,q _ H1 F1 r1 s1 λi H2 s2=>⟨λ_ ei=>?_,λd hd=>?_⟩⟩
   ·show i=x.toArray.size;rw[ei];simp[uC]
   ·unfold uC at hd;rw[Qxy] at hd;obtain⟨⟨c,j⟩,hc,rfl⟩:=Qwj.mp hd;rw[List.getElem?_zipIdx] at hc;obtain⟨c',hc',h2⟩:=Qwj.mp hc;cases h2;refine⟨?_,λy H3 hy=>.inr ?_⟩
    ·show i<x.toArray.size;have:=(Qq5.mp hc').1
     simpa using this
    ·obtain⟨p,c2,h3,h4,rfl,rfl⟩:=hy;have h5:x[i]? = some c2:=by simpa[strOf] using h3
     rw[hc'] at h5;cases h5;exact⟨p,_,_,h4,rfl,rfl,rfl,by show 2<=sizeLine;decide,_,_,rfl,by simp[Rep],_,_,rfl,⟨rfl,by show 1<=sizeLine;decide⟩,rfl⟩
  ·cases e2⟩
theorem Qk{elts:List Expr}{k:Nat}{tp p:Pos}{ea:dG}(G:Good X C)(hm:X.mg "zip" = none)(ha:HF X C [e,e2] ea)(hg:Gl X "zip":=by rfl)(hs:starEach [e,e2] X.env=(false,eval e X.env)::starEach [e2] X.env:=by rfl)(hs2:starEach [e2] X.env=[(false,eval e2 X.env)]:=by rfl):Wc X C (.Tuple elts k tp) (.Call (.Name "zip" p) [e,e2] [] pos) (xB ea):=⟨by
 have h:=Xm (elts:=elts) (k:=k) (tp:=tp) (p:=p) (pos:=pos) hg hm ha.u hs hs2;rw[G.K] at h;refine h.imp λσ H R hq=>?_;obtain⟨Pr,F,env,env',ds,r,e,q⟩:=hq;obtain⟨as,aK,e1,e2⟩:=aW e;refine⟨Pr,F,env,aK,as,r,e1,λvs H1 F1 r1 s1 p1=>?_⟩;split at e2
 ·rename_i xs ys;cases e2;obtain⟨v,w,rfl,p2,v2,w2,rfl,p3,p4⟩:=p1;cases p4;obtain⟨z1,a1,us,rfl,h1,h2⟩:=p2;obtain⟨z2,a2,ws,rfl,h3,h4⟩:=p3;have l1:=h2.length;have l2:=h4.length;refine⟨a1,a2,rfl,⟨us,aP.tupK r1.fr h1⟩,⟨ws,aP.tupK r1.fr h3⟩,q _ H1 F1 r1 s1 λi H2 s2=>⟨λ_ ei=>⟨us,ws,aP.tupK s2 h1,aP.tupK s2 h3,?_⟩,λd hd=>?_⟩⟩
  ·have:(zP xs ys).length=min xs.length ys.length:=by unfold zP;rw[Qqy,List.length_zip]
   omega
  ·unfold zP at hd;rw[Qxy] at hd;obtain⟨⟨c,j⟩,hc,rfl⟩:=Qwj.mp hd;obtain⟨g1,g2⟩:=List.getElem?_zip_eq_some.mp hc;obtain⟨v1,k1,k2⟩:=Ag h2 g1;obtain⟨v2,k3,k4⟩:=Ag h4 g2;refine⟨⟨us,ws,v1,v2,aP.tupK s2 h1,aP.tupK s2 h3,k1,k3⟩,λy H3 hy=>.inr ?_⟩;obtain⟨p,x',y',m1,m2,m3,rfl,rfl⟩:=hy;have n1:=m1 us (aP.tupK s2 h1);have n2:=m2 ws (aP.tupK s2 h3);rw[k1] at n1;rw[k3] at n2;cases n1;cases n2;exact⟨p,_,_,m3,rfl,rfl,rfl,by show 2<=sizeLine;decide,_,_,rfl,k2,_,_,rfl,k4,rfl⟩
 ·cases e2⟩
theorem M6{cd:Expr}{body:List Stmt}{bs:bK}(m:Nat)(G:Good X C)(hc:Q4 X C cd t)(hb:fO X C body bs)(hp:PassesOwn (model X.prog X.w) X.A X.env X.xe:=by exact PassesOwn.never):Fq X C (.While cd body [] pos) (iI t bs m):=⟨Kh m hp hc.u hb.u⟩
end
open PySem PySem.W PySem.Calls PyProof.Rows
section
variable{N:Nat}{r:Nat->Nat}
abbrev kK(r:Nat->Nat)(p:Array Nat)(i:Nat):Nat:=r (p.getD i 0)
def kUp(r:Nat->Nat)(p:Array Nat)(k:Nat):Prop:=∀i j,i<=j->j<k->kK r p i<=kK r p j
structure KB(N:Nat)(p:Array Nat):Prop where
 pos:1<=N
 perm:p.Perm (List.range N).toArray
theorem KB.size{p:Array Nat}(h:KB N p):p.size=N:=by have:=h.perm.size_eq;simpa using this
theorem KB.lt{p:Array Nat}(h:KB N p)(k:Nat):p.getD k 0<N:=by
 by_cases hk:k<p.size
 ·have e:p.getD k 0=p[k]:=by simp[Array.getD,hk]
  rw[e];have hm:p[k]∈p.toList:=by simp
  have:=(Array.perm_iff_toList_perm.mp h.perm).mem_iff.mp hm
  simpa using this
 ·have e:p.getD k 0=0:=by simp[Array.getD,hk]
  rw[e];exact h.pos
end
open PySem PySem.Spec PyProof.Rows PySem.Calls PySem.W L2
def ltB:D->D->Option Bool
 | .bl a,.bl b=>some (decide (b2i a<b2i b))
 | .int a,.int b=>some (decide (a<b))
 | .str a,.str b=>some (decide (a<b))
 | _,_=>none
def Tw:List D->List D->Option Bool
 | [],[]=>some false
 | [],_::_=>some true
 | _::_,[]=>some false
 | x::xs,y::ys=>match aX 40 x y with
  | some true=>Tw xs ys
  | some false=>ltB x y
  | none=>none
def VL(t:Bool):D->D->Option Bool
 | .int a,.int b=>some (decide (a<b))
 | .str a,.str b=>some (decide (a<b))
 | .tup xs,.tup ys=>if t=true then Tw xs ys else none
 | _,_=>none
def VJ(t:Bool):List D->List D->Option Bool
 | [],[]=>some false
 | [],_::_=>some true
 | _::_,[]=>some false
 | x::xs,y::ys=>match aX 57 x y with
  | some true=>VJ t xs ys
  | some false=>VL t x y
  | none=>none
def Rf(t:Bool):D->D->Option Bool
 | .tup xs,.tup ys=>VJ t xs ys
 | _,_=>none
abbrev m5:D->D->Option Bool:=Rf true
theorem YF:∀{x y:D} {b:Bool},VL false x y=some b->VL true x y=some b:=by intro x y b h;cases x<;>cases y<;>simp only[VL,reduceCtorEq] at h ⊢<;>first|exact h|(simp at h)
theorem Pz:∀{xs ys:List D} {b:Bool},VJ false xs ys=some b->VJ true xs ys=some b
 | [],[],_,h=>h
 | [],_::_,_,h=>h
 | _::_,[],_,h=>h
 | x::xs,y::ys,b,h=>by
  unfold VJ at h ⊢;split at h
  ·exact Pz h
  ·exact YF h
  ·cases h
theorem YC{x y:D}{b:Bool}(h:Rf false x y=some b):m5 x y=some b:=by cases x<;>cases y<;>simp only[Rf,reduceCtorEq] at h;exact Pz h
def Y0:D->Bool
 | .tup (.tup _::_)=>true
 | _=>false
def Y5:D->Bool
 | .tup (.int _::_)=>true
 | _=>false
def Y4:D->Bool
 | .tup (.str _::_)=>true
 | _=>false
def La(x:D):List D->List D
 | []=>[x]
 | y::r=>if m5 y x=some true then y::La x r else x::y::r
def je:List D->List D
 | []=>[]
 | x::r=>La x (je r)
def Yc:Nat->D->Bool
 | n+1,.tup xs=>xs.all (Yc n)
 | _+1,.str _=>true
 | _+1,.int _=>true
 | _+1,.bl _=>true
 | _+1,.non=>true
 | _,_=>false
def ph(ds:List D):Prop:=ds.length<2\/((ds.length<=1000/\∀d∈ds,Yc 60 d=true)/\((((∀d∈ds,Y5 d=true)\/∀d∈ds,Y4 d=true)/\∀x∈ds,∀y∈ds,Rf false x y≠none)\/(∀d∈ds,Y0 d=true)/\∀x∈ds,∀y∈ds,m5 x y≠none)/\(∀x∈ds,m5 x x=some false)/\
 (∀x∈ds,∀y∈ds,∀z∈ds,m5 x y=some true->m5 y z=some true->m5 x z=some true)/\ds.Pairwise λx y=>m5 x y=some true\/m5 y x=some true)
instance (ds:List D):Decidable (ph ds):=by unfold ph;exact inferInstance
theorem tY(x:D):∀l,(La x l).Perm (x::l)
 | []=>.refl _
 | y::r=>by
  unfold La;split
  ·exact((tY x r).cons y).trans (.swap x y r)
  ·exact .refl _
theorem iJ:∀l,(je l).Perm l
 | []=>.refl _
 | x::r=>(tY x (je r)).trans ((iJ r).cons x)
structure jO(S:D->Prop):Prop where
 irr:∀x,S x->m5 x x=some false
 tr:∀x y z,S x->S y->S z->m5 x y=some true->m5 y z=some true->m5 x z=some true
 tot:∀x y,S x->S y->x=y\/m5 x y=some true\/m5 y x=some true
theorem jO.aex{S:D->Prop}(o:jO S){x y:D}(hx:S x)(hy:S y)(h:m5 x y=some true):m5 y x≠some true:=λh'=>by
 have:=o.tr x y x hx hy hx h h';rw[o.irr x hx] at this;cases this
theorem jO.aey{S:D->Prop}(o:jO S){x y:D}(hx:S x)(hy:S y)(h:m5 y x≠some true)(h':m5 x y≠some true):x=y:=by
 rcases o.tot x y hx hy with e|e|e
 ·exact e
 ·exact absurd e h'
 ·exact absurd e h
theorem jO.adS{S:D->Prop}(o:jO S){x y z:D}(hx:S x)(hy:S y)(hz:S z)(h:m5 y x≠some true)(h':m5 z y≠some true):m5 z x≠some true:=λc=>by
 rcases o.tot x y hx hy with e|e|e
 ·subst e;exact h' c
 ·exact h' (o.tr z x y hz hx hy c e)
 ·exact h e
theorem uB{S:D->Prop}(o:jO S){x:D}(hx:S x):∀l,(∀y∈l,S y)->l.Pairwise (λa b=>m5 b a≠some true)->(La x l).Pairwise (λa b=>m5 b a≠some true)
 | [],_,_=>List.pairwise_singleton _ _
 | y::r,hl,h=>by
  unfold La;have h1:=Qzk.mp h;have hy:=hl y (Qqz ..);have hr:∀z∈r,S z:=λz hz=>hl z (Qqj _ hz);split
  ·rename_i c;refine Qzk.mpr ⟨λz hz=>?_,uB o hx r hr h1.2⟩;rcases Qq8.mp ((tY x r).mem_iff.mp hz) with rfl|hz
   ·exact o.aex hy hx c
   ·exact h1.1 z hz
  ·rename_i c;refine Qzk.mpr ⟨λz hz=>?_,h⟩;rcases Qq8.mp hz with rfl|hz
   ·exact c
   ·exact o.adS hx hy (hr z hz) c (h1.1 z hz)
theorem m7{S:D->Prop}(o:jO S):∀l,(∀y∈l,S y)->(je l).Pairwise (λa b=>m5 b a≠some true)
 | [],_=>.nil
 | x::r,h=>uB o (h x (Qqz ..)) _ (λy hy=>h y (Qqj _ ((iJ r).mem_iff.mp hy))) (m7 o r λy hy=>h y (Qqj _ hy))
theorem qT{S:D->Prop}(o:jO S){l l':List D}(h:∀y∈l,S y)(p:l'.Perm l)(s:l'.Pairwise (λa b=>m5 b a≠some true)):l'=je l:=by refine List.Perm.eq_of_pairwise (le:=λa b=>m5 b a≠some true) (λa b ha hb x y=>o.aey (h a (p.mem_iff.mp ha)) (h b ((iJ l).mem_iff.mp hb)) x y) s (m7 o l h) (p.trans (iJ l).symm)
theorem jO.of{ds:List D}(h1:∀x∈ds,m5 x x=some false)(h2:∀x∈ds,∀y∈ds,∀z∈ds,m5 x y=some true->m5 y z=some true->m5 x z=some true)
  (h3:ds.Pairwise λx y=>m5 x y=some true\/m5 y x=some true):jO (·∈ ds):=by
 refine⟨h1,λx y z a b c=>h2 x a y b z c,λx y hx hy=>?_⟩;obtain⟨i,hi,rfl⟩:=List.mem_iff_getElem.mp hx;obtain⟨j,hj,rfl⟩:=List.mem_iff_getElem.mp hy;have hp:=List.pairwise_iff_getElem.mp h3;rcases Nat.lt_trichotomy i j with c|c|c
 ·exact .inr (hp i j hi hj c)
 ·subst c;exact .inl rfl
 ·exact .inr ((hp j i hj hi c).symm)
theorem uf{α:Type}{p q:α->Bool}:∀(l:List α),(∀x∈l,p x=true->q x=true)->(∃x∈l,q x=true/\p x=false)->l.countP p<l.countP q
 | [],_,h=>by obtain⟨x,hx,_⟩:=h;cases hx
 | a::l,h,e=>by
  have ha:=h a (Qqz ..);have hl:∀x∈l,p x=true->q x=true:=λx hx=>h x (Qqj _ hx);obtain⟨x,hx,e1,e2⟩:=e;rw[List.countP_cons,List.countP_cons];rcases Qq8.mp hx with rfl|hx
  ·have:=List.countP_mono_left hl;rw[e1,e2];simp;omega
  ·have:=uf l hl ⟨x,hx,e1,e2⟩;cases c:p a with
   | true=>rw[ha c];simp;omega
   | false=>simp;omega
def Nh(ds:List D)(i:Nat):Nat:=ds.countP λy=>m5 y (ds.getD i .non) == some true
theorem Ng{ds:List D}(o:jO (·∈ ds)){i j:Nat}(hi:i<ds.length)(hj:j<ds.length):(m5 (ds.getD i .non) (ds.getD j .non)=some true)↔Nh ds i<Nh ds j:=by
 have mi:ds.getD i .non∈ds:=by rw[Qq7,Qq2 hi];exact Qx3 ..
 have mj:ds.getD j .non∈ds:=by rw[Qq7,Qq2 hj];exact Qx3 ..
 constructor
 ·intro h;refine uf ds (λx hx e=>?_) ⟨_,mi,?_,?_⟩
  ·simp only[beq_iff_eq] at e ⊢;exact o.tr _ _ _ hx mi mj e h
  ·simpa using h
  ·rw[o.irr _ mi];rfl
 ·intro h;rcases o.tot _ _ mi mj with e|e|e
  ·unfold Nh at h;rw[e] at h;exact absurd h (Qz3 _)
  ·exact e
  ·have:=uf (p:=λy=>m5 y (ds.getD j .non) == some true) (q:=λy=>m5 y (ds.getD i .non) == some true) ds (λx hx c=>by simp only[beq_iff_eq] at c ⊢;exact o.tr _ _ _ hx mj mi c e) ⟨_,mj,by simpa using e,by rw[o.irr _ mj];rfl⟩;unfold Nh at h;omega
end Ev
namespace ST
open PySem PyProof.Rows
def gU:Bool->Keyed->Array Keyed->Nat->Nat->Nat->StateT SortSt Sem (Option Nat):=sortPriv% PySem.Builtin.gallop
def byd(left:Bool)(key:Keyed)(arr:Array Keyed)(base i:Nat):StateT SortSt Sem (Option Bool):=do
 let x <-elem' arr (base+i)
 if left then lt' x key else return (<-lt' key x).map (!·)
def Jo(left:Bool)(key:Keyed)(arr:Array Keyed)(base n lo hi:Nat):StateT SortSt Sem (Option Nat):=do
 let mut lo:=lo
 let mut hi:=hi
 for _ in [0:n] do
  if lo ≥ hi then break
  let m:=lo+(hi - lo) / 2
  let some more <-byd left key arr base m|return none
  if more then lo:=m+1 else hi:=m
 return some hi
theorem Zh(left:Bool)(key:Keyed)(arr:Array Keyed)(base n hint:Nat):gU left key arr base n hint=(do
 let some right <-byd left key arr base hint|return none
 let mut lastofs:=0
 let mut ofs:=1
 if right then
  for _ in [0:n] do
   if ofs ≥ n - hint then break
   let some more <-byd left key arr base (hint+ofs)|return none
   if !more then break
   lastofs:=ofs
   ofs:=2*ofs+1
  Jo left key arr base n (hint+lastofs+1) (hint+min ofs (n - hint))
 else
  for _ in [0:n] do
   if ofs ≥ hint+1 then break
   let some found <-byd left key arr base (hint - ofs)|return none
   if found then break
   lastofs:=ofs
   ofs:=2*ofs+1
  Jo left key arr base n (hint+1 - min ofs (hint+1)) (hint - lastofs)):=rfl
section
variable{prog:Program}{w:World}{A:Around}{E:Value->Shared->Prop}{s:Shared}{kd:SortKind}{r:Keyed->Nat}{a₀:Array Keyed}
def JV(prog:Program)(w:World)(A:Around)(E:Value->Shared->Prop)(s:Shared)(kd:SortKind)(r:Keyed->Nat)(a₀:Array Keyed):Prop:=
 ∀x y,x∈a₀->y∈a₀->∀(st:SortSt) (Q:Option Bool->SortSt->Prop),kindOf st=kd->Q (some (decide (r x<r y))) st->wpS (model prog w) A E s (lt' x y) Q st
theorem eQ{arr:Array Keyed}{i:Nat}{st:SortSt}{Q:Keyed->SortSt->Prop}(hi:i<arr.size)(h:Q arr[i] st):wpS (model prog w) A E s (elem' arr i) Q st:=by rw[elem'_eq,Array.getElem?_eq_getElem hi];exact wpS_pure h
def bB(left:Bool)(r:Keyed->Nat)(key x:Keyed):Bool:=if left then decide (r x<r key) else !decide (r key<r x)
theorem HS(C:JV prog w A E s kd r a₀){left:Bool}{key:Keyed}{arr:Array Keyed}{base i:Nat}{st:SortSt}{Q:Option Bool->SortSt->Prop}(hk:kindOf st=kd)(hkey:key∈a₀)(qp:∀x∈arr,x∈a₀)(hi:base+i<arr.size)
  (h:Q (some (bB left r key arr[base+i])) st):wpS (model prog w) A E s (byd left key arr base i) Q st:=by
 unfold byd;refine wpS_bind (eQ hi ?_);have hx:=qp _ (Array.getElem_mem hi);cases left with
 | true=>exact C _ _ hx hkey st _ hk h
 | false=>exact wpS_bind (C _ _ hkey hx st _ hk (wpS_pure h))
section
variable{left:Bool}{key:Keyed}{arr:Array Keyed}{base n:Nat}{st:SortSt}(C:JV prog w A E s kd r a₀)(hk:kindOf st=kd)(hkey:key∈a₀)(qp:∀x∈arr,x∈a₀)(hb:base+n<=arr.size)
 (B:Nat->Bool) (hB:∀i (h:base+i<arr.size),i<n->bB left r key arr[base+i]=B i) (hm:∀i j,i<=j->j<n->B j=true->B i=true)
include C hk hkey qp hb hB hm
theorem pq{lo hi:Nat}{Q:Option Nat->SortSt->Prop}(h1:lo<=hi)(h2:hi<=n)(t:∀i,i<lo->B i=true)(f:∀i,hi<=i->i<n->B i=false)
  (h:∀m,m<=n->(∀i,i<m->B i=true)->(∀i,m<=i->i<n->B i=false)->Q (some m) st):wpS (model prog w) A E s (Jo left key arr base n lo hi) Q st:=by
 unfold Jo;refine wpS_bind (wpS_forRange (I:=λx (c:Option (Option Nat)×Nat×Nat) st'=>st'=st/\c.1=none/\c.2.1<=c.2.2/\c.2.2<=n/\c.2.2 - c.2.1+x<=n/\(∀i,i<c.2.1->B i=true)/\∀i,c.2.2<=i->i<n->B i=false)
  (Q:=λc st'=>wpS (model prog w) A E s _ Q st') ?_ ?_ ⟨rfl,rfl,h1,h2,by(try dsimp only at *);omega,t,f⟩)
 ·rintro x ⟨c,lo,hi⟩ st' _ hx ⟨rfl,e,q1,q2,q3,q4,q5⟩;cases e;dsimp only at q1 q2 q3 q4 q5 ⊢;by_cases hl:lo ≥ hi
  ·rw[if_pos hl];have e:lo=hi:=Nat.le_antisymm q1 hl;subst e;exact wpS_pure (wpS_pure (h lo q2 q4 q5))
  ·rw[if_neg hl];have hmid:lo+(hi - lo) / 2<n:=by omega
   refine wpS_bind (HS C hk hkey qp (by(try dsimp only at *);omega) ?_);rw[hB _ (by(try dsimp only at *);omega) hmid];cases e:B (lo+(hi - lo) / 2) with
   | true=>exact wpS_pure ⟨rfl,rfl,by(try dsimp only at *);omega,q2,by(try dsimp only at *);omega,λi hi=>hm i _ (by(try dsimp only at *);omega) hmid e,q5⟩
   | false=>
    refine wpS_pure ⟨rfl,rfl,by(try dsimp only at *);omega,by(try dsimp only at *);omega,by(try dsimp only at *);omega,q4,λi hi hn=>?_⟩;cases e':B i with
    | false=>rfl
    | true=>rw[hm _ i hi hn e'] at e;cases e
 ·rintro⟨c,lo,hi⟩ st' ⟨rfl,e,q1,q2,q3,q4,q5⟩;cases e;dsimp only at q1 q2 q3 q4 q5 ⊢;have e:lo=hi:=by omega
  subst e;exact wpS_pure (h lo q2 q4 q5)
theorem ou{hint:Nat}{Q:Option Nat->SortSt->Prop}(hh:hint<n)
  (h:∀m,m<=n->(∀i,i<m->B i=true)->(∀i,m<=i->i<n->B i=false)->Q (some m) st):wpS (model prog w) A E s (gU left key arr base n hint) Q st:=by
 rw[Zh];refine wpS_bind (HS C hk hkey qp (by(try dsimp only at *);omega) ?_);rw[hB _ (by(try dsimp only at *);omega) hh];have fl:∀i j,i<=j->j<n->B i=false->B j=false:=λi j q1 q2 q3=>by
  cases e:B j with
  | false=>rfl
  | true=>rw[hm i j q1 q2 e] at q3;cases q3
 cases e:B hint with
 | true=>
  dsimp only;rw[if_pos rfl];refine wpS_bind (wpS_forRange (I:=λx (c:Option (Option Nat)×Nat×Nat) st'=>st'=st/\c.1=none/\c.2.1<c.2.2/\x+1<=c.2.2/\hint+c.2.1<n/\B (hint+c.2.1)=true)
   (Q:=λc st'=>wpS (model prog w) A E s _ Q st') ?_ ?_ ⟨rfl,rfl,by decide,by decide,hh,e⟩)
  ·rintro x ⟨c,la,of⟩ st' _ hx ⟨rfl,e,q1,q2,q3,q4⟩;cases e;dsimp only at q1 q2 q3 q4 ⊢;by_cases hl:of ≥ n - hint
   ·rw[if_pos hl];exact wpS_pure (pq C hk hkey qp hb B hB hm (by(try dsimp only at *);omega) (by(try dsimp only at *);omega) (λi hi=>hm i _ (by(try dsimp only at *);omega) q3 q4) (λi hi hn=>by(try dsimp only at *);omega) h)
   ·rw[if_neg hl];refine wpS_bind (HS C hk hkey qp (by(try dsimp only at *);omega) ?_);rw[hB _ (by(try dsimp only at *);omega) (by(try dsimp only at *);omega)];cases e:B (hint+of) with
    | true=>exact wpS_pure ⟨rfl,rfl,by(try dsimp only at *);omega,by(try dsimp only at *);omega,by(try dsimp only at *);omega,e⟩
    | false=>exact wpS_pure (pq C hk hkey qp hb B hB hm (by(try dsimp only at *);omega) (by(try dsimp only at *);omega) (λi hi=>hm i _ (by(try dsimp only at *);omega) q3 q4) (λi hi hn=>fl _ _ (by(try dsimp only at *);omega) hn e) h)
  ·rintro⟨c,la,of⟩ st' ⟨rfl,e,q1,q2,q3,q4⟩;cases e;dsimp only at q1 q2 q3 q4 ⊢;exact pq C hk hkey qp hb B hB hm (by(try dsimp only at *);omega) (by(try dsimp only at *);omega) (λi hi=>hm i _ (by(try dsimp only at *);omega) q3 q4) (λi hi hn=>by(try dsimp only at *);omega) h
 | false=>
  dsimp only;rw[if_neg (by decide)];refine wpS_bind (wpS_forRange (I:=λx (c:Option (Option Nat)×Nat×Nat) st'=>st'=st/\c.1=none/\c.2.1<c.2.2/\x+1<=c.2.2/\c.2.1<=hint/\B (hint - c.2.1)=false)
   (Q:=λc st'=>wpS (model prog w) A E s _ Q st') ?_ ?_ ⟨rfl,rfl,by decide,by decide,Qxk _,e⟩)
  ·rintro x ⟨c,la,of⟩ st' _ hx ⟨rfl,e,q1,q2,q3,q4⟩;cases e;dsimp only at q1 q2 q3 q4 ⊢;by_cases hl:of ≥ hint+1
   ·rw[if_pos hl];exact wpS_pure (pq C hk hkey qp hb B hB hm (by(try dsimp only at *);omega) (by(try dsimp only at *);omega) (λi hi=>by(try dsimp only at *);omega) (λi hi hn=>fl _ _ hi hn q4) h)
   ·rw[if_neg hl];refine wpS_bind (HS C hk hkey qp (by(try dsimp only at *);omega) ?_);rw[hB _ (by(try dsimp only at *);omega) (by(try dsimp only at *);omega)];cases e:B (hint - of) with
    | true=>exact wpS_pure (pq C hk hkey qp hb B hB hm (by(try dsimp only at *);omega) (by(try dsimp only at *);omega) (λi hi=>hm i _ (by(try dsimp only at *);omega) (by(try dsimp only at *);omega) e) (λi hi hn=>fl _ _ hi hn q4) h)
    | false=>exact wpS_pure ⟨rfl,rfl,by(try dsimp only at *);omega,by(try dsimp only at *);omega,by(try dsimp only at *);omega,e⟩
  ·rintro⟨c,la,of⟩ st' ⟨rfl,e,q1,q2,q3,q4⟩;cases e;dsimp only at q1 q2 q3 q4 ⊢;exact pq C hk hkey qp hb B hB hm (by(try dsimp only at *);omega) (by(try dsimp only at *);omega) (λi hi=>by(try dsimp only at *);omega) (λi hi hn=>fl _ _ hi hn q4) h
end
end
section
variable{le:Keyed->Keyed->Prop}
structure J(le:Keyed->Keyed->Prop)(X Y out:List Keyed)(i j:Nat):Prop where
 hi:i<=X.length
 hj:j<=Y.length
 perm:out.Perm (X.take i++Y.take j)
 srt:out.Pairwise le
 low:∀x∈out,∀y∈X.drop i++Y.drop j,le x y
theorem J.swap{X Y out:List Keyed}{i j:Nat}(h:J le X Y out i j):J le Y X out j i:=
 ⟨h.hj,h.hi,h.perm.trans List.perm_append_comm,h.srt,λx hx y hy=>h.low x hx y (List.perm_append_comm.mem_iff.mp hy)⟩
theorem J.push{X Y out:List Keyed}{i j:Nat}(h:J le X Y out i j)(hX:X.Pairwise le)(hi:i<X.length)(hY:∀y∈Y.drop j,le X[i] y):J le X Y (out++[X[i]]) (i+1) j:=by
 have e:X.drop i=X[i]::X.drop (i+1):=Qx4 hi;have hXd:(X.drop i).Pairwise le:=hX.sublist (List.drop_sublist i X);rw[e,Qzk] at hXd;refine⟨hi,h.hj,?_,?_,λx hx y hy=>?_⟩
 ·rw[List.take_succ_eq_append_getElem hi,Qwy];refine(h.perm.append_right _).trans ?_;rw[Qwy];exact List.perm_append_comm.append_left _
 ·rw[List.pairwise_append];exact⟨h.srt,List.pairwise_singleton _ _,λx hx y hy=>by rw[Qq1.mp hy];exact h.low x hx _ (Qjj _ (by rw[e];exact Qqz ..))⟩
 ·rcases Qw0.mp hx with hx|hx
  ·refine h.low x hx y ?_;rw[e];rcases Qw0.mp hy with hy|hy
   ·exact Qjj _ (Qqj _ hy)
   ·exact Qxz _ hy
  ·rw[Qq1.mp hx];rcases Qw0.mp hy with hy|hy
   ·exact hXd.1 y hy
   ·exact hY y hy
theorem J.Al{X Y:List Keyed}{j:Nat}(hX:X.Pairwise le):∀(k i:Nat) (out:List Keyed),J le X Y out i j->i+k<=X.length->(∀m (h:m<X.length),i<=m->m<i+k->∀y∈Y.drop j,le X[m] y)->J le X Y (out++(X.drop i).take k) (i+k) j
 | 0,i,out,h,_,_=>by rw[List.take_zero,Qx1];exact h
 | k+1,i,out,h,hl,hm=>by
  have hi:i<X.length:=by omega
  have:=J.Al hX k (i+1) _ (h.push hX hi (hm i hi (Qq0 _) (by omega))) (by omega) λm q1 q2 q3=>hm m q1 (by omega) (by omega);rw[Qx4 hi,List.take_succ_cons];rw[Qwy] at this;have e:i+1+k=i+(k+1):=by omega
  rw[e] at this;exact this
def Good(le:Keyed->Keyed->Prop)(X Y R:List Keyed):Prop:=R.Perm (X++Y)/\R.Pairwise le
theorem Good.swap{X Y R:List Keyed}(h:Good le X Y R):Good le Y X R:=⟨h.1.trans List.perm_append_comm,h.2⟩
theorem J.fin{X Y out L:List Keyed}{i j:Nat}(h:J le X Y out i j)(hp:L.Perm (X.drop i++Y.drop j))(hL:L.Pairwise le):Good le X Y (out++L):=by
 refine⟨?_,?_⟩
 ·refine((h.perm.append_right _).trans (hp.append_left _)).trans ?_;have e1:=List.take_append_drop i X;have e2:=List.take_append_drop j Y;have:(X.take i++Y.take j++(X.drop i++Y.drop j)).Perm ((X.take i++X.drop i)++(Y.take j++Y.drop j)):=by
   rw[Qwy,Qwy];refine List.Perm.append_left _ ?_;rw[<-Qwy,<-Qwy];exact List.perm_append_comm.append_right _
  rw[e1,e2] at this;exact this
 ·rw[List.pairwise_append];exact⟨h.srt,hL,λx hx y hy=>h.low x hx y (hp.mem_iff.mp hy)⟩
theorem o8{X:List Keyed}{i:Nat}(h:X.length<=i):X.drop i=[]:=List.drop_of_length_le h
theorem J.ael{X Y out:List Keyed}{i j:Nat}(h:J le X Y out i j)(hX:X.Pairwise le)(hj:j=Y.length):Good le X Y (out++X.drop i++Y.drop j):=by rw[Qwy];refine h.fin (List.Perm.refl _) ?_;rw[o8 (Nat.le_of_eq hj.symm),Qx1];exact hX.sublist (List.drop_sublist i X)
theorem J.fin2{X Y out:List Keyed}{i j:Nat}(h:J le X Y out i j)(hY:Y.Pairwise le)(hi:i+1=X.length)(hl:∀y∈Y,le y (X[i]'(by omega))):Good le X Y (out++Y.drop j++X.drop i):=by
 rw[Qwy];refine h.fin List.perm_append_comm ?_;have hi':i<X.length:=by omega
 rw[Qx4 hi',o8 (X:=X) (i:=i+1) (by omega),List.pairwise_append];exact⟨hY.sublist (List.drop_sublist j Y),List.pairwise_singleton _ _,λx hx y hy=>by rw[Qq1.mp hy];exact hl x (List.mem_of_mem_drop hx)⟩
theorem pw_le{X:List Keyed}(rf:∀x,le x x)(hX:X.Pairwise le){i j:Nat}(hij:i<=j)(hj:j<X.length):le (X[i]'(by omega)) X[j]:=by
 by_cases e:i=j
 ·subst e;exact rf _
 ·exact List.pairwise_iff_getElem.mp hX i j (by omega) hj (by omega)
theorem JB{X:List Keyed}(rf:∀x,le x x)(hX:X.Pairwise le){i:Nat}(hi:i<X.length){y:Keyed}(hy:y∈X.drop i):le X[i] y:=by obtain⟨m,hm,rfl⟩:=List.mem_iff_getElem.mp hy;rw[List.getElem_drop];rw[Qxj] at hm;exact pw_le rf hX (by omega) (by omega)
end
abbrev SM:=StateT SortSt Sem
abbrev setG(st:SortSt)(g:Nat):SortSt:=SortSt.mk' (kindOf st) (arrOf st) (pendingOf st) g (failedOf st)
def Ku:Nat->SM Unit:=sortPriv% PySem.Builtin.setMinGallop
theorem R8(g:Nat):Ku g=modify λst=>setG st g:=rfl
def mLo:Array Keyed->Array Keyed->SM (Array Keyed):=sortPriv% PySem.Builtin.mergeLo
def cat(a b o:Array Keyed)(i j:Nat):Array Keyed:=o++a.extract i a.size++b.extract j b.size
abbrev C1:=Option (Array Keyed)×Array Keyed×Nat×Nat×Nat×Nat
abbrev C2:=Option (Array Keyed)×Array Keyed×Nat×Nat×Nat×Nat×Nat
abbrev C0:=Option (Array Keyed)×Array Keyed×Nat×Nat×Nat
def lo1(a b:Array Keyed)(g:Nat)(o:Array Keyed)(i j p q:Nat):SM (ForInStep C1):=do
 let y <-elem' b j
 let x <-elem' a i
 match <-lt' y x with
 | some v=>
  if v=true then do
   let z <-elem' b j
   if (j+1 == b.size)=true then pure (.done (some (cat a b (o.push z) i (j+1)),o.push z,i,j+1,0,q+1))
   else if q+1 ≥ g then pure (.done (none,o.push z,i,j+1,0,q+1))
   else pure (.yield (none,o.push z,i,j+1,0,q+1))
  else do
   let z <-elem' a i
   if (i+1+1 == a.size)=true then pure (.done (some (cat b a (o.push z) j (i+1)),o.push z,i+1,j,p+1,0))
   else if p+1 ≥ g then pure (.done (none,o.push z,i+1,j,p+1,0))
   else pure (.yield (none,o.push z,i+1,j,p+1,0))
 | _=>pure (.done (some (cat a b o i j),o,i,j,p,q))
def TQ(a b o:Array Keyed)(i j g k m:Nat):SM (ForInStep C2):=do
 let z <-elem' a i
 if (i+1+1 == a.size)=true then pure (.done (some (cat b a (o.push z) j (i+1)),o.push z,i+1,j,g,k,m))
 else if (decide (k<7)&&decide (m<7))=true then pure (.done (none,o.push z,i+1,j,g,k,m))
 else pure (.yield (none,o.push z,i+1,j,g,k,m))
def TV(a b o:Array Keyed)(i j g k q:Nat):SM (ForInStep C2):=do
 let z <-elem' b j
 if (j+1 == b.size)=true then pure (.done (some (cat a b (o.push z) i (j+1)),o.push z,i,j+1,g,k,q))
 else do
  let x <-elem' a i
  match <-gU true x b (j+1) (b.size - (j+1)) 0 with
  | some m=>
   if m > 0 then
    if (j+1+m == b.size)=true then pure (.done (some (cat a b (o.push z++b.extract (j+1) (j+1+m)) i (j+1+m)),o.push z++b.extract (j+1) (j+1+m),i,j+1+m,g,k,m))
    else TQ a b (o.push z++b.extract (j+1) (j+1+m)) i (j+1+m) g k m
   else TQ a b (o.push z) i (j+1) g k m
  | _=>pure (.done (some (cat a b (o.push z) i (j+1)),o.push z,i,j+1,g,k,q))
def PB(a b o:Array Keyed)(i j p q g:Nat):SM (ForInStep C2):=do
 Ku g
 let y <-elem' b j
 match <-gU false y a i (a.size - i) 0 with
 | some k=>
  if k > 0 then
   if (i+k+1 == a.size)=true then pure (.done (some (cat b a (o++a.extract i (i+k)) j (i+k)),o++a.extract i (i+k),i+k,j,g,k,q))
   else if (i+k == a.size)=true then pure (.done (some (cat a b (o++a.extract i (i+k)) (i+k) j),o++a.extract i (i+k),i+k,j,g,k,q))
   else TV a b (o++a.extract i (i+k)) (i+k) j g k q
  else TV a b o i j g k q
 | _=>pure (.done (some (cat a b o i j),o,i,j,g,p,q))
def loS(a b:Array Keyed)(t:Nat)(o:Array Keyed)(i j g:Nat):SM (ForInStep C0):=do
 let c <-forIn [0:t] ((none,o,i,j,0,0):C1) λ_ c=>lo1 a b g c.2.1 c.2.2.1 c.2.2.2.1 c.2.2.2.2.1 c.2.2.2.2.2
 match c.1 with
 | some r=>pure (.done (some r,c.2.1,c.2.2.1,c.2.2.2.1,g))
 | none=>do
  rule "list.sort.gallop"
  let d <-forIn [0:t] ((none,c.2.1,c.2.2.1,c.2.2.2.1,g+1,c.2.2.2.2.1,c.2.2.2.2.2):C2) λ_ d=>
   if d.2.2.2.2.1 > 1 then PB a b d.2.1 d.2.2.1 d.2.2.2.1 d.2.2.2.2.2.1 d.2.2.2.2.2.2 (d.2.2.2.2.1 - 1) else PB a b d.2.1 d.2.2.1 d.2.2.2.1 d.2.2.2.2.2.1 d.2.2.2.2.2.2 d.2.2.2.2.1
  match d.1 with
  | some r=>pure (.done (some r,d.2.1,d.2.2.1,d.2.2.2.1,d.2.2.2.2.1))
  | none=>do
   Ku (d.2.2.2.2.1+1)
   pure (.yield (none,d.2.1,d.2.2.1,d.2.2.2.1,d.2.2.2.2.1+1))
theorem abS(a b:Array Keyed):mLo a b=(do
 rule "list.sort.merge-lo"
 let z <-elem' b 0
 if (1 == b.size)=true then pure (cat a b #[z] 0 1)
 else if (0+1 == a.size)=true then pure (cat b a #[z] 1 0)
 else do
  let st <-get
  let c <-forIn [0:a.size+b.size] ((none, #[z],0,1,gallopOf st):C0) λ_ c=>loS a b (a.size+b.size) c.2.1 c.2.2.1 c.2.2.2.1 c.2.2.2.2
  match c.1 with
  | some r=>pure r
  | none=>unsupported "internal:list.sort.merge-bound"):=by
 refine(show mLo a b=bind _ _ from rfl).trans ?_;refine Qw8 (bind _) (funext λ_=>?_);refine Qw8 (bind _) (funext λz=>?_);dsimp only
 congr 1
 congr 1
 refine Qw8 (bind _) (funext λst=>?_);refine congr (Qw8 bind ?_) (funext λc=>?_)
 ·congr 1
  funext u c
  unfold loS;refine congr (Qw8 bind ?_) (funext λd=>?_)
  ·congr 1
  ·rcases d with ⟨_|r,d⟩
   ·refine Qw8 (bind _) (funext λ_=>?_);refine congr (Qw8 bind ?_) (funext λf=>?_)
    ·congr 1
    ·rcases f with ⟨_|r,f⟩<;>rfl
   ·rfl
 ·rcases c with ⟨_|r,c⟩<;>rfl
theorem QL(a b o:Array Keyed)(i j:Nat):(cat a b o i j).toList=o.toList++a.toList.drop i++b.toList.drop j:=by unfold cat;rw[Array.toList_append,Array.toList_append,Array.toList_extract,Array.toList_extract];unfold List.extract;rw[Qj2 (by rw[Qxj,Qqq];exact Qq0 _),Qj2 (by rw[Qxj,Qqq];exact Qq0 _)]
theorem V0(a o:Array Keyed)(i k:Nat):(o++a.extract i (i+k)).toList=o.toList++(a.toList.drop i).take k:=by rw[Array.toList_append,Array.toList_extract];unfold List.extract;rw[Nat.add_sub_cancel_left]
section
variable{prog:Program}{w:World}{A:Around}{E:Value->Shared->Prop}{s:Shared}{kd:SortKind}{r:Keyed->Nat}{a₀:Array Keyed}
abbrev jj(r:Keyed->Nat):Keyed->Keyed->Prop:=λx y=>r x<=r y
theorem qH{st:SortSt}{g:Nat}{Q:Unit->SortSt->Prop}(h:Q () (setG st g)):wpS (model prog w) A E s (Ku g) Q st:=by rw[R8];exact wpS_modify h
def Sm(st st':SortSt):Prop:=∃g,st'=setG st g
theorem Sm.yw(st:SortSt):Sm st st:=⟨gallopOf st,rfl⟩
theorem Sm.put{st st':SortSt}(h:Sm st st')(g:Nat):Sm st (setG st' g):=by obtain⟨_,rfl⟩:=h;exact⟨g,rfl⟩
theorem Sm.kind{st st':SortSt}(h:Sm st st')(hk:kindOf st=kd):kindOf st'=kd:=by obtain⟨_,rfl⟩:=h;exact hk
section
variable{a b:Array Keyed}{st:SortSt}(C:JV prog w A E s kd r a₀)(hk:kindOf st=kd)(ma:∀x∈a,x∈a₀)(mb:∀x∈b,x∈a₀)(hX:a.toList.Pairwise (jj r))(hY:b.toList.Pairwise (jj r))
 (hl:∀y∈b.toList,∀h:a.size - 1<a.toList.length,jj r y a.toList[a.size - 1])
structure JS(r:Keyed->Nat)(a b o:Array Keyed)(i j:Nat):Prop where
 on:J (jj r) a.toList b.toList o.toList i j
 hi:i+1<a.size
 hj:j<b.size
abbrev GD(r:Keyed->Nat)(a b R:Array Keyed):Prop:=Good (jj r) a.toList b.toList R.toList
theorem rf(x:Keyed):jj r x x:=Qq0 _
include hX in
theorem DQ{i:Nat}(hi:i<a.size){x:Nat}(h:x<=r a[i]):∀y∈a.toList.drop i,x<=r y:=λy hy=>Qq3 h (JB (le:=jj r) rf hX (i:=i) (by rw[Qqq];exact hi) hy)
theorem Oc{o:Array Keyed}{i j:Nat}(h:J (jj r) a.toList b.toList o.toList i j)(hY:b.toList.Pairwise (jj r))(hj:j<b.size)(hle:∀y∈a.toList.drop i,r b[j]<=r y):J (jj r) a.toList b.toList (o.push b[j]).toList i (j+1):=by rw[Array.toList_push];exact(h.swap.push hY (by rw[Qqq];exact hj) hle).swap
theorem Vt{o:Array Keyed}{i j:Nat}(h:J (jj r) a.toList b.toList o.toList i j)(hX:a.toList.Pairwise (jj r))(hi:i<a.size)(hle:∀y∈b.toList.drop j,r a[i]<=r y):J (jj r) a.toList b.toList (o.push a[i]).toList (i+1) j:=by rw[Array.toList_push];exact h.push hX (by rw[Qqq];exact hi) hle
include hX in
theorem Jz{o:Array Keyed}{i j:Nat}(h:J (jj r) a.toList b.toList o.toList i j)(hj:j=b.size):GD r a b (cat a b o i j):=by unfold GD;rw[QL];exact h.ael hX (by rw[Qqq];exact hj)
include hY hl in
theorem Bb{o:Array Keyed}{i j:Nat}(h:J (jj r) a.toList b.toList o.toList i j)(hi:i+1=a.size):GD r a b (cat b a o j i):=by
 unfold GD;rw[QL];refine h.fin2 hY (by rw[Qqq];exact hi) λy hy=>?_;have:a.size - 1=i:=by omega
 have q:=hl y hy (by rw[Qqq];omega);simp only[this] at q;exact q
include hY in
theorem acq{o:Array Keyed}{i j:Nat}(h:J (jj r) a.toList b.toList o.toList i j)(hi:i=a.size):GD r a b (cat a b o i j):=by unfold GD;rw[QL,Qwy];refine h.fin (List.Perm.refl _) ?_;rw[o8 (X:=a.toList) (by rw[Qqq];omega),List.nil_append];exact hY.sublist (List.drop_sublist j _)
def P1(r:Keyed->Nat)(a b:Array Keyed)(n:Nat)(c:Option (Array Keyed))(o:Array Keyed)(i j:Nat):Prop:=match c with
 | some R=>GD r a b R
 | none=>JS r a b o i j/\n<=i+j
include C hk ma mb hX hY hl
theorem aaC{g p q i j:Nat}{o:Array Keyed}(h:JS r a b o i j):wpS (model prog w) A E s (lo1 a b g o i j p q) (λt st'=>st'=st/\match t with
  | .done c=>P1 r a b (i+j+1) c.1 c.2.1 c.2.2.1 c.2.2.2.1
  | .yield c=>c.1=none/\P1 r a b (i+j+1) none c.2.1 c.2.2.1 c.2.2.2.1) st:=by
 have hi:=h.hi;have hj:=h.hj;have hi':i<a.size:=by omega
 unfold lo1;refine wpS_bind (eQ hj (wpS_bind (eQ hi' (wpS_bind (C _ _ (mb _ (Array.getElem_mem hj)) (ma _ (Array.getElem_mem hi')) st _ hk ?_)))));by_cases e:r b[j]<r a[i]
 ·rw[Qww e];dsimp only;rw[if_pos rfl];have h':=Oc h.on hY hj (DQ hX hi' (Qxv e));refine wpS_bind (eQ hj ?_);by_cases q1:j+1=b.size
  ·rw[if_pos (beq_iff_eq.mpr q1)];exact wpS_pure ⟨rfl,Jz hX h' q1⟩
  ·rw[if_neg (λz=>q1 (beq_iff_eq.mp z))];split
   ·exact wpS_pure ⟨rfl,⟨h',hi,by dsimp only;omega⟩,by dsimp only;omega⟩
   ·exact wpS_pure ⟨rfl,rfl,⟨h',hi,by dsimp only;omega⟩,by dsimp only;omega⟩
 ·rw[Qq9 e];dsimp only;rw[if_neg (by decide)];have h':=Vt h.on hX hi' (DQ (a:=b) hY hj (Nat.le_of_not_lt e));refine wpS_bind (eQ hi' ?_);by_cases q1:i+1+1=a.size
  ·rw[if_pos (beq_iff_eq.mpr q1)];exact wpS_pure ⟨rfl,Bb hY hl h' q1⟩
  ·rw[if_neg (λz=>q1 (beq_iff_eq.mp z))];split
   ·exact wpS_pure ⟨rfl,⟨h',by dsimp only;omega,hj⟩,by dsimp only;omega⟩
   ·exact wpS_pure ⟨rfl,rfl,⟨h',by dsimp only;omega,hj⟩,by dsimp only;omega⟩
theorem Ms{g k m i j n:Nat}{o:Array Keyed}(h:JS r a b o i j)(hle:∀y∈b.toList.drop j,r (a[i]'(by have:=h.hi;omega))<=r y)(hn:n<=i+j+1):wpS (model prog w) A E s (TQ a b o i j g k m) (λt st'=>st'=st/\match t with
  | .done c=>P1 r a b n c.1 c.2.1 c.2.2.1 c.2.2.2.1
  | .yield c=>c.1=none/\P1 r a b n none c.2.1 c.2.2.1 c.2.2.2.1) st:=by
 have hi:=h.hi;have hi':i<a.size:=by omega
 have h':=Vt h.on hX hi' hle;unfold TQ;refine wpS_bind (eQ hi' ?_);by_cases q1:i+1+1=a.size
 ·rw[if_pos (beq_iff_eq.mpr q1)];exact wpS_pure ⟨rfl,Bb hY hl h' q1⟩
 ·rw[if_neg (λz=>q1 (beq_iff_eq.mp z))];split
  ·exact wpS_pure ⟨rfl,⟨h',by dsimp only;omega,h.hj⟩,by dsimp only;omega⟩
  ·exact wpS_pure ⟨rfl,rfl,⟨h',by dsimp only;omega,h.hj⟩,by dsimp only;omega⟩
theorem acd{i j:Nat}(hi:i<a.size)(hj:j<b.size){Q:Option Nat->SortSt->Prop}(h:∀k,i+k<=a.size->(∀m (hm:m<a.toList.length),i<=m->m<i+k->r a.toList[m]<=r b[j])->(∀y∈a.toList.drop (i+k),r b[j]<=r y)->Q (some k) st) :
  wpS (model prog w) A E s (gU false b[j] a i (a.size - i) 0) Q st:=by
 refine ou C hk (mb _ (Array.getElem_mem hj)) ma (by omega) (λm=>match a.toList[i+m]? with|some x=>!decide (r b[j]<r x)|none=>false) (λm hm hm'=>?_) (λm m' h1 h2 h3=>?_) (by omega) λk h1 h2 h3=>?_
 ·rw[Qq2 (by rw[Qqq];omega)]
  rfl
 ·rw[Qq2 (by rw[Qqq];omega)] at h3 ⊢;simp only[Bool.not_eq_true',decide_eq_false_iff_not,Nat.not_lt] at h3 ⊢;exact Qq3 (pw_le (le:=jj r) rf hX (i:=i+m) (j:=i+m') (by omega) (by rw[Qqq];omega)) h3
 ·refine h k (by omega) (λm hm q1 q2=>?_) (λy hy=>?_)
  ·have:=h2 (m - i) (by omega);rw[Qq2 (by omega)] at this;simp only[Bool.not_eq_true',decide_eq_false_iff_not,Nat.not_lt] at this;have e:i+(m - i)=m:=by omega
   simp only[e] at this;exact this
  ·obtain⟨m,hm,rfl⟩:=List.mem_iff_getElem.mp hy;rw[Qxj,Qqq] at hm;rw[List.getElem_drop];have:=h3 (k+m) (by omega) (by omega);rw[Qq2 (by rw[Qqq];omega)] at this;simp only[Bool.not_eq_false',decide_eq_true_eq] at this;have e:i+(k+m)=i+k+m:=by omega
   simp only[e] at this;exact Qxv this
theorem acb{i j:Nat}(hi:i<a.size)(hj:j<b.size){Q:Option Nat->SortSt->Prop}(h:∀k,j+k<=b.size->(∀m (hm:m<b.toList.length),j<=m->m<j+k->r b.toList[m]<=r a[i])->(∀y∈b.toList.drop (j+k),r a[i]<=r y)->Q (some k) st) :
  wpS (model prog w) A E s (gU true a[i] b j (b.size - j) 0) Q st:=by
 refine ou C hk (ma _ (Array.getElem_mem hi)) mb (by omega) (λm=>match b.toList[j+m]? with|some x=>decide (r x<r a[i])|none=>false) (λm hm hm'=>?_) (λm m' h1 h2 h3=>?_) (by omega) λk h1 h2 h3=>?_
 ·rw[Qq2 (by rw[Qqq];omega)]
  rfl
 ·rw[Qq2 (by rw[Qqq];omega)] at h3 ⊢;simp only[decide_eq_true_eq] at h3 ⊢;exact Qw6 (pw_le (le:=jj r) rf hY (i:=j+m) (j:=j+m') (by omega) (by rw[Qqq];omega)) h3
 ·refine h k (by omega) (λm hm q1 q2=>?_) (λy hy=>?_)
  ·have:=h2 (m - j) (by omega);rw[Qq2 (by omega)] at this;simp only[decide_eq_true_eq] at this;have e:j+(m - j)=m:=by omega
   simp only[e] at this;exact Qxv this
  ·obtain⟨m,hm,rfl⟩:=List.mem_iff_getElem.mp hy;rw[Qxj,Qqq] at hm;rw[List.getElem_drop];have:=h3 (k+m) (by omega) (by omega);rw[Qq2 (by rw[Qqq];omega)] at this;simp only[decide_eq_false_iff_not,Nat.not_lt] at this;have e:j+(k+m)=j+k+m:=by omega
   simp only[e] at this;exact this
end
end
section
variable{prog:Program}{w:World}{A:Around}{E:Value->Shared->Prop}{s:Shared}{kd:SortKind}{r:Keyed->Nat}{a₀:Array Keyed}
variable{a b:Array Keyed}{st:SortSt}(C:JV prog w A E s kd r a₀)(hk:kindOf st=kd)(ma:∀x∈a,x∈a₀)(mb:∀x∈b,x∈a₀)(hX:a.toList.Pairwise (jj r))(hY:b.toList.Pairwise (jj r))
 (hl:∀y∈b.toList,∀h:a.size - 1<a.toList.length,jj r y a.toList[a.size - 1])
theorem P1.mono{n m:Nat}{c:Option (Array Keyed)}{o:Array Keyed}{i j:Nat}(h:P1 r a b n c o i j)(hm:m<=n):P1 r a b m c o i j:=by
 cases c with
 | some R=>exact h
 | none=>exact⟨h.1,Qq3 hm h.2⟩
include C hk ma mb hX hY hl
theorem Mt{g k q i j n:Nat}{o:Array Keyed}(h:JS r a b o i j)(hle:∀y∈a.toList.drop i,r (b[j]'h.hj)<=r y)(hn:n<=i+j+1):wpS (model prog w) A E s (TV a b o i j g k q) (λt st'=>st'=st/\match t with
  | .done c=>P1 r a b n c.1 c.2.1 c.2.2.1 c.2.2.2.1
  | .yield c=>c.1=none/\P1 r a b n none c.2.1 c.2.2.1 c.2.2.2.1) st:=by
 have hi:=h.hi;have hj:=h.hj;have hi':i<a.size:=by omega
 have h':=Oc h.on hY hj hle;unfold TV;refine wpS_bind (eQ hj ?_);by_cases q1:j+1=b.size
 ·rw[if_pos (beq_iff_eq.mpr q1)];exact wpS_pure ⟨rfl,Jz hX h' q1⟩
 ·rw[if_neg (λz=>q1 (beq_iff_eq.mp z))];refine wpS_bind (eQ hi' (wpS_bind (acb C hk ma mb hX hY hl hi' (by omega) λm m1 m2 m3=>?_)));dsimp only;by_cases m0:m > 0
  ·rw[if_pos m0];have h2:J (jj r) a.toList b.toList (o.push b[j]++b.extract (j+1) (j+1+m)).toList i (j+1+m):=by
    rw[V0];exact(J.Al hY m (j+1) _ h'.swap (by rw[Qqq];exact m1) λu hu u1 u2=>DQ hX hi' (m2 u hu u1 u2)).swap
   by_cases q2:j+1+m=b.size
   ·rw[if_pos (beq_iff_eq.mpr q2)];exact wpS_pure ⟨rfl,Jz hX h2 q2⟩
   ·rw[if_neg (λz=>q2 (beq_iff_eq.mp z))];exact Ms C hk ma mb hX hY hl ⟨h2,hi,by omega⟩ m3 (by omega)
  ·rw[if_neg m0];have:m=0:=by omega
   subst this;exact Ms C hk ma mb hX hY hl ⟨h',hi,by omega⟩ m3 (by omega)
theorem Wo{g p q i j n:Nat}{o:Array Keyed}(h:JS r a b o i j)(hn:n<=i+j+1):wpS (model prog w) A E s (PB a b o i j p q g) (λt st'=>Sm st st'/\match t with
  | .done c=>P1 r a b n c.1 c.2.1 c.2.2.1 c.2.2.2.1
  | .yield c=>c.1=none/\P1 r a b n none c.2.1 c.2.2.1 c.2.2.2.1) st:=by
 have hi:=h.hi;have hj:=h.hj;have hi':i<a.size:=by omega
 have hk2:kindOf (setG st g)=kd:=hk;have sm:Sm st (setG st g):=⟨g,rfl⟩;unfold PB;refine wpS_bind (qH (wpS_bind (eQ hj (wpS_bind (acd C hk2 ma mb hX hY hl hi' hj λk k1 k2 k3=>?_)))));dsimp only;by_cases k0:k > 0
 ·rw[if_pos k0];have h2:J (jj r) a.toList b.toList (o++a.extract i (i+k)).toList (i+k) j:=by
   rw[V0];exact J.Al hX k i _ h.on (by rw[Qqq];exact k1) λu hu u1 u2=>DQ (a:=b) hY hj (k2 u hu u1 u2)
  by_cases q1:i+k+1=a.size
  ·rw[if_pos (beq_iff_eq.mpr q1)];exact wpS_pure ⟨sm,Bb hY hl h2 q1⟩
  ·rw[if_neg (λz=>q1 (beq_iff_eq.mp z))];by_cases q2:i+k=a.size
   ·rw[if_pos (beq_iff_eq.mpr q2)];exact wpS_pure ⟨sm,acq hY h2 q2⟩
   ·rw[if_neg (λz=>q2 (beq_iff_eq.mp z))];exact wpS_mono (Mt C hk2 ma mb hX hY hl (n:=n) ⟨h2,by omega,hj⟩ k3 (by omega)) λt st' ⟨e,z⟩=>⟨by rw[e];exact sm,z⟩
 ·rw[if_neg k0];have:k=0:=by omega
  subst this;exact wpS_mono (Mt C hk2 ma mb hX hY hl (n:=n) h k3 (by omega)) λt st' ⟨e,z⟩=>⟨by rw[e];exact sm,z⟩
theorem aaB{t g i j:Nat}{o:Array Keyed}(ht:0<t)(h:JS r a b o i j):wpS (model prog w) A E s (loS a b t o i j g) (λt st'=>Sm st st'/\match t with
  | .done c=>∃R,c.1=some R/\GD r a b R
  | .yield c=>c.1=none/\P1 r a b (i+j+1) none c.2.1 c.2.2.1 c.2.2.2.1) st:=by
 unfold loS;refine wpS_bind (wpS_mono (wpS_forRange (I:=λx (c:C1) st'=>st'=st/\c.1=none/\JS r a b c.2.1 c.2.2.1 c.2.2.2.1/\i+j+x<=c.2.2.1+c.2.2.2.1) (Q:=λc st'=>st'=st/\P1 r a b (i+j+1) c.1 c.2.1 c.2.2.1 c.2.2.2.1) ?_ ?_ ⟨rfl,rfl,h,Qq0 _⟩) ?_)
 ·rintro x ⟨c,o',i',j',p,q⟩ st' _ hx ⟨rfl,e,h',hp⟩;cases e;dsimp only at h' hp ⊢;refine wpS_mono (aaC C hk ma mb hX hY hl h') λu st2 ⟨e,z⟩=>?_;cases u with
  | done c=>exact⟨e,z.mono (by omega)⟩
  | yield c=>exact⟨e,z.1,z.2.1,by have:=z.2.2;omega⟩
 ·rintro⟨c,o',i',j',p,q⟩ st' ⟨rfl,e,h',hp⟩;cases e;exact⟨rfl,h',by dsimp only at hp ⊢;omega⟩
 ·rintro⟨c,o',i',j',p,q⟩ st' ⟨rfl,hp⟩;dsimp only at hp ⊢;cases c with
  | some R=>exact wpS_pure ⟨Sm.yw _,R,rfl,hp⟩
  | none=>
   dsimp only;refine wpS_bind (wpS_lift (Qkj ⟨rfl,?_⟩));refine wpS_bind (wpS_mono (wpS_forRange (I:=λx (c:C2) st2=>Sm st' st2/\c.1=none/\JS r a b c.2.1 c.2.2.1 c.2.2.2.1/\i+j+1<=c.2.2.1+c.2.2.2.1) (Q:=λc st2=>Sm st' st2/\P1 r a b (i+j+1) c.1 c.2.1 c.2.2.1 c.2.2.2.1) ?_ ?_ ⟨Sm.yw _,rfl,hp.1,hp.2⟩) ?_)
   ·rintro x ⟨c,o2,i2,j2,g2,p2,q2⟩ st2 _ hx ⟨sm,e,h',hp⟩;cases e;dsimp only at h' hp ⊢;have go:∀g3,wpS (model prog w) A E s (PB a b o2 i2 j2 p2 q2 g3) (λu st3=>match u with
      | .done c=>Sm st' st3/\P1 r a b (i+j+1) c.1 c.2.1 c.2.2.1 c.2.2.2.1
      | .yield c=>Sm st' st3/\c.1=none/\JS r a b c.2.1 c.2.2.1 c.2.2.2.1/\i+j+1<=c.2.2.1+c.2.2.2.1) st2:=λg3=>by
     refine wpS_mono (Wo C (sm.kind hk) ma mb hX hY hl (n:=i+j+1) h' (by omega)) λu st3 ⟨e,z⟩=>?_;have sm3:Sm st' st3:=by obtain⟨g4,rfl⟩:=sm;obtain⟨g5,rfl⟩:=e;exact⟨g5,rfl⟩
     cases u with
     | done c=>exact⟨sm3,z⟩
     | yield c=>exact⟨sm3,z.1,z.2.1,z.2.2⟩
    split
    ·exact wpS_mono (go _) λu st3 z=>by cases u<;>exact z
    ·exact wpS_mono (go _) λu st3 z=>by cases u<;>exact z
   ·rintro⟨c,o2,i2,j2,g2,p2,q2⟩ st2 ⟨sm,e,h',hp⟩;cases e;exact⟨sm,h',hp⟩
   ·rintro⟨c,o2,i2,j2,g2,p2,q2⟩ st2 ⟨sm,hp⟩;dsimp only at hp ⊢;cases c with
    | some R=>exact wpS_pure ⟨sm,R,rfl,hp⟩
    | none=>exact wpS_bind (qH (wpS_pure ⟨sm.put _,rfl,hp⟩))
theorem aax{Q:Array Keyed->SortSt->Prop}(ha:0<a.size)(hb:0<b.size)(h0:r b[0]<=r a[0])(h:∀R st',Sm st st'->GD r a b R->Q R st'):wpS (model prog w) A E s (mLo a b) Q st:=by
 rw[abS];refine wpS_bind (wpS_lift (Qkj ⟨rfl,wpS_bind (eQ hb ?_)⟩));have j0:J (jj r) a.toList b.toList (#[]:Array Keyed).toList 0 0:=⟨Qxk _,Qxk _,List.Perm.refl _,List.Pairwise.nil,λx hx=>absurd hx (by simp)⟩;have j1:J (jj r) a.toList b.toList (#[b[0]]:Array Keyed).toList 0 1:=Oc j0 hY hb (DQ hX ha h0);by_cases q1:1=b.size
 ·rw[if_pos (beq_iff_eq.mpr q1)];exact wpS_pure (h _ st (Sm.yw _) (Jz hX j1 q1))
 ·rw[if_neg (λz=>q1 (beq_iff_eq.mp z))];by_cases q2:0+1=a.size
  ·rw[if_pos (beq_iff_eq.mpr q2)];exact wpS_pure (h _ st (Sm.yw _) (Bb hY hl j1 q2))
  ·rw[if_neg (λz=>q2 (beq_iff_eq.mp z))];refine wpS_bind (wpS_get (wpS_bind (wpS_mono (wpS_forRange (I:=λx (c:C0) st'=>Sm st st'/\c.1=none/\JS r a b c.2.1 c.2.2.1 c.2.2.2.1/\x+1<=c.2.2.1+c.2.2.2.1) (Q:=λc st'=>Sm st st'/\∃R,c.1=some R/\GD r a b R) ?_ ?_ ⟨Sm.yw _,rfl,⟨j1,by dsimp only;omega,by dsimp only;omega⟩,Qq0 1⟩) ?_)))
   ·rintro x ⟨c,o,i,j,g⟩ st' _ hx ⟨sm,e,h',hp⟩;cases e;dsimp only at h' hp ⊢;refine wpS_mono (aaB C (sm.kind hk) ma mb hX hY hl (by omega) h') λu st2 ⟨e,z⟩=>?_;have sm3:Sm st st2:=by
     obtain⟨g4,rfl⟩:=sm;obtain⟨g5,rfl⟩:=e;exact⟨g5,rfl⟩
    cases u with
    | done c=>
     exact⟨sm3,z⟩
    | yield c=>exact⟨sm3,z.1,z.2.1,by have:=z.2.2;omega⟩
   ·rintro⟨c,o,i,j,g⟩ st' ⟨sm,e,h',hp⟩;dsimp only at h' hp ⊢;have:=h'.hi;have:=h'.hj;omega
   ·rintro⟨c,d⟩ st' ⟨sm,R,e,z⟩;cases e;exact wpS_pure (h R st' sm z)
end
def mHi:Array Keyed->Array Keyed->SM (Array Keyed):=sortPriv% PySem.Builtin.mergeHi
def Fp(a b o:Array Keyed)(m n:Nat):Array Keyed:=a.extract 0 m++b.extract 0 n++o.reverse
abbrev H1:=Option (Array Keyed)×Nat×Nat×Array Keyed×Nat×Nat
abbrev H2:=Option (Array Keyed)×Nat×Nat×Array Keyed×Nat×Nat×Nat
abbrev H0:=Option (Array Keyed)×Nat×Nat×Array Keyed×Nat
def hi1(a b:Array Keyed)(g m n:Nat)(o:Array Keyed)(p q:Nat):SM (ForInStep H1):=do
 let y <-elem' b (n - 1)
 let x <-elem' a (m - 1)
 match <-lt' y x with
 | some v=>
  if v=true then do
   let z <-elem' a (m - 1)
   if (m - 1 == 0)=true then pure (.done (some (Fp a b (o.push z) (m - 1) n),m - 1,n,o.push z,p+1,0))
   else if p+1 ≥ g then pure (.done (none,m - 1,n,o.push z,p+1,0))
   else pure (.yield (none,m - 1,n,o.push z,p+1,0))
  else do
   let z <-elem' b (n - 1)
   if (n - 1 == 1)=true then pure (.done (some (Fp b a (o.push z) (n - 1) m),m,n - 1,o.push z,0,q+1))
   else if q+1 ≥ g then pure (.done (none,m,n - 1,o.push z,0,q+1))
   else pure (.yield (none,m,n - 1,o.push z,0,q+1))
 | _=>pure (.done (some (Fp a b o m n),m,n,o,p,q))
def Ub(a b:Array Keyed)(m n:Nat)(o:Array Keyed)(g k l:Nat):SM (ForInStep H2):=do
 let z <-elem' a (m - 1)
 if (m - 1 == 0)=true then pure (.done (some (Fp a b (o.push z) (m - 1) n),m - 1,n,o.push z,g,k,l))
 else if (decide (k<7)&&decide (l<7))=true then pure (.done (none,m - 1,n,o.push z,g,k,l))
 else pure (.yield (none,m - 1,n,o.push z,g,k,l))
def Uc(a b:Array Keyed)(m n:Nat)(o:Array Keyed)(g k q:Nat):SM (ForInStep H2):=do
 let z <-elem' b (n - 1)
 if (n - 1 == 1)=true then pure (.done (some (Fp b a (o.push z) (n - 1) m),m,n - 1,o.push z,g,k,q))
 else do
  let x <-elem' a (m - 1)
  match <-gU true x b 0 (n - 1) (n - 1 - 1) with
  | some t=>
   if n - 1 - t > 0 then
    if (t == 1)=true then pure (.done (some (Fp b a (o.push z++(b.extract t (n - 1)).reverse) t m),m,t,o.push z++(b.extract t (n - 1)).reverse,g,k,n - 1 - t))
    else if (t == 0)=true then pure (.done (some (Fp a b (o.push z++(b.extract t (n - 1)).reverse) m t),m,t,o.push z++(b.extract t (n - 1)).reverse,g,k,n - 1 - t))
    else Ub a b m t (o.push z++(b.extract t (n - 1)).reverse) g k (n - 1 - t)
   else Ub a b m (n - 1) (o.push z) g k (n - 1 - t)
  | _=>pure (.done (some (Fp a b (o.push z) m (n - 1)),m,n - 1,o.push z,g,k,q))
def Qm(a b:Array Keyed)(m n:Nat)(o:Array Keyed)(p q g:Nat):SM (ForInStep H2):=do
 Ku g
 let y <-elem' b (n - 1)
 match <-gU false y a 0 m (m - 1) with
 | some t=>
  if m - t > 0 then
   if (t == 0)=true then pure (.done (some (Fp a b (o++(a.extract t m).reverse) t n),t,n,o++(a.extract t m).reverse,g,m - t,q))
   else Uc a b t n (o++(a.extract t m).reverse) g (m - t) q
  else Uc a b m n o g (m - t) q
 | _=>pure (.done (some (Fp a b o m n),m,n,o,g,p,q))
def hiS(a b:Array Keyed)(t m n:Nat)(o:Array Keyed)(g:Nat):SM (ForInStep H0):=do
 let c <-forIn [0:t] ((none,m,n,o,0,0):H1) λ_ c=>hi1 a b g c.2.1 c.2.2.1 c.2.2.2.1 c.2.2.2.2.1 c.2.2.2.2.2
 match c.1 with
 | some r=>pure (.done (some r,c.2.1,c.2.2.1,c.2.2.2.1,g))
 | none=>do
  rule "list.sort.gallop"
  let d <-forIn [0:t] ((none,c.2.1,c.2.2.1,c.2.2.2.1,g+1,c.2.2.2.2.1,c.2.2.2.2.2):H2) λ_ d=>
   if d.2.2.2.2.1 > 1 then Qm a b d.2.1 d.2.2.1 d.2.2.2.1 d.2.2.2.2.2.1 d.2.2.2.2.2.2 (d.2.2.2.2.1 - 1) else Qm a b d.2.1 d.2.2.1 d.2.2.2.1 d.2.2.2.2.2.1 d.2.2.2.2.2.2 d.2.2.2.2.1
  match d.1 with
  | some r=>pure (.done (some r,d.2.1,d.2.2.1,d.2.2.2.1,d.2.2.2.2.1))
  | none=>do
   Ku (d.2.2.2.2.1+1)
   pure (.yield (none,d.2.1,d.2.2.1,d.2.2.2.1,d.2.2.2.2.1+1))
theorem ab6(a b:Array Keyed):mHi a b=(do
 rule "list.sort.merge-hi"
 let z <-elem' a (a.size - 1)
 if (a.size - 1 == 0)=true then pure (Fp a b #[z] (a.size - 1) b.size)
 else if (b.size == 1)=true then pure (Fp b a #[z] b.size (a.size - 1))
 else do
  let st <-get
  let c <-forIn [0:a.size+b.size] ((none,a.size - 1,b.size, #[z],gallopOf st):H0) λ_ c=>hiS a b (a.size+b.size) c.2.1 c.2.2.1 c.2.2.2.1 c.2.2.2.2
  match c.1 with
  | some r=>pure r
  | none=>unsupported "internal:list.sort.merge-bound"):=by
 refine(show mHi a b=bind _ _ from rfl).trans ?_;refine Qw8 (bind _) (funext λ_=>?_);refine Qw8 (bind _) (funext λz=>?_);dsimp only
 congr 1
 congr 1
 refine Qw8 (bind _) (funext λst=>?_);refine congr (Qw8 bind ?_) (funext λc=>?_)
 ·congr 1
  funext u c
  unfold hiS;refine congr (Qw8 bind ?_) (funext λd=>?_)
  ·congr 1
  ·rcases d with ⟨_|r,d⟩
   ·refine Qw8 (bind _) (funext λ_=>?_);refine congr (Qw8 bind ?_) (funext λf=>?_)
    ·congr 1
    ·rcases f with ⟨_|r,f⟩<;>rfl
   ·rfl
 ·rcases c with ⟨_|r,c⟩<;>rfl
abbrev geR(r:Keyed->Nat):Keyed->Keyed->Prop:=λx y=>r y<=r x
theorem CZ(l:List Keyed){m:Nat}(h:m<=l.length):l.reverse.drop (l.length - m)=(l.take m).reverse:=by
 rw[List.drop_reverse]
 congr 2
 omega
theorem aaZ(l:List Keyed){m:Nat}(h0:0<m)(h:m<=l.length):l.reverse[l.length - m]'(by rw[Qx2];omega)=l[m - 1]'(by omega):=by
 rw[List.getElem_reverse]
 congr 1
 omega
theorem Vm(a b o:Array Keyed)(m n:Nat)(hm:m<=a.size)(hn:n<=b.size):(Fp a b o m n).toList=(o.toList++b.toList.reverse.drop (b.size - n)++a.toList.reverse.drop (a.size - m)).reverse:=by have e1:=CZ a.toList (m:=m) (by rw[Qqq];exact hm);have e2:=CZ b.toList (m:=n) (by rw[Qqq];exact hn);rw[Qqq] at e1 e2;rw[e1,e2];unfold Fp;rw[Array.toList_append,Array.toList_append,Array.toList_extract,Array.toList_extract,Array.toList_reverse];unfold List.extract;simp
theorem aa0(a o:Array Keyed){t m:Nat}(ht:t<=m)(hm:m<=a.size):(o++(a.extract t m).reverse).toList=o.toList++(a.toList.reverse.drop (a.size - m)).take (m - t):=by
 have e1:=CZ a.toList (m:=m) (by rw[Qqq];exact hm);rw[Qqq] at e1;rw[e1,Array.toList_append,Array.toList_reverse,Array.toList_extract,List.take_reverse,Qw3,Qqq];unfold List.extract;have:min m a.size - (m - t)=t:=by omega
 rw[this,List.drop_take]
section
variable{prog:Program}{w:World}{A:Around}{E:Value->Shared->Prop}{s:Shared}{kd:SortKind}{r:Keyed->Nat}{a₀:Array Keyed}
variable{a b:Array Keyed}{st:SortSt}(C:JV prog w A E s kd r a₀)(hk:kindOf st=kd)(ma:∀x∈a,x∈a₀)(mb:∀x∈b,x∈a₀)(hX:a.toList.Pairwise (jj r))(hY:b.toList.Pairwise (jj r))
 (hl:∀y∈a.toList,∀h:0<b.toList.length,r b.toList[0]<=r y)
abbrev JH(r:Keyed->Nat)(a b o:Array Keyed)(m n:Nat):Prop:=J (geR r) a.toList.reverse b.toList.reverse o.toList (a.size - m) (b.size - n)
structure KS(r:Keyed->Nat)(a b o:Array Keyed)(m n:Nat):Prop where
 on:JH r a b o m n
 m0:0<m
 ml:m<=a.size
 n1:1<n
 nl:n<=b.size
theorem Nb{l:List Keyed}(h:l.Pairwise (jj r)):l.reverse.Pairwise (geR r):=List.pairwise_reverse.mpr h
theorem un{L:List Keyed}{R:Array Keyed}(h:Good (geR r) a.toList.reverse b.toList.reverse L)(e:R.toList=L.reverse):GD r a b R:=by
 refine⟨?_,?_⟩
 ·rw[e];exact(List.reverse_perm L).trans (h.1.trans ((List.reverse_perm _).append (List.reverse_perm _)))
 ·rw[e];exact List.pairwise_reverse.mpr h.2
theorem JH.swap{o:Array Keyed}{m n:Nat}(h:JH r a b o m n):JH r b a o n m:=J.swap h
theorem Ua{o:Array Keyed}{m n:Nat}(h:JH r a b o m n)(hX:a.toList.Pairwise (jj r))(h0:0<m)(hm:m<=a.size)(hn:n<=b.size)(hle:∀y∈b.toList.take n,r y<=r (a[m - 1]'(by omega))):JH r a b (o.push (a[m - 1]'(by omega))) (m - 1) n:=by
 have g:=aaZ a.toList h0 (by rw[Qqq];exact hm);have e2:=CZ b.toList (m:=n) (by rw[Qqq];exact hn);simp only[Qqq] at g e2;have:=h.push (Nb hX) (by rw[Qx2,Qqq];omega) (λy hy=>by
  show r y<=r _;rw[g];rw[e2] at hy;exact hle y (Qj4.mp hy))
 rw[g] at this;have e:a.size - m+1=a.size - (m - 1):=by omega
 rw[e] at this;unfold JH;rw[Array.toList_push];exact this
theorem ab4{o:Array Keyed}{m n:Nat}(h:JH r a b o m n)(hY:b.toList.Pairwise (jj r))(h0:0<n)(hm:m<=a.size)(hn:n<=b.size)(hle:∀y∈a.toList.take m,r y<=r (b[n - 1]'(by omega))):JH r a b (o.push (b[n - 1]'(by omega))) m (n - 1):=
 (Ua h.swap hY h0 hn hm hle).swap
theorem VR{o:Array Keyed}{m n t:Nat}(h:JH r a b o m n)(hX:a.toList.Pairwise (jj r))(ht:t<=m)(hm:m<=a.size)(hn:n<=b.size)(hle:∀u (hu:u<a.toList.length),t<=u->u<m->∀y∈b.toList.take n,r y<=r a.toList[u]):JH r a b (o++(a.extract t m).reverse) t n:=by
 have e2:=CZ b.toList (m:=n) (by rw[Qqq];exact hn);simp only[Qqq] at e2;have:=J.Al (Nb hX) (m - t) (a.size - m) _ h (by rw[Qx2,Qqq];omega) (λu hu u1 u2 y hy=>by
  show r y<=r _;rw[List.getElem_reverse];rw[e2] at hy;rw[Qx2,Qqq] at hu;exact hle _ _ (by rw[Qqq];omega) (by rw[Qqq];omega) y (Qj4.mp hy))
 have e:a.size - m+(m - t)=a.size - t:=by omega
 rw[e] at this;unfold JH;rw[aa0 a o ht hm];exact this
include hX hY in
theorem Qx{o:Array Keyed}{m n:Nat}(h:JH r a b o m n)(hm:m<=a.size)(hn:n<=b.size)(h0:m=0\/n=0):GD r a b (Fp a b o m n):=by
 refine un (L:=o.toList++(b.toList.reverse.drop (b.size - n)++a.toList.reverse.drop (a.size - m))) (h.fin List.perm_append_comm ?_) (by rw[Vm a b o m n hm hn,Qwy]);rcases h0 with rfl|rfl
 ·rw[o8 (X:=a.toList.reverse) (by rw[Qx2,Qqq];omega),Qx1];exact(Nb hY).sublist (List.drop_sublist _ _)
 ·rw[o8 (X:=b.toList.reverse) (by rw[Qx2,Qqq];omega),List.nil_append];exact(Nb hX).sublist (List.drop_sublist _ _)
include hX hl in
theorem Bh{o:Array Keyed}{m n:Nat}(h:JH r a b o m n)(hm:m<=a.size)(hn:1<=b.size)(h1:n=1):GD r a b (Fp b a o n m):=by subst h1;have g:=aaZ b.toList (m:=1) (by decide) (by rw[Qqq];exact hn);simp only[Qqq] at g;refine un (Good.swap (J.fin2 h.swap (Nb hX) (by rw[Qx2,Qqq];omega) λy hy=>?_)) (Vm b a o 1 m hn hm);show r _<=r y;rw[g];exact hl y (Qj4.mp hy) (by rw[Qqq];omega)
include hX in
theorem Ca{m:Nat}(h0:0<m)(hm:m<=a.size){x:Nat}(h:r (a[m - 1]'(by omega))<=x):∀y∈a.toList.take m,r y<=x:=λy hy=>by
 obtain⟨u,hu,rfl⟩:=List.mem_iff_getElem.mp hy;rw[List.getElem_take];rw[Qw3,Qqq] at hu;exact Qq3 (pw_le (le:=jj r) rf hX (i:=u) (j:=m - 1) (by omega) (by rw[Qqq];omega)) h
def P2(r:Keyed->Nat)(a b:Array Keyed)(k:Nat)(c:Option (Array Keyed))(m n:Nat)(o:Array Keyed):Prop:=match c with
 | some R=>GD r a b R
 | none=>KS r a b o m n/\m+n<=k
theorem P2.mono{k l:Nat}{c:Option (Array Keyed)}{o:Array Keyed}{m n:Nat}(h:P2 r a b k c m n o)(hm:k<=l):P2 r a b l c m n o:=by
 cases c with
 | some R=>exact h
 | none=>exact⟨h.1,Qq3 h.2 hm⟩
include C hk ma mb hX hY hl
theorem aaE{g p q m n:Nat}{o:Array Keyed}(h:KS r a b o m n):wpS (model prog w) A E s (hi1 a b g m n o p q) (λt st'=>st'=st/\match t with
  | .done c=>P2 r a b (m+n - 1) c.1 c.2.1 c.2.2.1 c.2.2.2.1
  | .yield c=>c.1=none/\P2 r a b (m+n - 1) none c.2.1 c.2.2.1 c.2.2.2.1) st:=by
 obtain⟨hj,m0,ml,n1,nl⟩:=h;have bm:m - 1<a.size:=by omega
 have bn:n - 1<b.size:=by omega
 unfold hi1;refine wpS_bind (eQ bn (wpS_bind (eQ bm (wpS_bind (C _ _ (mb _ (Array.getElem_mem bn)) (ma _ (Array.getElem_mem bm)) st _ hk ?_)))));by_cases e:r b[n - 1]<r a[m - 1]
 ·rw[Qww e];dsimp only;rw[if_pos rfl];have h':=Ua hj hX m0 ml nl (Ca (a:=b) hY (by omega) nl (Qxv e));refine wpS_bind (eQ bm ?_);by_cases q1:m - 1=0
  ·rw[if_pos (beq_iff_eq.mpr q1)];exact wpS_pure ⟨rfl,Qx hX hY h' (by omega) nl (.inl q1)⟩
  ·rw[if_neg (λz=>q1 (beq_iff_eq.mp z))];split
   ·exact wpS_pure ⟨rfl,⟨h',by dsimp only;omega,by dsimp only;omega,n1,nl⟩,by dsimp only;omega⟩
   ·exact wpS_pure ⟨rfl,rfl,⟨h',by dsimp only;omega,by dsimp only;omega,n1,nl⟩,by dsimp only;omega⟩
 ·rw[Qq9 e];dsimp only;rw[if_neg (by decide)];have h':=ab4 hj hY (by omega) ml nl (Ca hX m0 ml (Nat.le_of_not_lt e));refine wpS_bind (eQ bn ?_);by_cases q1:n - 1=1
  ·rw[if_pos (beq_iff_eq.mpr q1)];exact wpS_pure ⟨rfl,Bh hX hl h' ml (by omega) q1⟩
  ·rw[if_neg (λz=>q1 (beq_iff_eq.mp z))];split
   ·exact wpS_pure ⟨rfl,⟨h',m0,ml,by dsimp only;omega,by dsimp only;omega⟩,by dsimp only;omega⟩
   ·exact wpS_pure ⟨rfl,rfl,⟨h',m0,ml,by dsimp only;omega,by dsimp only;omega⟩,by dsimp only;omega⟩
theorem Mu{g k l m n z:Nat}{o:Array Keyed}(h:KS r a b o m n)(hle:∀y∈b.toList.take n,r y<=r (a[m - 1]'(by have:=h.m0;have:=h.ml;omega)))(hz:m+n<=z+1):wpS (model prog w) A E s (Ub a b m n o g k l) (λt st'=>st'=st/\match t with
  | .done c=>P2 r a b z c.1 c.2.1 c.2.2.1 c.2.2.2.1
  | .yield c=>c.1=none/\P2 r a b z none c.2.1 c.2.2.1 c.2.2.2.1) st:=by
 obtain⟨hj,m0,ml,n1,nl⟩:=h;have bm:m - 1<a.size:=by omega
 have h':=Ua hj hX m0 ml nl hle;unfold Ub;refine wpS_bind (eQ bm ?_);by_cases q1:m - 1=0
 ·rw[if_pos (beq_iff_eq.mpr q1)];exact wpS_pure ⟨rfl,Qx hX hY h' (by omega) nl (.inl q1)⟩
 ·rw[if_neg (λz=>q1 (beq_iff_eq.mp z))];split
  ·exact wpS_pure ⟨rfl,⟨h',by dsimp only;omega,by dsimp only;omega,n1,nl⟩,by dsimp only;omega⟩
  ·exact wpS_pure ⟨rfl,rfl,⟨h',by dsimp only;omega,by dsimp only;omega,n1,nl⟩,by dsimp only;omega⟩
theorem gah{m n:Nat}(m0:0<m)(ml:m<=a.size)(n0:n - 1<b.size){Q:Option Nat->SortSt->Prop}(h:∀t,t<=m->(∀u (hu:u<a.toList.length),t<=u->u<m->r b[n - 1]<=r a.toList[u])->(∀y∈a.toList.take t,r y<=r b[n - 1])->Q (some t) st) :
  wpS (model prog w) A E s (gU false b[n - 1] a 0 m (m - 1)) Q st:=by
 refine ou C hk (mb _ (Array.getElem_mem n0)) ma (by omega) (λu=>match a.toList[u]? with|some x=>!decide (r b[n - 1]<r x)|none=>false) (λu hu hu'=>?_) (λu u' h1 h2 h3=>?_) (by omega) λk h1 h2 h3=>?_
 ·rw[Qq2 (by rw[Qqq];omega)];simp only[Nat.zero_add]
  rfl
 ·rw[Qq2 (by rw[Qqq];omega)] at h3 ⊢;simp only[Bool.not_eq_true',decide_eq_false_iff_not,Nat.not_lt] at h3 ⊢;exact Qq3 (pw_le (le:=jj r) rf hX (i:=u) (j:=u') (by omega) (by rw[Qqq];omega)) h3
 ·refine h k h1 (λu hu q1 q2=>?_) (λy hy=>?_)
  ·have:=h3 u q1 q2;rw[Qq2 hu] at this;simp only[Bool.not_eq_false',decide_eq_true_eq] at this;exact Qxv this
  ·obtain⟨u,hu,rfl⟩:=List.mem_iff_getElem.mp hy;rw[Qw3,Qqq] at hu;rw[List.getElem_take];have:=h2 u (by omega);rw[Qq2 (by rw[Qqq];omega)] at this;simp only[Bool.not_eq_true',decide_eq_false_iff_not,Nat.not_lt] at this;exact this
theorem gbh{m n:Nat}(n0:0<n)(nl:n<=b.size)(m0:m - 1<a.size){Q:Option Nat->SortSt->Prop}(h:∀t,t<=n->(∀u (hu:u<b.toList.length),t<=u->u<n->r a[m - 1]<=r b.toList[u])->(∀y∈b.toList.take t,r y<=r a[m - 1])->Q (some t) st) :
  wpS (model prog w) A E s (gU true a[m - 1] b 0 n (n - 1)) Q st:=by
 refine ou C hk (ma _ (Array.getElem_mem m0)) mb (by omega) (λu=>match b.toList[u]? with|some x=>decide (r x<r a[m - 1])|none=>false) (λu hu hu'=>?_) (λu u' h1 h2 h3=>?_) (by omega) λk h1 h2 h3=>?_
 ·rw[Qq2 (by rw[Qqq];omega)];simp only[Nat.zero_add]
  rfl
 ·rw[Qq2 (by rw[Qqq];omega)] at h3 ⊢;simp only[decide_eq_true_eq] at h3 ⊢;exact Qw6 (pw_le (le:=jj r) rf hY (i:=u) (j:=u') (by omega) (by rw[Qqq];omega)) h3
 ·refine h k h1 (λu hu q1 q2=>?_) (λy hy=>?_)
  ·have:=h3 u q1 q2;rw[Qq2 hu] at this;simp only[decide_eq_false_iff_not,Nat.not_lt] at this;exact this
  ·obtain⟨u,hu,rfl⟩:=List.mem_iff_getElem.mp hy;rw[Qw3,Qqq] at hu;rw[List.getElem_take];have:=h2 u (by omega);rw[Qq2 (by rw[Qqq];omega)] at this;simp only[decide_eq_true_eq] at this;exact Qxv this
end
section
variable{prog:Program}{w:World}{A:Around}{E:Value->Shared->Prop}{s:Shared}{kd:SortKind}{r:Keyed->Nat}{a₀:Array Keyed}
variable{a b:Array Keyed}{st:SortSt}(C:JV prog w A E s kd r a₀)(hk:kindOf st=kd)(ma:∀x∈a,x∈a₀)(mb:∀x∈b,x∈a₀)(hX:a.toList.Pairwise (jj r))(hY:b.toList.Pairwise (jj r))
 (hl:∀y∈a.toList,∀h:0<b.toList.length,r b.toList[0]<=r y)
include C hk ma mb hX hY hl
theorem Mv{g k q m n z:Nat}{o:Array Keyed}(h:KS r a b o m n)(hle:∀y∈a.toList.take m,r y<=r (b[n - 1]'(by have:=h.n1;have:=h.nl;omega)))(hz:m+n<=z+1):wpS (model prog w) A E s (Uc a b m n o g k q) (λt st'=>st'=st/\match t with
  | .done c=>P2 r a b z c.1 c.2.1 c.2.2.1 c.2.2.2.1
  | .yield c=>c.1=none/\P2 r a b z none c.2.1 c.2.2.1 c.2.2.2.1) st:=by
 obtain⟨hj,m0,ml,n1,nl⟩:=h;have bm:m - 1<a.size:=by omega
 have bn:n - 1<b.size:=by omega
 have h':=ab4 hj hY (by omega) ml nl hle;unfold Uc;refine wpS_bind (eQ bn ?_);by_cases q1:n - 1=1
 ·rw[if_pos (beq_iff_eq.mpr q1)];exact wpS_pure ⟨rfl,Bh hX hl h' ml (by omega) q1⟩
 ·rw[if_neg (λz=>q1 (beq_iff_eq.mp z))];refine wpS_bind (eQ bm (wpS_bind (gbh C hk ma mb hX hY hl (n:=n - 1) (by omega) (by omega) bm λt t1 t2 t3=>?_)));dsimp only;by_cases t0:n - 1 - t > 0
  ·rw[if_pos t0];have h2:JH r a b (o.push b[n - 1]++(b.extract t (n - 1)).reverse) m t:=(VR h'.swap hY t1 (by omega) ml λu hu u1 u2=>Ca hX m0 ml (t2 u hu u1 u2)).swap;by_cases q2:t=1
   ·rw[if_pos (beq_iff_eq.mpr q2)];exact wpS_pure ⟨rfl,Bh hX hl h2 ml (by omega) q2⟩
   ·rw[if_neg (λz=>q2 (beq_iff_eq.mp z))];by_cases q3:t=0
    ·rw[if_pos (beq_iff_eq.mpr q3)];exact wpS_pure ⟨rfl,Qx hX hY h2 ml (by omega) (.inr q3)⟩
    ·rw[if_neg (λz=>q3 (beq_iff_eq.mp z))];exact Mu C hk ma mb hX hY hl ⟨h2,m0,ml,by omega,by omega⟩ t3 (by omega)
  ·rw[if_neg t0];have:t=n - 1:=by omega
   subst this;exact Mu C hk ma mb hX hY hl ⟨h',m0,ml,by omega,by omega⟩ t3 (by omega)
theorem Wq{g p q m n z:Nat}{o:Array Keyed}(h:KS r a b o m n)(hz:m+n<=z+1):wpS (model prog w) A E s (Qm a b m n o p q g) (λt st'=>Sm st st'/\match t with
  | .done c=>P2 r a b z c.1 c.2.1 c.2.2.1 c.2.2.2.1
  | .yield c=>c.1=none/\P2 r a b z none c.2.1 c.2.2.1 c.2.2.2.1) st:=by
 have h0:=h;obtain⟨hj,m0,ml,n1,nl⟩:=h;have bn:n - 1<b.size:=by omega
 have hk2:kindOf (setG st g)=kd:=hk;have sm:Sm st (setG st g):=⟨g,rfl⟩;unfold Qm;refine wpS_bind (qH (wpS_bind (eQ bn (wpS_bind (gah C hk2 ma mb hX hY hl m0 ml bn λt t1 t2 t3=>?_)))));dsimp only;by_cases t0:m - t > 0
 ·rw[if_pos t0];have h2:JH r a b (o++(a.extract t m).reverse) t n:=VR hj hX t1 ml nl λu hu u1 u2=>Ca (a:=b) hY (by omega) nl (t2 u hu u1 u2);by_cases q2:t=0
  ·rw[if_pos (beq_iff_eq.mpr q2)];exact wpS_pure ⟨sm,Qx hX hY h2 (by omega) nl (.inl q2)⟩
  ·rw[if_neg (λz=>q2 (beq_iff_eq.mp z))];exact wpS_mono (Mv C hk2 ma mb hX hY hl (z:=z) ⟨h2,by omega,by omega,n1,nl⟩ t3 (by omega)) λt st' ⟨e,z⟩=>⟨by rw[e];exact sm,z⟩
 ·rw[if_neg t0];have:t=m:=by omega
  subst this;exact wpS_mono (Mv C hk2 ma mb hX hY hl (z:=z) h0 t3 (by omega)) λt st' ⟨e,z⟩=>⟨by rw[e];exact sm,z⟩
theorem aaD{t g m n:Nat}{o:Array Keyed}(ht:0<t)(h:KS r a b o m n):wpS (model prog w) A E s (hiS a b t m n o g) (λt st'=>Sm st st'/\match t with
  | .done c=>∃R,c.1=some R/\GD r a b R
  | .yield c=>c.1=none/\P2 r a b (m+n - 1) none c.2.1 c.2.2.1 c.2.2.2.1) st:=by
 unfold hiS;refine wpS_bind (wpS_mono (wpS_forRange (I:=λx (c:H1) st'=>st'=st/\c.1=none/\KS r a b c.2.2.2.1 c.2.1 c.2.2.1/\c.2.1+c.2.2.1+x<=m+n) (Q:=λc st'=>st'=st/\P2 r a b (m+n - 1) c.1 c.2.1 c.2.2.1 c.2.2.2.1) ?_ ?_ ⟨rfl,rfl,h,Qq0 _⟩) ?_)
 ·rintro x ⟨c,m',n',o',p,q⟩ st' _ hx ⟨rfl,e,h',hp⟩;cases e;dsimp only at h' hp ⊢;have:=h'.m0;refine wpS_mono (aaE C hk ma mb hX hY hl h') λu st2 ⟨e,z⟩=>?_;cases u with
  | done c=>exact⟨e,z.mono (by omega)⟩
  | yield c=>exact⟨e,z.1,z.2.1,by have:=z.2.2;omega⟩
 ·rintro⟨c,m',n',o',p,q⟩ st' ⟨rfl,e,h',hp⟩;cases e;exact⟨rfl,h',by dsimp only at hp ⊢;omega⟩
 ·rintro⟨c,m',n',o',p,q⟩ st' ⟨rfl,hp⟩;dsimp only at hp ⊢;cases c with
  | some R=>exact wpS_pure ⟨Sm.yw _,R,rfl,hp⟩
  | none=>
   dsimp only;refine wpS_bind (wpS_lift (Qkj ⟨rfl,?_⟩));refine wpS_bind (wpS_mono (wpS_forRange (I:=λx (c:H2) st2=>Sm st' st2/\c.1=none/\KS r a b c.2.2.2.1 c.2.1 c.2.2.1/\c.2.1+c.2.2.1<=m+n - 1) (Q:=λc st2=>Sm st' st2/\P2 r a b (m+n - 1) c.1 c.2.1 c.2.2.1 c.2.2.2.1) ?_ ?_ ⟨Sm.yw _,rfl,hp.1,hp.2⟩) ?_)
   ·rintro x ⟨c,m2,n2,o2,g2,p2,q2⟩ st2 _ hx ⟨sm,e,h',hp⟩;cases e;dsimp only at h' hp ⊢;have go:∀g3,wpS (model prog w) A E s (Qm a b m2 n2 o2 p2 q2 g3) (λu st3=>match u with
      | .done c=>Sm st' st3/\P2 r a b (m+n - 1) c.1 c.2.1 c.2.2.1 c.2.2.2.1
      | .yield c=>Sm st' st3/\c.1=none/\KS r a b c.2.2.2.1 c.2.1 c.2.2.1/\c.2.1+c.2.2.1<=m+n - 1) st2:=λg3=>by
     refine wpS_mono (Wq C (sm.kind hk) ma mb hX hY hl (z:=m+n - 1) h' (by omega)) λu st3 ⟨e,z⟩=>?_;have sm3:Sm st' st3:=by obtain⟨g4,rfl⟩:=sm;obtain⟨g5,rfl⟩:=e;exact⟨g5,rfl⟩
     cases u with
     | done c=>exact⟨sm3,z⟩
     | yield c=>exact⟨sm3,z.1,z.2.1,z.2.2⟩
    split
    ·exact wpS_mono (go _) λu st3 z=>by cases u<;>exact z
    ·exact wpS_mono (go _) λu st3 z=>by cases u<;>exact z
   ·rintro⟨c,m2,n2,o2,g2,p2,q2⟩ st2 ⟨sm,e,h',hp⟩;cases e;exact⟨sm,h',hp⟩
   ·rintro⟨c,m2,n2,o2,g2,p2,q2⟩ st2 ⟨sm,hp⟩;dsimp only at hp ⊢;cases c with
    | some R=>exact wpS_pure ⟨sm,R,rfl,hp⟩
    | none=>exact wpS_bind (qH (wpS_pure ⟨sm.put _,rfl,hp⟩))
theorem aay{Q:Array Keyed->SortSt->Prop}(ha:0<a.size)(hb:0<b.size)(h0:r (b[b.size - 1]'(by omega))<=r (a[a.size - 1]'(by omega)))(h:∀R st',Sm st st'->GD r a b R->Q R st'):wpS (model prog w) A E s (mHi a b) Q st:=by
 rw[ab6];refine wpS_bind (wpS_lift (Qkj ⟨rfl,wpS_bind (eQ (by omega) ?_)⟩));have j0:JH r a b #[] a.size b.size:=⟨by omega,by omega,by rw[Nat.sub_self,Nat.sub_self];exact List.Perm.refl _,List.Pairwise.nil,λx hx=>absurd hx (by simp)⟩;have j1:=Ua j0 hX ha (Qq0 _) (Qq0 _) (Ca (a:=b) hY hb (Qq0 _) h0);by_cases q1:a.size - 1=0
 ·rw[if_pos (beq_iff_eq.mpr q1)];exact wpS_pure (h _ st (Sm.yw _) (Qx hX hY j1 (by omega) (Qq0 _) (.inl q1)))
 ·rw[if_neg (λz=>q1 (beq_iff_eq.mp z))];by_cases q2:b.size=1
  ·rw[if_pos (beq_iff_eq.mpr q2)];exact wpS_pure (h _ st (Sm.yw _) (Bh hX hl j1 (by omega) (by omega) q2))
  ·rw[if_neg (λz=>q2 (beq_iff_eq.mp z))];refine wpS_bind (wpS_get (wpS_bind (wpS_mono (wpS_forRange (I:=λx (c:H0) st'=>Sm st st'/\c.1=none/\KS r a b c.2.2.2.1 c.2.1 c.2.2.1/\c.2.1+c.2.2.1+x+1<=a.size+b.size) (Q:=λc st'=>Sm st st'/\∃R,c.1=some R/\GD r a b R) ?_ ?_ ⟨Sm.yw _,rfl,⟨j1,by dsimp only;omega,by dsimp only;omega,by dsimp only;omega,Qq0 _⟩,by dsimp only;omega⟩) ?_)))
   ·rintro x ⟨c,m,n,o,g⟩ st' _ hx ⟨sm,e,h',hp⟩;cases e;dsimp only at h' hp ⊢;refine wpS_mono (aaD C (sm.kind hk) ma mb hX hY hl (by omega) h') λu st2 ⟨e,z⟩=>?_;have sm3:Sm st st2:=by
     obtain⟨g4,rfl⟩:=sm;obtain⟨g5,rfl⟩:=e;exact⟨g5,rfl⟩
    cases u with
    | done c=>exact⟨sm3,z⟩
    | yield c=>exact⟨sm3,z.1,z.2.1,by have:=z.2.2;have:=h'.m0;omega⟩
   ·rintro⟨c,m,n,o,g⟩ st' ⟨sm,e,h',hp⟩;dsimp only at h' hp ⊢;have:=h'.m0;omega
   ·rintro⟨c,d⟩ st' ⟨sm,R,e,z⟩;cases e;exact wpS_pure (h R st' sm z)
end
def kA(r:Keyed->Nat)(a:Array Keyed)(i:Nat):Nat:=match a[i]? with
 | some x=>r x
 | none=>0
theorem o5{r:Keyed->Nat}{a b:Array Keyed}{i j:Nat}(h:a[i]? = b[j]?):kA r a i=kA r b j:=by unfold kA;rw[h]
section
variable{prog:Program}{w:World}{A:Around}{E:Value->Shared->Prop}{s:Shared}{kd:SortKind}{r:Keyed->Nat}{a₀:Array Keyed}
structure Bs(kd:SortKind)(a₀:Array Keyed)(st:SortSt):Prop where
 perm:(arrOf st).Perm a₀
 fail:failedOf st=none
 kind:kindOf st=kd
theorem Bs.size{st:SortSt}(h:Bs kd a₀ st):(arrOf st).size=a₀.size:=h.perm.size_eq
theorem Bs.mem{st:SortSt}(h:Bs kd a₀ st){x:Keyed}(hx:x∈arrOf st):x∈a₀:=h.perm.mem_iff.mp hx
theorem Bs.arr{st:SortSt}(h:Bs kd a₀ st){b:Array Keyed}(hp:b.Perm (arrOf st)):Bs kd a₀ (setArr st b):=⟨hp.trans h.perm,h.fail,h.kind⟩
theorem Mw(C:JV prog w A E s kd r a₀){st:SortSt}{i j:Nat}{Q:Option Bool->SortSt->Prop}(hB:Bs kd a₀ st)(hi:i<(arrOf st).size)(hj:j<(arrOf st).size)(h:Q (some (decide (kA r (arrOf st) i<kA r (arrOf st) j))) st) :
  wpS (model prog w) A E s (ltAt' i j) Q st:=by
 rw[ltAt'_eq];refine wpS_bind (wpS_get (wpS_bind (eQ hi (wpS_bind (eQ hj (C _ _ (hB.mem (Array.getElem_mem hi)) (hB.mem (Array.getElem_mem hj)) st _ hB.kind ?_))))));unfold kA at h;rw[Array.getElem?_eq_getElem hi,Array.getElem?_eq_getElem hj] at h;exact h
theorem Hd{a:Array Keyed}{i j:Nat}(hj:j<=a.size)(k:Nat):kA r (mirror a i j ((j - i) / 2)) k=if i<=k/\k<j then kA r a (i+j - 1 - k) else kA r a k:=by
 by_cases q:i<=k/\k<j
 ·rw[if_pos q];exact o5 (by rw[getElem?_mirror_all hj,if_pos q])
 ·rw[if_neg q];exact o5 (by rw[getElem?_mirror_all hj,if_neg q])
theorem jJ{a:Array Keyed}{i j:Nat}(hj:j<=a.size)(h:∀k,i<=k->k<j->kA r a k=kA r a (j - 1))(k:Nat):kA r (mirror a i j ((j - i) / 2)) k=kA r a k:=by
 rw[Hd hj];split
 ·rename_i q;rw[h _ (by omega) (by omega),h k q.1 q.2]
 ·rfl
def Lo(lo:Nat)(a b:Array Keyed):Prop:=∀m,m<lo->b[m]? = a[m]?
theorem Lo.refl(lo:Nat)(a:Array Keyed):Lo lo a a:=λ_ _=>rfl
theorem Lo.mir{lo i j:Nat}{a b:Array Keyed}(h:Lo lo a b)(hi:lo<=i)(hj:j<=b.size):Lo lo a (mirror b i j ((j - i) / 2)):=λm hm=>by
 rw[getElem?_mirror_all hj,if_neg (by omega)];exact h m hm
def Up(r:Keyed->Nat)(a:Array Keyed)(lo n:Nat):Prop:=∀i j,i<=j->j<n->kA r a (lo+i)<=kA r a (lo+j)
def Dn(r:Keyed->Nat)(a:Array Keyed)(lo n:Nat):Prop:=∀i j,i<=j->j<n->kA r a (lo+j)<=kA r a (lo+i)
theorem Up.more{a:Array Keyed}{lo n:Nat}(h:Up r a lo n)(hn:0<n->kA r a (lo+n - 1)<=kA r a (lo+n)):Up r a lo (n+1):=λi j hij hj=>by
 by_cases e:j<n
 ·exact h i j hij e
 ·have e:j=n:=by omega
  subst e;by_cases e2:i=j
  ·subst e2;exact Qq0 _
  ·have:=h i (j - 1) (by omega) (by omega);have e3:lo+(j - 1)=lo+j - 1:=by omega
   rw[e3] at this;exact Qq3 this (hn (by omega))
theorem Dn.more{a:Array Keyed}{lo n:Nat}(h:Dn r a lo n)(hn:0<n->kA r a (lo+n)<=kA r a (lo+n - 1)):Dn r a lo (n+1):=λi j hij hj=>by
 by_cases e:j<n
 ·exact h i j hij e
 ·have e:j=n:=by omega
  subst e;by_cases e2:i=j
  ·subst e2;exact Qq0 _
  ·have:=h i (j - 1) (by omega) (by omega);have e3:lo+(j - 1)=lo+j - 1:=by omega
   rw[e3] at this;exact Qq3 (hn (by omega)) this
theorem up1{a:Array Keyed}{lo:Nat}:Up r a lo 1:=λi j h1 h2=>by
 have:i=j:=by omega
 subst this;exact Qq0 _
theorem dn1{a:Array Keyed}{lo:Nat}:Dn r a lo 1:=λi j h1 h2=>by
 have:i=j:=by omega
 subst this;exact Qq0 _
abbrev A1:=Option (Option Nat)×Nat
def asc(lo n z:Nat):SM A1:=forIn [n:z] ((none,n):A1) λ_ c=>do
 match <-ltAt' (lo+c.2) (lo+c.2 - 1) with
 | some v=>if v=true then pure (.done (none,c.2)) else pure (.yield (none,c.2+1))
 | _=>pure (.done (some none,c.2))
def tl3(lo n z:Nat):SM (Option Nat):=do
 reverseSlice' lo (lo+n)
 let c <-asc lo n z
 match c.1 with
 | some t=>pure t
 | none=>pure (some c.2)
abbrev A2:=Option (Option Nat)×Nat×Nat
def dsc(lo n z:Nat):SM A2:=forIn [n:z] ((none,n,0):A2) λ_ c=>do
 match <-ltAt' (lo+c.2.1) (lo+c.2.1 - 1) with
 | some v=>
  if v=true then
   if c.2.2 > 0 then do
    reverseSlice' (lo+c.2.1 - (c.2.2+1)) (lo+c.2.1)
    pure (.yield (none,c.2.1+1,0))
   else pure (.yield (none,c.2.1+1,0))
  else do
   match <-ltAt' (lo+c.2.1 - 1) (lo+c.2.1) with
   | some u=>if u=true then pure (.done (none,c.2.1,c.2.2)) else pure (.yield (none,c.2.1+1,c.2.2+1))
   | _=>pure (.done (some none,c.2.1,c.2.2))
 | _=>pure (.done (some none,c.2.1,c.2.2))
def dpt(lo n z:Nat):SM (Option Nat):=do
 rule "list.sort.descending-run"
 let c <-dsc lo (n+1) z
 match c.1 with
 | some t=>pure t
 | none=>
  if c.2.2 > 0 then do
   reverseSlice' (lo+c.2.1 - (c.2.2+1)) (lo+c.2.1)
   tl3 lo c.2.1 z
  else tl3 lo c.2.1 z
theorem zT(lo n z:Nat)(f:A1->SM (Option Nat))(hf:∀c,f c=match c.1 with|some t=>pure t|none=>pure (some c.2)):(do reverseSlice' lo (lo+n);let c <-asc lo n z;f c)=tl3 lo n z:=by unfold tl3;refine Qw8 (bind _) (funext λ_=>Qw8 (bind _) (funext λc=>hf c))
theorem ZK(lo z:Nat):countRun' lo z=(do
 let c <-asc lo 1 z
 match c.1 with
 | some t=>pure t
 | none=>
  if (c.2 == z)=true then pure (some c.2)
  else if c.2 > 1 then do
   match <-ltAt' lo (lo+c.2 - 1) with
   | some v=>
    if v=true then pure (some c.2)
    else do
     reverseSlice' lo (lo+c.2)
     dpt lo c.2 z
   | _=>pure none
  else dpt lo c.2 z):=by
 refine(show countRun' lo z=bind _ _ from rfl).trans ?_;refine congr (Qw8 bind ?_) (funext λc=>?_)
 ·rfl
 ·rcases c with ⟨_|t,n⟩
  ·dsimp only
   congr 1
   congr 1
   ·refine Qw8 (bind _) (funext λv=>?_);rcases v with _|v
    ·rfl
    ·dsimp only
     congr 1
     refine Qw8 (bind _) (funext λ_=>?_);unfold dpt;refine Qw8 (bind _) (funext λ_=>?_);refine congr (Qw8 bind ?_) (funext λc=>?_)
     ·rfl
     ·rcases c with ⟨_|t,m,q⟩
      ·dsimp only
       congr 1
       ·refine Qw8 (bind _) (funext λ_=>?_);exact zT lo m z _ λc=>by rcases c with ⟨_|t,m⟩<;>rfl
       ·exact zT lo m z _ λc=>by rcases c with ⟨_|t,m⟩<;>rfl
      ·rfl
   ·unfold dpt;refine Qw8 (bind _) (funext λ_=>?_);refine congr (Qw8 bind ?_) (funext λc=>?_)
    ·rfl
    ·rcases c with ⟨_|t,m,q⟩
     ·dsimp only
      congr 1
      ·refine Qw8 (bind _) (funext λ_=>?_);exact zT lo m z _ λc=>by rcases c with ⟨_|t,m⟩<;>rfl
      ·exact zT lo m z _ λc=>by rcases c with ⟨_|t,m⟩<;>rfl
     ·rfl
  ·rfl
theorem w_rev{st:SortSt}{i j:Nat}{Q:Unit->SortSt->Prop}(h:Q () (setArr st (mirror (arrOf st) i j ((j - i) / 2)))):wpS (model prog w) A E s (reverseSlice' i j) Q st:=by rw[reverseSlice'_eq];exact wpS_modify h
section
variable{lo z:Nat}(C:JV prog w A E s kd r a₀)(hz:lo+z<=a₀.size)
include C hz
theorem Vl{st:SortSt}{n:Nat}{Q:A1->SortSt->Prop}(hB:Bs kd a₀ st)(h1:1<=n)(hn:n<=z)(hs:Up r (arrOf st) lo n)
  (h:∀m,n<=m->m<=z->Up r (arrOf st) lo m->(m=z\/kA r (arrOf st) (lo+m)<kA r (arrOf st) (lo+m - 1))->Q (none,m) st):wpS (model prog w) A E s (asc lo n z) Q st:=by
 unfold asc;refine wpS_forRange (I:=λx (c:A1) st'=>st'=st/\c=(none,x)/\Up r (arrOf st) lo x) ?_ ?_ ⟨rfl,rfl,hs⟩
 ·rintro x c st' hx1 hx2 ⟨rfl,rfl,hs'⟩;have:=hB.size;refine wpS_bind (Mw C hB (by dsimp only;omega) (by dsimp only;omega) ?_);dsimp only;by_cases e:kA r (arrOf st') (lo+x)<kA r (arrOf st') (lo+x - 1)
  ·rw[Qww e];exact wpS_pure (h x hx1 (by omega) hs' (.inr e))
  ·rw[Qq9 e];exact wpS_pure ⟨rfl,rfl,hs'.more λ_=>Nat.le_of_not_lt e⟩
 ·rintro c st' ⟨rfl,rfl,hs'⟩;have e:max n z=z:=by omega
  rw[e] at hs' ⊢;exact h z hn (Qq0 _) hs' (.inl rfl)
theorem Vi{st:SortSt}{n:Nat}{a:Array Keyed}{Q:Option Nat->SortSt->Prop}(hB:Bs kd a₀ st)(h1:1<=n)(hn:n<=z)(hs:Dn r (arrOf st) lo n)(hL:Lo lo a (arrOf st))
  (h:∀m st',Bs kd a₀ st'->pendingOf st'=pendingOf st->1<=m->m<=z->Up r (arrOf st') lo m->Lo lo a (arrOf st')->Q (some m) st'):wpS (model prog w) A E s (tl3 lo n z) Q st:=by
 have hsz:=hB.size;unfold tl3;refine wpS_bind (w_rev ?_);have hB':=hB.arr (mirror_perm (arrOf st) lo (lo+n) ((lo+n - lo) / 2));refine wpS_bind (Vl C hz hB' h1 hn ?_ λm m1 m2 m3 _=>wpS_pure (h m _ hB' rfl (by omega) m2 m3 (hL.mir (Qq0 _) (by omega))));intro i j hij hj;show kA r (mirror (arrOf st) lo (lo+n) _) _<=kA r (mirror (arrOf st) lo (lo+n) _) _;rw[Hd (by omega),Hd (by omega),if_pos (by omega),if_pos (by omega)];have:=hs (n - 1 - j) (n - 1 - i) (by omega) (by omega);have e1:lo+(lo+n) - 1 - (lo+i)=lo+(n - 1 - i):=by omega
 have e2:lo+(lo+n) - 1 - (lo+j)=lo+(n - 1 - j):=by omega
 rw[e1,e2];exact this
theorem aaF{st:SortSt}{n:Nat}{a:Array Keyed}{Q:A2->SortSt->Prop}(hB:Bs kd a₀ st)(h1:1<=n)(hn:n<=z)(hs:Dn r (arrOf st) lo n)(hL:Lo lo a (arrOf st))
  (h:∀m q st',Bs kd a₀ st'->pendingOf st'=pendingOf st->n<=m->m<=z->Dn r (arrOf st') lo m->Lo lo a (arrOf st')->q+1<=m->(∀i,lo+m - (q+1)<=i->i<lo+m->kA r (arrOf st') i=kA r (arrOf st') (lo+m - 1))->Q (none,m,q) st'):wpS (model prog w) A E s (dsc lo n z) Q st:=by
 unfold dsc;refine wpS_forRange (I:=λx (c:A2) st'=>∃q,c=(none,x,q)/\Bs kd a₀ st'/\pendingOf st'=pendingOf st/\Dn r (arrOf st') lo x/\Lo lo a (arrOf st')/\q+1<=x/\∀i,lo+x - (q+1)<=i->i<lo+x->kA r (arrOf st') i=kA r (arrOf st') (lo+x - 1)) ?_ ?_
  ⟨0,rfl,hB,rfl,hs,hL,h1,λi q1 q2=>by congr 1;omega⟩
 ·rintro x c st' hx1 hx2 ⟨q,rfl,hB',hp,hs',hL',hq,he⟩;have hsz:=hB'.size;refine wpS_bind (Mw C hB' (by dsimp only;omega) (by dsimp only;omega) ?_);dsimp only;by_cases e:kA r (arrOf st') (lo+x)<kA r (arrOf st') (lo+x - 1)
  ·rw[Qww e,if_pos rfl];by_cases hq0:q > 0
   ·rw[if_pos hq0];refine wpS_bind (w_rev (wpS_pure ⟨0,rfl,hB'.arr (mirror_perm _ _ _ _),hp,Dn.more (λi j hij hj=>?_) λ_=>?_,hL'.mir (by omega) (by omega),by omega,λi q1 q2=>by congr 1;omega⟩))
    ·show kA r (mirror (arrOf st') _ _ _) _<=kA r (mirror (arrOf st') _ _ _) _;rw[jJ (by omega) he,jJ (by omega) he];exact hs' i j hij hj
    ·show kA r (mirror (arrOf st') _ _ _) _<=kA r (mirror (arrOf st') _ _ _) _;rw[jJ (by omega) he,jJ (by omega) he];exact Qxv e
   ·rw[if_neg hq0];exact wpS_pure ⟨0,rfl,hB',hp,hs'.more λ_=>Qxv e,hL',by omega,λi q1 q2=>by congr 1;omega⟩
  ·rw[Qq9 e,if_neg (by decide)];refine wpS_bind (Mw C hB' (by omega) (by omega) ?_);by_cases e2:kA r (arrOf st') (lo+x - 1)<kA r (arrOf st') (lo+x)
   ·rw[Qww e2];exact wpS_pure (h x q st' hB' hp hx1 (by omega) hs' hL' hq he)
   ·rw[Qq9 e2];have e3:kA r (arrOf st') (lo+x)=kA r (arrOf st') (lo+x - 1):=by omega
    refine wpS_pure ⟨q+1,rfl,hB',hp,hs'.more λ_=>by omega,hL',by omega,λi q1 q2=>?_⟩;have e4:lo+(x+1) - 1=lo+x:=by omega
    rw[e4];by_cases e5:i=lo+x
    ·rw[e5]
    ·rw[e3];exact he i (by omega) (by omega)
 ·rintro c st' ⟨q,rfl,hB',hp,hs',hL',hq,he⟩;have e:max n z=z:=by omega
  rw[e] at hs' hq he ⊢;exact h z q st' hB' hp hn (Qq0 _) hs' hL' hq he
theorem Vk{st:SortSt}{n:Nat}{a:Array Keyed}{Q:Option Nat->SortSt->Prop}(hB:Bs kd a₀ st)(hn:n+1<=z)(hs:Dn r (arrOf st) lo (n+1))(hL:Lo lo a (arrOf st))
  (h:∀m st',Bs kd a₀ st'->pendingOf st'=pendingOf st->1<=m->m<=z->Up r (arrOf st') lo m->Lo lo a (arrOf st')->Q (some m) st'):wpS (model prog w) A E s (dpt lo n z) Q st:=by
 unfold dpt;refine wpS_bind (wpS_lift (Qkj ⟨rfl,?_⟩));refine wpS_bind (aaF C hz hB (by omega) hn hs hL λm q st' hB' hp m1 m2 hs' hL' hq he=>?_);have hsz:=hB'.size;dsimp only;by_cases hq0:q > 0
 ·rw[if_pos hq0];refine wpS_bind (w_rev (Vi C hz (hB'.arr (mirror_perm _ _ _ _)) (by omega) m2 (λi j hij hj=>?_) (hL'.mir (by omega) (by omega)) λm st2 b1 b2=>h m st2 b1 (b2.trans hp)));show kA r (mirror (arrOf st') _ _ _) _<=kA r (mirror (arrOf st') _ _ _) _;rw[jJ (by omega) he,jJ (by omega) he];exact hs' i j hij hj
 ·rw[if_neg hq0];exact Vi C hz hB' (by omega) m2 hs' hL' λm st2 b1 b2=>h m st2 b1 (b2.trans hp)
theorem aaG{st:SortSt}{Q:Option Nat->SortSt->Prop}(h1:1<=z)(hB:Bs kd a₀ st)
  (h:∀m st',Bs kd a₀ st'->pendingOf st'=pendingOf st->1<=m->m<=z->Up r (arrOf st') lo m->Lo lo (arrOf st) (arrOf st')->Q (some m) st'):wpS (model prog w) A E s (countRun' lo z) Q st:=by
 have hsz:=hB.size;rw[ZK];refine wpS_bind (Vl C hz hB (Qq0 1) h1 up1 λn n1 n2 hs hor=>?_);dsimp only;by_cases q1:n=z
 ·rw[if_pos (beq_iff_eq.mpr q1)];exact wpS_pure (h n st hB rfl n1 n2 hs (Lo.refl _ _))
 ·rw[if_neg (λz=>q1 (beq_iff_eq.mp z))];have hlt:=hor.resolve_left q1;by_cases q2:n > 1
  ·rw[if_pos q2];refine wpS_bind (Mw C hB (by omega) (by omega) ?_);by_cases e:kA r (arrOf st) lo<kA r (arrOf st) (lo+n - 1)
   ·rw[Qww e];exact wpS_pure (h n st hB rfl n1 n2 hs (Lo.refl _ _))
   ·rw[Qq9 e];have flat:∀k,lo<=k->k<lo+n->kA r (arrOf st) k=kA r (arrOf st) (lo+n - 1):=λk k1 k2=>by
     have a1:=hs 0 (k - lo) (by omega) (by omega);have a2:=hs (k - lo) (n - 1) (by omega) (by omega);have e1:lo+(k - lo)=k:=by omega
     have e2:lo+(n - 1)=lo+n - 1:=by omega
     rw[e1] at a1 a2;rw[e2] at a2;rw[Nat.add_zero] at a1;omega
    refine wpS_bind (w_rev (Vk C hz (hB.arr (mirror_perm _ _ _ _)) (by omega) (Dn.more (λi j hij hj=>?_) λ_=>?_) ((Lo.refl _ _).mir (Qq0 _) (by omega)) h))
    ·show kA r (mirror (arrOf st) _ _ _) _<=kA r (mirror (arrOf st) _ _ _) _;rw[jJ (by omega) flat,jJ (by omega) flat,flat _ (by omega) (by omega),flat (lo+i) (by omega) (by omega)];exact Qq0 _
    ·show kA r (mirror (arrOf st) _ _ _) _<=kA r (mirror (arrOf st) _ _ _) _;rw[jJ (by omega) flat,jJ (by omega) flat];exact Qxv hlt
  ·rw[if_neg q2];have:n=1:=by omega
   subst this;exact Vk C hz hB (by omega) (dn1.more λ_=>Qxv hlt) (Lo.refl _ _) h
theorem aaH{st:SortSt}{ok:Nat}{Q:Bool->SortSt->Prop}(hB:Bs kd a₀ st)(h1:1<=ok)(hok:ok<=z)(hs:Up r (arrOf st) lo ok)
  (h:∀st',Bs kd a₀ st'->pendingOf st'=pendingOf st->Up r (arrOf st') lo z->Lo lo (arrOf st) (arrOf st')->Q true st'):wpS (model prog w) A E s (binarySort' lo z ok) Q st:=by
 rw[binarySort'_eq];refine wpS_bind (wpS_mono (wpS_forRange (I:=λk c st'=>c=(none,())/\Bs kd a₀ st'/\pendingOf st'=pendingOf st/\Up r (arrOf st') lo k/\Lo lo (arrOf st) (arrOf st'))
  (Q:=λc st'=>c=(none,())/\Bs kd a₀ st'/\pendingOf st'=pendingOf st/\Up r (arrOf st') lo z/\Lo lo (arrOf st) (arrOf st')) ?_ ?_ ⟨rfl,hB,rfl,by rw[Nat.max_eq_left h1];exact hs,Lo.refl _ _⟩) ?_)
 ·rintro k c st' k1 k2 ⟨rfl,hB',hp,hs',hL⟩;have hsz:=hB'.size;refine wpS_bind (wpS_mono (wpS_forRange (I:=λx (c:Option Bool×Nat×Nat) st2=>st2=st'/\c.1=none/\c.2.1<=c.2.2/\c.2.2<=k/\c.2.2 - c.2.1+x<=k/\(∀i,i<c.2.1->kA r (arrOf st') (lo+i)<=kA r (arrOf st') (lo+k))/\∀i,c.2.2<=i->i<k->kA r (arrOf st') (lo+k)<=kA r (arrOf st') (lo+i))
   (Q:=λc st2=>st2=st'/\c.1=none/\c.2.1<=k/\(∀i,i<c.2.1->kA r (arrOf st') (lo+i)<=kA r (arrOf st') (lo+k))/\∀i,c.2.1<=i->i<k->kA r (arrOf st') (lo+k)<=kA r (arrOf st') (lo+i)) ?_ ?_ ⟨rfl,rfl,Qxk _,Qq0 _,by dsimp only;omega,λi hi=>absurd hi (Qkk i),λi i1 i2=>by dsimp only at i1;omega⟩) ?_)
  ·rintro x ⟨c,l,u⟩ st2 _ hx ⟨rfl,e,q1,q2,q3,q4,q5⟩;cases e;dsimp only at q1 q2 q3 q4 q5 ⊢;by_cases hl:l ≥ u
   ·rw[if_pos hl];exact wpS_pure ⟨rfl,rfl,by dsimp only;omega,q4,λi i1 i2=>q5 i (by dsimp only at i1;omega) i2⟩
   ·rw[if_neg hl];refine wpS_bind (Mw C hB' (by omega) (by omega) ?_);by_cases e:kA r (arrOf st2) (lo+k)<kA r (arrOf st2) (lo+(l+u) / 2)
    ·rw[Qww e];refine wpS_pure ⟨rfl,rfl,by dsimp only;omega,by dsimp only;omega,by dsimp only;omega,q4,λi i1 i2=>?_⟩;exact Qq3 (Qxv e) (hs' _ i i1 i2)
    ·rw[Qq9 e];refine wpS_pure ⟨rfl,rfl,by dsimp only;omega,q2,by dsimp only;omega,λi hi=>?_,q5⟩;dsimp only at hi;exact Qq3 (hs' i ((l+u) / 2) (by omega) (by omega)) (Nat.le_of_not_lt e)
  ·rintro⟨c,l,u⟩ st2 ⟨rfl,e,q1,q2,q3,q4,q5⟩;cases e;dsimp only at q1 q2 q3 q4 q5 ⊢;exact⟨rfl,rfl,by omega,q4,λi i1 i2=>q5 i (by omega) i2⟩
  ·rintro⟨c,l,u⟩ st2 ⟨rfl,e,q1,q4,q5⟩;cases e;dsimp only at q1 q4 q5 ⊢;rw[moveDown'_eq];refine wpS_bind (wpS_modify (wpS_pure ⟨rfl,hB'.arr (bubble_perm _ _ _),hp,?_,?_⟩))
   ·have kb:∀m,kA r (bubble (arrOf st2) (lo+k) (lo+k - (lo+l))) m=if m=lo+l then kA r (arrOf st2) (lo+k) else if lo+l<m/\m<=lo+k then kA r (arrOf st2) (m - 1) else kA r (arrOf st2) m:=λm=>by
     have g:=getElem?_bubble (xs:=arrOf st2) (src:=lo+k) (by omega) (lo+k - (lo+l)) (by omega) m;have e1:lo+k - (lo+k - (lo+l))=lo+l:=by omega
     rw[e1] at g;by_cases c1:m=lo+l
     ·rw[if_pos c1];rw[if_pos c1] at g;exact o5 g
     ·rw[if_neg c1];rw[if_neg c1] at g;by_cases c2:lo+l<m/\m<=lo+k
      ·rw[if_pos c2];rw[if_pos c2] at g;exact o5 g
      ·rw[if_neg c2];rw[if_neg c2] at g;exact o5 g
    intro i j hij hj;show kA r (bubble (arrOf st2) _ _) _<=kA r (bubble (arrOf st2) _ _) _;rw[kb,kb];by_cases c1:i=l
    ·rw[if_pos (by omega)];by_cases c2:j=l
     ·rw[if_pos (by omega)];exact Qq0 _
     ·rw[if_neg (by omega),if_pos (by omega)];have:=q5 (j - 1) (by omega) (by omega);have e2:lo+(j - 1)=lo+j - 1:=by omega
      rw[e2] at this;exact this
    ·rw[if_neg (by omega)];by_cases c2:j=l
     ·rw[if_neg (show ¬(lo+l<lo+i/\lo+i<=lo+k) by omega),if_pos (by omega)];exact q4 i (by omega)
     ·rw[if_neg (show ¬lo+j=lo+l by omega)];by_cases c3:l<i
      ·rw[if_pos (by omega),if_pos (by omega)];have:=hs' (i - 1) (j - 1) (by omega) (by omega);have e2:lo+(j - 1)=lo+j - 1:=by omega
       have e3:lo+(i - 1)=lo+i - 1:=by omega
       rw[e2,e3] at this;exact this
      ·rw[if_neg (by omega)];by_cases c4:l<j
       ·rw[if_pos (by omega)];have:=hs' i (j - 1) (by omega) (by omega);have e2:lo+(j - 1)=lo+j - 1:=by omega
        rw[e2] at this;exact this
       ·rw[if_neg (by omega)];exact hs' i j hij (by omega)
   ·intro m hm;show(bubble (arrOf st2) _ _)[m]? = _;rw[getElem?_bubble (by omega) _ (by omega),if_neg (by omega),if_neg (by omega)];exact hL m hm
 ·rintro c st' ⟨rfl,hB',hp,hs',hL⟩;refine⟨rfl,hB',hp,?_,hL⟩;have e:max (max ok 1) z=z:=by omega
  rw[e] at hs';exact hs'
 ·rintro c st' ⟨rfl,hB',hp,hs',hL⟩;exact wpS_pure (h st' hB' hp hs' hL)
end
end
def mA3(sa na nb k m:Nat)(a:Array Keyed)(sb:Nat):SM Bool:=do
 let R <-if na - k<=m then mLo (a.extract (sa+k) sb) (a.extract sb (sb+m)) else mHi (a.extract (sa+k) sb) (a.extract sb (sb+m))
 modify λst=>setArr st (R.toList.zipIdx.foldl (λa p=>a.setIfInBounds (sa+k+p.2) p.1) (arrOf st))
 let st <-get
 pure (failedOf st).isNone
def mA2(a:Array Keyed)(sa na sb nb:Nat):SM Bool:=do
 let y <-elem' a sb
 match <-gU false y a sa na 0 with
 | some k=>
  if (na - k == 0)=true then pure true else do
   let x <-elem' a (sa+k+(na - k) - 1)
   match <-gU true x a sb nb (nb - 1) with
   | some m=>if (m == 0)=true then pure true else mA3 sa na nb k m a sb
   | _=>pure false
 | _=>pure false
theorem Yz(i:Nat):mergeAt' i=(do
 let st <-get
 match (pendingOf st)[i]?,(pendingOf st)[i+1]? with
 | some p,some q=>do
  set (setPending st (((pendingOf st).setIfInBounds i (p.1,p.2.1+q.2.1,p.2.2)).eraseIdxIfInBounds (i+1)))
  mA2 (arrOf st) p.1 p.2.1 q.1 q.2.1
 | _,_=>unsupported "internal:list.sort.pending"):=by
 refine(show mergeAt' i=bind _ _ from rfl).trans ?_;refine Qw8 (bind _) (funext λst=>?_);dsimp only;rcases h1:(pendingOf st)[i]? with _|⟨sa,na,pw⟩<;>rcases h2:(pendingOf st)[i+1]? with _|⟨sb,nb,pw2⟩
 ·rfl
 ·rfl
 ·rfl
 ·dsimp only;refine Qw8 (bind _) (funext λ_=>?_);unfold mA2;refine Qw8 (bind _) (funext λy=>?_);refine Qw8 (bind _) (funext λk=>?_);rcases k with _|k
  ·rfl
  ·dsimp only
   congr 1
theorem wb:∀(R:List Keyed) (n base:Nat) (a:Array Keyed),base+n+R.length<=a.size->((R.zipIdx n).foldl (λa p=>a.setIfInBounds (base+p.2) p.1) a).toList=a.toList.take (base+n)++R++a.toList.drop (base+n+R.length)
 | [],n,base,a,h=>by simp
 | x::R,n,base,a,h=>by
  rw[Qqv] at h;have hi:base+n<a.size:=by omega
  rw[List.zipIdx_cons,List.foldl_cons,wb R (n+1) base _ (by rw[Array.size_setIfInBounds];omega),Array.toList_setIfInBounds];have e1:base+(n+1)=base+n+1:=by omega
  have e2:base+(n+1)+R.length=base+n+(x::R).length:=by rw[Qqv];omega
  dsimp only;rw[e2,e1];have hl:base+n<a.toList.length:=by rw[Qqq];exact hi
  rw[List.take_set,List.drop_set_of_lt (by rw[Qqv];omega)];rw[List.take_succ_eq_append_getElem hl];have:(a.toList.take (base+n)++[a.toList[base+n]]).set (base+n) x=a.toList.take (base+n)++[x]:=by
   rw[List.set_append_right _ _ (by rw[Qw3];omega)]
   congr 1
   have:base+n - (a.toList.take (base+n)).length=0:=by rw[Qw3];omega
   rw[this]
   rfl
  rw[this];simp
section
variable{prog:Program}{w:World}{A:Around}{E:Value->Shared->Prop}{s:Shared}{kd:SortKind}{r:Keyed->Nat}{a₀:Array Keyed}
theorem Vj(C:JV prog w A E s kd r a₀){left:Bool}{key:Keyed}{a:Array Keyed}{base n hint:Nat}{st:SortSt}{Q:Option Nat->SortSt->Prop}(hk:kindOf st=kd)(hkey:key∈a₀)(qp:∀x∈a,x∈a₀)(hb:base+n<=a.size)(hh:hint<n)
  {S:List Keyed} (hS:S=(a.toList.drop base).take n) (hs:S.Pairwise (jj r)) (h:∀k,k<=n->(∀x∈S.take k,bB left r key x=true)->(∀x∈S.drop k,bB left r key x=false)->Q (some k) st):wpS (model prog w) A E s (gU left key a base n hint) Q st:=by
 have hl:S.length=n:=by rw[hS,Qw3,Qxj,Qqq];omega
 have hg:∀i (hi:i<S.length),S[i]=a[base+i]'(by omega):=λi hi=>by
  subst hS;rw[List.getElem_take,List.getElem_drop]
  rfl
 refine ou C hk hkey qp hb (λi=>match S[i]? with|some x=>bB left r key x|none=>false) (λi h1 h2=>?_) (λi j h1 h2 h3=>?_) hh λk k1 k2 k3=>h k k1 (λx hx=>?_) (λx hx=>?_)
 ·rw[Qq2 (by omega),hg i (by omega)]
 ·rw[Qq2 (by omega)] at h3 ⊢;have:=pw_le (le:=jj r) rf hs h1 (by omega);dsimp only at h3 ⊢;unfold bB at h3 ⊢;cases left with
  | true=>
   simp only[if_true,decide_eq_true_eq] at h3 ⊢;exact Qw6 this h3
  | false=>
   simp only[Bool.false_eq_true,if_false,Bool.not_eq_true',decide_eq_false_iff_not,Nat.not_lt] at h3 ⊢;exact Qq3 this h3
 ·obtain⟨i,hi,rfl⟩:=List.mem_iff_getElem.mp hx;rw[Qw3] at hi;have:=k2 i (by omega);rw[Qq2 (by omega)] at this;rw[List.getElem_take];exact this
 ·obtain⟨i,hi,rfl⟩:=List.mem_iff_getElem.mp hx;rw[Qxj] at hi;have:=k3 (k+i) (by omega) (by omega);rw[Qq2 (by omega)] at this;rw[List.getElem_drop];exact this
theorem aav{st st1:SortSt}{Q:PUnit->SortSt->Prop}(h:Q ⟨⟩ st1):wpS (model prog w) A E s (set st1:SM PUnit) Q st:=by unfold wpS;rw[StateT.run_set];exact Qq6 ⟨rfl,h⟩
def part(l:List Keyed)(b n:Nat):List Keyed:=(l.drop b).take n
theorem wj{l:List Keyed}{b n:Nat}(h:b+n<=l.length):(part l b n).length=n:=by unfold part;rw[Qw3,Qxj];omega
theorem qY{l:List Keyed}{b n i:Nat}(hi:i<(part l b n).length)(hb:b+i<l.length):(part l b n)[i]=l[b+i]:=by simp only[part,List.getElem_take,List.getElem_drop]
theorem WR{l:List Keyed}(b n m:Nat):l=l.take b++(part l b n++(part l (b+n) m++l.drop (b+n+m))):=by
 unfold part;have e1:(l.drop (b+n)).take m++l.drop (b+n+m)=l.drop (b+n):=by rw[<-List.drop_drop (i:=m) (j:=b+n)];exact List.take_append_drop ..
 have e2:(l.drop b).take n++l.drop (b+n)=l.drop b:=by rw[<-List.drop_drop (i:=n) (j:=b)];exact List.take_append_drop ..
 rw[e1,e2,List.take_append_drop]
theorem pw_app{X Y:List Keyed}(hX:X.Pairwise (jj r))(hY:Y.Pairwise (jj r))(h:∀x∈X,∀y∈Y,r x<=r y):(X++Y).Pairwise (jj r):=List.pairwise_append.mpr ⟨hX,hY,h⟩
def Mgd(r:Keyed->Nat)(l l':List Keyed)(b n:Nat):Prop:=∃M,l'=l.take b++M++l.drop (b+n)/\M.length=n/\M.Pairwise (jj r)
section
variable{st:SortSt}{sa na nb:Nat}(C:JV prog w A E s kd r a₀)(hB:Bs kd a₀ st)(na0:0<na)(nb0:0<nb)(hs:sa+na+nb<=a₀.size)(S1:(part (arrOf st).toList sa na).Pairwise (jj r))(S2:(part (arrOf st).toList (sa+na) nb).Pairwise (jj r))
include C hB na0 nb0 hs S1 S2
theorem aaA{Q:Bool->SortSt->Prop}(h:∀st',Bs kd a₀ st'->pendingOf st'=pendingOf st->Mgd r (arrOf st).toList (arrOf st').toList sa (na+nb)->Q true st'):wpS (model prog w) A E s (mA2 (arrOf st) sa na (sa+na) nb) Q st:=by
 have hsz:=hB.size;have hz:(arrOf st).toList.length=a₀.size:=by rw[Qqq];exact hsz
 have mem:∀x∈arrOf st,x∈a₀:=λx hx=>hB.mem hx;have l1:(part (arrOf st).toList sa na).length=na:=wj (by omega);have l2:(part (arrOf st).toList (sa+na) nb).length=nb:=wj (by omega);have dec:=WR (l:=(arrOf st).toList) sa na nb;generalize hRa:part (arrOf st).toList sa na=Ra at *;generalize hRb:part (arrOf st).toList (sa+na) nb=Rb at *;have hb0:sa+na<(arrOf st).size:=by omega
 have k0:(arrOf st)[sa+na]=Rb[0]'(by omega):=by
  subst hRb;rw[qY _ (by omega)]
  rfl
 have all:∀T,T=Ra++Rb->T.Pairwise (jj r)->Q true st:=λT e q=>h st hB rfl ⟨T,by
  have e3:sa+(na+nb)=sa+na+nb:=by omega
  rw[e3,e,Qwy,Qwy];exact dec,by rw[e,Qqk];omega,q⟩
 have low:∀y∈Rb,r (Rb[0]'(by omega))<=r y:=λy hy=>JB (le:=jj r) rf S2 (i:=0) (by omega) (by rw[List.drop_zero];exact hy);unfold mA2;refine wpS_bind (eQ hb0 (wpS_bind (Vj C hB.kind (mem _ (Array.getElem_mem hb0)) mem (by omega) na0 hRa.symm S1 λk k1 k2 k3=>?_)));rw[k0] at k2 k3;have k2':∀x∈Ra.take k,r x<=r (Rb[0]'(by omega)):=λx hx=>by
  have:=k2 x hx;unfold bB at this
  simpa using this
 have k3':∀x∈Ra.drop k,r (Rb[0]'(by omega))<r x:=λx hx=>by
  have:=k3 x hx;unfold bB at this
  simpa using this
 dsimp only;by_cases q1:na - k=0
 ·rw[if_pos (beq_iff_eq.mpr q1)];refine wpS_pure (all _ rfl (pw_app S1 S2 λx hx y hy=>Qq3 (k2' x ?_) (low y hy)));rw[Qj2 (by omega)];exact hx
 ·rw[if_neg (λz=>q1 (beq_iff_eq.mp z))];have hb1:sa+k+(na - k) - 1<(arrOf st).size:=by omega
  have k4:(arrOf st)[sa+k+(na - k) - 1]=Ra[na - 1]'(by omega):=by
   subst hRa;rw[qY _ (by omega)];have:sa+k+(na - k) - 1=sa+(na - 1):=by omega
   simp only[this]
   rfl
  refine wpS_bind (eQ hb1 (wpS_bind (Vj C hB.kind (mem _ (Array.getElem_mem hb1)) mem (by omega) (by omega) hRb.symm S2 λm m1 m2 m3=>?_)));rw[k4] at m2 m3;have m2':∀y∈Rb.take m,r y<r (Ra[na - 1]'(by omega)):=λy hy=>by
   have:=m2 y hy;unfold bB at this
   simpa using this
  have m3':∀y∈Rb.drop m,r (Ra[na - 1]'(by omega))<=r y:=λy hy=>by
   have:=m3 y hy;unfold bB at this
   simpa using this
  have top:∀x∈Ra,r x<=r (Ra[na - 1]'(by omega)):=λx hx=>by
   obtain⟨u,hu,rfl⟩:=List.mem_iff_getElem.mp hx;exact pw_le (le:=jj r) rf S1 (i:=u) (j:=na - 1) (by omega) (by omega)
  dsimp only;by_cases q2:m=0
  ·rw[if_pos (beq_iff_eq.mpr q2)];subst q2;exact wpS_pure (all _ rfl (pw_app S1 S2 λx hx y hy=>Qq3 (top x hx) (m3' y (by rw[List.drop_zero];exact hy))))
  ·rw[if_neg (λz=>q2 (beq_iff_eq.mp z))];unfold mA3;have xe:((arrOf st).extract (sa+k) (sa+na)).toList=Ra.drop k:=by
    rw[Array.toList_extract];unfold List.extract;subst hRa;unfold part;rw[List.drop_take,List.drop_drop]
    congr 1
    omega
   have ye:((arrOf st).extract (sa+na) (sa+na+m)).toList=Rb.take m:=by rw[Array.toList_extract];unfold List.extract;subst hRb;unfold part;rw[List.take_take,Nat.add_sub_cancel_left,Nat.min_eq_left m1]
   generalize hx:(arrOf st).extract (sa+k) (sa+na)=X at *;generalize hy:(arrOf st).extract (sa+na) (sa+na+m)=Y at *;have xs:X.size=na - k:=by rw[<-Qqq,xe,Qxj];omega
   have ys:Y.size=m:=by rw[<-Qqq,ye,Qw3];omega
   have mX:∀x∈X,x∈a₀:=λx hx'=>by
    have:x∈X.toList:=Array.mem_toList_iff.mpr hx';rw[xe,<-hRa] at this;exact mem x (Array.mem_toList_iff.mp (List.mem_of_mem_drop (List.mem_of_mem_take (List.mem_of_mem_drop this))))
   have mY:∀x∈Y,x∈a₀:=λx hx'=>by
    have:x∈Y.toList:=Array.mem_toList_iff.mpr hx';rw[ye,<-hRb] at this;exact mem x (Array.mem_toList_iff.mp (List.mem_of_mem_drop (List.mem_of_mem_take (List.mem_of_mem_take this))))
   have pX:X.toList.Pairwise (jj r):=by rw[xe];exact S1.sublist (List.drop_sublist _ _)
   have pY:Y.toList.Pairwise (jj r):=by rw[ye];exact S2.sublist (List.take_sublist _ _)
   have gx:∀i (hi:i<X.size),X[i]=Ra[k+i]'(by omega):=λi hi=>by
    show X.toList[i]'(by rw[Qqq];exact hi)=_;simp only[xe,List.getElem_drop]
   have gy:∀i (hi:i<Y.size),Y[i]=Rb[i]'(by omega):=λi hi=>by
    show Y.toList[i]'(by rw[Qqq];exact hi)=_;simp only[ye,List.getElem_take]
   have fin:∀(R:Array Keyed) (st2:SortSt),Sm st st2->GD r X Y R->wpS (model prog w) A E s (do
     modify λst=>setArr st (R.toList.zipIdx.foldl (λa p=>a.setIfInBounds (sa+k+p.2) p.1) (arrOf st))
     let st <-get
     pure (failedOf st).isNone:SM Bool) Q st2:=λR st2 sm gd=>by
    obtain⟨g,rfl⟩:=sm;refine wpS_bind (wpS_modify (wpS_bind (wpS_get (wpS_pure ?_))));have rl:R.toList.length=na - k+m:=by rw[gd.1.length_eq,Qqk,xe,ye,Qxj,Qw3];omega
    have wr:=wb R.toList 0 (sa+k) (arrOf st) (by omega);rw[Nat.add_zero,rl] at wr;have e0:(arrOf st).toList.take (sa+k)=(arrOf st).toList.take sa++Ra.take k:=by rw[<-hRa];unfold part;rw[List.take_take,Nat.min_eq_left k1,List.take_add]
    have e1:(arrOf st).toList.drop (sa+k+(na - k+m))=Rb.drop m++(arrOf st).toList.drop (sa+na+nb):=by
     have e2:sa+k+(na - k+m)=sa+na+m:=by omega
     rw[e2,<-hRb];unfold part;rw[List.drop_take,List.drop_drop];have e3:(arrOf st).toList.drop (sa+na+nb)=((arrOf st).toList.drop (sa+na+m)).drop (nb - m):=by rw[List.drop_drop];congr 1;omega
     rw[e3,List.take_append_drop]
    rw[e0,e1] at wr;have abQ:∀x∈R.toList,(x∈Ra.drop k\/x∈Rb.take m):=λx hx'=>by
     have:=gd.1.mem_iff.mp hx';rw[xe,ye] at this;exact Qw0.mp this
    have key:Mgd r (arrOf st).toList (R.toList.zipIdx.foldl (λa p=>a.setIfInBounds (sa+k+p.2) p.1) (arrOf st)).toList sa (na+nb):=by
     refine⟨Ra.take k++(R.toList++Rb.drop m),?_,?_,pw_app (S1.sublist (List.take_sublist _ _)) (pw_app gd.2 (S2.sublist (List.drop_sublist _ _)) λx hx' y hy'=>?_) λx hx' y hy'=>?_⟩
     ·rw[wr];have e3:sa+(na+nb)=sa+na+nb:=by omega
      rw[e3];simp only[Qwy]
     ·simp only[Qqk,Qw3,Qxj];omega
     ·rcases abQ x hx' with q|q
      ·exact Qq3 (top x (List.mem_of_mem_drop q)) (m3' y hy')
      ·exact Qq3 (Qxv (m2' x q)) (m3' y hy')
     ·refine Qq3 (k2' x hx') ?_;rcases Qw0.mp hy' with q|q
      ·rcases abQ y q with q|q
       ·exact Qxv (k3' y q)
       ·exact low y (List.mem_of_mem_take q)
      ·exact low y (List.mem_of_mem_drop q)
    have hperm:(R.toList.zipIdx.foldl (λa p=>a.setIfInBounds (sa+k+p.2) p.1) (arrOf st)).Perm (arrOf st):=by
     refine Array.perm_iff_toList_perm.mpr ?_;refine List.Perm.trans (List.Perm.of_eq wr) (List.Perm.trans ?_ (List.Perm.of_eq dec.symm));have pR:R.toList.Perm (Ra.drop k++Rb.take m):=by have:=gd.1;rwa [xe,ye] at this
     have t1:(Ra.take k++(R.toList++Rb.drop m)).Perm (Ra++Rb):=by have e4:=List.take_append_drop k Ra;have e5:=List.take_append_drop m Rb;have:(Ra.take k++(R.toList++Rb.drop m)).Perm (Ra.take k++((Ra.drop k++Rb.take m)++Rb.drop m)):=(pR.append_right _).append_left _;refine this.trans ?_;rw[Qwy,e5,<-Qwy,e4]
     have:=(t1.append_right ((arrOf st).toList.drop (sa+na+nb))).append_left ((arrOf st).toList.take sa);simp only[Qwy] at this ⊢;exact this
    have hf:(failedOf (setArr (setG st g) (R.toList.zipIdx.foldl (λa p=>a.setIfInBounds (sa+k+p.2) p.1) (arrOf st)))).isNone=true:=by
     show(failedOf st).isNone=true;rw[hB.fail]
     rfl
    show Q (failedOf (setArr (setG st g) (R.toList.zipIdx.foldl (λa p=>a.setIfInBounds (sa+k+p.2) p.1) (arrOf st)))).isNone _;rw[hf];exact h _ ⟨hperm.trans hB.perm,hB.fail,hB.kind⟩ rfl key
   have x0:0<X.size:=by omega
   have y0:0<Y.size:=by omega
   have hX0:r Y[0]<=r X[0]:=by rw[gx 0 x0,gy 0 y0];refine Qxv (k3' _ ?_);rw[List.mem_iff_getElem];exact⟨0,by rw[Qxj];omega,by rw[List.getElem_drop]⟩
   dsimp only;by_cases q3:na - k<=m
   ·rw[if_pos q3];refine wpS_bind ?_;refine aax C hB.kind mX mY pX pY (λy hy' hlt=>?_) x0 y0 hX0 fin;rw[ye] at hy';have:=m2' y hy';have e4:X.toList[X.size - 1]=Ra[na - 1]'(by omega):=by
     have:=gx (X.size - 1) (by omega);have e5:k+(X.size - 1)=na - 1:=by omega
     simp only[e5] at this;exact this
    show r y<=r _;rw[e4];exact Qxv this
   ·rw[if_neg q3];refine wpS_bind ?_;refine aay C hB.kind mX mY pX pY (λy hy' hlt=>?_) x0 y0 ?_ fin
    ·rw[xe] at hy';have e4:Y.toList[0]=Rb[0]'(by omega):=gy 0 y0;rw[e4];exact Qxv (k3' y hy')
    ·rw[gx _ (by omega),gy _ (by omega)];have e5:k+(X.size - 1)=na - 1:=by omega
     simp only[e5];refine Qxv (m2' _ ?_);rw[List.mem_iff_getElem];exact⟨Y.size - 1,by rw[Qw3];omega,by rw[List.getElem_take]⟩
end
theorem aaz(C:JV prog w A E s kd r a₀){st:SortSt}{i sa na pw nb pw2:Nat}{Q:Bool->SortSt->Prop}(hB:Bs kd a₀ st)(h1:(pendingOf st)[i]? = some (sa,na,pw))(h2:(pendingOf st)[i+1]? = some (sa+na,nb,pw2))(na0:0<na)(nb0:0<nb)(hs:sa+na+nb<=a₀.size)
  (S1:(part (arrOf st).toList sa na).Pairwise (jj r)) (S2:(part (arrOf st).toList (sa+na) nb).Pairwise (jj r))
  (h:∀st',Bs kd a₀ st'->pendingOf st'=((pendingOf st).setIfInBounds i (sa,na+nb,pw)).eraseIdxIfInBounds (i+1)->Mgd r (arrOf st).toList (arrOf st').toList sa (na+nb)->Q true st'):wpS (model prog w) A E s (mergeAt' i) Q st:=by
 rw[Yz];refine wpS_bind (wpS_get ?_);rw[h1,h2];dsimp only;refine wpS_bind (aav ?_);exact aaA C (st:=setPending st (((pendingOf st).setIfInBounds i (sa,na+nb,pw)).eraseIdxIfInBounds (i+1))) ⟨hB.perm,hB.fail,hB.kind⟩ na0 nb0 hs S1 S2 λst' b1 b2 b3=>h st' b1 b2 b3
end
theorem S9{l M D:List Keyed}{b b' n':Nat}(hb:b<=l.length)(h:b'+n'<=b):part (l.take b++M++D) b' n'=part l b' n':=by
 unfold part;rw[Qwy,List.drop_append_of_le_length (by rw[Qw3];omega),List.take_append_of_le_length (by rw[Qxj,Qw3];omega),List.drop_take,List.take_take]
 congr 1
 omega
theorem JC{l M:List Keyed}{b n b':Nat}(hb:b+n<=l.length)(hM:M.length=n)(h:b+n<=b'):(l.take b++M++l.drop (b+n)).drop b'=l.drop b':=by
 have hl:(l.take b++M).length=b+n:=by rw[Qqk,Qw3,hM];omega
 have e:b'=(l.take b++M).length+(b' - (b+n)):=by omega
 rw[e,List.drop_append,List.drop_of_length_le (by omega),List.nil_append,Nat.add_sub_cancel_left,List.drop_drop]
 congr 1
 omega
theorem O3{l M D:List Keyed}{b:Nat}(hb:b<=l.length):part (l.take b++M++D) b M.length=M:=by unfold part;rw[Qwy,List.drop_left' (by rw[Qw3];omega),List.take_left' rfl]
section
variable{prog:Program}{w:World}{A:Around}{E:Value->Shared->Prop}{s:Shared}{kd:SortKind}{r:Keyed->Nat}{a₀:Array Keyed}
abbrev Pn:=Nat×Nat×Nat
def uX(r:Keyed->Nat)(l:List Keyed):List Pn->Nat->Nat->Prop
 | [],b,e=>b=e
 | p::ps,b,e=>p.1=b/\0<p.2.1/\(part l b p.2.1).Pairwise (jj r)/\uX r l ps (b+p.2.1) e
theorem vf{l:List Keyed}:∀{P:List Pn} {b e:Nat},uX r l P b e->b+P.length<=e
 | [],b,e,h=>Nat.le_of_eq h
 | p::P,b,e,h=>by have:=vf h.2.2.2;have:=h.2.1;rw[Qqv];omega
theorem qO{l:List Keyed}:∀{P Q:List Pn} {b e:Nat},uX r l (P++Q) b e ↔ ∃m,uX r l P b m/\uX r l Q m e
 | [],Q,b,e=>⟨λh=>⟨b,rfl,h⟩,λ⟨m,h1,h2⟩=>by have h1:b=m:=h1;subst h1;exact h2⟩
 | p::P,Q,b,e=>⟨λh=>by
   obtain⟨m,h1,h2⟩:=qO.mp h.2.2.2;exact⟨m,⟨h.1,h.2.1,h.2.2.1,h1⟩,h2⟩,λ⟨m,h1,h2⟩=>⟨h1.1,h1.2.1,h1.2.2.1,qO.mpr ⟨m,h1.2.2.2,h2⟩⟩⟩
theorem qN{l l':List Keyed}:∀{P:List Pn} {b e:Nat},uX r l P b e->(∀b' n',b<=b'->b'+n'<=e->part l' b' n'=part l b' n')->uX r l' P b e
 | [],b,e,h,_=>h
 | p::P,b,e,h,hs=>by
  have h0:=h.2.1;have hl:=vf h.2.2.2;exact⟨h.1,h0,by rw[hs _ _ (Qq0 _) (by omega)];exact h.2.2.1,qN h.2.2.2 λb' n' h1 h2=>hs b' n' (by omega) h2⟩
theorem Ih{l:List Keyed}{f:Pn->Pn}(hf:∀p,(f p).1=p.1/\(f p).2.1=p.2.1):∀{P:List Pn} {i b e:Nat},uX r l P b e->uX r l (P.modify i f) b e
 | [],i,b,e,h=>by cases i<;>exact h
 | p::P,0,b,e,h=>by
  rw[List.modify_cons,if_pos rfl];refine⟨(hf p).1.trans h.1,?_,?_,?_⟩
  ·rw[(hf p).2];exact h.2.1
  ·rw[(hf p).2];exact h.2.2.1
  ·rw[(hf p).2];exact h.2.2.2
 | p::P,i+1,b,e,h=>by
  rw[List.modify_cons,if_neg (by omega)];exact⟨h.1,h.2.1,h.2.2.1,Ih hf h.2.2.2⟩
theorem Wu{P:List Pn}{i:Nat}(h:i+1<P.length):P=P.take i++P[i]::P[i+1]::P.drop (i+2):=by have e1:=List.take_append_drop i P;rw[Qx4 (by omega:i<P.length),Qx4 h] at e1;exact e1.symm
theorem RB{P1 P2:List Pn}{x y v:Pn}:((P1++x::y::P2).set P1.length v).eraseIdx (P1.length+1)=P1++v::P2:=by
 rw[List.set_append_right _ _ (Qq0 _),Nat.sub_self,List.eraseIdx_append_of_length_le (by omega)];have:P1.length+1 - P1.length=1:=by omega
 rw[this]
 rfl
theorem aaw(C:JV prog w A E s kd r a₀){st:SortSt}{i e:Nat}{Q:Bool->SortSt->Prop}(hB:Bs kd a₀ st)(hS:uX r (arrOf st).toList (pendingOf st).toList 0 e)(he:e<=a₀.size)(hi:i+1<(pendingOf st).size)
  (h:∀st',Bs kd a₀ st'->uX r (arrOf st').toList (pendingOf st').toList 0 e->(pendingOf st').size+1=(pendingOf st).size->(arrOf st').toList.drop e=(arrOf st).toList.drop e->Q true st'):wpS (model prog w) A E s (mergeAt' i) Q st:=by
 have hz:(arrOf st).toList.length=a₀.size:=by rw[Qqq];exact hB.size
 have hi':i+1<(pendingOf st).toList.length:=by rw[Qqq];exact hi
 have g1:(pendingOf st)[i]? = some ((pendingOf st).toList[i]):=by rw[<-Qj7];exact Qq2 _
 have g2:(pendingOf st)[i+1]? = some ((pendingOf st).toList[i+1]):=by rw[<-Qj7];exact Qq2 _
 have d:=Wu hi';have lP:((pendingOf st).toList.take i).length=i:=by rw[Qw3];omega
 generalize hp1:(pendingOf st).toList.take i=P1 at *;generalize hp2:(pendingOf st).toList.drop (i+2)=P2 at *;generalize hx:(pendingOf st).toList[i]=x at *;generalize hy:(pendingOf st).toList[i+1]=y at *;rw[d] at hS;obtain⟨m,s1,s2⟩:=qO.mp hS;obtain⟨sa,na,pw⟩:=x;obtain⟨sb,nb,pw2⟩:=y;obtain⟨b1,b2,b3,c1,c2,c3,c4⟩:=s2;dsimp only at b1 b2 b3 c1 c2 c3 c4;subst b1;subst c1;have hle:=vf c4;refine aaz C hB g1 g2 b2 c2 (by omega) b3 c3 λst' hB' hp hM=>h st' hB' ?_ ?_ ?_
 ·obtain⟨M,e1,e2,e3⟩:=hM;have el:(pendingOf st').toList=P1++(sa,na+nb,pw)::P2:=by
   rw[hp,Array.toList_eraseIdxIfInBounds,Array.toList_setIfInBounds,d,<-lP];exact RB
  rw[el,e1];refine qO.mpr ⟨sa,qN s1 λb' n' _ h2=>S9 (by omega) h2,rfl,by dsimp only;omega,?_,?_⟩
  ·dsimp only;rw[<-e2,O3 (by omega)];exact e3
  ·dsimp only;have e4:sa+(na+nb)=sa+na+nb:=by omega
   rw[e4] at e1 ⊢;refine qN c4 λb' n' h1 _=>?_;unfold part;have:=JC (l:=(arrOf st).toList) (M:=M) (b:=sa) (n:=na+nb) (b':=b') (by omega) e2 (by omega);rw[e4] at this;rw[this]
 ·rw[hp,<-Qqq,Array.toList_eraseIdxIfInBounds,Array.toList_setIfInBounds,List.length_eraseIdx,Qx7,if_pos hi',Qqq];omega
 ·obtain⟨M,e1,e2,e3⟩:=hM;rw[e1];exact JC (by omega) e2 (by omega)
theorem Rq{a:Array Keyed}{lo n:Nat}(h:Up r a lo n)(hn:lo+n<=a.size):(part a.toList lo n).Pairwise (jj r):=by refine List.pairwise_iff_getElem.mpr λi j hi hj hij=>?_;have hl:(part a.toList lo n).length=n:=wj (by rw[Qqq];exact hn);rw[qY hi (by rw[Qqq];omega),qY hj (by rw[Qqq];omega)];have:=h i j (by omega) (by omega);unfold kA at this;rw[Array.getElem?_eq_getElem (by omega),Array.getElem?_eq_getElem (by omega)] at this;exact this
theorem TJ{lo:Nat}{a b:Array Keyed}(h:Lo lo a b){b' n':Nat}(hn:b'+n'<=lo):part b.toList b' n'=part a.toList b' n':=by
 unfold part;refine List.ext_getElem? λi=>?_;rw[List.getElem?_take,List.getElem?_take];split
 ·rw[List.getElem?_drop,List.getElem?_drop,Qj7,Qj7];exact h _ (by omega)
 ·rfl
theorem YZ{c:Prop}[Decidable c]{a b n:Nat}(h1:a+1<n)(h2:b+1<n):(if c then a else b)+1<n:=by split<;>assumption
theorem Wn(C:JV prog w A E s kd r a₀){st:SortSt}{Q:Unit->SortSt->Prop}(hB:Bs kd a₀ st)(h2:2<=a₀.size)(hp0:pendingOf st = #[])(h:∀st',Bs kd a₀ st'->(arrOf st').toList.Pairwise (jj r)->Q () st'):wpS (model prog w) A E s sortRuns' Q st:=by
 rw[sortRuns'_eq];refine wpS_bind (wpS_get ?_);dsimp only;have hsz:=hB.size;rw[hsz];refine wpS_bind (wpS_mono (wpS_forRange (I:=λx (c:Option Unit×Nat) st1=>c.1=none/\x<=c.2/\c.2<=a₀.size/\Bs kd a₀ st1/\uX r (arrOf st1).toList (pendingOf st1).toList 0 c.2)
  (Q:=λc st1=>c.1=none/\Bs kd a₀ st1/\uX r (arrOf st1).toList (pendingOf st1).toList 0 a₀.size) ?_ ?_ ⟨rfl,Qq0 _,Qxk _,hB,by rw[hp0];rfl⟩) ?_)
 ·rintro x ⟨c,lo⟩ st1 _ hx ⟨e,x1,x2,hB1,hS⟩;cases e;dsimp only at x1 x2 hS ⊢;by_cases hl:lo ≥ a₀.size
  ·rw[if_pos hl];have:lo=a₀.size:=by omega
   subst this;exact wpS_pure ⟨rfl,hB1,hS⟩
  ·rw[if_neg hl];refine wpS_bind (aaG C (by omega) (by omega) hB1 λn st2 hB2 hp2 n1 n2 hu hL=>?_);dsimp only;have jp:∀(n:Nat) (st3:SortSt),Bs kd a₀ st3->pendingOf st3=pendingOf st1->1<=n->lo+n<=a₀.size->Up r (arrOf st3) lo n->Lo lo (arrOf st1) (arrOf st3)->
     uX r (arrOf st3).toList (pendingOf st3).toList 0 lo/\(part (arrOf st3).toList lo n).Pairwise (jj r):=λn st3 q1 q2 q3 q4 q5 q6=>by
    rw[q2];exact⟨qN hS λb' n' _ h2=>TJ q6 h2,Rq q5 (by rw[q1.size];exact q4)⟩
   have fin:∀(n:Nat) (st3:SortSt),Bs kd a₀ st3->1<=n->lo+n<=a₀.size->uX r (arrOf st3).toList (pendingOf st3).toList 0 lo->(part (arrOf st3).toList lo n).Pairwise (jj r)->
     wpS (model prog w) A E s (do
      modify λs=>setPending s ((pendingOf s).push (lo,n,0))
      pure (ForInStep.yield ((none,lo+n):Option Unit×Nat)):SM (ForInStep (Option Unit×Nat))) (λt yl=>match t with
       | .done c=>c.1=none/\Bs kd a₀ yl/\uX r (arrOf yl).toList (pendingOf yl).toList 0 a₀.size
       | .yield c=>c.1=none/\x+1<=c.2/\c.2<=a₀.size/\Bs kd a₀ yl/\uX r (arrOf yl).toList (pendingOf yl).toList 0 c.2) st3:=λn st3 q1 q2 q3 q4 q5=>by
    refine wpS_bind (wpS_modify (wpS_pure ⟨rfl,by dsimp only;omega,q3,⟨q1.perm,q1.fail,q1.kind⟩,?_⟩));show uX r (arrOf st3).toList ((pendingOf st3).push (lo,n,0)).toList 0 (lo+n);rw[Array.toList_push];exact qO.mpr ⟨lo,q4,rfl,q2,q5,rfl⟩
   by_cases hm:n<minRun' a₀.size a₀.size 0
   case' pos=>
    rw[if_pos hm];refine wpS_bind (wpS_lift (Qkj ⟨rfl,?_⟩));refine wpS_bind (aaH C (by omega) hB2 n1 (by omega) hu λst3 hB3 hp3 hu3 hL3=>?_);rw[if_neg (by decide)];have q1:=hB3;have q2:=hp3.trans hp2;have q3:1<=min (a₀.size - lo) (minRun' a₀.size a₀.size 0):=by omega
    have q4:lo+min (a₀.size - lo) (minRun' a₀.size a₀.size 0)<=a₀.size:=by omega
    have q5:=hu3;have q6:Lo lo (arrOf st1) (arrOf st3):=λm hm=>(hL3 m hm).trans (hL m hm);generalize min (a₀.size - lo) (minRun' a₀.size a₀.size 0)=n3 at q3 q4 q5 ⊢
   case' neg=>
    rw[if_neg hm];have q1:=hB2;have q2:=hp2;have q3:=n1;have q4:lo+n<=a₀.size:=by omega
    have q5:=hu;have q6:=hL;generalize n=n3 at q3 q4 q5 ⊢;generalize st2=st3 at q1 q2 q5 q6 ⊢
   all_goals
    obtain⟨k1,k2⟩:=jp n3 st3 q1 q2 q3 q4 q5 q6;refine wpS_bind (wpS_get ?_);rcases(pendingOf st3).back? with _|⟨s1,n1',_⟩
    ·exact fin n3 st3 q1 q3 q4 k1 k2
    ·dsimp only;refine wpS_bind (wpS_mono (wpS_forRange (I:=λy (c:Option Unit×Unit) yl=>c=(none,())/\Bs kd a₀ yl/\uX r (arrOf yl).toList (pendingOf yl).toList 0 lo/\(part (arrOf yl).toList lo n3).Pairwise (jj r))
      (Q:=λc yl=>c=(none,())/\Bs kd a₀ yl/\uX r (arrOf yl).toList (pendingOf yl).toList 0 lo/\(part (arrOf yl).toList lo n3).Pairwise (jj r)) ?_ (λc yl z=>z) ⟨rfl,q1,k1,k2⟩) ?_)
     ·rintro y c yl _ hy ⟨rfl,p1,p2,p3⟩;refine wpS_bind (wpS_get ?_)
      try dsimp only
      by_cases z:(pendingOf yl).size > 1
      ·rw[if_pos z,Array.getElem?_eq_getElem (by omega)];dsimp only;split
       ·exact wpS_pure ⟨rfl,p1,p2,p3⟩
       ·refine wpS_bind (aaw C p1 p2 (by omega) (by omega) λWQ r1 r2 _ r3=>?_);refine wpS_pure ⟨rfl,r1,r2,?_⟩;unfold part;rw[r3];exact p3
      ·rw[if_neg z];exact wpS_pure ⟨rfl,p1,p2,p3⟩
     ·rintro c yl ⟨rfl,p1,p2,p3⟩;dsimp only;refine wpS_bind (wpS_modify (fin n3 _ ⟨p1.perm,p1.fail,p1.kind⟩ q3 q4 ?_ p3));show uX r (arrOf yl).toList (Array.modify (pendingOf yl) _ _).toList 0 lo;rw[Array.toList_modify];refine Ih (λp=>?_) p2;exact⟨rfl,rfl⟩
 ·rintro⟨c,lo⟩ st1 ⟨e,x1,x2,hB1,hS⟩;dsimp only at e x1 x2 hS ⊢;have:lo=a₀.size:=by omega
  subst this;exact⟨e,hB1,hS⟩
 ·rintro⟨c,lo⟩ st1 ⟨e,hB1,hS⟩;cases e;dsimp only;refine wpS_bind (wpS_mono (wpS_forRange (I:=λy (c:Option Unit×Unit) st2=>c=(none,())/\Bs kd a₀ st2/\uX r (arrOf st2).toList (pendingOf st2).toList 0 a₀.size/\((pendingOf st2).size<=1\/(pendingOf st2).size+y<=a₀.size))
   (Q:=λc st2=>c=(none,())/\Bs kd a₀ st2/\uX r (arrOf st2).toList (pendingOf st2).toList 0 a₀.size/\(pendingOf st2).size<=1) ?_ ?_ ⟨rfl,hB1,hS,.inr (by have:=vf hS;rw[Qqq] at this;omega)⟩) ?_)
  ·rintro y c st2 _ hy ⟨rfl,p1,p2,p3⟩;refine wpS_bind (wpS_get ?_)
   try dsimp only
   by_cases z:(pendingOf st2).size<=1
   ·rw[if_pos z];exact wpS_pure ⟨rfl,p1,p2,z⟩
   ·rw[if_neg z];have go:∀i,i+1<(pendingOf st2).size->wpS (model prog w) A E s (do
      let v <-mergeAt' i
      if (!v)=true then pure (ForInStep.done ((some (),()):Option Unit×Unit)) else pure (ForInStep.yield (none,())):SM (ForInStep (Option Unit×Unit))) (λt st3=>match t with
       | .done c=>c=(none,())/\Bs kd a₀ st3/\uX r (arrOf st3).toList (pendingOf st3).toList 0 a₀.size/\(pendingOf st3).size<=1
       | .yield c=>c=(none,())/\Bs kd a₀ st3/\uX r (arrOf st3).toList (pendingOf st3).toList 0 a₀.size/\((pendingOf st3).size<=1\/(pendingOf st3).size+(y+1)<=a₀.size)) st2:=λi hi=>by
     refine wpS_bind (aaw C p1 p2 (Qq0 _) hi λst3 r1 r2 r3 _=>?_);exact wpS_pure ⟨rfl,r1,r2,by omega⟩
    refine wpS_mono (go _ ?_) λt st3 z=>by cases t<;>exact z
    exact YZ (by omega) (by omega)
  ·rintro c st2 ⟨rfl,p1,p2,p3⟩;refine⟨rfl,p1,p2,?_⟩;omega
  ·rintro c st2 ⟨rfl,p1,p2,p3⟩;refine wpS_pure (h st2 p1 ?_);have hl:(arrOf st2).toList.length=a₀.size:=by rw[Qqq];exact p1.size
   have l1:(pendingOf st2).toList.length<=1:=by rw[Qqq];exact p3
   match (pendingOf st2).toList,l1,p2 with
   | [],_,z=>have z:0=a₀.size:=z;omega
   | [p],_,z=>
    obtain⟨z1,z2,z3,z4⟩:=z;have z4:0+p.2.1=a₀.size:=z4;unfold part at z3;rw[List.drop_zero,Qj2 (by omega)] at z3;exact z3
end
end ST
namespace Ev
open PySem PySem.Spec PyProof.Rows PySem.Calls PySem.W L2
mutual
theorem Sh.kept{h h':Heap}(k:∀b o,h.get? b=some o->h'.get? b=some o):∀(d:D) (u:Value),Sh h d u->Sh h' d u
 | .non,_,e=>e
 | .bl _,_,e=>e
 | .int _,_,e=>e
 | .str _,_,e=>e
 | .tup xs,u,e=>by obtain⟨a,its,rfl,⟨o,e1,e2,e3⟩,h2⟩:=e;exact⟨a,its,rfl,⟨o,k _ _ e1,e2,e3⟩,lq.kept k xs its h2⟩
 | .lst xs,u,e=>by obtain⟨a,its,rfl,⟨o,n,e1,e2⟩,h2⟩:=e;exact⟨a,its,rfl,⟨o,n,k _ _ e1,e2⟩,lq.kept k xs its h2⟩
 | .arr xs,u,e=>by obtain⟨a,its,rfl,⟨o,n,e1,e2⟩,h2⟩:=e;exact⟨a,its,rfl,⟨o,n,k _ _ e1,e2⟩,lq.kept k xs its h2⟩
 | .dct _,u,e=>by obtain⟨a,o,rfl,e1,e2⟩:=e;exact⟨a,o,rfl,k _ _ e1,e2⟩
 | .iQ _,u,e=>by obtain⟨a,o,rfl,e1,e2⟩:=e;exact⟨a,o,rfl,k _ _ e1,e2⟩
 | .clo _ _,u,e=>e
theorem lq.kept{h h':Heap}(k:∀b o,h.get? b=some o->h'.get? b=some o):∀(ds:List D) (us:List Value),lq h ds us->lq h' ds us
 | [],_,e=>e
 | d::ds,us,e=>by obtain⟨u,r,rfl,e1,e2⟩:=e;exact⟨u,r,rfl,Sh.kept k d u e1,lq.kept k ds r e2⟩
end
section
variable{P:Program}{w:World}{A:Around}{E:Value->Shared->Prop}{s:Shared}{Q:Bool->Shared->Prop}
theorem RP{x y:D}{u v:Value}{b:Bool}{Q:Value->Shared->Prop}(hx:Sh s.heap x u)(hy:Sh s.heap y v)(h:ltB x y=some b)(q:Q (.bool b) s):wpAny (model P w) A (richCompare .Lt u v) Q E s:=by
 cases x<;>cases y<;>simp only[ltB,reduceCtorEq,Qw7] at h
 ·cases hx;cases hy;subst h;exact(lt_bool q:wpAny (model P w) A (compareOp .Lt _ _) Q E s)
 ·obtain⟨t,rfl⟩:=hx;obtain⟨t',rfl⟩:=hy;subst h;exact(lt_int q:wpAny (model P w) A (compareOp .Lt _ _) Q E s)
 ·obtain⟨t,rfl⟩:=hx;obtain⟨t',rfl⟩:=hy;subst h;exact(show wpAny (model P w) A (compareOp .Lt (.str (strOf _) t) (.str (strOf _) t')) Q E s from lt_str q)
section
open PySem.SeqAt
open PySem.AutoSeq1 (wpAny_loadPart')
open PySem.MeetsSeq PySem.MeetsSeq2 PySem.MeetsSeq3
theorem FW(l b:Addr)(items items2:Array Value)(n n2:Nat)(dd dd2:Option Addr)(sl sl2:Array (Option Value))(xs ys:List D)(r:Bool)(hr:Tw xs ys=some r) :
  Meets (Builtin.«tuple.__lt__» ⟨[.ref l,.ref b],[]⟩)
   (λA R s=>s.heap.get? l=some { cls:=.type "tuple",dict:=dd,data:=.seq items n,slots:=sl }/\s.heap.get? b=some { cls:=.type "tuple",dict:=dd2,data:=.seq items2 n2,slots:=sl2 }/\
    lq s.heap xs items.toList/\lq s.heap ys items2.toList/\A.units+41<cLine/\R (.ok (.ret (.bool r))) s):=
 .of_wp λprog w A R s h=>by
  obtain⟨hp,g,d,tk,os⟩:=s;obtain⟨hl,hb,hi,hj,hu,h⟩:=h;have f2:=AutoSeq1.sub_tuple_tuple;have z1:items.size=xs.length:=by rw[<-hi.length];simp
  have z2:items2.size=ys.length:=by rw[<-hj.length];simp
  wp_walk using wpAny_loadPart' hl,wpAny_loadPart' hb,wpAny_forIn_list _ (λrest b s'=>b.1=none/\s'=⟨hp,g,d,tk,os⟩/\∃(vs ws:List Value) (xs' ys':List D),rest=vs.zip ws/\
   lq hp xs' vs/\lq hp ys' ws/\xs'.length+items2.size=ys'.length+items.size/\Tw xs' ys'=some r) _
  case turn=>
   rintro⟨y,x⟩ rest b s' ⟨hb',rfl,vs,ws,xs',ys',hz,hvi,hwi,hlen,hR⟩;cases xs' with
   | nil=>cases hvi;rw[List.zip_nil_left] at hz;cases hz
   | cons a xs'=>
    obtain⟨u,vs,rfl,ha,ab2⟩:=hvi;cases ys' with
    | nil=>cases hwi;rw[List.zip_nil_right] at hz;cases hz
    | cons c ys'=>
     obtain⟨v,ws,rfl,hc,ab1⟩:=hwi;rw[List.zip_cons_cons] at hz;injection hz with hyx hrest
     injection hyx with hy hx
     subst hy hx;simp only[Qqv] at hlen;unfold Tw at hR;split at hR
     ·rename_i e;refine Qqx (o6 40 a c _ _ true A.in1 ⟨hp,g,d,tk,os⟩ ha hc e (by show A.units+1+40<cLine;omega) prog w _ _ ?_)
      wp_walk
      exact⟨rfl,rfl,_,_,_,_,hrest,ab2,ab1,by omega,hR⟩
     ·rename_i e;refine Qqx (o6 40 a c _ _ false A.in1 ⟨hp,g,d,tk,os⟩ ha hc e (by show A.units+1+40<cLine;omega) prog w _ _ ?_);have hri:=λ(Q:Value->Shared->Prop) E (q:Q (.bool r) ⟨hp,g,d,tk,os⟩)=>RP (P:=prog) (w:=w) (A:=A.in1) (E:=E) (s:=⟨hp,g,d,tk,os⟩) ha hc hR q
      wp_walk using hri
      exact⟨_,rfl,by simpa using h⟩
     ·cases hR
  case fin=>
   rintro⟨b1,b2⟩ s' ⟨hb',rfl,vs,ws,xs',ys',hz,hvi,hwi,hlen,hR⟩;simp only at hb';subst hb';have hv:r=decide (items.size<items2.size):=by
    cases xs' with
    | nil=>
     cases ys' with
     | nil=>
      simp only[Qzv] at hlen;cases hR;exact(Qq9 (by omega)).symm
     | cons c ys'=>
      simp only[Qzv,Qqv] at hlen;cases hR;exact(Qww (by omega)).symm
    | cons a xs'=>
     cases ys' with
     | nil=>
      simp only[Qzv,Qqv] at hlen;cases hR;exact(Qq9 (by omega)).symm
     | cons c ys'=>
      obtain⟨u,vs,rfl,ha,ab2⟩:=hvi;obtain⟨v,ws,rfl,hc,ab1⟩:=hwi;rw[List.zip_cons_cons] at hz;cases hz
   rw[hv] at h
   wp_walk
   exact⟨_,rfl,by simpa[Builtin.Tuple.tupleCompareSizes] using h⟩
  case h=>
   exact⟨rfl,rfl,items.toList,items2.toList,xs,ys,rfl,hi,hj,by omega,hr⟩
end
theorem Tv{xs ys:List D}{u v:Value}{r:Bool}{Q:Value->Shared->Prop}(hx:Sh s.heap (.tup xs) u)(hy:Sh s.heap (.tup ys) v)(hu:A.units+41<cLine)(hr:Tw xs ys=some r)(q:Q (.bool r) s):wpAny (model P w) A (compareOp .Lt u v) Q E s:=by
 obtain⟨a,its,rfl,⟨⟨cls,dd,data,sl⟩,ho,hc,n,hd⟩,h2⟩:=hx;obtain⟨a',its',rfl,⟨⟨cls2,dd2,data2,sl2⟩,ho2,hc2,n2,hd2⟩,h2'⟩:=hy;simp only at hc hd hc2 hd2;subst hc hd hc2 hd2;exact richCompare_meets_room (op:=.Lt) ⟨_,ho,rfl⟩ ⟨_,ho2,rfl⟩ PySem.F.slot_tuple_lt PySem.F.entry_tuple_lt (PySem.F.args_tuple_lt_2 _ _) (FW a a' its.toArray its'.toArray n n2 dd dd2 sl sl2 xs ys r hr)
  ⟨ho,ho2,by simpa using h2,by simpa using h2',hu,show Value.bool r≠Value.notImplemented/\Q (.bool r) s from⟨(λx=>nomatch x),q⟩⟩ (by omega)
theorem YG(hu:A.units+57<cLine){t:Bool}{x y:D}{u v:Value}{b c:Bool}(ht:t=true->c=false)(hx:Sh s.heap x u)(hy:Sh s.heap y v)(h:VL t x y=some b)(q:Q b s):wpAny (model P w) A (oneLt' c u v) Q E s:=by
 cases x<;>cases y<;>simp only[VL,reduceCtorEq,Qw7] at h
 ·obtain⟨t,rfl⟩:=hx;obtain⟨t',rfl⟩:=hy;subst h;cases c with
  | true=>exact oneLt_int q
  | false=>exact kat_one _ _ (lt_int q)
 ·obtain⟨t,rfl⟩:=hx;obtain⟨t',rfl⟩:=hy;subst h;cases c with
  | true=>exact oneLt_str q
  | false=>exact kat_one _ _ (lt_str q)
 ·split at h
  ·rename_i e;cases ht e;exact kat_one _ _ (Tv hx hy (by omega) h q)
  ·cases h
theorem PL(hu:A.units+57<cLine){t c:Bool}(ht:t=true->c=false):∀(xs ys:List D) (us vs:List Value) (i:Nat) (b fin:Bool),lq s.heap xs us->lq s.heap ys vs->VJ t xs ys=some b->fin=decide (us.length<vs.length)->Q b s->KatLex P w A c fin Q (us.zip vs) i s
 | [],[],us,vs,i,b,fin,hx,hy,h,hf,q=>by
  cases hx;cases hy;cases h;cases hf;exact q
 | [],y::ys,us,vs,i,b,fin,hx,hy,h,hf,q=>by
  obtain⟨v,r,rfl,_,_⟩:=hy;cases hx;cases h;subst hf;show Q (decide (0<r.length+1)) s;rw[Qww (by omega)];exact q
 | x::xs,[],us,vs,i,b,fin,hx,hy,h,hf,q=>by
  obtain⟨v,r,rfl,_,_⟩:=hx;cases hy;cases h;subst hf;show Q (decide (r.length+1<0)) s;rw[Qq9 (by omega)];exact q
 | x::xs,y::ys,us,vs,i,b,fin,hx,hy,h,hf,q=>by
  obtain⟨u,us,rfl,hx1,hx2⟩:=hx;obtain⟨v,vs,rfl,hy1,hy2⟩:=hy;rw[List.zip_cons_cons];unfold VJ at h;split at h
  ·rename_i e;refine kat_cons (o6 57 x y u v true A s hx1 hy1 e hu P w _ _ (kat_yes (PL hu ht xs ys us vs (i+1) b fin hx2 hy2 h ?_ q)));rw[hf,Qqv,Qqv];simp
  ·rename_i e;exact kat_cons (o6 57 x y u v false A s hx1 hy1 e hu P w _ _ (kat_no (YG hu (λz=>by rw[ht z];rfl) hx1 hy1 h q)))
  ·cases h
theorem YD(hu:A.units+57<cLine){t:Bool}{x y:D}{u v:Value}{b c:Bool}(ht:t=true->c=false)(hx:Sh s.heap x u)(hy:Sh s.heap y v)(h:Rf t x y=some b)(q:Q b s):wpAny (model P w) A (keyLt' (tuples' c) u v) Q E s:=by cases x<;>cases y<;>simp only[Rf,reduceCtorEq] at h;rename_i xs ys;obtain⟨a,its,rfl,⟨o,e1,_,n,e2⟩,h2⟩:=hx;obtain⟨a',its',rfl,⟨o',e1',_,n',e2'⟩,h2'⟩:=hy;exact kat_lt e1 e2 e1' e2' (PL hu ht xs ys its its' 0 b _ h2 h2' h (by simp) q)
theorem lq.getD{h:Heap}:∀{ds:List D} {us:List Value} {i:Nat},lq h ds us->i<ds.length->Sh h (ds.getD i .non) (us.getD i .none)
 | [],_,_,_,c=>absurd c (Qkk _)
 | d::ds,us,i,e,c=>by
  obtain⟨u,r,rfl,e1,e2⟩:=e;cases i with
  | zero=>exact e1
  | succ i=>simpa using lq.getD e2 (i:=i) (by simpa using c)
theorem xu{h:Heap}:∀{ds:List D} {us:List Value},lq h ds us->(∀d∈ds,Y5 d=true)->∃fs,KatTups h us fs/\fs.length=us.length/\∀v∈fs,∃i t,v = .int i t
 | [],_,e,_=>by cases e;exact⟨[],trivial,rfl,λv hv=>by cases hv⟩
 | d::ds,us,e,hd=>by
  obtain⟨u,r,rfl,e1,e2⟩:=e;obtain⟨fs,k1,k2,k3⟩:=xu e2 λx hx=>hd x (Qqj _ hx);have hd1:=hd d (Qqz ..);cases d with
  | tup xs=>cases xs with
   | nil=>cases hd1
   | cons x xs=>cases x with
    | int i=>
     obtain⟨a,its,rfl,⟨o,g1,g2,n,g3⟩,g4⟩:=e1;obtain⟨v,its',rfl,⟨t,rfl⟩,_⟩:=g4;refine⟨.int i t::fs,KatTups.cons g1 g2 g3 (by simp) k1,by simp[k2],λv hv=>?_⟩;rcases Qq8.mp hv with rfl|hv
     ·exact⟨i,t,rfl⟩
     ·exact k3 v hv
    | _=>cases hd1
  | _=>cases hd1
theorem xr{h:Heap}:∀{ds:List D} {us:List Value},lq h ds us->(∀d∈ds,Y4 d=true)->∃fs,KatTups h us fs/\fs.length=us.length/\∀v∈fs,∃i t,v = .str i t
 | [],_,e,_=>by cases e;exact⟨[],trivial,rfl,λv hv=>by cases hv⟩
 | d::ds,us,e,hd=>by
  obtain⟨u,r,rfl,e1,e2⟩:=e;obtain⟨fs,k1,k2,k3⟩:=xr e2 λx hx=>hd x (Qqj _ hx);have hd1:=hd d (Qqz ..);cases d with
  | tup xs=>cases xs with
   | nil=>cases hd1
   | cons x xs=>cases x with
    | str i=>
     obtain⟨a,its,rfl,⟨o,g1,g2,n,g3⟩,g4⟩:=e1;obtain⟨v,its',rfl,⟨t,rfl⟩,_⟩:=g4;refine⟨.str (strOf i) t::fs,KatTups.cons g1 g2 g3 (by simp) k1,by simp[k2],λv hv=>?_⟩;rcases Qq8.mp hv with rfl|hv
     ·exact⟨_,t,rfl⟩
     ·exact k3 v hv
    | _=>cases hd1
  | _=>cases hd1
theorem xq{h:Heap}:∀{ds:List D} {us:List Value},lq h ds us->(∀d∈ds,Y0 d=true)->∃fs,KatTups h us fs/\fs.length=us.length/\∀v∈fs,∃a o,v = .ref a/\h.get? a=some o/\o.cls = .type "tuple"
 | [],_,e,_=>by cases e;exact⟨[],trivial,rfl,λv hv=>by cases hv⟩
 | d::ds,us,e,hd=>by
  obtain⟨u,r,rfl,e1,e2⟩:=e;obtain⟨fs,k1,k2,k3⟩:=xq e2 λx hx=>hd x (Qqj _ hx);have hd1:=hd d (Qqz ..);cases d with
  | tup xs=>cases xs with
   | nil=>cases hd1
   | cons x xs=>cases x with
    | tup zs=>
     obtain⟨a,its,rfl,⟨o,g1,g2,n,g3⟩,g4⟩:=e1;obtain⟨v,its',rfl,⟨a',its2,rfl,⟨o',q1,q2,_⟩,_⟩,_⟩:=g4;refine⟨.ref a'::fs,KatTups.cons g1 g2 g3 (by simp) k1,by simp[k2],λv hv=>?_⟩;rcases Qq8.mp hv with rfl|hv
     ·exact⟨a',o',rfl,q1,q2⟩
     ·exact k3 v hv
    | _=>cases hd1
  | _=>cases hd1
theorem T5{ds:List D}{us:List Value}{Q:SortKind->Shared->Prop}(hs:lq s.heap ds us)(h2:2<=ds.length)(hk:(((∀d∈ds,Y5 d=true)\/∀d∈ds,Y4 d=true)/\∀x∈ds,∀y∈ds,Rf false x y≠none)\/(∀d∈ds,Y0 d=true)/\∀x∈ds,∀y∈ds,m5 x y≠none)
  (h:∀c t,(t=true->c=false)->(∀x∈ds,∀y∈ds,Rf t x y≠none)->Q (tuples' c) s) :
  wpAny (model P w) A (keyKind' us.toArray) Q E s:=by
 rcases hk with ⟨hk|hk,hn⟩|⟨hk,hn⟩
 ·obtain⟨fs,k1,k2,k3⟩:=xu hs hk;refine kat_kind (T:=.type "int") k1 (by rw[k2,hs.length];omega) (λv hv=>?_) (by decide) (h _ false (λz=>by cases z) hn);obtain⟨i,t,rfl⟩:=k3 v hv;exact Looks.of_pure rfl
 ·obtain⟨fs,k1,k2,k3⟩:=xr hs hk;refine kat_kind (T:=.type "str") k1 (by rw[k2,hs.length];omega) (λv hv=>?_) (by decide) (h _ false (λz=>by cases z) hn);obtain⟨i,t,rfl⟩:=k3 v hv;exact Looks.of_pure rfl
 ·obtain⟨fs,k1,k2,k3⟩:=xq hs hk;refine kat_kind (T:=.type "tuple") k1 (by rw[k2,hs.length];omega) (λv hv=>?_) (by decide) (h _ true (λ_=>by decide) hn);obtain⟨a,o,rfl,q1,q2⟩:=k3 v hv;exact λA Q E s' hk q=>wpAny_typeOf_ref (hk _ _ q1) (by rw[q2];exact q)
def Laid(ds:List D)(p:List Nat):Prop:=p.Perm (List.range ds.length)/\je ds=p.map λi=>ds.getD i .non
theorem TY{ds:List D}(o:jO (·∈ ds)){p:Array Nat}(B:KB ds.length p)(u:kUp (Nh ds) p ds.length):Laid ds p.toList:=by
 have hp:p.toList.Perm (List.range ds.length):=by simpa using Array.perm_iff_toList_perm.mp B.perm
 have hl:p.toList.length=ds.length:=by rw[hp.length_eq,List.length_range]
 refine⟨hp,(qT o (λy h=>h) ?_ ?_).symm⟩
 ·have:=hp.map λi=>ds.getD i D.non;refine this.trans (.of_eq ?_);refine List.ext_getElem (by simp) λi h1 h2=>?_;simp[Qq7,h2]
 ·refine List.pairwise_map.mpr (List.pairwise_iff_getElem.mpr λi j hi hj hij=>?_);have hi':i<ds.length:=by omega
  have hj':j<ds.length:=by omega
  have e1:p.getD i 0=p.toList[i]:=by simp[Array.getD,show i<p.size by rw[B.size];exact hi']
  have e2:p.getD j 0=p.toList[j]:=by simp[Array.getD,show j<p.size by rw[B.size];exact hj']
  have:=u i j (Qxv hij) hj';unfold kK at this;rw[e1,e2] at this;intro c;have c':=(Ng o (by have:=B.lt j;rw[e2] at this;exact this) (by have:=B.lt i;rw[e1] at this;exact this)).mp c;omega
theorem M3{ds:List D}(h:ds.length<2):je ds=ds:=by
 match ds,h with
 | [],_=>rfl
 | [_],_=>rfl
theorem Qa{ds:List D}(h:ds.length<2):Laid ds (List.range ds.length):=by refine⟨.refl _,?_⟩;rw[M3 h];refine List.ext_getElem (by simp) λi h1 h2=>?_;simp[Qq7,h1]
theorem K7{h:Heap}{a:Addr}{its its':List Value}(h1:IsTup h a its.toArray)(h2:IsTup h a its'.toArray):its=its':=by
 obtain⟨o,e1,_,n,d1⟩:=h1;obtain⟨o',e2,_,n',d2⟩:=h2;rw[e1] at e2;cases e2;rw[d1] at d2;cases d2
 rfl
mutual
theorem Sh.inj{h : Heap} : ∀ (n : Nat) (d e : D) (u : Value), Yc n d = true → Yc n e = true → Sh h d u → Sh h e u → d = e
  | 0, _, _, _, o, _, _, _ => by cases o
  | n + 1, d, e, u, o1, o2, h1, h2 => by
    cases d <;> cases e <;> first
      | (cases o1; done)
      | (cases o2; done)
      | rfl
      | (simp only [Sh] at h1 h2; subst h1; cases h2; done)
      | (simp only [Sh] at h1 h2; obtain ⟨_, rfl⟩ := h1; cases h2; done)
      | (simp only [Sh] at h1 h2; subst h1; obtain ⟨_, e⟩ := h2; cases e; done)
      | (simp only [Sh] at h1 h2; obtain ⟨_, rfl⟩ := h1; obtain ⟨_, e⟩ := h2; cases e; done)
      | (simp only [Sh] at h1 h2; obtain ⟨_, _, rfl, _⟩ := h1; cases h2; done)
      | (simp only [Sh] at h1 h2; subst h1; obtain ⟨_, _, e, _⟩ := h2; cases e; done)
      | (simp only [Sh] at h1 h2; obtain ⟨_, _, rfl, _⟩ := h1; obtain ⟨_, e⟩ := h2; cases e; done)
      | (simp only [Sh] at h1 h2; obtain ⟨_, rfl⟩ := h1; obtain ⟨_, _, e, _⟩ := h2; cases e; done)
      | (simp only [Sh] at h1 h2; subst h1; cases h2; rfl)
      | (simp only [Sh] at h1 h2; obtain ⟨_, rfl⟩ := h1; obtain ⟨_, e⟩ := h2; cases e; rfl)
      | (simp only [Sh] at h1 h2; obtain ⟨_, e1⟩ := h1; obtain ⟨_, e2⟩ := h2; rw [e1] at e2; injection e2 with e3; rw [mG e3])
      | (rename_i xs ys
         obtain ⟨a, its, e1, t1, s1⟩ := h1;obtain ⟨a', its', e2, t2, s2⟩ := h2;rw [e1] at e2;cases e2;rw [K7 t1 t2] at s1;rw [lq.inj n xs ys its' (λd hd => Qxw.mp o1 d hd) (λd hd => Qxw.mp o2 d hd) s1 s2])
theorem lq.inj{h:Heap}:∀(n:Nat) (ds es:List D) (us:List Value),(∀d∈ds,Yc n d=true)->(∀d∈es,Yc n d=true)->lq h ds us->lq h es us->ds=es
 | _,[],[],_,_,_,_,_=>rfl
 | _,[],_::_,_,_,_,h1,h2=>by cases h1;obtain⟨_,_,e,_⟩:=h2;cases e
 | _,_::_,[],_,_,_,h1,h2=>by cases h2;obtain⟨_,_,e,_⟩:=h1;cases e
 | n,d::ds,e::es,us,o1,o2,h1,h2=>by
  obtain⟨u,r,rfl,a1,a2⟩:=h1;obtain⟨u',r',e',b1,b2⟩:=h2;cases e';rw[Sh.inj n d e u (o1 d (Qqz ..)) (o2 e (Qqz ..)) a1 b1,lq.inj n ds es r (λx hx=>o1 x (Qqj _ hx)) (λx hx=>o2 x (Qqj _ hx)) a2 b2]
end
theorem Dk{α:Type}(f:Nat->α):∀(l:List α) (m:List Nat),l.Perm (m.map f)->∃p:List Nat,p.Perm m/\l=p.map f
 | [],m,h=>by
  have:m=[]:=List.map_eq_nil_iff.mp h.symm.eq_nil;exact⟨[],by rw[this],rfl⟩
 | x::l,m,h=>by
  obtain⟨a,ha,rfl⟩:=Qw5.mp (h.mem_iff.mp (Qqz ..));have hm:=List.perm_cons_erase ha;have h2:(f a::l).Perm (f a::(m.erase a).map f):=h.trans (hm.map f);obtain⟨p,h3,h4⟩:=Dk f l _ h2.cons_inv;exact⟨a::p,(h3.cons a).trans hm.symm,by rw[h4];rfl⟩
open Classical in
noncomputable def wV(vs:List Value)(x:Value):Nat:=if h:∃i,vs[i]? = some x then h.choose else 0
theorem Qg{vs:List Value}{x:Value}{i:Nat}(h:vs[i]? = some x):vs[wV vs x]? = some x:=by have:∃i,vs[i]? = some x:=⟨i,h⟩;unfold wV;rw[dif_pos this];exact this.choose_spec
theorem DR{a:Addr}{ds:List D}{vs:List Value}{n:Nat}{h₀:Heap}{R:PySem.Fin->Shared->Prop}(ho:s.heap.get? a=some (seqObj "list" vs.toArray n))(k₀:∀b o,h₀.get? b=some o->b<a/\s.heap.get? b=some o)
  (hs:lq h₀ ds vs) (ok:ph ds) (hu:A.units+57<cLine)
  (h:∀p:List Nat,Laid ds p->R (.done (.ret .none)) { s with heap:=sortedHeap s.heap a vs (p.map λi=>vs.getD i Value.none).toArray }) :
  wpAny (model P w) A (Builtin.«list.sort» ⟨[.ref a],[]⟩) R E s:=by
 have hlen:=hs.length;have h64:vs.length<=1000:=by rcases ok with q|⟨⟨q,_⟩,_⟩<;>omega
 rw[list_sort_plain];have ha:a<s.heap.objs.size:=Qwq ho;refine Qqx (listItems_at ho rfl ?_);refine Qqx (listUpdate_at ho rfl ?_ (by rw[Qq4,Qj1];omega) (Qxk _));obtain⟨e1,ho1⟩:∃e1,(s.heap.update a (Obj.mapSeq λ_=>(#[]:Array Value))).get? a=some (seqObj "list" #[] e1):=⟨_,get?_update_seq ho λ_=>#[]⟩;refine Qqx (seqEpoch_at ho1 rfl ?_);refine Qqx (wpAny_newTuple ?_ (by show vs.length<=_;rw[Qj1];omega));refine Qqx (wpAny_newList ?_ (Qxk _));refine Qjq ?_;have ho6:(((s.heap.update a (Obj.mapSeq λ_=>(#[]:Array Value))).push (seqObj "tuple" vs.toArray 0)).push (seqObj "list" #[] 0)).get? a=some (seqObj "list" #[] e1):=by rw[Heap.get?_push_ne _ _ _ (by rw[size_push',Heap.size_update];exact Qw9 (Nat.lt_succ_of_lt ha)),Heap.get?_push_ne _ _ _ (by rw[Heap.size_update];exact Qw9 ha)];exact ho1
 have kept:∀b o,h₀.get? b=some o->(((s.heap.update a (Obj.mapSeq λ_=>(#[]:Array Value))).push (seqObj "tuple" vs.toArray 0)).push (seqObj "list" #[] 0)).get? b=some o:=λb o e=>by
  obtain⟨q1,q2⟩:=k₀ b o e;refine Qqw _ (Qqw _ ?_);rw[Heap.get?_update_ne _ _ _ _ (Qw9 q1)];exact q2
 have hs':=hs.kept kept;show wpAny (model P w) A _ R E { s with heap:=((s.heap.update a (Obj.mapSeq λ_=>(#[]:Array Value))).push (seqObj "tuple" vs.toArray 0)).push (seqObj "list" #[] 0) };dsimp only;have fin:∀(st':SortSt) (p:List Nat),(arrOf st').map (·.2)=(p.map λi=>vs.getD i Value.none).toArray->failedOf st'=none->Laid ds p->
   wpAny (model P w) A (do
    let touched:=(<-seqEpoch a) != e1
    Builtin.List.listUpdate (.ref a) λ_=>(arrOf st').map (·.2)
    if let some e:=failedOf st' then rule "list.sort.comparison-raised";throw e
    if touched then rule "list.sort.modified";raiseError "ValueError" "list modified during sort"
    ret .none) R E { s with heap:=((s.heap.update a (Obj.mapSeq λ_=>(#[]:Array Value))).push (seqObj "tuple" vs.toArray 0)).push (seqObj "list" #[] 0) }:=by
  intro st' p he hf lp;have lp1:=lp.1.length_eq;rw[List.length_range] at lp1;refine Qqx (seqEpoch_at ho6 rfl ?_);rw[he];refine Qqx (listUpdate_at ho6 rfl ?_ (Qxk _) (by rw[Qq4,Qqy,lp1,Qj1];omega));rw[hf];simp only[bne_self_eq_false,Bool.false_eq_true,if_false];exact Qq6 (h p lp)
 by_cases h2:vs.toArray.size<2
 ·rw[if_pos h2,if_pos h2];refine Qqx (Qq6 ?_);rw[StateT.run_pure];refine Qqx (Qq6 ?_);have h2':ds.length<2:=by rw[Qq4] at h2;omega
  refine fin (SortSt.mk' general' (vs.toArray.zip vs.toArray) #[] 7 none) _ ?_ rfl (Qa h2');show(vs.toArray.zip vs.toArray).map (·.2)=_;rw[<-hlen];apply Array.toList_inj.mp;rw[Array.toList_map,Array.toList_zip];refine List.ext_getElem (by simp) λi q1 q2=>?_;have q3:i<vs.length:=by simpa using q2
  simp[Qq7,q3]
 ·rw[if_neg h2,if_neg h2];have h2':2<=vs.length:=by rw[Qq4] at h2;omega
  rcases ok with q|⟨⟨_,okd⟩,hk,o1,o3,o4⟩
  ·omega
  have o:=jO.of o1 o3 o4;refine Qqx (T5 hs' (by omega) hk λc t ht o2=>?_);generalize hS:({ s with heap:=((s.heap.update a (Obj.mapSeq λ_=>(#[]:Array Value))).push (seqObj "tuple" vs.toArray 0)).push (seqObj "list" #[] 0) }:Shared)=s1 at *;have hs1:s1.heap=((s.heap.update a (Obj.mapSeq λ_=>(#[]:Array Value))).push (seqObj "tuple" vs.toArray 0)).push (seqObj "list" #[] 0):=by rw[<-hS]
  rw[<-hs1] at hs';have szz:(vs.toArray.zip vs.toArray).size=vs.length:=by simp
  have at0:∀x∈vs.toArray.zip vs.toArray,vs[wV vs x.1]? = some x.1:=λx hx=>by
   obtain⟨i,hi,rfl⟩:=Array.mem_iff_getElem.mp hx;refine Qg (i:=i) ?_;rw[szz] at hi;simp[hi]
  have atd:∀i,(h:i<vs.length)->vs[i]? = some (vs.getD i Value.none):=λi h=>by simp[Qq7,h]
  have C:ST.JV P w A E s1 (tuples' c) (λx=>Nh ds (wV vs x.1)) (vs.toArray.zip vs.toArray):=λx y hx hy st Q hk q=>by
   have e1:=at0 x hx;have e2:=at0 y hy;have i1:wV vs x.1<ds.length:=by rw[<-hlen];exact(Qq5.mp e1).1
   have i2:wV vs y.1<ds.length:=by rw[<-hlen];exact(Qq5.mp e2).1
   have W4:=hs'.getD i1;have s2':=hs'.getD i2;have g1:vs.getD (wV vs x.1) Value.none=x.1:=by rw[Qq7,e1];rfl
   have g2:vs.getD (wV vs y.1) Value.none=y.1:=by rw[Qq7,e2];rfl
   rw[g1] at W4;rw[g2] at s2';have mi:ds.getD (wV vs x.1) .non∈ds:=by rw[Qq7,Qq2 i1];exact Qx3 ..
   have mj:ds.getD (wV vs y.1) .non∈ds:=by rw[Qq7,Qq2 i2];exact Qx3 ..
   have e:Rf t (ds.getD (wV vs x.1) .non) (ds.getD (wV vs y.1) .non)=some (decide (Nh ds (wV vs x.1)<Nh ds (wV vs y.1))):=by
    cases c:Rf t (ds.getD (wV vs x.1) .non) (ds.getD (wV vs y.1) .non) with
    | none=>exact absurd c (o2 _ mi _ mj)
    | some b=>
     have r:=Ng o i1 i2;have c2:m5 (ds.getD (wV vs x.1) .non) (ds.getD (wV vs y.1) .non)=some b:=by
      cases t with
      | true=>exact c
      | false=>exact YC c
     rw[c2] at r;cases b with
     | true=>rw[Qww (r.mp rfl)]
     | false=>rw[Qq9 (λz=>by cases r.mpr z)]
   rw[lt'_eq];refine wpS_bind (wpS_get ?_);rw[hk];exact wpS_bind (wpS_lift (wpAny_attempt (YD hu ht W4 s2' e ⟨rfl,wpS_pure q⟩)))
  refine Qqx (Qz7 (ST.Wn C (st:=SortSt.mk' (tuples' c) (vs.toArray.zip vs.toArray) #[] 7 none) (Q:=λ_ st'=>ST.Bs (tuples' c) (vs.toArray.zip vs.toArray) st'/\(arrOf st').toList.Pairwise (ST.jj λx=>Nh ds (wV vs x.1)))
   ⟨Array.Perm.refl _,rfl,rfl⟩ (by rw[szz];exact h2') rfl λst' b1 b2=>⟨b1,b2⟩) ?_ λ_ _ e=>e)
  rintro⟨⟨⟩,st'⟩ s' ⟨rfl,hb,hp⟩;have zl:(vs.toArray.zip vs.toArray).toList=(List.range vs.length).map λi=>(vs.getD i Value.none,vs.getD i Value.none):=by
   refine List.ext_getElem (by simp) λi q1 q2=>?_;have q3:i<vs.length:=by simpa using q1
   simp[Qq7,q3]
  have pm:=Array.perm_iff_toList_perm.mp hb.perm;rw[zl] at pm;obtain⟨p,p1,p2⟩:=Dk _ _ _ pm;have self:∀i,i<vs.length->wV vs (vs.getD i Value.none)=i:=λi hi=>by
   have e1:=Qg (atd i hi);generalize wV vs (vs.getD i Value.none)=j at e1 ⊢;have hj:j<vs.length:=(Qq5.mp e1).1;have d1:=hs'.getD (i:=i) (by omega);have d2:=hs'.getD (i:=j) (by omega);have g1:vs.getD j Value.none=vs.getD i Value.none:=by rw[Qq7 (l:=vs) (i:=j),e1];rfl
   rw[g1] at d2;have mi:ds.getD i .non∈ds:=by rw[Qq7,Qq2 (by omega)];exact Qx3 ..
   have mj:ds.getD j .non∈ds:=by rw[Qq7,Qq2 (by omega)];exact Qx3 ..
   have e:=Sh.inj 60 _ _ _ (okd _ mi) (okd _ mj) d1 d2;have pr:=List.pairwise_iff_getElem.mp o4;have gi:ds.getD i .non=ds[i]'(by omega):=by rw[Qq7,Qq2 (by omega)];rfl
   have gj:ds.getD j .non=ds[j]'(by omega):=by rw[Qq7,Qq2 (by omega)];rfl
   rw[gi,gj] at e;rcases Nat.lt_trichotomy i j with z|z|z
   ·have q:=pr i j (by omega) (by omega) z;rw[e,o1 _ (Qx3 ..)] at q;rcases q with q|q<;>cases q
   ·exact z.symm
   ·have q:=pr j i (by omega) (by omega) z;rw[e,o1 _ (Qx3 ..)] at q;rcases q with q|q<;>cases q
  have pin:∀i∈p,i<vs.length:=λi hi=>by have:=p1.mem_iff.mp hi;simpa using this
  refine fin st' p ?_ hb.fail ?_
  ·apply Array.toList_inj.mp;rw[Array.toList_map,p2,Qj5]
   rfl
  ·have B:KB ds.length p.toArray:=⟨by omega,by rw[<-hlen];exact Array.perm_iff_toList_perm.mpr (by simpa using p1)⟩;refine TY o B λi j hij hj=>?_;have hpl:p.length=ds.length:=by rw[p1.length_eq,List.length_range,hlen]
   rw[p2] at hp;have pr:=List.pairwise_iff_getElem.mp (List.pairwise_map.mp hp);unfold kK;have gi:p.toArray.getD i 0=p[i]'(by omega):=by simp[Array.getD,show i<p.length by omega]
   have gj:p.toArray.getD j 0=p[j]'(by omega):=by simp[Array.getD,show j<p.length by omega]
   rw[gi,gj];by_cases z:i=j
   ·subst z;exact Qq0 _
   ·have q:=pr i j (by omega) (by omega) (by omega);have q:Nh ds (wV vs (vs.getD (p[i]'(by omega)) Value.none))<=Nh ds (wV vs (vs.getD (p[j]'(by omega)) Value.none)):=q;rw[self _ (pin _ (Qx3 ..)),self _ (pin _ (Qx3 ..))] at q;exact q
end
theorem bH.getD{K:Fg}{F:Hp}:∀{ds:List D} {vs:List V} {i:Nat},bH K F ds vs->i<ds.length->Rep K F (ds.getD i .non) (vs.getD i .non)
 | [],_,_,_,c=>absurd c (Qkk _)
 | d::ds,us,i,e,c=>by
  obtain⟨u,r,rfl,e1,e2⟩:=e;cases i with
  | zero=>exact e1
  | succ i=>simpa using bH.getD e2 (i:=i) (by simpa using c)
theorem yN:∀{vs:List V} {us:List Value} {i:Nat},Vals vs us->i<vs.length->RelV (vs.getD i .non) (us.getD i .none)
 | _,_,_,.nil,c=>absurd c (Qkk _)
 | _,_,0,.cons h _,_=>h
 | _,_,i+1,.cons _ h,c=>by simpa using yN h (i:=i) (by simpa using c)
theorem yU{K:Fg}{F:Hp}{ds:List D}{vs:List V}(h:bH K F ds vs):∀(p:List Nat),(∀i∈p,i<ds.length)->bH K F (p.map λi=>ds.getD i .non) (p.map λi=>vs.getD i .non)
 | [],_=>rfl
 | i::p,hp=>⟨_,_,rfl,h.getD (hp i (Qqz ..)),yU h p λj hj=>hp j (Qqj _ hj)⟩
theorem yL{vs:List V}{us:List Value}(h:Vals vs us):∀(p:List Nat),(∀i∈p,i<vs.length)->Vals (p.map λi=>vs.getD i .non) (p.map λi=>us.getD i .none)
 | [],_=>.nil
 | i::p,hp=>.cons (yN h (hp i (Qqz ..))) (yL h p λj hj=>hp j (Qqj _ hj))
section
variable{X:Cx}{C:Cfg}{p pos:Pos}{e:Expr}{ea:dG}
def GC(K:Fg):List V->Hp->VK->Prop:=λxs H Q=>∃F p vs ds,aP F H/\xs=[.ref p]/\(mV K H p vs\/j8 K H p vs)/\bH K F ds vs/\ph ds/\∀l vs',H l=none->bH K F (je ds) vs'->Q (.ref l) (upd H l (.lst vs'))
theorem Hs(hu:X.A.units+60<cLine):jt X (.builtin "sorted") (GC X.K):=by
 intro pins s σ H xs us Q I r h;obtain⟨F,p,vs,ds,hF,rfl,hq,hr,ok,q⟩:=h;obtain⟨u,rfl,rx⟩:=vals1 r;cases rx;obtain⟨its,rv,T,o,n,hT,ho,hc,hd⟩:∃(its:List Value),Vals vs its/\∃(T:String) (o:Obj) (n:Nat),(T = "list"\/T = "tuple")/\s.heap.get? p=some o/\o.cls = .type T/\o.data = .seq its.toArray n:=by
  rcases hq with hq|hq
  ·obtain⟨its,rv,⟨o,n,e1,e2,_,e3⟩,_⟩:=I.list hq;exact⟨its,rv,"list",o,n,.inl rfl,e1,e2,e3⟩
  ·obtain⟨its,rv,⟨o,e1,e2,n,e3⟩,_⟩:=I.tuple hq;exact⟨its,rv,"tuple",o,n,.inr rfl,e1,e2,e3⟩
 have hs:lq s.heap ds its:=bH.sh I ds vs its (bH.mono hF _ _ hr) rv;have hlen:=hs.length;have h64:its.length<=1000:=by rcases ok with z|⟨⟨z,_⟩,_⟩<;>omega
 have hvl:vs.length=its.length:=rv.length;refine Calls.call_function_entry kind_sorted plain_sorted entry_sorted (args_sorted1 _) ?_;unfold Builtin.«sorted»;refine Qqx (m:=checkCount "sorted" 1 1 _) (Qq6 ?_);refine Qqx (wpAny_collect_seq p hT ho hc hd (λh' hk=>?_) (by rw[Qq4,Qj1];omega));refine Qqx (wpAny_newList ?_ (by rw[Qj1];simp;omega));have hoL:(h'.push (seqObj "list" its.toArray 0)).get? h'.objs.size=some (seqObj "list" its.toArray 0):=Qw1 _ rfl;show wpAny _ _ _ _ _ { s with heap:=h'.push (seqObj "list" its.toArray 0) };refine Qqx (Qjq (Qz8 slot_list_sort ⟨_,hoL,rfl⟩ entry_list_sort (DR hoL (h₀:=h') (λb o e=>⟨Qwq e,Qqw _ e⟩) (hs.kept hk) ok (by show X.A.units+1+1+57<cLine;omega) λpp lp=>⟨_,rfl,?_⟩) (args_list_sort _)));obtain⟨e,he⟩:=sortedHeap_at (out:=(pp.map λi=>its.getD i Value.none).toArray) hoL;refine Qq6 ⟨_,rfl,?_⟩;have I1:L2.Inv X pins σ H { s with heap:=h' }:=I.kept hk;have hin:∀i∈pp,i<ds.length:=λi hi=>by have:=lp.1.mem_iff.mp hi;simpa using this
 have hpl:pp.length=ds.length:=by rw[lp.1.length_eq,List.length_range]
 have rv2:=yL rv pp λi hi=>by rw[hvl,hlen];exact hin i hi
 have rr2:=yU hr pp hin;rw[<-lp.2] at rr2;refine⟨.ref h'.objs.size,_,I1.laid (t':=s.toks) (λb o e=>?_) (Qq0 _) (o:=.lst (pp.map λi=>vs.getD i .non)) (show fY X.prog X.w _ _ h'.objs.size _ from⟨?_,_,e,rv2,by simpa[seqObj] using he⟩),rfl,q _ _ (I1.hok.fresh (Qq0 _)) rr2⟩
 ·have lt':=Qwq e;rw[sortedHeap_old (Qw9 lt') (by rw[size_push'];exact Nat.lt_succ_of_lt lt')];exact Qqw _ e
 ·rw[Qqy,hpl];exact Qq3 (by omega:ds.length<=1000) (by decide)
def wX:List D->Option D
 | [.lst ds]=>if ph ds then some (.lst (je ds)) else none
 | [.tup ds]=>if ph ds then some (.lst (je ds)) else none
 | _=>none
theorem QK:CallD C (GC C.K) wX:=by
 intro Pr F env σ H ds d vs Q r p e q;have fin:∀(zs:List D) (l:Addr) (vs':List V),ph zs->bH C.K F (je zs) vs'->d = .lst (je zs)->H l=none->Q (.ref l) (upd H l (.lst vs')):=λzs l vs' hz hv hd hl=>by
  subst hd;have hlen:(je zs).length<=1000:=by rw[(iJ zs).length_eq];rcases hz with z|⟨⟨z,_⟩,_⟩<;>omega
  obtain⟨F2,r2,s2,p2⟩:=(r.fresh (o:=.lst vs') hl).keep (Mg.of r hl (show jx C.K F (upd H l (.lst vs')) (.lst (je zs)) l from⟨Qq3 hlen (by decide),vs',aQ,hv⟩));exact q _ _ F2 r2 s2 p2
 unfold wX at e;split at e
 ·obtain⟨v,w,rfl,p1,p2⟩:=p;cases p2;split at e
  ·rename_i hz;cases e;obtain⟨z,a,ws,rfl,h1,h2⟩:=p1.lst r.fr;exact⟨F,a,ws,_,r.fr,rfl,.inl (mV.of h1),h2,hz,λl vs' hl hv=>fin _ l vs' hz hv rfl hl⟩
  ·cases e
 ·obtain⟨v,w,rfl,p1,p2⟩:=p;cases p2;split at e
  ·rename_i hz;cases e;obtain⟨z,a,ws,rfl,h1,_,h2⟩:=p1.tup r.fr;exact⟨F,a,ws,_,r.fr,rfl,.inr h1,h2,hz,λl vs' hl hv=>fin _ l vs' hz hv rfl hl⟩
  ·cases e
 ·cases e
end
variable{X:Cx}{C:Cfg}{p pos:Pos}{e:Expr}{ea:dG}
theorem Ml(G:Good X C)(hm:X.mg "sorted" = none)(ha:uY X C [e] ea)(hg:Gl X "sorted":=by rfl)(he:Ma e X.env:=by rfl):SX X C (.Call (.Name "sorted" p) [e] [] pos) (ao wX ea):=⟨mH (X:=X) (r:=GC C.K) (by rw[<-G.K];exact Hs G.u60) QK hg hm PyProof.Rows.boot_sorted ha.u (by decide) (by decide) he rfl⟩
open PySem PySem.Spec PySem.W PySem.Calls PyProof.Rows L2
def FA(K:Fg)(x:Str)(st:Stmt):Prop:=∃(f:Addr) (oc kV doc pm cdv ct:Value) (od an:Option Addr) (osl:Array (Option Value)),PySem.W.nsIn K mainGlobals x=some (some (.ref f))/\
 K.lookup f=some ⟨oc,od,.func (PySem.W.fnOf x x (jm st) (eZ st) (aO st) .none kV doc pm an cdv ct),osl⟩/\PySem.W.codeIn K cdv x=true/\PySem.W.keepIn K (.ref f)=true
theorem FA.mk{K:Fg}{x:Str}{st:Stmt}{f:Addr}{oc kV doc pm cdv ct:Value}{od an:Option Addr}{osl:Array (Option Value)}(a:PySem.W.nsIn K mainGlobals x=some (some (.ref f)))
  (l:K.lookup f=some ⟨oc,od,.func (PySem.W.fnOf x x (jm st) (eZ st) (aO st) .none kV doc pm an cdv ct),osl⟩) (c:PySem.W.codeIn K cdv x=true) (k:PySem.W.keepIn K (.ref f)=true):FA K x st:=
 ⟨f,oc,kV,doc,pm,cdv,ct,od,an,osl,a,l,c,k⟩
theorem FA.at{K:Fg}{h:Heap}{mg:Str->Option Value}{x:Str}{st:Stmt}{ps:List Str}(X:K.In h)(G:h.Ns mainGlobals mg)(F:FA K x st)
  (b:∀{kV doc pm:Value} {an:Option Addr} {cdv ct:Value} (us:List Value),us.length=ps.length->bindArgs (PySem.W.fnOf x x (jm st) (eZ st) (aO st) .none kV doc pm an cdv ct) ⟨us,[]⟩=pure (ps.zip us)):dD K mg x st ps:=by
 obtain⟨f,oc,kV,doc,pm,cdv,ct,od,an,osl,a,l,c,k⟩:=F;exact funAt X G a l c k (λ_ _ _ _ _ _ us hl=>b us hl)
theorem FA.law{P:Program}{w:World}{K:Fg}{h:Heap}{mg:Str->Option Value}{fa:Addr}{x y:Str}{st:Stmt}{k:Nat}{g:List D->Option D}(X:K.In h)(G:h.Ns mainGlobals mg)(hfa:mg x=some (.ref fa))(F:FA K x st)
  (b:∀{kV doc pm:Value} {an:Option Addr} {cdv ct:Value} (s:Shared) (v:Value),BindsTo s (PySem.W.fnOf x x (jm st) (eZ st) (aO st) .none kV doc pm an cdv ct) ⟨[v],[]⟩ [(y,v)])
  (q:∀{fd:FuncData} (base:Heap),Q9 K x x st fa fd->mz P w K mg base zO k fa fd [y] (oE K 1 g)) :
  ∃fd:FuncData,(∀(s:Shared) (v:Value),BindsTo s fd ⟨[v],[]⟩ [(y,v)])/\∀base:Heap,K.In base->base.Ns mainGlobals mg->mz P w K mg base zO k fa fd [y] (oE K 1 g):=by
 obtain⟨f,oc,kV,doc,pm,cdv,ct,od,an,osl,a,l,c,k⟩:=F;have e:=hfa.symm.trans (PySem.W.mg_of X G a);cases e;exact⟨_,b,λbase _ _=>q base (Hk (st:=st) l c k)⟩
open PySem PySem.Spec PyProof.Rows L2
mutual
theorem Sh.isN{h:Heap}:∀(d:D) (u:Value) (k:NK),Sh h d u->sr d=some k->ym h k u
 | .int i,u,k,e,g=>by rw[sr] at g;cases g;obtain⟨t,rfl⟩:=e;rw[ym];exact .inl ⟨t,rfl⟩
 | .bl b,u,k,e,g=>by rw[sr] at g;cases g;cases e;rw[ym];exact .inr ⟨b,rfl,rfl⟩
 | .str x,u,k,e,g=>by rw[sr] at g;cases g;rw[ym];exact e
 | .tup xs,u,k,e,g=>by
  rw[sr] at g;obtain⟨ks,g1,rfl⟩:=Qwj.mp g;obtain⟨a,its,rfl,⟨o,e1,e2,n,e3⟩,e4⟩:=e;rw[ym];exact⟨a,o,its.toArray,n,rfl,e1,e2,e3,by simpa using lq.isN xs its ks e4 g1⟩
 | .non,u,k,e,g=>by simp[sr] at g
 | .lst _,u,k,e,g=>by simp[sr] at g
 | .arr _,u,k,e,g=>by simp[sr] at g
 | .dct _,u,k,e,g=>by simp[sr] at g
 | .iQ _,u,k,e,g=>by simp[sr] at g
theorem lq.isN{h:Heap}:∀(ds:List D) (us:List Value) (ks:List NK),lq h ds us->Dy ds=some ks->my h ks us
 | [],us,ks,e,g=>by rw[Dy] at g;cases g;cases e;rw[my]
 | d::ds,us,ks,e,g=>by
  obtain⟨u,r,rfl,e1,e2⟩:=e;rw[Dy] at g;split at g
  ·rename_i k ks' g1 g2;cases g;rw[my];exact⟨u,r,rfl,Sh.isN d u k e1 g1,lq.isN ds r ks' e2 g2⟩
  ·cases g
end
structure mW(K:Fg)(H:Hp)(y:V)(kd:D)(q:NK):Prop where
 rep:Rep K H kd y
 nk:sr kd=some q
 dep:q.dep<=8
 tup:∃xs,kd = .tup xs
abbrev KN:List (NK×V×V)->List (NK×Addr×Value)->Prop:=Paired λp q=>p.1=q.1/\p.2.1 = .ref q.2.1/\RelV p.2.2 q.2.2
noncomputable def valN(ks:List (NK×V×V))(q:NK):Option V:=(ks.find? λp=>decide (p.1=q)).map (·.2.2)
noncomputable def putN(ks:List (NK×V×V))(q:NK)(u v:V):List (NK×V×V):=if (valN ks q).isSome then ks.map (λp=>if p.1=q then (p.1,p.2.1,v) else p) else ks++[(q,u,v)]
theorem KN.val{ks:List (NK×V×V)}{xs:List (NK×Addr×Value)}(r:KN ks xs)(q:NK):rW (valN ks q) ((atKey xs q).map (·.2)):=by
 unfold valN atKey
 induction r with
 | nil=>exact True.intro
 | @cons p x ps xs h t ih=>
  rw[Qzw,Qzw];by_cases c:p.1=q
  ·have c2:x.1=q:=h.1 ▸ c;rw[Qww c,Qww c2];exact h.2.2
  ·have c2:¬x.1=q:=h.1 ▸ c;rw[Qq9 c,Qq9 c2];exact ih
theorem KN.len{ks:List (NK×V×V)}{xs:List (NK×Addr×Value)}(r:KN ks xs):ks.length=xs.length:=by
 induction r with
 | nil=>rfl
 | cons _ _ ih=>simp[ih]
theorem KN.put{ks:List (NK×V×V)}{xs:List (NK×Addr×Value)}(r:KN ks xs)(q:NK){b:Addr}{v:V}{u:Value}(rv:RelV v u):KN (putN ks q (.ref b) v) (storedH xs q b u):=by
 have hs:=(r.val q).mO;rw[Option.isSome_map] at hs;unfold putN storedH;rw[<-hs];split
 ·clear hs
  induction r with
  | nil=>exact .nil
  | @cons p x ps xs h t ih=>
   rw[Qwx,Qwx];refine .cons ?_ ?_
   ·unfold putAt;by_cases c:p.1=q
    ·have c2:x.1=q:=h.1 ▸ c;rw[if_pos c,if_pos c2];exact⟨h.1,h.2.1,rv⟩
    ·have c2:¬x.1=q:=h.1 ▸ c;rw[if_neg c,if_neg c2];exact h
   ·rename_i hsome;clear hsome;clear ih
    induction t with
    | nil=>exact .nil
    | @cons p x ps xs h t ih=>
     rw[Qwx,Qwx];refine .cons ?_ ih;unfold putAt;by_cases c:p.1=q
     ·have c2:x.1=q:=h.1 ▸ c;rw[if_pos c,if_pos c2];exact⟨h.1,h.2.1,rv⟩
     ·have c2:¬x.1=q:=h.1 ▸ c;rw[if_neg c,if_neg c2];exact h
 ·exact Paired.snoc r ⟨rfl,rfl,rv⟩
section
variable{X:Cx}{pins:List (Addr×Obj)}{σ:L2.St}{H:Hp}{s:Shared}{a:Addr}{ks:List (NK×V×V)}{kvs:List (D×D)}{y v:V}{kd:D}{q:NK}{u:Value}{A:Around}{E:Value->Shared->Prop}
theorem Jh(I:Inv X pins σ H s):∀{kvs:List (D×D)} {ks:List (NK×V×V)} {xs:List (NK×Addr×Value)},cW X.K H kvs ks->KN ks xs->∀x∈xs,(oW X.prog X.w).is s.heap x.1 x.2.1
 | [],_,_,hr,r,x,hx=>by
  cases hr;cases r;cases hx
 | (k,d)::kvs,_,_,hr,r,x,hx=>by
  obtain⟨q,u,v,rest,rfl,h1,h2,h3,h4,h5⟩:=hr;cases r with
  | @cons _ x0 _ xs' h t=>
   rcases Qq8.mp hx with rfl|hx
   ·obtain⟨g1,g2,g3⟩:=h;simp only at g1 g2 g3;subst g1;subst g2;exact⟨Sh.isN k _ _ (Rep.sh I k _ (.ref x.2.1) h3 rfl) h1,h2⟩
   ·exact Jh I h5 t x hx
theorem Et(I:Inv X pins σ H s)(e:Rd H a (.dN ks))(hr:cW X.K H kvs ks):ks.length<=sizeLine/\(a == sysModules)=false/\∃xs,KN ks xs/\s.heap.DictOfH (oW X.prog X.w) a xs:=by obtain⟨z,y,xs,r,o,es,ep,h1,h2,h3,h4,h5⟩:=(show fY X.prog X.w H s.heap a (.dN ks) from e.ok I.hok);exact⟨z,y,xs,r,o,es,ep,h1,h2,h3,h4,Jh I hr r,h5⟩
theorem mW.is(k:mW X.K H y kd q)(I:Inv X pins σ H s)(ry:RelV y u):∃b,y = .ref b/\u = .ref b/\(oW X.prog X.w).is s.heap q b:=by obtain⟨h1,h2,h3,xs,rfl⟩:=k;have h4:=Sh.isN _ _ _ (Rep.sh I _ y u h1 ry) h2;obtain⟨_,b,vs,rfl,_⟩:=h1;cases ry;exact⟨b,rfl,rfl,h4,h3⟩
theorem vV(hu:A.units+12<cLine):(oW X.prog X.w).room A.in1:=by show A.units+1+10<cLine;omega
theorem ZG{Q:Value->Shared->Prop}(hu:A.units+12<cLine)(I:Inv X pins σ H s)(e:Rd H a (.dN ks))(hr:cW X.K H kvs ks)(k:mW X.K H y kd q)(hv:valN ks q=some v)(ry:RelV y u)
  (h:∀w' s',Inv X pins σ H s'->RelV v w'->Q w' s'):wpAny (model X.prog X.w) A (getItem (.ref a) u) Q E s:=by
 obtain⟨b,rfl,rfl,hk⟩:=k.is I ry;obtain⟨z,hd,xs,rel,dd⟩:=Et I e hr;obtain⟨w',hw,Gx⟩:=rW.some_of (v:=v) (o:=(atKey xs q).map (·.2)) (by rw[<-hv];exact rel.val q);obtain⟨p,hp,hp2⟩:=Qwj.mp hw;refine wpAny_getItem_heap (vV hu) hk dd hp ?_;rw[hp2];exact h w' _ (I.tok _) Gx
theorem QD{Q:Value->Shared->Prop}(hu:A.units+12<cLine)(I:Inv X pins σ H s)(e:Rd H a (.dN ks))(hr:cW X.K H kvs ks)(k:mW X.K H y kd q)(ry:RelV y u)
  (h:∀s',Inv X pins σ H s'->Q (.bool (!(valN ks q).isSome)) s'):wpAny (model X.prog X.w) A (compareOp .NotIn u (.ref a)) Q E s:=by
 obtain⟨b,rfl,rfl,hk⟩:=k.is I ry;obtain⟨z,hd,xs,rel,dd⟩:=Et I e hr;refine wpAny_notIn_heap (vV hu) hk hd dd ?_;have q':=(rel.val q).mO;rw[Option.isSome_map] at q';rw[<-q'];exact h _ (I.tok _)
theorem Oe(ks:List (NK×V×V))(q:NK)(u v:V):(putN ks q u v).length<=ks.length+1:=by
 unfold putN;split
 ·rw[Qqy];omega
 ·simp
theorem ZF{r:Value}{Q:Unit->Shared->Prop}(hu:A.units+12<cLine)(I:Inv X pins σ H s)(e:H a=some (.dN ks))(hr:cW X.K H kvs ks)(k:mW X.K H y kd q)(hl:ks.length<sizeLine)(ry:RelV y u)(rv:RelV v r)
  (h:∀s',Inv X pins σ (upd H a (.dN (putN ks q y v))) s'->Q () s'):wpAny (model X.prog X.w) A (setItem (.ref a) u r) Q E s:=by
 obtain⟨b,rfl,rfl,hk⟩:=k.is I ry;obtain⟨z,hd,xs,rel,dd⟩:=Et I (.inl e) hr;have hz:xs.length<=sizeLine:=by rw[<-rel.len];exact z
 have hl2:(putN ks q (.ref b) v).length<=sizeLine:=by have:=Oe ks q (.ref b) v;omega
 refine wpAny_setItem_heap (hsz:=hz) (vV hu) hk dd λh' QC hs=>h _ ?_;obtain⟨o,es,ep,hq,h2,h3,h4,_,h5⟩:=QC;exact rM I (by rw[e];exact True.intro) hs ⟨o,hq⟩ ⟨hl2,hd,_,rel.put q rv,o,es,ep,hq,h2,h3,h4,h5⟩
end
noncomputable def lC(kvs:List (D×D))(q:NK):Option D:=(kvs.find? λp=>decide (sr p.1=some q)).map (·.2)
noncomputable def ur(kvs:List (D×D))(kd:D)(q:NK)(d:D):List (D×D):=if (lC kvs q).isSome then kvs.map (λp=>if sr p.1=some q then (p.1,d) else p) else kvs++[(kd,d)]
theorem cW.len{K:Fg}{F:Hp}:∀{kvs:List (D×D)} {ks:List (NK×V×V)},cW K F kvs ks->ks.length=kvs.length
 | [],_,h=>by cases h;rfl
 | (k,d)::kvs,_,h=>by obtain⟨q,u,v,r,rfl,_,_,_,_,h5⟩:=h;rw[Qqv,Qqv,h5.len]
theorem cW.val{K:Fg}{F:Hp}(q:NK):∀{kvs:List (D×D)} {ks:List (NK×V×V)},cW K F kvs ks->(lC kvs q=none/\valN ks q=none)\/∃d v,lC kvs q=some d/\valN ks q=some v/\Rep K F d v
 | [],_,h=>by cases h;exact .inl ⟨rfl,rfl⟩
 | (k,d)::kvs,_,h=>by
  obtain⟨q0,u,v,r,rfl,h1,h2,h3,h4,h5⟩:=h;unfold lC valN;rw[Qzw,Qzw];by_cases c:q0=q
  ·subst c;have c2:decide (sr k=some q0)=true:=Qww h1;rw[c2,Qww rfl];exact .inr ⟨d,v,rfl,rfl,h4⟩
  ·have c2:decide (sr k=some q)=false:=Qq9 λz=>c (by rw[h1] at z;exact Qw4 z);rw[c2,Qq9 c];exact cW.val q h5
theorem cW.snoc{K:Fg}{F:Hp}{kd d:D}{q:NK}{u v:V}(h1:sr kd=some q)(h2:q.dep<=8)(h3:Rep K F kd u)(h4:Rep K F d v):∀{kvs:List (D×D)} {ks:List (NK×V×V)},cW K F kvs ks->cW K F (kvs++[(kd,d)]) (ks++[(q,u,v)])
 | [],_,h=>by cases h;exact⟨q,u,v,[],rfl,h1,h2,h3,h4,rfl⟩
 | (k,e)::kvs,_,h=>by
  obtain⟨q0,u0,v0,r,rfl,g1,g2,g3,g4,g5⟩:=h;exact⟨q0,u0,v0,r++[(q,u,v)],rfl,g1,g2,g3,g4,cW.snoc h1 h2 h3 h4 g5⟩
theorem cW.over{K:Fg}{F:Hp}{d:D}{q:NK}{v:V}(h4:Rep K F d v):∀{kvs:List (D×D)} {ks:List (NK×V×V)},cW K F kvs ks->cW K F (kvs.map λp=>if sr p.1=some q then (p.1,d) else p) (ks.map λp=>if p.1=q then (p.1,p.2.1,v) else p)
 | [],_,h=>by cases h;rfl
 | (k,e)::kvs,_,h=>by
  obtain⟨q0,u0,v0,r,rfl,g1,g2,g3,g4,g5⟩:=h;rw[Qwx,Qwx];have ih:=cW.over (q:=q) h4 g5;by_cases c:q0=q
  ·subst c;rw[if_pos g1,if_pos rfl];exact⟨q0,u0,v,_,rfl,g1,g2,g3,h4,ih⟩
  ·rw[if_neg (λz=>c (by rw[g1] at z;exact Qw4 z)),if_neg c];exact⟨q0,u0,v0,_,rfl,g1,g2,g3,g4,ih⟩
theorem cW.put{K:Fg}{F:Hp}{kvs:List (D×D)}{ks:List (NK×V×V)}{kd d:D}{q:NK}{u v:V}(h:cW K F kvs ks)(h1:sr kd=some q)(h2:q.dep<=8)(h3:Rep K F kd u)(h4:Rep K F d v):cW K F (ur kvs kd q d) (putN ks q u v):=by
 have e:(lC kvs q).isSome=(valN ks q).isSome:=by rcases h.val q with ⟨g1,g2⟩|⟨_,_,g1,g2,_⟩<;>rw[g1,g2]<;>rfl
 unfold ur putN;rw[e];split
 ·exact h.over h4
 ·exact h.snoc h1 h2 h3 h4
theorem Ks(kvs:List (D×D))(kd:D)(q:NK)(d:D):(ur kvs kd q d).length<=kvs.length+1:=by
 unfold ur;split
 ·rw[Qqy];omega
 ·simp
theorem gD.iQ{K:Fg}{F H:Hp}{kvs:List (D×D)}{v:V}(s:aP F H)(h:gD K F H (.iQ kvs) v):kvs.length<=sizeLine/\∃a ks,v = .ref a/\Rd H a (.dN ks)/\cW K F kvs ks:=by
 rcases h with ⟨z,a,vs,rfl,h1,h2⟩|⟨a,rfl,z,vs,h1,h2⟩
 ·exact⟨z,a,vs,rfl,aP.rd s h1,h2⟩
 ·exact⟨z,a,vs,rfl,.inl h1,h2⟩
def G5(d:D):Option NK:=match d with
 | .tup xs=>(sr (.tup xs)).bind λq=>if q.dep<=8 then some q else none
 | _=>none
theorem Ar{d:D}{q:NK}(h:G5 d=some q):sr d=some q/\q.dep<=8/\∃xs,d = .tup xs:=by
 unfold G5 at h;split at h
 ·obtain⟨p,h1,h2⟩:=Qx8.mp h;split at h2
  ·rename_i hd;cases h2;exact⟨h1,hd,_,rfl⟩
  ·cases h2
 ·cases h
theorem mW.of{C:Cfg}{F H:Hp}{d:D}{q:NK}{v:V}(s:aP F H)(p:gD C.K F H d v)(h:G5 d=some q):mW C.K H v d q:=by obtain⟨h1,h2,h3⟩:=Ar h;exact⟨p.rep s,h1,h2,h3⟩
section
variable{X:Cx}{C:Cfg}{pos apos cpos:Pos}
def Nv(K:Fg):R2:=λx y H Q=>∃a ks kvs kd q v,x = .ref a/\Rd H a (.dN ks)/\cW K H kvs ks/\mW K H y kd q/\valN ks q=some v/\Q v H
noncomputable def xf:D->D->Option D
 | .iQ kvs,k=>(G5 k).bind λq=>lC kvs q
 | _,_=>none
theorem Tn:n8 C (Nv C.K) xf:=by
 intro Pr F env σ H x y d vx vy Q r px py e q;unfold xf at e;split at e
 ·obtain⟨z,a,ks,rfl,h1,h2⟩:=px.iQ r.fr;obtain⟨k,hk,hv⟩:=Qx8.mp e;rcases h2.val k with ⟨e1,_⟩|⟨d',v',e1,e2,p2⟩
  ·rw[e1] at hv;cases hv
  ·rw[e1] at hv;cases hv;exact⟨a,ks,_,_,k,v',rfl,h1,cW.mono r.fr _ _ h2,mW.of r.fr py hk,e2,q _ _ F r (aP.refl F) p2⟩
 ·cases e
theorem S6{o i:Expr}{td ty:TE}(hu:X.A.units+12<cLine)(ho:PE X o td)(hi:PE X i ty)(hs:LK i):PE X (.Subscript o i pos) (Ru (Nv X.K) td ty):=by intro pins s σ H Q I h;refine Ie PySem.F.slot_dict_getitem.lookup hs (fP (ho pins s σ H _ I h) λu s1 ⟨x,H1,I1,rx,q1⟩=>fP (hi pins s1 σ H1 _ I1 q1) λiv s2 ⟨y,H2,I2,ry,a,ks,kvs,kd,q,v,ex,g1,g2,g3,g4,q2⟩=>?_);subst ex;obtain rfl:u=Value.ref a:=rx;obtain⟨_,_,xs,_,dd⟩:=Et I2 g1 g2;exact⟨dd.typeIs,ZG hu I2 g1 g2 g3 g4 ry λw' s3 I3 Gx=>⟨v,H2,I3,Gx,q2⟩⟩
def abg(K:Fg)(neg:Bool):R2:=λx y H Q=>∃a ks kvs kd q,y = .ref a/\Rd H a (.dN ks)/\cW K H kvs ks/\mW K H x kd q/\Q (.bl (if neg then !(valN ks q).isSome else (valN ks q).isSome)) H
theorem KD(hu:X.A.units+12<cLine):mD X (compareOp .NotIn) (abg X.K true):=by intro pins s σ H x y v u Q I rx ry h;obtain⟨a,ks,kvs,kd,q,rfl,g1,g2,g3,q2⟩:=h;cases ry;exact QD hu I g1 g2 g3 rx λs3 I3=>⟨.bl _,H,I3,rfl,q2⟩
noncomputable def pC(k y:D):Option D:=match y with
 | .iQ kvs=>(G5 k).map λq=>.bl (!(lC kvs q).isSome)
 | _=>none
theorem KR:n8 C (abg C.K true) pC:=by
 intro Pr F env σ H x y d vx vy Q r px py e q;cases y with
 | iQ kvs=>
  obtain⟨k,hk,rfl⟩:=Qwj.mp (show(G5 x).map (λq=>D.bl (!(lC kvs q).isSome))=some d from e);obtain⟨z,a,ks,rfl,h1,h2⟩:=py.iQ r.fr;refine⟨a,ks,kvs,_,k,rfl,h1,cW.mono r.fr _ _ h2,mW.of r.fr px hk,?_⟩;have e2:(valN ks k).isSome=(lC kvs k).isSome:=by rcases h2.val k with ⟨g1,g2⟩|⟨d',v',g1,g2,_⟩<;>rw[g1,g2]<;>rfl
  rw[e2];exact q _ H F r (aP.refl F) rfl
 | _=>cases e
theorem QR(G:Good X C):Cm X C .NotIn pC:=⟨_,KD (by have:=G.un;omega),by rw[G.K];exact KR⟩
theorem Qy{P:Program}{w:World}{H:Hp}(h:Heap)(hb:sysModules<h.objs.size):fY P w H (h.push { cls:=.type "dict",data:=.dict #[] }) h.objs.size (.dN []):=
 ⟨Qxk _,Qz0.mpr (Ne.symm (Qw9 hb)),[],.nil,_, #[],0,Qw1 _ rfl,⟨rfl,rfl,rfl⟩,rfl,rfl,List.nodup_nil⟩
noncomputable def qQ(i:Nat)(k a:Ev):bK:=λenv=>jn (a env) λd aK=>match aK[i]? with
 | some (some (_,_))=>jn (k aK) λkd d7=>(match d7[i]?,G5 kd with
  | some (some (true,.iQ kvs)),some q=>if kvs.length<sizeLine then .nx (d7.set i (some (true,.iQ (ur kvs kd q d)))) else .stuck
  | _,_=>.stuck)
 | _=>.stuck
def M9(K:Fg)(td ty tv:TE):TS:=λD σ H=>tv σ H λv H1=>td σ H1 λx H2=>ty σ H2 λy H3=>∃a ks kvs kd q,x = .ref a/\H3 a=some (.dN ks)/\cW K H3 kvs ks/\mW K H3 y kd q/\ks.length<sizeLine/\D.nx σ (upd H3 a (.dN (putN ks q y v)))
theorem Oq{o i value:Expr}{pos':Pos}{td ty tv:TE}(hu:X.A.units+12<cLine)(ho:PE X o td)(hi:PE X i ty)(hv:PE X value tv)(hs:swapsWith value (some (.Subscript o i pos')) pos.line X.env=pure false) :
  PS X (.Assign [.Subscript o i pos'] value pos) (M9 X.K td ty tv):=by
 intro pins s σ H D I h;refine wpAny_Assign_Subscript (fP (hv pins s σ H _ I h) λr s1 ⟨v,H1,I1,rv,q1⟩=>fP (ho pins s1 σ H1 _ I1 q1) λu s2 ⟨x,H2,I2,rx,q2⟩=>fP (hi pins s2 σ H2 _ I2 q2) λiv s3 ⟨y,H3,I3,ry,a,ks,kvs,kd,q,ex,g1,g2,g3,g4,q3⟩=>?_) hs;subst ex;obtain rfl:u=Value.ref a:=rx;exact ZF hu I3 g1 g2 g3 g4 ry rv λs4 I4=>⟨σ,_,I4,q3⟩
def MK(K:Fg)(tk tv:TE):TE:=λσ H Q=>∀p,H p=none->tk σ (upd H p (.dN [])) λx H1=>tv σ H1 λy H2=>H2 p=some (.dN [])/\∃kd q,mW K H2 x kd q/\Q (.ref p) (upd H2 p (.dN [(q,x,y)]))
theorem OJ{k v:Expr}{tk tv:TE}(hu:X.A.units+12<cLine)(hk:PE X k tk)(hv:PE X v tv):PE X (.Dict [some k] [v] pos) (MK X.K tk tv):=by intro pins s σ H Q I q;have hn:=I.hok.fresh (Qq0 s.heap.objs.size);have I1:=I.laid (a:=s.heap.objs.size) (o:=.dN []) (h':=s.heap.push { cls:=.type "dict",data:=.dict #[] }) (t':=s.toks) (λ_ _ q=>Qqw _ q) (Qq0 _) (Qy s.heap I.big);rw[arm_eval_Dict,zip_pairTrees [some k] [v] X.env pos rfl rfl,dictDisplay_pairs (pairTrees [some k] [v] X.env pos) (by intro z;cases z) (by rw[pairTrees_length [some k] [v] X.env pos rfl rfl];simp)];refine Qqx (wpAny_standAt (Qqx ?_));unfold subDict;refine Qqx (wpAny_alloc ?_);refine Qqx (Qjq ?_);rw[if_pos (by rw[pairTrees_length [some k] [v] X.env pos rfl rfl];simp)];refine Qqx (pairTrees_cons_walk (fP (hk pins _ σ _ _ I1 (q _ hn)) λu s1 ⟨x,H1,J1,rx,q1⟩=>fP (hv pins s1 σ H1 _ J1 q1) λw2 s2 ⟨y,H2,J2,ry,e,kd,qq,ka,q2⟩=>pairTrees_nil_walk ?_));refine Qjq ?_;refine Qqx ?_;rw[Qkv];obtain⟨b,rfl,rfl,hkk⟩:=ka.is J2 rx;obtain⟨_,hd,xs,rel,dd⟩:=Et (kvs:=[]) J2 (.inl e) rfl;cases rel;refine Qqx (Qqx (wpAny_dictSet_heap (hsz:=Qxk _) (show X.A.units+10<cLine by omega) hkk dd λh' QC hs=>Qq6 ?_));show wpAny _ _ (forIn ([]:List (Value×Value)) PUnit.unit _) _ _ _;rw[Qj8];refine Qq6 (Qq6 (Qq6 (Qq6 ?_)));obtain⟨o,es,ep,hq,h2,h3,h4,_,h5⟩:=QC;exact⟨.ref s.heap.objs.size,_,rM (ob:=.dN [(qq,.ref b,y)]) J2 (by rw[e];exact True.intro) hs ⟨o,hq⟩ ⟨by show 1<=sizeLine;decide,hd,[(qq,b,w2)],.cons ⟨rfl,rfl,ry⟩ .nil,o,es,ep,hq,h2,h3,h4,h5⟩,rfl,q2⟩
def Bo(k a:Ev):Ev:=λenv=>bindR (k env) λkd e1=>bindR (a e1) λd e2=>match G5 kd with
 | some _=>.ok (.iQ [(kd,d)]) e2
 | none=>.stuck
def zX:bK:=λ_=>.stuck
theorem Mp{y:Expr}{b:Ev}{n:Str}{px:Pos}(i:Nat)(G:Good X C)(hb:JR X C y b)(hN:X.N[i]? = some n:=by rfl)(hv:uW X.env.scope n:=by first|exact Or.inl rfl|exact Or.inr (Or.inl rfl)|exact Or.inr (Or.inr rfl))(hs:LK y:=by intro _ _;rfl)
  (hd:mZ n:=by decide) (hcd:vp n:=by decide):SX X C (.Subscript (.Name n px) y pos) (aB xf i b):=⟨by
 have h:PE X (.Subscript (.Name n px) y pos) (Ru (Nv X.K) _ _):=S6 (pos:=pos) (by have:=G.un;omega) (jz (pos:=px) hN hv hd hcd) hb.u hs;rw[G.K] at h;exact h.imp (pG Tn)⟩
theorem M8{n:Str}{k e:Expr}{ek a:Ev}{px pos':Pos}(i:Nat)(G:Good X C)(hk:SX X C k ek)(he:SX X C e a)(hN:X.N[i]? = some n:=by rfl)(hv:uW X.env.scope n:=by first|exact Or.inl rfl|exact Or.inr (Or.inl rfl)|exact Or.inr (Or.inr rfl))
  (hs:swapsWith e (some (.Subscript (.Name n px) k pos')) pos.line X.env=pure false:=by rfl)
  (hd:mZ n:=by decide) (hcd:vp n:=by decide):Fq X C (.Assign [.Subscript (.Name n px) k pos'] e pos) (qQ i ek a):=⟨by
 have h0:PS X (.Assign [.Subscript (.Name n px) k pos'] e pos) (M9 X.K _ _ _):=Oq (by have:=G.un;omega) (jz hN hv hd hcd) hk.u he.u hs;rw[G.K] at h0;refine h0.imp λD σ H h=>?_;obtain⟨Pr,F,env,r,f⟩:=h;obtain⟨d,aK,e1,f1⟩:=dR f;refine⟨Pr,F,env,aK,d,r,e1,λv H1 F1 r1 s1 p1=>?_⟩;split at f1
 ·rename_i o0 d0 h0;obtain⟨v0,hv0,_⟩:=r1.rd h0;obtain⟨kd,d7,e2,f2⟩:=dR f1;refine⟨v0,hv0,Pr,F1,aK,d7,kd,r1,e2,λvk H2 F2 r2 s2 p2=>?_⟩;split at f2
  ·rename_i kvs q h2 hq;split at f2
   ·rename_i hz;obtain⟨b,g1,⟨z,ks,g2,g3⟩,g4,g5⟩:=r2.own i _ h2;rw[hv0] at g1;cases g1;have hz':ks.length<sizeLine:=by rw[g3.len];exact hz
    obtain⟨n1,n2,n3⟩:=Ar hq;refine⟨b,ks,kvs,kd,q,rfl,g2,cW.mono r2.fr _ _ g3,⟨Rep.mono r2.fr _ _ p2,n1,n2,n3⟩,hz',?_⟩;refine f2 σ _ F2 (r2.write h2 hv0 ⟨Qq3 (Ks _ _ _ _) hz,_,aQ,g3.put n1 n2 p2 (Rep.mono s2 _ _ p1)⟩) (s1.trans s2)
   ·exact f2.elim
  ·exact f2.elim
 ·exact f1.elim⟩
theorem Kp{k v:Expr}{ek ev:Ev}(G:Good X C)(hk:SX X C k ek)(hv:SX X C v ev):Q5 X C (.Dict [some k] [v] pos) (Bo ek ev):=⟨by
 have h0:PE X (.Dict [some k] [v] pos) (MK X.K _ _):=OJ (by have:=G.un;omega) hk.u hv.u;rw[G.K] at h0;refine h0.imp λσ H Q hq=>?_;obtain⟨Pr,F,env,env',d,r,e,q⟩:=hq;obtain⟨kd,aK,e1,e2⟩:=aW e;obtain⟨dv,d7,e3,e4⟩:=aW e2;split at e4
 ·rename_i qq hqq;cases e4;obtain⟨n1,n2,n3⟩:=Ar hqq;intro p hp;have ra:=r.aside (o:=.dN []) hp;have nP:Pr p=none:=r.pr.free hp;refine⟨upd Pr p (.dN []),F,env,aK,kd,ra,e1,λx H1 F1 r1 s1 p1=>⟨upd Pr p (.dN []),F1,aK,env',dv,r1,e3,λy H2 F2 r2 s2 p2=>⟨r2.pr p _ aQ,kd,qq,⟨Rep.mono r2.fr _ _ (Rep.mono s2 _ _ p1),n1,n2,n3⟩,?_⟩⟩⟩;have r3:=r2.turn (u:=.dN [(qq,x,y)]) aQ;have nF:F2 p=none:=by
   cases hF:F2 p with
   | none=>rfl
   | some o=>have:=r2.dj p o hF;rw[aQ] at this;cases this
  have r4:Rel C Pr F2 env' σ (upd H2 p (.dN [(qq,x,y)])):=r3.less λb o hb=>by
   have hne:b≠p:=λz=>by rw[z,nP] at hb;cases hb
   rw[bw hne,bw hne];exact hb
  refine q p _ F2 r4 (s1.trans s2) ⟨⟨by show 1<=sizeLine;decide,_,aQ,⟨qq,x,y,[],rfl,n1,n2,Rep.mono s2 _ _ p1,p2,rfl⟩⟩,nF,nP,λj e he hs=>?_⟩;obtain⟨b,h1,_,_,h4⟩:=r2.own j e he;rw[hs] at h1;cases h1;rw[aQ] at h4;cases h4
 ·cases e4⟩
theorem GF{st:Stmt}:Fq X C st zX:=⟨λpins s σ H D I h=>by
 obtain⟨_,_,_,_,f⟩:=h;exact f.elim⟩
end
end Ev
namespace SI
open PySem PySem.Spec PyProof.Rows L2 PySem.Builtin
def Ris(xs:Array Nat):Prop:=∀i j,i<j->j<xs.size->xs.getD i 0<xs.getD j 0
structure Pl(t:SetTable):Prop where
 dm:t.dummies = #[]
 ri:Ris t.place
open SX (led)
structure TOk(P:Program)(w:World)(es:Array (Int×Value))(t:SetTable)(ys:List Int):Prop where
 el:ElemsOf (intKind P w) es.toList
 tx:∃ss:List Int,IntsAre (es.toList.map (·.2)) ss/\ss.Perm ys
 fit:t.fits es.size=true
 ld:t.led=led w
 pl:Pl t
def HD(P:Program)(w:World)(h:Heap)(a:Addr)(ys:List Int):Prop:=
 ∃o es ep t,h.get? a=some o/\o.ExactSet/\o.data = .set es ep t/\TOk P w es t ys
open PySem PySem.Spec PyProof.Rows L2 PySem.Builtin Ev
def acB(P:Program)(w:World)(a:Addr)(ys:List Int):HO:=.ext λh=>HD P w h a ys
end SI
namespace Ev
open PySem PySem.Spec PyProof.Rows L2 PySem.Builtin
instance (zs:List Int):Decidable (zs.Pairwise (·< ·)):=inferInstance
open PySem PySem.Spec PyProof.Rows L2
def Qw(k1 a1 k2 a2:Ev):Ev:=λenv=>bindR (k1 env) λx1 e1=>bindR (a1 e1) λy1 e2=>bindR (k2 e2) λx2 e3=>bindR (a2 e3) λy2 e4=>match mL x1,mL x2 with
 | some q1,some q2=>if q1=q2 then .stuck else .ok (.dct [(x1,y1),(x2,y2)]) e4
 | _,_=>.stuck
section
variable{X:Cx}{C:Cfg}{pos:Pos}
end
theorem Ko{X:Cx}{C:Cfg}{pos:Pos}{k v k' v':Expr}{ek ev ek' ev':Ev}(G:Good X C)(hk:SX X C k ek)(hv:SX X C v ev)(hk':SX X C k' ek')(hv':SX X C v' ev'):Q5 X C (.Dict [some k,some k'] [v,v'] pos) (Qw ek ev ek' ev'):=⟨by
 have h0:PE X (.Dict [some k,some k'] [v,v'] pos) (Vn [(_,_),(_,_)]):=S7 (Dj hk.u hv.u (Dj hk'.u hv'.u Ss)) rfl rfl (by simp) (by show 2<=15;decide);refine h0.imp λσ H Q hq=>?_;obtain⟨Pr,F,env,env',d,r,e,q⟩:=hq;obtain⟨x1,aK,e1,e⟩:=aW e;obtain⟨y1,d7,e2,e⟩:=aW e;obtain⟨x2,Lj,e3,e⟩:=aW e;obtain⟨y2,aga,e4,e⟩:=aW e;split at e
 ·rename_i q1 q2 h1 h2;split at e
  ·cases e
  ·rename_i hne;cases e;intro p hp;have ra:=r.aside (o:=.dK []) hp;have nP:Pr p=none:=r.pr.free hp;refine⟨upd Pr p (.dK []),F,env,aK,x1,ra,e1,λx H1 F1 r1 s1 p1=>⟨upd Pr p (.dK []),F1,aK,d7,y1,r1,e2,λy H2 F2 r2 s2 p2=>⟨upd Pr p (.dK []),F2,d7,Lj,x2,r2,e3,λx' H3 F3 r3 s3 p3=>⟨upd Pr p (.dK []),F3,Lj,env',y2,r3,e4,λy' H4 F4 r4 s4 p4=>
    ⟨r4.pr p _ aQ,[(q1,y),(q2,y')],by rw[Bf h1 p1,Bf h2 p3];rfl,by show 2<=15;decide,?_⟩⟩⟩⟩⟩
   have em:tQ [] [(q1,y),(q2,y')]=[(q1,y),(q2,y')]:=by
    show putK (putK [] q1 y) q2 y'=_;have e0:putK [] q1 y=[(q1,y)]:=rfl;rw[e0];unfold putK;rw[if_neg (by simp[hne])]
    rfl
   rw[em];have r5:=r4.turn (u:=.dK [(q1,y),(q2,y')]) aQ;have nF:F4 p=none:=by
    cases hF:F4 p with
    | none=>rfl
    | some o=>have:=r4.dj p o hF;rw[aQ] at this;cases this
   have r6:Rel C Pr F4 env' σ (upd H4 p (.dK [(q1,y),(q2,y')])):=r5.less λb o hb=>by
    have hne:b≠p:=λz=>by rw[z,nP] at hb;cases hb
    rw[bw hne,bw hne];exact hb
   refine q p _ F4 r6 (s1.trans (s2.trans (s3.trans s4))) ⟨⟨by show 2<=sizeLine;decide,_,aQ,⟨q1,y,_,rfl,h1,Rep.mono (s3.trans s4) _ _ p2,q2,y',[],rfl,h2,p4,rfl⟩⟩,nF,nP,λj e he hs=>?_⟩;obtain⟨b,h1,_,_,h4⟩:=r4.own j e he;rw[hs] at h1;cases h1;rw[aQ] at h4;cases h4
 ·cases e⟩
theorem Pb{X:Cx}{C:Cfg}(G:Good X C):Good X.Pb C:=⟨G.K,G.calm,G.un⟩
theorem Xi{X:Cx}{body:List Stmt}{h₀:ExceptHandler}{hs:List ExceptHandler}{pos:Pos}{tb:TS}(hbd:BR X.Pb body tb):PS X (.Try body (h₀::hs) [] [] pos) tb:=by
 intro pins s σ H D I h;refine wpAny_Try_except (Qz7 (hbd pins s σ H D (I.wish _) h) (λf s1 q=>?_) λ_ _ z=>False.elim z);cases f with
 | next=>exact wpAny_execs_nil q.jQ
 | brk=>exact q.jQ
 | cont=>exact q.jQ
 | ret u=>exact q.jQ
theorem Kl{X:Cx}{C:Cfg}{body:List Stmt}{h₀:ExceptHandler}{hs:List ExceptHandler}{pos:Pos}{ev:bK}(G:Good X C)(hsx:Good X.Pb C->fO X.Pb C body ev):Fq X C (.Try body (h₀::hs) [] [] pos) ev:=⟨Xi (hsx (Pb G)).u⟩
theorem acn{g:D->D->Option D}{i:Nat}{b:Ev}{env e2:Env}{x y d:D}(h1:env[i]? = some (some (false,x)))(h2:b env = .ok y e2)(h4:e2[i]? = some (some (false,x)))(h3:g x y=some d):aB g i b env = .ok d e2:=bQ h1 h2 h4 h3
theorem aen{g:D->D->Option D}{i:Nat}{b:Ev}{env e2:Env}{x y d:D}(h1:env[i]? = some (some (true,x)))(h2:b env = .ok y e2)(h4:e2[i]? = some (some (true,x)))(h3:g x y=some d):aB g i b env = .ok d e2:=bQ h1 h2 h4 h3
theorem aeS{i:Nat}{a:Ev}{env e:Env}{d:D}{xs:List D}(h0:env[i]? = some (some (true,.lst xs)))(h1:a env = .ok d e)(h2:e[i]? = some (some (true,.lst xs)))(hz:xs.length<sizeLine):dJ i a env = .nx (e.set i (some (true,.lst (xs++[d])))):=by unfold dJ;rw[h0];simp only[h1,jn,h2,if_pos hz]
theorem afe{f:List D->Option (D×D)}{i:Nat}{a:dG}{env e1:Env}{ds:List D}{x d x':D}(h0:env[i]? = some (some (true,x)))(h1:a env = .ok ds e1)(h2:e1[i]? = some (some (true,x)))(h3:f (x::ds)=some (d,x')):cQ f i a env = .ok d (e1.set i (some (true,x'))):=gG h0 h1 h2 h3
theorem zz1:1<=sizeLine:=by decide
theorem Ft:2<=sizeLine:=by decide
theorem zz3:3<=sizeLine:=by decide
theorem zz4:4<=sizeLine:=by decide
theorem zz5:5<=sizeLine:=by decide
theorem zz6:6<=sizeLine:=by decide
theorem zz7:7<=sizeLine:=by decide
end Ev
abbrev OD:=Option (Bool×Ev.D)
abbrev Zf(d:Ev.D):OD:=some (false,d)
abbrev Zt(d:Ev.D):OD:=some (true,d)
abbrev Zs(w:List Nat):OD:=some (false,.str w)
abbrev Zb(b:Bool):OD:=some (false,.bl b)
abbrev Zl(l:List Ev.D):OD:=some (true,.lst l)
abbrev Zv(i:Nat)(a:Ev.dG):Ev.dG:=Ev.aa (Ev.aU i) a
abbrev Zi(i:Int):Ev.Ev:=Ev.xG (.int i)
abbrev Zw(w:List Nat):Ev.Ev:=Ev.xG (.str w)
abbrev LD:=List Ev.D->Option Ev.D
abbrev Zn:OD:=none
abbrev Rg:List PySem.Str:=["rule","word"]
abbrev UL:List PySem.Str:=["_law_pack_here","_law_sounds_here"]
abbrev Z2:List PySem.Str:=["order","standing"]
abbrev Z1:List PySem.Str:=["stock","order"]
abbrev Z0:List PySem.Str:=["order","word"]
abbrev ZZ:List PySem.Str:=["_law_pack_here","_law_sounds_here","_law_most"]
abbrev Zq6:List PySem.Str:=["rule","standing","sign"]
abbrev Zq7:List PySem.Str:=["order","standing","sound"]
abbrev Zq8:List PySem.Str:=["side","rule","word"]
abbrev Zq9:List PySem.Str:=["_law_stock_here"]
abbrev Z5:List PySem.Str:=["rule","standing","signs"]
abbrev Z4:List PySem.Str:=["_law_pack_here","_law_size"]
abbrev Z3:List PySem.Str:=["_law_stock_here","_law_order_here"]
abbrev acA:List PySem.Str:=["rule","standing","sign","way","changes","left","right","near","held","put"]
abbrev acz:List PySem.Str:=["_law_script","_law_pack_here","_law_stock_here","_law_sounds_here","_law_order_here","_law_sides","_law_other","_law_k","_law_word_here","_law_here","_law_sound","_law_found"]
namespace jc
open Ev
section
def jk:Ev:=fX 1 3 (gV (aU 0)) (cC 2 (aJ (ak 1) (aJ (ak 2) cD))) dW (aU 1)
def gh:bK:=bu (ao cz (aa (jk) aj))
def d9:LD:=bO 1 gh
def il:bK:=bu (Bl (aB gIs 0 (xG .non)) (aB gIn 1 (bh 0)))
def cP:LD:=bO 2 il
def dY:bK:=aA (aR (aU 0) (cC 4 (aJ (ak 1) (aJ (ak 2) (aJ (ak 3) (aJ (ak 4) cD)))))) (bu (cj (Zv 1 (Zv 2 (Zv 4 (Zv 3 aj))))))
def fJ:LD:=bO 5 dY
def du:bK:=bu (aM qD (aM fZ (aM fZ (aB fZ 0 (Zi 1)) (Zi 0)) (Zi 0)) (Zw []))
def dO:LD:=bO 1 du
def iK:Ev:=fX 3 4 (gV (aU 2)) (ak 3) dW (ao fJ (Zv 3 aj))
def cB:bK:=aA (aR (aU 0) (cC 2 (aJ (ak 1) (aJ (ak 2) cD)))) (aA (gk (gf (aB qD 1 (Zw [114,105,103,104,116]))) (bu (ao cz (aa (iK) aj))) cL) (bu (aU 2)))
def bY:LD:=bO 3 cB
def ig:Ev:=fX 1 5 (gV (ao bY (Zv 0 aj))) (cC 4 (aJ (ak 1) (aJ (ak 2) (aJ (ak 3) (aJ (ak 4) cD))))) dW (cj (aa (ao cP (Zv 3 (aa (Zw [35]) aj))) (aa (Zw []) aj)))
def cU:bK:=bu (ao cz (aa (ig) aj))
def bG:LD:=bO 1 cU
def bN:bK:=aA (aR (aU 0) (cC 4 (aJ (ak 3) (aJ (ak 4) (aJ (ak 5) (aJ (ak 6) cD)))))) (aA (aR (aU 1) (cC 2 (aJ (ak 7) (aJ (ak 8) cD)))) (aA (aR (aU 8) (ak 9)) (aA (gk (ik (gf (aU 7)) (gf (ao cP (Zv 6 (Zv 2 aj))))) (aR (aB dw 8 (aM fZ (aB fZ 4 (Zi 0)) (Zi 1))) (ak 9)) cL) (bu (cj (aa (cj (aa (ao cP (Zv 5 (Zv 2 aj))) (Zv 2 aj))) (Zv 9 aj)))))))
def cH:LD:=bO 10 bN
def bZ:bK:=aA (aR (aU 0) (cC 4 (aJ (ak 3) (aJ (ak 4) (aJ (ak 5) (aJ (ak 6) cD)))))) (aA (aR (aU 1) (cC 2 (aJ (ak 7) (aJ (ak 8) cD)))) (aA (gk (gf (aB qD 8 (Zw []))) (bu (cj (aa (cj (Zv 7 (Zv 2 aj))) (aa (Zw []) aj)))) cL) (aA (aR (aU 8) (ak 9)) (aA (gk (ik (gf (aU 7)) (gf (ao cP (Zv 6 (Zv 2 aj))))) (aR (Bm (ao pN (aa (bh 4) aj)) (aU 8) (aU 8)) (ak 9)) cL) (aA (gk (gf (aB qD 3 (Zw [111,110,99,101]))) (bu (cj (aa (cj (aa (ao cP (Zv 5 (Zv 8 aj))) (Zv 2 aj))) (Zv 9 aj)))) cL) (aA (gk (gf (aB qD 9 (Zw []))) (bu (cj (aa (cj (Zv 7 (Zv 2 aj))) (Zv 9 aj)))) cL) (bu (cj (aa (cj (aa (ao cP (Zv 5 (Zv 9 aj))) (Zv 2 aj))) (Zv 9 aj))))))))))
def cO:LD:=bO 10 bZ
def iG:bK:=aA (aR (aB fZ 1 (Zi 1)) (ak 6)) (aA (gk (gf (ao dO (Zv 0 aj))) (aR (ao cH (Zv 0 (Zv 1 (Zv 5 aj)))) (cC 2 (aJ (ak 1) (aJ (ak 7) cD)))) (aR (ao cO (Zv 0 (Zv 1 (Zv 5 aj)))) (cC 2 (aJ (ak 1) (aJ (ak 7) cD))))) (aA (aR (Bl (aU 4) (aB zq 7 (bh 6))) (ak 4)) (dJ 3 (aU 7))))
def dF:bK:=aA (cZ 3 (cu aj)) (aA (aR (xG (.bl false)) (ak 4)) (aA (fQ (gV (aU 2)) (ak 5) (iG)) (bu (cj (Zv 1 (aa (aM jL (Zw []) (bh 3)) (Zv 4 aj)))))))
def dZ:LD:=bO 8 dF
def jH:bK:=aA (aR (ao dZ (Zv 6 (Zv 7 (Zv 3 aj)))) (cC 3 (aJ (ak 8) (aJ (ak 3) (aJ (ak 9) cD))))) (aA (dJ 4 (aU 8)) (dJ 5 (aU 9)))
def iR:bK:=aA (aR (aU 2) (ak 3)) (aA (cZ 4 (cu aj)) (aA (cZ 5 (cu aj)) (aA (fQ (xB (aa (ao bY (Zv 0 aj)) (Zv 1 aj))) (cC 2 (aJ (ak 6) (aJ (ak 7) cD))) (jH)) (bu (cj (aa (ao cz (aa (bh 4) aj)) (Zv 3 (aa (ao cz (aa (bh 5) aj)) aj))))))))
def kW:LD:=bO 10 iR
def oZ:bK:=aA (aR (ao dZ (Zv 4 (Zv 5 (aa (aB dw 2 (Zw [35])) aj)))) (cC 3 (aJ (ak 6) (aJ (ak 2) (aJ (ak 7) cD))))) (dJ 3 (aU 7))
def gM:bK:=aA (aR (Zw []) (ak 2)) (aA (cZ 3 (cu aj)) (aA (fQ (xB (aa (ao bY (Zv 0 aj)) (Zv 1 aj))) (cC 2 (aJ (ak 4) (aJ (ak 5) cD))) (oZ)) (bu (cj (Zv 2 (aa (ao cz (aa (bh 3) aj)) aj))))))
def jM:LD:=bO 8 gM
def jb:bK:=aA (aR (ao kW (Zv 0 (Zv 1 (Zv 2 aj)))) (cC 3 (aJ (ak 3) (aJ (ak 4) (aJ (ak 5) cD))))) (bu (cj (Zv 3 (Zv 4 aj))))
def fV:LD:=bO 6 jb
def mR:bK:=bu (aM fZ (ao jM (Zv 0 (Zv 1 aj))) (Zi 0))
def kZ:LD:=bO 2 mR
def gB:bK:=aA (aR (ao fV (Zv 1 (aa (aB fZ 2 (ao eV (aa (bh 4) aj))) (Zv 6 aj)))) (cC 2 (aJ (ak 7) (aJ (ak 8) cD)))) (aA (gk (gf (aB pC 7 (bh 3))) (aA (qQ 3 (aU 7) (ao eV (aa (bh 2) aj))) (dJ 2 (aU 7))) cL) (dJ 5 (cj (Zv 8 (aa (aB xf 3 (bh 7)) aj)))))
def gA:bK:=aA (cZ 5 (cu aj)) (aA (fQ (gV (ao d9 (Zv 0 aj))) (ak 6) (gB)) (aA (gk (gf (aM gGt (ao eV (aa (bh 2) aj)) (Zi 600))) (zX) cL) (dJ 4 (ao cz (aa (bh 5) aj)))))
def nM:bK:=aA (cZ 2 (cu (aa (ao bG (Zv 1 aj)) aj))) (aA (cZ 3 (Bo (aB fZ 2 (Zi 0)) (Zi 0))) (aA (cZ 4 (cu aj)) (aA (iI (gf (aM gLt (ao eV (aa (bh 4) aj)) (ao eV (aa (bh 2) aj)))) (gA) 7000) (bu (cj (Zv 2 (Zv 4 aj)))))))
def nD:LD:=bO 9 nM
def uE:bK:=bu (ao cz (aa (ao wX (aa (aM fZ (ao nD (Zv 0 (Zv 1 aj))) (Zi 0)) aj)) aj))
def lJ:LD:=bO 2 uE
def mK:bK:=aA (gk (ik (gf (ao cP (Zv 4 (Zv 8 aj)))) (gf (ao cP (Zv 5 (Zv 9 aj))))) (dJ 7 (aU 6)) cL) (aA (dJ 7 (aU 9)) (aR (aU 9) (ak 8)))
def cX:bK:=aA (aR (aU 0) (cC 4 (aJ (ak 2) (aJ (ak 3) (aJ (ak 4) (aJ (ak 5) cD)))))) (aA (aR (aM fZ (aB fZ 3 (Zi 0)) (Zi 1)) (ak 6)) (aA (cZ 7 (cu aj)) (aA (aR (Zw [35]) (ak 8)) (aA (fQ (gV (aB dw 1 (Zw [35]))) (ak 9) (mK)) (bu (aM jL (Zw []) (ue (aU 7) xD (BP (Hm Hj (Zi 1))))))))))
def fL:LD:=bO 10 cX
def lG:bK:=aA (aR (aU 11) (ak 12)) (aA (gk (ik (gf (aB tZ 11 (bh 6))) (ik (gf (ao cP (Zv 4 (Zv 9 aj)))) (gf (ao cP (Zv 5 (aa (aB fZ 7 (aB dw 10 (Zi 1))) aj)))))) (aR (aB gY 6 (bh 11)) (ak 12)) cL) (aA (dJ 8 (aU 12)) (gk (gf (aB qD 2 (Zw [111,110,99,101]))) (aR (aU 11) (ak 9)) (gk (gf (aB zq 12 (Zw []))) (aR (aU 12) (ak 9)) cL))))
def cM:bK:=aA (aR (aU 0) (cC 4 (aJ (ak 2) (aJ (ak 3) (aJ (ak 4) (aJ (ak 5) cD)))))) (aA (aR (ao pN (aa (bh 3) aj)) (ak 6)) (aA (aR (aB dw 1 (Zw [35])) (ak 7)) (aA (cZ 8 (cu aj)) (aA (aR (Zw [35]) (ak 9)) (aA (fQ (Hn (Zv 1 aj)) (cC 2 (aJ (ak 10) (aJ (ak 11) cD))) (lG)) (bu (aM jL (Zw []) (bh 8))))))))
def eY:LD:=bO 13 cM
def cT:bK:=aA (gk (gf (ao dO (Zv 0 aj))) (bu (ao fL (Zv 0 (Zv 1 aj)))) cL) (bu (ao eY (Zv 0 (Zv 1 aj))))
def eF:LD:=bO 2 cT
def eN:bK:=aA (gk (gf (aB qD 0 (Zw [114,105,103,104,116]))) (bu (mQ (ao eF (aa (ao fJ (Zv 1 aj)) (aa (mQ (aU 2)) aj))))) cL) (bu (ao eF (Zv 1 (Zv 2 aj))))
def fW:LD:=bO 3 eN
def zj:bK:=dJ 4 (ao fW (Zv 2 (Zv 5 (aa (aB fZ 4 (Hm Hj (Zi 1))) aj))))
def qz:bK:=aA (aR (aU 0) (cC 2 (aJ (ak 2) (aJ (ak 3) cD)))) (aA (cZ 4 (cu (Zv 1 aj))) (aA (fQ (gV (aU 3)) (ak 5) (zj)) (bu (ao cz (aa (bh 4) aj)))))
def xA:LD:=bO 6 qz
def uh:bK:=bu (aM fZ (ao xA (Zv 0 (Zv 1 aj))) (Hm Hj (Zi 1)))
def qw:LD:=bO 2 uh
def lQ:bK:=bu (aM Zj (aB qt 0 (Zi 915965594177219015054603514932384110774149374281672134266497)) (aM Hi (Zi 10) (Zi 60)))
def gK:LD:=bO 1 lQ
def yE:bK:=aR (aM dw (aB qt 2 (aM Hi (Zi 10) (Zi 60))) (ao gK (aa (aM fZ (aM dw (ue (aU 0) (BP (aU 3)) (BP (aB dw 3 (Zi 1)))) (cu (aa (aM dw (aM qt (Zi 7919) (bh 3)) (Zi 61)) aj))) (Zi 0)) aj))) (ak 2)
def jC:bK:=aA (aR (Zi 0) (ak 2)) (aA (fQ (gV (cu (aa (aB dw 1 (Zi 1)) (Zv 1 aj)))) (ak 3) (yE)) (vL (cu (Zv 2 aj))))
def kY:LD:=runN 4 jC
def dq:bK:=aA (aR (ao rG (aa (aB fZ 0 (Zi 0)) (aa (bh 1) aj))) (cC 2 (aJ (Ud 0 (Zi 0)) (aJ (ak 2) cD)))) (bu (aU 2))
def aL:List D->Option (D×D):=fU 3 dq
def wK:Ev:=fX 7 8 (gb (aa (Zi 5) aj)) (ak 7) (gf (aM qD (aM yF (aB wY 5 (bh 7)) (Zi 1)) (Zi 1))) (aB fZ 2 (bh 7))
def wN:bK:=aA (aR (cQ aL 0 (aa (Zi 32) aj)) (ak 5)) (aA (aR (ao gF (aa (wK) aj)) (ak 6)) (dJ 3 (cj (Zv 4 (aa (ao cz (aa (ue (aU 6) xD (BP (Zi 4))) aj)) aj)))))
def lN:bK:=aA (aR (aM fZ (cu (aa (Zw [97]) (aa (Zw [97,98]) (aa (Zw [97,98]) (aa (Zw [97,98,99]) (aa (Zw [97,101,112,116]) (aa (Zw [109,110,122]) aj))))))) (cQ aL 0 (aa (Zi 6) aj))) (ak 1)) (aA (aR (cu (aa (Zw [115,116,111,112]) (aa (Zw [115,116,111,112,115]) (aa (Zw [115]) (aa (Zw [111,112,101,110]) (aa (Zw [97,98,99,100,101,102,103,104]) aj)))))) (ak 2)) (aA (cZ 3 (cu aj)) (aA (fQ (gV (aU 1)) (ak 4) (wN)) (bu (ao cz (aa (bh 3) aj))))))
def lK:List D->Option (D×D):=fU 7 lN
def uU:Ev:=jc.jk
def jo:bK:=bu (aM jL (Zw []) (uU))
def jZ:LD:=bO 1 jo
def wL:Ev:=fX 4 5 (gb (aa (ao eV (aa (bh 3) aj)) aj)) (ak 4) (gf (aM qD (aM yF (aB wY 2 (bh 4)) (Zi 1)) (Zi 1))) (aB fZ 3 (bh 4))
def eG:bK:=aA (gk (gf (aM qD (cQ aL 0 (aa (Zi 2) aj)) (Zi 0))) (bu (xG .non)) cL) (aA (aR (aM dw (Zi 1) (cQ aL 0 (aa (aM Eg (aM Hh (Zi 2) (ao eV (aa (bh 1) aj))) (Zi 1)) aj))) (ak 2)) (aA (aR (aM dw (Zw [35]) (bh 1)) (ak 3)) (bu (ao cz (aa (wL) aj)))))
def dI:List D->Option (D×D):=fU 4 eG
def tV:Ev:=fX 6 7 (gV (aM dw (ao wZ (aa (bh 1) aj)) (cu (aa (Zw []) aj)))) (ak 6) (gf (aB zq 6 (bh 4))) (aU 6)
def tW:bK:=aA (aR (aB fZ 1 (cQ aL 0 (aa (ao eV (aa (bh 1) aj)) aj))) (ak 4)) (aA (cZ 5 (tV)) (oA 2 (aU 4) (aB fZ 5 (cQ aL 0 (aa (ao eV (aa (bh 5) aj)) aj)))))
def tU:Ev:=fX 6 7 (gV (ao gF (aa (bh 2) aj))) (ak 6) dW (cj (Zv 6 (aa (aB gY 2 (bh 6)) aj)))
def cY:bK:=aA (gk (gf (aM qD (cQ aL 0 (aa (Zi 5) aj)) (Zi 0))) (bu (cj (aa (cj (aa (Zw []) (aa (aB fZ 1 (cQ aL 0 (aa (ao eV (aa (bh 1) aj)) aj))) aj))) aj))) cL) (aA (cZ 2 (xE)) (aA (fQ (gb (aa (aM dw (Zi 1) (cQ aL 0 (aa (Zi 3) aj))) aj)) (ak 3) (tW)) (bu (ao cz (aa (tU) aj)))))
def eE:List D->Option (D×D):=fU 6 cY
def gO:bK:=aA (aR (aM fZ (cu (aa (Zw [111,110,99,101]) (aa (Zw [97,108,111,110,103]) aj))) (cQ aL 0 (aa (Zi 2) aj))) (ak 2)) (aA (aR (cQ eE 0 (Zv 1 aj)) (ak 3)) (bu (cj (Zv 2 (Zv 3 (aa (cQ dI 0 (Zv 1 aj)) (aa (cQ dI 0 (Zv 1 aj)) aj)))))))
def iM:List D->Option (D×D):=fU 4 gO
def wM:Ev:=fX 4 5 (gb (aa (cQ aL 0 (aa (aB dw 2 (Zi 1)) aj)) aj)) (ak 4) dW (cQ iM 0 (Zv 1 aj))
def lO:bK:=aA (aR (aM fZ (cu (aa (Zw [108,101,102,116]) (aa (Zw [114,105,103,104,116]) aj))) (cQ aL 0 (aa (Zi 2) aj))) (ak 3)) (bu (cj (Zv 3 (aa (ao cz (aa (wM) aj)) aj))))
def lL:List D->Option (D×D):=fU 4 lO
def yD:Ev:=fX 3 4 (gb (aa (cQ aL 0 (aa (aB dw 2 (Zi 1)) aj)) aj)) (ak 3) dW (aB fZ 1 (cQ aL 0 (aa (ao eV (aa (bh 1) aj)) aj)))
def nO:bK:=bu (aM jL (Zw []) (yD))
def nG:List D->Option (D×D):=fU 3 nO
def zH:bK:=aA (aR (xG .non) (ak 2)) (aA (aR (ao lJ (Zv 0 (Zv 1 aj))) (ak 2)) (bu (aU 2)))
def j7:LD:=bO 3 zH
def DW:Ev:=fX 12 13 (gV (aB fZ 4 (Zi 1))) (ak 12) dW (ao fJ (Zv 12 aj))
def rC:bK:=aA (aR (ao fV (Zv 4 (Zv 9 (Zv 10 aj)))) (ak 11)) (aA (gk (gf (aM zq (ao fV (Zv 6 (Zv 9 (Zv 10 aj)))) (bh 11))) (bu (xG (.bl false))) cL) (aR (aB fZ 11 (Zi 0)) (ak 9)))
def rB:bK:=aA (aR (Jx nG (ao kY (Zv 0 (Zv 7 aj))) (Zv 3 (aa (Zi 6) aj))) (ak 8)) (aA (aR (ao bG (Zv 4 aj)) (ak 9)) (aA (fQ (gV (aU 8)) (ak 10) (rC)) (gk (Ep (gf (aM zq (ao kZ (Zv 4 (Zv 9 aj))) (ao kZ (Zv 6 (Zv 9 aj))))) (gf (aM zq (ao qw (Zv 6 (aa (mQ (aU 8)) aj))) (mQ (ao qw (Zv 4 (Zv 8 aj))))))) (bu (xG (.bl false))) cL)))
def V7:bK:=aA (cZ 1 (ao kY (Zv 0 (aa (Zi 0) aj)))) (aA (aR (cQ lK 1 aj) (ak 2)) (aA (aR (ao jZ (Zv 2 aj)) (ak 3)) (aA (aR (cQ lL 1 (Zv 3 (aa (Zi 3) aj))) (ak 4)) (aA (aR (Qw (Zw [108,101,102,116]) (Zw [114,105,103,104,116]) (Zw [114,105,103,104,116]) (Zw [108,101,102,116])) (ak 5)) (aA (aR (cj (aa (aB gY 5 (aB fZ 4 (Zi 0))) (aa (ao cz (aa (DW) aj)) aj))) (ak 6)) (aA (gk (Ep (gf (aM zq (ao bG (Zv 4 aj)) (ao bG (Zv 6 aj)))) (gf (aM zq (ao j7 (Zv 2 (Zv 4 aj))) (ao j7 (Zv 2 (Zv 6 aj)))))) (bu (xG (.bl false))) cL) (aA (fQ (gb (aa (Zi 2) (aa (ao Lf (aa (Zi 3) (aa (ao Le (aa (ao eV (aa (bh 0) aj)) (aa (Zi 8) aj))) aj))) aj))) (ak 7) (rB)) (bu (xG (.bl true))))))))))
def Ju:LD:=bO 12 V7
end
open PySem PySem.Spec PyProof.Rows L2 Ev
def top(i:Nat):Stmt:=PySem.Challenge.pw_soundrules_k18_whole_sides_turned.main.body.getD i (.Pass ⟨0,0,0,0⟩)
abbrev oH:Stmt:=top 5
abbrev Gw:Stmt:=top 7
abbrev vR:Stmt:=top 8
abbrev sZ:Stmt:=top 9
abbrev jR:Stmt:=top 12
abbrev jy:Stmt:=top 13
abbrev jf:Stmt:=top 14
abbrev jT:Stmt:=top 15
abbrev m8:Stmt:=top 16
abbrev pZ:Stmt:=top 17
abbrev oF:Stmt:=top 18
abbrev sY:Stmt:=top 19
abbrev vU:Stmt:=top 20
abbrev p6:Stmt:=top 21
abbrev oG:Stmt:=top 22
abbrev lU:Stmt:=top 24
abbrev kE:Stmt:=top 25
abbrev oO:Stmt:=top 26
abbrev tD:Stmt:=top 27
abbrev Gu:Stmt:=top 28
abbrev Gv:Stmt:=top 29
abbrev oN:Stmt:=top 31
abbrev qd:Stmt:=top 32
abbrev p8:Stmt:=top 33
abbrev oJ:Stmt:=top 34
abbrev m9:Stmt:=top 35
abbrev oK:Stmt:=top 36
abbrev lV:Stmt:=top 37
abbrev qb:Stmt:=top 38
abbrev oM:Stmt:=top 39
abbrev p7:Stmt:=top 40
abbrev tu:Stmt:=top 41
abbrev M7:Stmt:=top 42
structure Top(K:Fg)(mg:Str->Option Value):Prop where
 Jc:mg "dict" = none
 K1:mg "divmod" = none
 Ax:mg "enumerate" = none
 jX:mg "len" = none
 Tq:mg "list" = none
 Yu:mg "max" = none
 Yt:mg "min" = none
 mJ:mg "range" = none
 tO:mg "sorted" = none
 eU:mg "tuple" = none
 Pk:mg "zip" = none
 cG:Glb K mg "EDGE" (.str [35])
 fG:Glb K mg "MOST_STANDINGS" (.int 600)
 Ck:dD K mg "sounds_of" oH ["stock"]
 Wz:dD K mg "fits" Gw ["signs","sign"]
 MF:dD K mg "turned" vR ["rule"]
 J6:dD K mg "puts_in" sZ ["rule"]
 uN:dD K mg "reading_rules" jR ["order"]
 sJ:dD K mg "first_standing" jy ["order"]
 qM:dD K mg "read_putting_in" jf Zq6
 uO:dD K mg "read_changing" jT Zq6
 zU:dD K mg "read_signs" m8 Z5
 Ga:dD K mg "watch_on" pZ Zq7
 Ci:dD K mg "watch_end" oF Z2
 J5:dD K mg "read_on" sY Zq7
 MJ:dD K mg "end_of" vU Z2
 Gb:dD K mg "readings" p6 Z1
 Cj:dD K mg "standings" oG Z1
 yp:dD K mg "with_put_in" lU Rg
 vK:dD K mg "with_changes" kE Rg
 Cv:dD K mg "from_left" oO Rg
 J8:dD K mg "changed" tD Zq8
 Wx:dD K mg "walk" Gu Z0
 Wy:dD K mg "made" Gv Z0
 Cu:dD K mg "_law_mixed" oN ["_law_cell"]
 Gg:dD K mg "_law_pack" qd ["_law_script","_law_k"]
 Ge:dD K mg "_law_take" p8 Z4
 Cp:dD K mg "_law_stock" oJ ["_law_pack_here"]
 zV:dD K mg "_law_sounds" m9 Zq9
 Cq:dD K mg "_law_signs" oK UL
 yq:dD K mg "_law_changes" lV UL
 Gf:dD K mg "_law_rule" qb UL
 Cr:dD K mg "_law_order" oM ZZ
 Gd:dD K mg "_law_word" p7 ZZ
 J7:dD K mg "_law_all" tu Z3
section
variable{P:Program}{w:World}{K:Fg}{mg:Str->Option Value}{base:Heap}(Z:Top K mg)
theorem Aa:bC ["stock"] ["stock"] (aO oH):=ie
include Z in
theorem Dq:Own P w K mg base "sounds_of" 1 ["stock"] (oE K 1 d9):=by exact cA (k:=0) Z.Ck Aa (λf cdv A outer s H E hr G=>(fO.u (aF (aY (eO G Z.eU (bf (aZ (fc (pK ["stock","sound","marks"] 1 lg G (jl G (bI 0)) (λX1 h1=>by have G:=G.at h1;obtain⟨_,_,_,_,_,rfl⟩:=h1;exact(fB G (aG (aN 1) (aG (aN 2) bU)))) (λX1 h1=>by have G:=G.at h1;obtain⟨_,_,_,_,_,rfl⟩:=h1;exact iW) (λX1 h1=>by have G:=G.at h1;obtain⟨_,_,_,_,_,rfl⟩:=h1;exact(bI 1)))))))))))
theorem RG:bC ["signs","sign"] ["signs","sign"] (aO Gw):=ie
include Z in
theorem lW:Own P w K mg base "fits" 1 ["signs","sign"] (oE K 2 cP):=by exact cA (k:=0) Z.Wz RG (λf cdv A outer s H E hr G=>(fO.u (aF (aY (Oa (zR 0 aet (aZ Ak)) (Iu (zR 1 (aeu G) (cV 0))))))))
theorem Kf:bC ["rule","way","changes","left","right"] ["rule"] (aO vR):=ie
include Z in
theorem wC:Own P w K mg base "turned" 1 ["rule"] (oE K 1 fJ):=by
 exact cA (k:=0) Z.MF Kf (λf cdv A outer s H E hr G=>(fO.u (aq (dX (bI 0) (fB G (aG (aN 1) (aG (aN 2) (aG (aN 3) (aG (aN 4) bU))))))
   (aF (aY (cN (cR 1 (cR 2 (cR 4 (cR 3 au))))))))))
theorem Gq:bC ["rule"] ["rule"] (aO sZ):=ie
include Z in
theorem zc:Own P w K mg base "puts_in" 1 ["rule"] (oE K 1 dO):=by exact cA (k:=0) Z.J6 Gq (λf cdv A outer s H E hr G=>(fO.u (aF (aY (Wk (xX G) (oh G (oh G (gC 0 G (aZ aV)) (aZ aV)) (aZ aV)) (aZ (bL [])))))))
theorem sW:bC ["order","side","rules"] ["order"] (aO jR):=ie
include Z in
theorem jW:Own P w K mg base "reading_rules" 2 ["order"] (oE K 1 bY):=by
 exact cA (k:=1) Z.uN sW (λf cdv A outer s H E hr G=>(fO.u (aq (dX (bI 0) (fB G (aG (aN 1) (aG (aN 2) bU))))
   (aq (dM (jE 1 (xX G) (aZ (bL [114,105,103,104,116]))) (aF (aY (eO G Z.eU (bf (aZ (fc (pK ["order","side","rules","rule"] 3 lg G (jl G (bI 2)) (λX1 h1=>by have G:=G.at h1;obtain⟨_,_,_,_,_,rfl⟩:=h1;exact(aN 3)) (λX1 h1=>by have G:=G.at h1;obtain⟨_,_,_,_,_,rfl⟩:=h1;exact iW) (λX1 h1=>by have G:=G.at h1;obtain⟨_,_,_,_,_,rfl⟩:=h1;exact(bJ (wC Z) G hr (cR 3 au) (bj len0)))))))))) cJ)
   (aF (aY (bI 2)))))))
theorem qU:bC ["order"] ["order"] (aO jy):=ie
include Z in
theorem gR:Own P w K mg base "first_standing" 3 ["order"] (oE K 1 bG):=by obtain⟨FJ,FN,cG⟩:=Z.cG;exact cA (k:=2) Z.sJ qU (λf cdv A outer s H E hr G=>(fO.u (aF (aY (eO G Z.eU (bf (aZ (fc (pK ["order","way","changes","left","right"] 1 lg G (jl G (bJ (jW Z) G hr (cR 0 au) (bj len0))) (λX1 h1=>by have G:=G.at h1;obtain⟨_,_,_,_,_,rfl⟩:=h1;exact(fB G (aG (aN 1) (aG (aN 2) (aG (aN 3) (aG (aN 4) bU)))))) (λX1 h1=>by have G:=G.at h1;obtain⟨_,_,_,_,_,rfl⟩:=h1;exact iW) (λX1 h1=>by have G:=G.at h1;obtain⟨_,_,_,_,_,rfl⟩:=h1;exact(cN (aC (bJ (lW Z) G hr (cR 3 (aC (kI (.str [35]) rfl cG.1 cG.2.1 (λF=>cG.2.2 F)) au)) (bj (bj len0))) (aC (bL []) au)))))))))))))
theorem pW:bC acA Zq6 (aO jf):=ie
include Z in
theorem rn:Own P w K mg base "read_putting_in" 2 Zq6 (oE K 3 cH):=by
 exact cA (k:=1) Z.qM pW (λf cdv A outer s H E hr G=>(fO.u (aq (dX (bI 0) (fB G (aG (aN 3) (aG (aN 4) (aG (aN 5) (aG (aN 6) bU))))))
   (aq (dX (bI 1) (fB G (aG (aN 7) (aG (aN 8) bU))))
   (aq (bT 9 (bI 8))
   (aq (dM (pH (oU (iy (bI 7)) (pA (iy (bJ (lW Z) G hr (cR 6 (cR 2 au)) (bj (bj len0))))))) (aF (bT 9 (gQ 8 (jY G) (aZ (oh G (gC 4 G (aZ aV)) (aZ aV)))))) cJ)
   (aF (aY (cN (aC (cN (aC (bJ (lW Z) G hr (cR 5 (cR 2 au)) (bj (bj len0))) (cR 2 au))) (cR 9 au)))))))))))
theorem sX:bC acA Zq6 (aO jT):=ie
include Z in
theorem uT:Own P w K mg base "read_changing" 2 Zq6 (oE K 3 cO):=by
 exact cA (k:=1) Z.uO sX (λf cdv A outer s H E hr G=>(fO.u (aq (dX (bI 0) (fB G (aG (aN 3) (aG (aN 4) (aG (aN 5) (aG (aN 6) bU))))))
   (aq (dX (bI 1) (fB G (aG (aN 7) (aG (aN 8) bU))))
   (aq (dM (jE 8 (xX G) (aZ (bL []))) (aF (aY (cN (aC (cN (cR 7 (cR 2 au))) (aC (bL []) au))))) cJ)
   (aq (bT 9 (bI 8))
   (aq (dM (pH (oU (iy (bI 7)) (pA (iy (bJ (lW Z) G hr (cR 6 (cR 2 au)) (bj (bj len0))))))) (aF (bT 9 (Rm G (HQ G Z.Jc (bf (cV 4))) (bI 8) (bI 8)))) cJ)
   (aq (dM (jE 3 (xX G) (aZ (bL [111,110,99,101]))) (aF (aY (cN (aC (cN (aC (bJ (lW Z) G hr (cR 5 (cR 8 au)) (bj (bj len0))) (cR 2 au))) (cR 9 au))))) cJ)
   (aq (dM (jE 9 (xX G) (aZ (bL []))) (aF (aY (cN (aC (cN (cR 7 (cR 2 au))) (cR 9 au))))) cJ)
   (aF (aY (cN (aC (cN (aC (bJ (lW Z) G hr (cR 5 (cR 9 au)) (bj (bj len0))) (cR 2 au))) (cR 9 au))))))))))))))
theorem yt:bC ["rule","standing","signs","puts","acting","sign","held","put"] Z5 (aO m8):=ie
include Z in
theorem rm:Own P w K mg base "read_signs" 3 Z5 (oE K 3 dZ):=by
 exact cA (k:=2) Z.zU yt (λf cdv A outer s H E hr G=>(fO.u (aq (jg 3 (dB au))
   (aq (bT 4 vY)
   (aq (jU G (jl G (bI 2)) (aN 5) (aq (bT 6 (gC 1 G (aZ aV)))
   (aq (dM (iy (bJ (zc Z) G hr (cR 0 au) (bj len0))) (aF (dX (bJ (rn Z) G hr (cR 0 (cR 1 (cR 5 au))) (bj (bj (bj len0)))) (fB G (aG (aN 1) (aG (aN 7) bU))))) (aF (dX (bJ (uT Z) G hr (cR 0 (cR 1 (cR 5 au))) (bj (bj (bj len0)))) (fB G (aG (aN 1) (aG (aN 7) bU))))))
   (aq (bT 4 (Oa (bI 4) (Iu (zR 7 (Fb G) (cV 6)))))
   (aF (jV 3 G (bI 7)))))))
   (aF (aY (cN (cR 1 (aC (qG G (bL []) (cV 3)) (cR 4 au)))))))))))
theorem CJ:bC ["order","standing","sound","put","behind","acting","rule","own","new","acts_here"] Zq7 (aO pZ):=ie
include Z in
theorem GX:Own P w K mg base "watch_on" 4 Zq7 (oE K 3 kW):=by
 exact cA (k:=3) Z.Ga CJ (λf cdv A outer s H E hr G=>(fO.u (aq (bT 3 (bI 2))
   (aq (jg 4 (dB au))
   (aq (jg 5 (dB au))
   (aq (jU G (Qk G Z.Pk (aC (bJ (jW Z) G hr (cR 0 au) (bj len0)) (cR 1 au))) (fB G (aG (aN 6) (aG (aN 7) bU))) (aq (dX (bJ (rm Z) G hr (cR 6 (cR 7 (cR 3 au))) (bj (bj (bj len0)))) (fB G (aG (aN 8) (aG (aN 3) (aG (aN 9) bU)))))
   (aq (jV 4 G (bI 8))
   (aF (jV 5 G (bI 9))))))
   (aF (aY (cN (aC (eO G Z.eU (bf (cV 4))) (cR 3 (aC (eO G Z.eU (bf (cV 5))) au))))))))))))
theorem z8:bC ["order","standing","put","acting","rule","own","new","acts_here"] Z2 (aO oF):=ie
include Z in
theorem Dm:Own P w K mg base "watch_end" 4 Z2 (oE K 2 jM):=by
 obtain⟨FJ,FN,cG⟩:=Z.cG;exact cA (k:=3) Z.Ci z8 (λf cdv A outer s H E hr G=>(fO.u (aq (bT 2 (bL []))
   (aq (jg 3 (dB au))
   (aq (jU G (Qk G Z.Pk (aC (bJ (jW Z) G hr (cR 0 au) (bj len0)) (cR 1 au))) (fB G (aG (aN 4) (aG (aN 5) bU))) (aq (dX (bJ (rm Z) G hr (cR 4 (cR 5 (aC (gQ 2 (jY G) (aZ (kI (.str [35]) rfl cG.1 cG.2.1 (λF=>cG.2.2 F)))) au))) (bj (bj (bj len0)))) (fB G (aG (aN 6) (aG (aN 2) (aG (aN 7) bU)))))
   (aF (jV 3 G (bI 7)))))
   (aF (aY (cN (cR 2 (aC (eO G Z.eU (bf (cV 3))) au))))))))))
theorem Gp:bC ["order","standing","sound","behind","put","acting"] Zq7 (aO sY):=ie
include Z in
theorem tM:Own P w K mg base "read_on" 5 Zq7 (oE K 3 fV):=by
 exact cA (k:=4) Z.J5 Gp (λf cdv A outer s H E hr G=>(fO.u (aq (dX (bJ (GX Z) G hr (cR 0 (cR 1 (cR 2 au))) (bj (bj (bj len0)))) (fB G (aG (aN 3) (aG (aN 4) (aG (aN 5) bU)))))
   (aF (aY (cN (cR 3 (cR 4 au))))))))
theorem Kg:bC Z2 Z2 (aO vU):=ie
include Z in
theorem Du:Own P w K mg base "end_of" 5 Z2 (oE K 2 kZ):=by exact cA (k:=4) Z.MJ Kg (λf cdv A outer s H E hr G=>(fO.u (aF (aY (oh G (bJ (Dm Z) G hr (cR 0 (cR 1 au)) (bj (bj len0))) (aZ aV))))))
theorem CK:bC ["stock","order","found","places","rows","steps","sound","behind","put"] Z1 (aO p6):=ie
include Z in
theorem GZ:Own P w K mg base "readings" 6 Z1 (oE K 2 nD):=by
 obtain⟨JX,JZ,fG⟩:=Z.fG;exact cA (k:=5) Z.Gb CK (λf cdv A outer s H E hr G=>(fO.u (aq (jg 2 (dB (aC (bJ (gR Z) G hr (cR 1 au) (bj len0)) au)))
   (aq (jg 3 (Kp G (gC 2 G (aZ aV)) aV))
   (aq (jg 4 (dB au))
   (aq (M6 7000 G (kh aes (jP G Z.jX (bf (cV 4))) (aZ (jP G Z.jX (bf (cV 2))))) (aq (jg 5 (dB au))
   (aq (jU G (jl G (bJ (Dq Z) G hr (cR 0 au) (bj len0))) (aN 6) (aq (dX (bJ (tM Z) G hr (cR 1 (aC (gC 2 G (aZ (jP G Z.jX (bf (cV 4))))) (cR 6 au))) (bj (bj (bj len0)))) (fB G (aG (aN 7) (aG (aN 8) bU))))
   (aq (dM (jE 7 (QR G) (cV 3)) (aq (M8 3 G (bI 7) (jP G Z.jX (bf (cV 2))))
   (aF (jV 2 G (bI 7)))) cJ)
   (aF (jV 5 G (cN (cR 8 (aC (Mp 3 G (cV 7)) au))))))))
   (aq (dM (kh aev (jP G Z.jX (bf (cV 2))) (aZ (kI (.int 600) rfl fG.1 fG.2.1 (λF=>fG.2.2 F)))) (aF GF) cJ)
   (aF (jV 4 G (eO G Z.eU (bf (cV 5)))))))))
   (aF (aY (cN (cR 2 (cR 4 au)))))))))))
theorem z9:bC Z1 Z1 (aO oG):=ie
include Z in
theorem Dp:Own P w K mg base "standings" 7 Z1 (oE K 2 lJ):=by exact cA (k:=6) Z.Cj z9 (λf cdv A outer s H E hr G=>(fO.u (aF (aY (eO G Z.eU (bf (aZ (Ml G Z.tO (bf (aZ (oh G (bJ (GZ Z) G hr (cR 0 (cR 1 au)) (bj (bj len0))) (aZ aV))))))))))))
theorem vP:bC ["rule","word","way","changes","left","right","new","made_of","ahead","sign"] Rg (aO lU):=ie
include Z in
theorem yx:Own P w K mg base "with_put_in" 2 Rg (oE K 2 fL):=by
 obtain⟨FJ,FN,cG⟩:=Z.cG;exact cA (k:=1) Z.yp vP (λf cdv A outer s H E hr G=>(fO.u (aq (dX (bI 0) (fB G (aG (aN 2) (aG (aN 3) (aG (aN 4) (aG (aN 5) bU))))))
   (aq (bT 6 (oh G (gC 3 G (aZ aV)) (aZ aV)))
   (aq (jg 7 (dB au))
   (aq (bT 8 (kI (.str [35]) rfl cG.1 cG.2.1 (λF=>cG.2.2 F)))
   (aq (jU G (jl G (gQ 1 (jY G) (aZ (kI (.str [35]) rfl cG.1 cG.2.1 (λF=>cG.2.2 F))))) (aN 9) (aq (dM (pH (oU (iy (bJ (lW Z) G hr (cR 4 (cR 8 au)) (bj (bj len0)))) (pA (iy (bJ (lW Z) G hr (cR 5 (cR 9 au)) (bj (bj len0))))))) (aF (jV 7 G (bI 6))) cJ)
   (aq (jV 7 G (bI 9))
   (aF (bT 8 (bI 9))))))
   (aF (aY (qG G (bL []) (aZ (Mm G (bI 7) yW (pB (Fx aV))))))))))))))
theorem uQ:bC ["rule","word","way","changes","left","right","becomes","signs","made_of","ahead","at","sound","new"] Rg (aO kE):=ie
include Z in
theorem wB:Own P w K mg base "with_changes" 2 Rg (oE K 2 eY):=by
 obtain⟨FJ,FN,cG⟩:=Z.cG;exact cA (k:=1) Z.vK uQ (λf cdv A outer s H E hr G=>(fO.u (aq (dX (bI 0) (fB G (aG (aN 2) (aG (aN 3) (aG (aN 4) (aG (aN 5) bU))))))
   (aq (bT 6 (HQ G Z.Jc (bf (cV 3))))
   (aq (bT 7 (gQ 1 (jY G) (aZ (kI (.str [35]) rfl cG.1 cG.2.1 (λF=>cG.2.2 F)))))
   (aq (jg 8 (dB au))
   (aq (bT 9 (kI (.str [35]) rfl cG.1 cG.2.1 (λF=>cG.2.2 F)))
   (aq (jU G (T9 Z.Ax (cR 1 au)) (fB G (aG (aN 10) (aG (aN 11) bU))) (aq (bT 12 (bI 11))
   (aq (dM (pH (oU (jE 11 (Uy G) (cV 6)) (oU (iy (bJ (lW Z) G hr (cR 4 (cR 9 au)) (bj (bj len0)))) (pA (iy (bJ (lW Z) G hr (cR 5 (aC (gC 7 G (aZ (gQ 10 (jY G) (aZ aV)))) au)) (bj (bj len0)))))))) (aF (bT 12 (vH 6 G (cV 11)))) cJ)
   (aq (jV 8 G (bI 12))
   (aF (dM (jE 2 (xX G) (aZ (bL [111,110,99,101]))) (aF (bT 9 (bI 11))) (aF (dM (jE 12 (Fb G) (aZ (bL []))) (aF (bT 9 (bI 12))) cJ))))))))
   (aF (aY (qG G (bL []) (cV 8))))))))))))
theorem Af:bC Rg Rg (aO oO):=ie
include Z in
theorem ux:Own P w K mg base "from_left" 3 Rg (oE K 2 eF):=by
 exact cA (k:=2) Z.Cv Af (λf cdv A outer s H E hr G=>(fO.u (aq (dM (iy (bJ (zc Z) G hr (cR 0 au) (bj len0))) (aF (aY (bJ (yx Z) G hr (cR 0 (cR 1 au)) (bj (bj len0))))) cJ)
   (aF (aY (bJ (wB Z) G hr (cR 0 (cR 1 au)) (bj (bj len0))))))))
theorem Gs:bC Zq8 Zq8 (aO tD):=ie
include Z in
theorem KY:Own P w K mg base "changed" 4 Zq8 (oE K 3 fW):=by
 exact cA (k:=3) Z.J8 Gs (λf cdv A outer s H E hr G=>(fO.u (aq (dM (jE 0 (xX G) (aZ (bL [114,105,103,104,116]))) (aF (aY (zQ (bJ (ux Z) G hr (aC (bJ (wC Z) G hr (cR 1 au) (bj len0)) (aC (zQ (bI 2)) au)) (bj (bj len0)))))) cJ)
   (aF (aY (bJ (ux Z) G hr (cR 1 (cR 2 au)) (bj (bj len0))))))))
theorem RC:bC ["order","word","side","rules","words","rule"] Z0 (aO Gu):=ie
include Z in
theorem Yq:Own P w K mg base "walk" 5 Z0 (oE K 2 xA):=by
 exact cA (k:=4) Z.Wx RC (λf cdv A outer s H E hr G=>(fO.u (aq (dX (bI 0) (fB G (aG (aN 2) (aG (aN 3) bU))))
   (aq (jg 4 (dB (cR 1 au)))
   (aq (jU G (jl G (bI 3)) (aN 5) (aF (jV 4 G (bJ (KY Z) G hr (cR 2 (cR 5 (aC (gC 4 G (aZ (Fx aV))) au))) (bj (bj (bj len0)))))))
   (aF (aY (eO G Z.eU (bf (cV 4))))))))))
theorem RD:bC Z0 Z0 (aO Gv):=ie
include Z in
theorem O9:Own P w K mg base "made" 6 Z0 (oE K 2 qw):=by exact cA (k:=5) Z.Wy RD (λf cdv A outer s H E hr G=>(fO.u (aF (aY (oh G (bJ (Yq Z) G hr (cR 0 (cR 1 au)) (bj (bj len0))) (aZ (Fx aV)))))))
theorem Ae:bC ["_law_cell"] ["_law_cell"] (aO oN):=ie
include Z in
theorem Dt:Own P w K mg base "_law_mixed" 1 ["_law_cell"] (oE K 1 gK):=by exact cA (k:=0) Z.Cu Ae (λf cdv A outer s H E hr G=>(fO.u (aF (aY (iH acx (gQ 0 QS (aZ aV)) (aZ (iH V6 aV (aZ aV))))))))
theorem CT:bC ["_law_script","_law_k","_law_found","_law_at"] ["_law_script","_law_k"] (aO qd):=ie
include Z in
theorem wD:Own P w K mg base "_law_pack" 2 ["_law_script","_law_k"] (WT K 2 kY):=by
 exact Tc (k:=1) Z.Gg CT (λf cdv A outer s H E hr G=>(fO.u (aq (bT 2 aV)
   (aq (jU G (jl G (fc (dB (aC (gQ 1 (jY G) (aZ aV)) (cR 1 au))))) (aN 3) (aF (bT 2 (iH (jY G) (gQ 2 QS (aZ (iH V6 aV (aZ aV)))) (aZ (bJ (Dt Z) G hr (aC (oh G (iH (jY G) (Mm G (bI 0) (pB (bI 3)) (pB (gQ 3 (jY G) (aZ aV)))) (aZ (fc (dB (aC (iH (jY G) (iH QS aV (cV 3)) (aZ aV)) au))))) (aZ aV)) au) (bj len0)))))))
   (aF (Df (dB (cR 2 au))))))))
theorem CP:bC ["_law_pack_here","_law_size","_law_digit"] Z4 (aO p8):=ie
include Z in
theorem dg:Own P w K mg base "_law_take" 1 Z4 (pI K 2 aL):=by
 exact ql (k:=0) Z.Ge CP (λf cdv A outer s H E a hr G=>(fO.u (aq (dX (JW G Z.K1 (qj (gC 0 G (aZ aV)) (bf (cV 1)))) (fB G (aG (ace 0 aV) (aG (aN 2) bU))))
   (aF (aY (bI 2))))))
theorem Ab:bC ["_law_pack_here","_law_sounds_here","_law_known","_law_found","_law_sound","_law_number","_law_marks"] ["_law_pack_here"] (aO oJ):=ie
include Z in
theorem Dr:Own P w K mg base "_law_stock" 2 ["_law_pack_here"] (pI K 1 lK):=by
 exact ql (k:=1) Z.Cp Ab (λf cdv A outer s H E a hr G=>(fO.u (aq (bT 1 (oh G (fc (Tr (j5 (bL [97]) (j5 (bL [97,98]) (j5 (bL [97,98]) (j5 (bL [97,98,99]) (j5 (bL [97,101,112,116]) (j5 (bL [109,110,122]) N5)))))))) (aZ (iV 0 (dg Z) G hr (aC aV au) (iC (bj len0))))))
   (aq (bT 2 (fc (dB (aC (bL [115,116,111,112]) (aC (bL [115,116,111,112,115]) (aC (bL [115]) (aC (bL [111,112,101,110]) (aC (bL [97,98,99,100,101,102,103,104]) au))))))))
   (aq (jg 3 (dB au))
   (aq (jU G (jl G (bI 1)) (aN 4) (aq (bT 5 (iV 0 (dg Z) G hr (aC aV au) (iC (bj len0))))
   (aq (bT 6 (yK G Z.tO (bf (aZ (fc (pK ["_law_pack_here","_law_sounds_here","_law_known","_law_found","_law_sound","_law_number","_law_marks","_law_k"] 7 lg G (rE Z.mJ (aC aV au) (bj len0)) (λX1 h1=>by have G:=G.at h1;obtain⟨_,_,_,_,_,rfl⟩:=h1;exact(aN 7)) (λX1 h1=>by have G:=G.at h1;obtain⟨_,_,_,_,_,rfl⟩:=h1;exact(tK (kh (xX G) (iH V8 (gQ 5 V5 (cV 7)) (aZ aV)) (aZ aV)))) (λX1 h1=>by have G:=G.at h1;obtain⟨_,_,_,_,_,rfl⟩:=h1;exact(gC 2 G (cV 7)))))))))
   (aF (jV 3 G (cN (cR 4 (aC (eO G Z.eU (bf (aZ (Mm G (bI 6) yW (pB aV))))) au))))))))
   (aF (aY (eO G Z.eU (bf (cV 3)))))))))))
theorem yu:bC Zq9 Zq9 (aO m9):=ie
include Z in
theorem Aq:Own P w K mg base "_law_sounds" 1 Zq9 (oE K 1 jZ):=by exact cA (k:=0) Z.zV yu (λf cdv A outer s H E hr G=>(fO.u (aF (aY (qG G (bL []) (aZ (fc (pK ["_law_stock_here","_law_sound","_law_marks"] 1 lg G (jl G (bI 0)) (λX1 h1=>by have G:=G.at h1;obtain⟨_,_,_,_,_,rfl⟩:=h1;exact(fB G (aG (aN 1) (aG (aN 2) bU)))) (λX1 h1=>by have G:=G.at h1;obtain⟨_,_,_,_,_,rfl⟩:=h1;exact iW) (λX1 h1=>by have G:=G.at h1;obtain⟨_,_,_,_,_,rfl⟩:=h1;exact(bI 1))))))))))
theorem Ac:bC ["_law_pack_here","_law_sounds_here","_law_number","_law_signs_here"] UL (aO oK):=ie
include Z in
theorem uw:Own P w K mg base "_law_signs" 2 UL (pI K 2 dI):=by
 exact ql (k:=1) Z.Cq Ac (λf cdv A outer s H E a hr G=>(fO.u (aq (dM (kh (xX G) (iV 0 (dg Z) G hr (aC aV au) (iC (bj len0))) (aZ aV)) (aF (aY Ak)) cJ)
   (aq (bT 2 (iH (jY G) aV (aZ (iV 0 (dg Z) G hr (aC (iH acv (iH acw aV (aZ (jP G Z.jX (bf (cV 1))))) (aZ aV)) au) (iC (bj len0))))))
   (aq (bT 3 (iH (jY G) (bL [35]) (cV 1)))
   (aF (aY (eO G Z.eU (bf (aZ (fc (pK ["_law_pack_here","_law_sounds_here","_law_number","_law_signs_here","_law_k"] 4 lg G (rE Z.mJ (aC (jP G Z.jX (bf (cV 3))) au) (bj len0)) (λX1 h1=>by have G:=G.at h1;obtain⟨_,_,_,_,_,rfl⟩:=h1;exact(aN 4)) (λX1 h1=>by have G:=G.at h1;obtain⟨_,_,_,_,_,rfl⟩:=h1;exact(tK (kh (xX G) (iH V8 (gQ 2 V5 (cV 4)) (aZ aV)) (aZ aV)))) (λX1 h1=>by have G:=G.at h1;obtain⟨_,_,_,_,_,rfl⟩:=h1;exact(gC 3 G (cV 4)))))))))))))))
theorem vQ:bC ["_law_pack_here","_law_sounds_here","_law_found","_law_turn","_law_one","_law_others"] UL (aO lV):=ie
include Z in
theorem yz:Own P w K mg base "_law_changes" 2 UL (pI K 2 eE):=by
 exact ql (k:=1) Z.yq vQ (λf cdv A outer s H E a hr G=>(fO.u (aq (dM (kh (xX G) (iV 0 (dg Z) G hr (aC aV au) (iC (bj len0))) (aZ aV)) (aF (aY (cN (aC (cN (aC (bL []) (aC (gC 1 G (aZ (iV 0 (dg Z) G hr (aC (jP G Z.jX (bf (cV 1))) au) (iC (bj len0))))) au))) au)))) cJ)
   (aq (jg 2 Kq)
   (aq (jU G (rE Z.mJ (aC (iH (jY G) aV (aZ (iV 0 (dg Z) G hr (aC aV au) (iC (bj len0))))) au) (bj len0)) (aN 3) (aq (bT 4 (gC 1 G (aZ (iV 0 (dg Z) G hr (aC (jP G Z.jX (bf (cV 1))) au) (iC (bj len0))))))
   (aq (aaV ["_law_pack_here","_law_sounds_here","_law_found","_law_turn","_law_one","_law_others","_law_sound"] 6 5 lg G (jl G (iH (jY G) (Rk G Z.Tq (bf (cV 1))) (aZ (fc (dB (aC (bL []) au)))))) (λX1 h1=>by have G:=G.at h1;obtain⟨_,_,_,_,_,rfl⟩:=h1;exact(aN 6)) (λX1 h1=>by have G:=G.at h1;obtain⟨_,_,_,_,_,rfl⟩:=h1;exact(tK (jE 6 (Fb G) (cV 4)))) (λX1 h1=>by have G:=G.at h1;obtain⟨_,_,_,_,_,rfl⟩:=h1;exact(bI 6)))
   (aF (RJ 2 G (bI 4) (gC 5 G (aZ (iV 0 (dg Z) G hr (aC (jP G Z.jX (bf (cV 5))) au) (iC (bj len0))))))))))
   (aF (aY (eO G Z.eU (bf (aZ (fc (pK ["_law_pack_here","_law_sounds_here","_law_found","_law_turn","%4","_law_others","_law_one"] 6 lg G (jl G (yK G Z.tO (bf (cV 2)))) (λX1 h1=>by have G:=G.at h1;obtain⟨_,_,_,_,_,rfl⟩:=h1;exact(aN 6)) (λX1 h1=>by have G:=G.at h1;obtain⟨_,_,_,_,_,rfl⟩:=h1;exact iW) (λX1 h1=>by have G:=G.at h1;obtain⟨_,_,_,_,_,rfl⟩:=h1;exact(cN (cR 6 (aC (vH 2 G (cV 6)) au))))))))))))))))
theorem CQ:bC ["_law_pack_here","_law_sounds_here","_law_how","_law_changes_here"] UL (aO qb):=ie
include Z in
theorem G4:Own P w K mg base "_law_rule" 3 UL (pI K 2 iM):=by
 exact ql (k:=2) Z.Gf CQ (λf cdv A outer s H E a hr G=>(fO.u (aq (bT 2 (oh G (fc (dB (aC (bL [111,110,99,101]) (aC (bL [97,108,111,110,103]) au)))) (aZ (iV 0 (dg Z) G hr (aC aV au) (iC (bj len0))))))
   (aq (bT 3 (iV 0 (yz Z) G hr (cR 1 au) (iC (bj len0))))
   (aF (aY (cN (cR 2 (cR 3 (aC (iV 0 (uw Z) G hr (cR 1 au) (iC (bj len0))) (aC (iV 0 (uw Z) G hr (cR 1 au) (iC (bj len0))) au)))))))))))
theorem Ad:bC ["_law_pack_here","_law_sounds_here","_law_most","_law_side"] ZZ (aO oM):=ie
include Z in
theorem Ds:Own P w K mg base "_law_order" 4 ZZ (pI K 3 lL):=by
 exact ql (k:=3) Z.Cr Ad (λf cdv A outer s H E a hr G=>(fO.u (aq (bT 3 (oh G (fc (dB (aC (bL [108,101,102,116]) (aC (bL [114,105,103,104,116]) au)))) (aZ (iV 0 (dg Z) G hr (aC aV au) (iC (bj len0))))))
   (aF (aY (cN (cR 3 (aC (eO G Z.eU (bf (aZ (fc (pK ["_law_pack_here","_law_sounds_here","_law_most","_law_side","_law_turn"] 4 lg G (rE Z.mJ (aC (iV 0 (dg Z) G hr (aC (gQ 2 (jY G) (aZ aV)) au) (iC (bj len0))) au) (bj len0)) (λX1 h1=>by have G:=G.at h1;obtain⟨_,_,_,_,_,rfl⟩:=h1;exact(aN 4)) (λX1 h1=>by have G:=G.at h1;obtain⟨_,_,_,_,_,rfl⟩:=h1;exact iW) (λX1 h1=>by have G:=G.at h1;obtain⟨_,_,_,_,_,rfl⟩:=h1;exact(iV 0 (G4 Z) G hr (cR 1 au) (iC (bj len0))))))))) au))))))))
theorem CN:bC ZZ ZZ (aO p7):=ie
include Z in
theorem G3:Own P w K mg base "_law_word" 2 ZZ (pI K 3 nG):=by exact ql (k:=1) Z.Gd CN (λf cdv A outer s H E a hr G=>(fO.u (aF (aY (qG G (bL []) (aZ (fc (pK ["_law_pack_here","_law_sounds_here","_law_most","_law_turn"] 3 lg G (rE Z.mJ (aC (iV 0 (dg Z) G hr (aC (gQ 2 (jY G) (aZ aV)) au) (iC (bj len0))) au) (bj len0)) (λX1 h1=>by have G:=G.at h1;obtain⟨_,_,_,_,_,rfl⟩:=h1;exact(aN 3)) (λX1 h1=>by have G:=G.at h1;obtain⟨_,_,_,_,_,rfl⟩:=h1;exact iW) (λX1 h1=>by have G:=G.at h1;obtain⟨_,_,_,_,_,rfl⟩:=h1;exact(gC 1 G (aZ (iV 0 (dg Z) G hr (aC (jP G Z.jX (bf (cV 1))) au) (iC (bj len0))))))))))))))
theorem Gr:bC ["_law_stock_here","_law_order_here","_law_found"] Z3 (aO tu):=ie
include Z in
theorem zf:Own P w K mg base "_law_all" 8 Z3 (oE K 2 j7):=by
 exact cA (k:=7) Z.J7 Gr (λf cdv A outer s H E hr G=>(fO.u (aq (bT 2 Ak)
   (aq (Kl G λG=>(aF (bT 2 (bJ (Dp Z) G hr (cR 0 (cR 1 au)) (bj (bj len0))))))
   (aF (aY (bI 2)))))))
theorem W0:bC acz ["_law_script"] (aO M7):=ie
include Z in
theorem Zq{f:Addr}{fd:FuncData}(F:Q9 K "law" "law" M7 f fd):mz P w K mg base zO 9 f fd ["_law_script"] (oE K 1 Ju):=by
 exact Ex (k:=8) F W0 (λcdv A outer s H E hr=>by
  have G:=vA (P:=P) (w:=w) (K:=K) (mg:=mg) (base:=base) (N:=acz) (outer:=outer) (H:=H) (E:=E) (C:=C0 K) rfl hr;exact(fO.u (aq (jg 1 (Pq (wD Z) G hr (cR 0 (aC aV au)) (bj (bj len0))))
   (aq (bT 2 (iV 1 (Dr Z) G hr au (iC len0)))
   (aq (bT 3 (bJ (Aq Z) G hr (cR 2 au) (bj len0)))
   (aq (bT 4 (iV 1 (Ds Z) G hr (cR 3 (aC aV au)) (iC (bj (bj len0)))))
   (aq (bT 5 (fc (Ko G (bL [108,101,102,116]) (bL [114,105,103,104,116]) (bL [114,105,103,104,116]) (bL [108,101,102,116]))))
   (aq (bT 6 (cN (aC (vH 5 G (aZ (gC 4 G (aZ aV)))) (aC (eO G Z.eU (bf (aZ (fc (pK ["_law_script","_law_pack_here","_law_stock_here","_law_sounds_here","_law_order_here","_law_sides","_law_other","_law_k","_law_word_here","_law_here","_law_sound","_law_found","_law_rule_here"] 12 lg G (jl G (gC 4 G (aZ aV))) (λX1 h1=>by have G:=G.at h1;obtain⟨_,_,_,_,_,rfl⟩:=h1;exact(aN 12)) (λX1 h1=>by have G:=G.at h1;obtain⟨_,_,_,_,_,rfl⟩:=h1;exact iW) (λX1 h1=>by have G:=G.at h1;obtain⟨_,_,_,_,_,rfl⟩:=h1;exact(bJ (wC Z) G hr (cR 12 au) (bj len0)))))))) au))))
   (aq (dM (pH (Io (kh (Fb G) (bJ (gR Z) G hr (cR 4 au) (bj len0)) (aZ (bJ (gR Z) G hr (cR 6 au) (bj len0)))) (De (kh (Fb G) (bJ (zf Z) G hr (cR 2 (cR 4 au)) (bj (bj len0))) (aZ (bJ (zf Z) G hr (cR 2 (cR 6 au)) (bj (bj len0)))))))) (aF (aY vY)) cJ)
   (aq (jU G (T8 Z.mJ (aC aV (aC (Wi G Z.Yu (qj aV (bf (aZ (Wh G Z.Yt (qj (jP G Z.jX (bf (cV 0))) (bf (aZ aV)))))))) au)) (bj (bj len0))) (aN 7) (aq (bT 8 (Wj (G3 Z) G hr (Pq (wD Z) G hr (cR 0 (cR 7 au)) (bj (bj len0))) (cR 3 (aC aV au)) (iC (bj (bj len0)))))
   (aq (bT 9 (bJ (gR Z) G hr (cR 4 au) (bj len0)))
   (aq (jU G (jl G (bI 8)) (aN 10) (aq (bT 11 (bJ (tM Z) G hr (cR 4 (cR 9 (cR 10 au))) (bj (bj (bj len0)))))
   (aq (dM (kh (Fb G) (bJ (tM Z) G hr (cR 6 (cR 9 (cR 10 au))) (bj (bj (bj len0)))) (cV 11)) (aF (aY vY)) cJ)
   (aF (bT 9 (gC 11 G (aZ aV)))))))
   (aF (dM (pH (Io (kh (Fb G) (bJ (Du Z) G hr (cR 4 (cR 9 au)) (bj (bj len0))) (aZ (bJ (Du Z) G hr (cR 6 (cR 9 au)) (bj (bj len0))))) (De (kh (Fb G) (bJ (O9 Z) G hr (cR 6 (aC (zQ (bI 8)) au)) (bj (bj len0))) (aZ (zQ (bJ (O9 Z) G hr (cR 4 (cR 8 au)) (bj (bj len0))))))))) (aF (aY vY)) cJ))))))
   (aF (aY vY))))))))))))
end
end jc
namespace KB
section
variable{P:Type}(L:P->Nat->P)(S:P->Bool)(x:List Nat)(p0:P)
def pl(w:List Nat):P:=w.foldl L p0
variable{L S x p0}
theorem Uh{α:Type}{l:List α}{a b:α}{i:Nat}(h:l[i]? = some b):(l++[a])[i]? = some b:=by rw[Qxq (Qq5.mp h).1];exact h
theorem wF{α:Type}[DecidableEq α]:∀(U ps:List α),ps.Nodup->(∀p∈ps,p∈U)->ps.length<=U.length
 | U,[],_,_=>Qxk _
 | U,p::ps,hn,hs=>by
  have hp:=hs p (Qqz ..);have h:=wF (U.erase p) ps (Qzx.mp hn).2 λq hq=>by
   have hne:q≠p:=λe=>(Qzx.mp hn).1 (e ▸ hq);exact(List.mem_erase_of_ne hne).mpr (hs q (Qqj _ hq))
  have h2:=List.length_erase_of_mem hp;have h3:0<U.length:=List.length_pos_of_mem hp;rw[Qqv];omega
end
end KB
namespace KM
section
variable{T:Type}[DecidableEq T]
def n6(ys:List T)(x:T):List T:=if x∈ys then ys else ys++[x]
theorem rQ(ys:List T)(x y:T):y∈n6 ys x↔y∈ys\/y=x:=by
 unfold n6;split
 ·rename_i h;exact⟨.inl,λq=>q.elim id λe=>e ▸ h⟩
 ·rw[Qw0,Qq1]
theorem UJ{ys:List T}(x:T)(h:ys.Nodup):(n6 ys x).Nodup:=by
 unfold n6;split
 ·exact h
 ·rename_i hn;rw[List.nodup_append];exact⟨h,Qzx.mpr ⟨by simp,.nil⟩,λa ha b hb e=>hn (by rw[Qq1.mp hb] at e;exact e ▸ ha)⟩
def nC:List T->T->Nat
 | [],_=>0
 | u::us,t=>if u=t then 0 else nC us t+1
theorem wW:∀{l:List T} {t:T} (m:List T),t∈l->nC (l++m) t=nC l t
 | u::us,t,m,h=>by
  rw[List.cons_append];unfold nC;split
  ·rfl
  ·rename_i e;rw[wW m ((Qq8.mp h).resolve_left λz=>e z.symm)]
end
end KM
namespace pQ
open Ev
def il:bK:=jc.il
def cP:LD:=bO 2 il
def dY:bK:=jc.dY
def fJ:LD:=bO 5 dY
def du:bK:=jc.du
def dO:LD:=bO 1 du
def cB:bK:=aA (aR (aU 0) (cC 2 (aJ (ak 1) (aJ (ak 2) cD)))) (aA (gk (gf (aB qD 1 (Zw [114,105,103,104,116]))) (bu (ao cz (aa (fX 3 4 (gV (aU 2)) (ak 3) dW (ao fJ (Zv 3 aj))) aj))) cL) (bu (aU 2)))
def bY:LD:=bO 3 cB
def cU:bK:=bu (ao cz (aa (fX 1 5 (gV (ao bY (Zv 0 aj))) (cC 4 (aJ (ak 1) (aJ (ak 2) (aJ (ak 3) (aJ (ak 4) cD))))) dW (cj (aa (ao cP (Zv 3 (aa (Zw [35]) aj))) (aa (Zw []) aj)))) aj))
def bN:bK:=jc.bN
def cH:LD:=bO 10 bN
def bZ:bK:=jc.bZ
def cO:LD:=bO 10 bZ
def dF:bK:=aA (cZ 3 (cu aj)) (aA (aR (xG (.bl false)) (ak 4)) (aA (fQ (gV (aU 2)) (ak 5) (aA (aR (aB fZ 1 (Zi 1)) (ak 6)) (aA (gk (gf (ao dO (Zv 0 aj))) (aR (ao cH (Zv 0 (Zv 1 (Zv 5 aj)))) (cC 2 (aJ (ak 1) (aJ (ak 7) cD)))) (aR (ao cO (Zv 0 (Zv 1 (Zv 5 aj)))) (cC 2 (aJ (ak 1) (aJ (ak 7) cD))))) (aA (aR (Bl (aU 4) (aB zq 7 (bh 6))) (ak 4)) (dJ 3 (aU 7)))))) (bu (cj (Zv 1 (aa (aM jL (Zw []) (bh 3)) (Zv 4 aj)))))))
def dZ:LD:=bO 8 dF
def gM:bK:=aA (aR (Zw []) (ak 2)) (aA (cZ 3 (cu aj)) (aA (fQ (xB (aa (ao bY (Zv 0 aj)) (Zv 1 aj))) (cC 2 (aJ (ak 4) (aJ (ak 5) cD))) (aA (aR (ao dZ (Zv 4 (Zv 5 (aa (aB dw 2 (Zw [35])) aj)))) (cC 3 (aJ (ak 6) (aJ (ak 2) (aJ (ak 7) cD))))) (dJ 3 (aU 7)))) (bu (cj (Zv 2 (aa (ao cz (aa (bh 3) aj)) aj))))))
def jM:LD:=bO 8 gM
def mR:bK:=jc.mR
def cX:bK:=aA (aR (aU 0) (cC 4 (aJ (ak 2) (aJ (ak 3) (aJ (ak 4) (aJ (ak 5) cD)))))) (aA (aR (aM fZ (aB fZ 3 (Zi 0)) (Zi 1)) (ak 6)) (aA (cZ 7 (cu aj)) (aA (aR (Zw [35]) (ak 8)) (aA (fQ (gV (aB dw 1 (Zw [35]))) (ak 9) (aA (gk (ik (gf (ao cP (Zv 4 (Zv 8 aj)))) (gf (ao cP (Zv 5 (Zv 9 aj))))) (dJ 7 (aU 6)) cL) (aA (dJ 7 (aU 9)) (aR (aU 9) (ak 8))))) (bu (aM jL (Zw []) (ue (aU 7) xD (BP (Hm Hj (Zi 1))))))))))
def fL:LD:=bO 10 cX
def cM:bK:=aA (aR (aU 0) (cC 4 (aJ (ak 2) (aJ (ak 3) (aJ (ak 4) (aJ (ak 5) cD)))))) (aA (aR (ao pN (aa (bh 3) aj)) (ak 6)) (aA (aR (aB dw 1 (Zw [35])) (ak 7)) (aA (cZ 8 (cu aj)) (aA (aR (Zw [35]) (ak 9)) (aA (fQ (Hn (Zv 1 aj)) (cC 2 (aJ (ak 10) (aJ (ak 11) cD))) (aA (aR (aU 11) (ak 12)) (aA (gk (ik (gf (aB tZ 11 (bh 6))) (ik (gf (ao cP (Zv 4 (Zv 9 aj)))) (gf (ao cP (Zv 5 (aa (aB fZ 7 (aB dw 10 (Zi 1))) aj)))))) (aR (aB gY 6 (bh 11)) (ak 12)) cL) (aA (dJ 8 (aU 12)) (gk (gf (aB qD 2 (Zw [111,110,99,101]))) (aR (aU 11) (ak 9)) (gk (gf (aB zq 12 (Zw []))) (aR (aU 12) (ak 9)) cL)))))) (bu (aM jL (Zw []) (bh 8))))))))
def eY:LD:=bO 13 cM
def cT:bK:=jc.cT
def eF:LD:=bO 2 cT
def eN:bK:=jc.eN
def fW:LD:=bO 3 eN
def qz:bK:=aA (aR (aU 0) (cC 2 (aJ (ak 2) (aJ (ak 3) cD)))) (aA (cZ 4 (cu (Zv 1 aj))) (aA (fQ (gV (aU 3)) (ak 5) (dJ 4 (ao fW (Zv 2 (Zv 5 (aa (aB fZ 4 (Hm Hj (Zi 1))) aj)))))) (bu (ao cz (aa (bh 4) aj)))))
def xA:LD:=bO 6 qz
def uh:bK:=jc.uh
def dq:bK:=jc.dq
def aL:List D->Option (D×D):=fU 3 dq
def jo:bK:=bu (aM jL (Zw []) (fX 1 3 (gV (aU 0)) (cC 2 (aJ (ak 1) (aJ (ak 2) cD))) dW (aU 1)))
def eG:bK:=aA (gk (gf (aM qD (cQ aL 0 (aa (Zi 2) aj)) (Zi 0))) (bu (xG .non)) cL) (aA (aR (aM dw (Zi 1) (cQ aL 0 (aa (aM Eg (aM Hh (Zi 2) (ao eV (aa (bh 1) aj))) (Zi 1)) aj))) (ak 2)) (aA (aR (aM dw (Zw [35]) (bh 1)) (ak 3)) (bu (ao cz (aa (fX 4 5 (gb (aa (ao eV (aa (bh 3) aj)) aj)) (ak 4) (gf (aM qD (aM yF (aB wY 2 (bh 4)) (Zi 1)) (Zi 1))) (aB fZ 3 (bh 4))) aj)))))
def dI:List D->Option (D×D):=fU 4 eG
def cY:bK:=aA (gk (gf (aM qD (cQ aL 0 (aa (Zi 5) aj)) (Zi 0))) (bu (cj (aa (cj (aa (Zw []) (aa (aB fZ 1 (cQ aL 0 (aa (ao eV (aa (bh 1) aj)) aj))) aj))) aj))) cL) (aA (cZ 2 (xE)) (aA (fQ (gb (aa (aM dw (Zi 1) (cQ aL 0 (aa (Zi 3) aj))) aj)) (ak 3) (aA (aR (aB fZ 1 (cQ aL 0 (aa (ao eV (aa (bh 1) aj)) aj))) (ak 4)) (aA (cZ 5 (fX 6 7 (gV (aM dw (ao wZ (aa (bh 1) aj)) (cu (aa (Zw []) aj)))) (ak 6) (gf (aB zq 6 (bh 4))) (aU 6))) (oA 2 (aU 4) (aB fZ 5 (cQ aL 0 (aa (ao eV (aa (bh 5) aj)) aj))))))) (bu (ao cz (aa (fX 6 7 (gV (ao gF (aa (bh 2) aj))) (ak 6) dW (cj (Zv 6 (aa (aB gY 2 (bh 6)) aj)))) aj)))))
def eE:List D->Option (D×D):=fU 6 cY
def gO:bK:=aA (aR (aM fZ (cu (aa (Zw [111,110,99,101]) (aa (Zw [97,108,111,110,103]) aj))) (cQ aL 0 (aa (Zi 2) aj))) (ak 2)) (aA (aR (cQ eE 0 (Zv 1 aj)) (ak 3)) (bu (cj (Zv 2 (Zv 3 (aa (cQ dI 0 (Zv 1 aj)) (aa (cQ dI 0 (Zv 1 aj)) aj)))))))
def nQ:bK:=bu (cj (aa (aB fZ 0 (Zi 0)) (aa (aB fZ 0 (Zi 1)) (aa (aB fZ 0 (Zi 3)) (aa (aB fZ 0 (Zi 2)) aj)))))
end pQ
namespace gm
open Ev
def il:bK:=jc.il
def cP:LD:=bO 2 il
def dY:bK:=jc.dY
def fJ:LD:=bO 5 dY
def du:bK:=jc.du
def dO:LD:=bO 1 du
def cB:bK:=pQ.cB
def bY:LD:=bO 3 cB
def cU:bK:=pQ.cU
def bG:LD:=bO 1 cU
def bN:bK:=jc.bN
def cH:LD:=bO 10 bN
def bZ:bK:=jc.bZ
def cO:LD:=bO 10 bZ
def dF:bK:=pQ.dF
def dZ:LD:=bO 8 dF
def iR:bK:=aA (aR (aU 2) (ak 3)) (aA (cZ 4 (cu aj)) (aA (cZ 5 (cu aj)) (aA (fQ (xB (aa (ao bY (Zv 0 aj)) (Zv 1 aj))) (cC 2 (aJ (ak 6) (aJ (ak 7) cD))) (aA (aR (ao dZ (Zv 6 (Zv 7 (Zv 3 aj)))) (cC 3 (aJ (ak 8) (aJ (ak 3) (aJ (ak 9) cD))))) (aA (dJ 4 (aU 8)) (dJ 5 (aU 9))))) (bu (cj (aa (ao cz (aa (bh 4) aj)) (Zv 3 (aa (ao cz (aa (bh 5) aj)) aj))))))))
def kW:LD:=bO 10 iR
def gM:bK:=pQ.gM
def jM:LD:=bO 8 gM
def jb:bK:=jc.jb
def fV:LD:=bO 6 jb
def mR:bK:=pQ.mR
def kZ:LD:=bO 2 mR
def lQ:bK:=jc.lQ
def gK:LD:=bO 1 lQ
def jC:bK:=aA (aR (Zi 0) (ak 2)) (aA (fQ (gV (cu (aa (aB dw 1 (Zi 1)) (Zv 1 aj)))) (ak 3) (aR (aM dw (aB qt 2 (aM Hi (Zi 10) (Zi 60))) (ao gK (aa (aM fZ (aM dw (ue (aU 0) (BP (aU 3)) (BP (aB dw 3 (Zi 1)))) (cu (aa (aM dw (aM qt (Zi 7919) (bh 3)) (Zi 61)) aj))) (Zi 0)) aj))) (ak 2))) (vL (cu (Zv 2 aj))))
def kY:LD:=runN 4 jC
def dq:bK:=jc.dq
def aL:List D->Option (D×D):=fU 3 dq
def eG:bK:=pQ.eG
def dI:List D->Option (D×D):=fU 4 eG
def cY:bK:=pQ.cY
def eE:List D->Option (D×D):=fU 6 cY
def gO:bK:=pQ.gO
def iM:List D->Option (D×D):=fU 4 gO
def lO:bK:=aA (aR (aM fZ (cu (aa (Zw [108,101,102,116]) (aa (Zw [114,105,103,104,116]) aj))) (cQ aL 0 (aa (Zi 2) aj))) (ak 3)) (bu (cj (Zv 3 (aa (ao cz (aa (fX 4 5 (gb (aa (cQ aL 0 (aa (aB dw 2 (Zi 1)) aj)) aj)) (ak 4) dW (cQ iM 0 (Zv 1 aj))) aj)) aj))))
def lL:List D->Option (D×D):=fU 4 lO
def nQ:bK:=pQ.nQ
def Bk:LD:=bO 1 nQ
end gm
namespace vC
open Ev
def il:bK:=jc.il
def cP:LD:=bO 2 il
def dY:bK:=jc.dY
def fJ:LD:=bO 5 dY
def du:bK:=jc.du
def dO:LD:=bO 1 du
def cX:bK:=pQ.cX
def fL:LD:=bO 10 cX
def cM:bK:=pQ.cM
def eY:LD:=bO 13 cM
def cT:bK:=pQ.cT
def eF:LD:=bO 2 cT
def eN:bK:=pQ.eN
def fW:LD:=bO 3 eN
def qz:bK:=pQ.qz
def xA:LD:=bO 6 qz
def uh:bK:=pQ.uh
def qw:LD:=bO 2 uh
end vC
namespace lB
open Ev
def il:bK:=jc.il
def cP:LD:=bO 2 il
def dY:bK:=jc.dY
def fJ:LD:=bO 5 dY
def du:bK:=jc.du
def dO:LD:=bO 1 du
def cX:bK:=pQ.cX
def fL:LD:=bO 10 cX
def cM:bK:=pQ.cM
def eY:LD:=bO 13 cM
def cT:bK:=aA (gk (gf (ao dO (Zv 0 aj))) (bu (ao fL (Zv 0 (Zv 1 aj)))) cL) (bu (ao eY (Zv 0 (Zv 1 aj))))
def eF:LD:=bO 2 cT
def eN:bK:=aA (gk (gf (aB qD 0 (Zw [114,105,103,104,116]))) (bu (mQ (ao eF (aa (ao fJ (Zv 1 aj)) (aa (mQ (aU 2)) aj))))) cL) (bu (ao eF (Zv 1 (Zv 2 aj))))
def fW:LD:=bO 3 eN
end lB
namespace LQ
open Ev
def gh:bK:=bu (ao cz (aa (fX 1 3 (gV (aU 0)) (cC 2 (aJ (ak 1) (aJ (ak 2) cD))) dW (aU 1)) aj))
def dq:bK:=jc.dq
def aL:List D->Option (D×D):=fU 3 dq
def nO:bK:=bu (aM jL (Zw []) (fX 3 4 (gb (aa (cQ aL 0 (aa (aB dw 2 (Zi 1)) aj)) aj)) (ak 3) dW (aB fZ 1 (cQ aL 0 (aa (ao eV (aa (bh 1) aj)) aj)))))
def nG:List D->Option (D×D):=fU 3 nO
end LQ
namespace ir
open Ev
def gh:bK:=LQ.gh
def d9:LD:=bO 1 gh
def dq:bK:=jc.dq
def aL:List D->Option (D×D):=fU 3 dq
def lN:bK:=aA (aR (aM fZ (cu (aa (Zw [97]) (aa (Zw [97,98]) (aa (Zw [97,98]) (aa (Zw [97,98,99]) (aa (Zw [97,101,112,116]) (aa (Zw [109,110,122]) aj))))))) (cQ aL 0 (aa (Zi 6) aj))) (ak 1)) (aA (aR (cu (aa (Zw [115,116,111,112]) (aa (Zw [115,116,111,112,115]) (aa (Zw [115]) (aa (Zw [111,112,101,110]) (aa (Zw [97,98,99,100,101,102,103,104]) aj)))))) (ak 2)) (aA (cZ 3 (cu aj)) (aA (fQ (gV (aU 1)) (ak 4) (aA (aR (cQ aL 0 (aa (Zi 32) aj)) (ak 5)) (aA (aR (ao gF (aa (fX 7 8 (gb (aa (Zi 5) aj)) (ak 7) (gf (aM qD (aM yF (aB wY 5 (bh 7)) (Zi 1)) (Zi 1))) (aB fZ 2 (bh 7))) aj)) (ak 6)) (dJ 3 (cj (Zv 4 (aa (ao cz (aa (ue (aU 6) xD (BP (Zi 4))) aj)) aj))))))) (bu (ao cz (aa (bh 3) aj))))))
def lK:List D->Option (D×D):=fU 7 lN
def jo:bK:=pQ.jo
def jZ:LD:=bO 1 jo
def eG:bK:=aA (gk (gf (aM qD (cQ aL 0 (aa (Zi 2) aj)) (Zi 0))) (bu (xG .non)) cL) (aA (aR (aM dw (Zi 1) (cQ aL 0 (aa (aM Eg (aM Hh (Zi 2) (ao eV (aa (bh 1) aj))) (Zi 1)) aj))) (ak 2)) (aA (aR (aM dw (Zw [35]) (bh 1)) (ak 3)) (bu (ao cz (aa (fX 4 5 (gb (aa (ao eV (aa (bh 3) aj)) aj)) (ak 4) (gf (aM qD (aM yF (aB wY 2 (bh 4)) (Zi 1)) (Zi 1))) (aB fZ 3 (bh 4))) aj)))))
def dI:List D->Option (D×D):=fU 4 eG
def cY:bK:=aA (gk (gf (aM qD (cQ aL 0 (aa (Zi 5) aj)) (Zi 0))) (bu (cj (aa (cj (aa (Zw []) (aa (aB fZ 1 (cQ aL 0 (aa (ao eV (aa (bh 1) aj)) aj))) aj))) aj))) cL) (aA (cZ 2 (xE)) (aA (fQ (gb (aa (aM dw (Zi 1) (cQ aL 0 (aa (Zi 3) aj))) aj)) (ak 3) (aA (aR (aB fZ 1 (cQ aL 0 (aa (ao eV (aa (bh 1) aj)) aj))) (ak 4)) (aA (cZ 5 (fX 6 7 (gV (aM dw (ao wZ (aa (bh 1) aj)) (cu (aa (Zw []) aj)))) (ak 6) (gf (aB zq 6 (bh 4))) (aU 6))) (oA 2 (aU 4) (aB fZ 5 (cQ aL 0 (aa (ao eV (aa (bh 5) aj)) aj))))))) (bu (ao cz (aa (fX 6 7 (gV (ao gF (aa (bh 2) aj))) (ak 6) dW (cj (Zv 6 (aa (aB gY 2 (bh 6)) aj)))) aj)))))
def eE:List D->Option (D×D):=fU 6 cY
def gO:bK:=aA (aR (aM fZ (cu (aa (Zw [111,110,99,101]) (aa (Zw [97,108,111,110,103]) aj))) (cQ aL 0 (aa (Zi 2) aj))) (ak 2)) (aA (aR (cQ eE 0 (Zv 1 aj)) (ak 3)) (bu (cj (Zv 2 (Zv 3 (aa (cQ dI 0 (Zv 1 aj)) (aa (cQ dI 0 (Zv 1 aj)) aj)))))))
def iM:List D->Option (D×D):=fU 4 gO
open Ev PySem L2
theorem pF{i:Int}{b:Nat}(h:i.natAbs<2^b):Builtin.Int.intBits i<=b:=by
 unfold Builtin.Int.intBits;split
 ·exact Qxk _
 ·rename_i h0;have hz:i.natAbs≠0:=λz=>h0 (by rw[Int.natAbs_eq_zero.mp z];rfl);exact(Nat.log2_lt hz).mpr h
theorem qm{i j:Int}{a b:Nat}(h1:Builtin.Int.intBits i<=a)(h2:Builtin.Int.intBits j<=b)(h:a+b<=134217728):jG i j=true:=
 Qww (by omega)
theorem Ur{α:Type}{xs:List α}{lo hi:Option Int}{x:α}(h:x∈cutD xs lo hi):x∈xs:=List.mem_of_mem_drop (List.mem_of_mem_take h)
theorem Fd{α:Type}(x:α)(r:List α):qF (x::r) 0=some x:=nR (j:=0) rfl
def known:D:=.lst [.str [115,116,111,112],.str [115,116,111,112,115],.str [115],.str [111,112,101,110],.str [97,98,99,100,101,102,103,104]]
def vg:bK:=aR (ao gF (aa (fX 7 8 (gb (aa (Zi 5) aj)) (ak 7) (gf (aM qD (aM yF (aB wY 5 (bh 7)) (Zi 1)) (Zi 1))) (aB fZ 2 (bh 7))) aj)) (ak 6)
def mk(d:Nat):D:=match vg [Zn,Zn,Zf known,Zn,Zn,Zf (.int d),Zn] with
 | .nx e=>(match e[6]? with|some (some (_,z))=>z|_=>.non)
 | _=>.non
def AllB(P:Nat->Prop):Nat->Prop
 | 0=>True
 | n+1=>AllB P n/\P n
theorem QV{P:Nat->Prop}:∀{n:Nat},AllB P n->∀d,d<n->P d
 | 0,_,d,h=>absurd h (Qkk d)
 | n+1,⟨a,b⟩,d,h=>by
  by_cases e:d=n
  ·subst e;exact b
  ·exact QV a d (by omega)
theorem marks(d:Nat)(hd:d<32)(a b c e f:OD):vg [a,b,Zf known,c,e,Zf (.int d),f] = .nx [a,b,Zf known,c,e,Zf (.int d),Zf (mk d)]:=by refine QV (P:=λd=>vg [a,b,Zf known,c,e,Zf (.int (d:Nat)),f] = .nx [a,b,Zf known,c,e,Zf (.int (d:Nat)),Zf (mk d)]) ?_ d hd;refine⟨⟨⟨⟨⟨⟨⟨⟨⟨⟨⟨⟨⟨⟨⟨⟨⟨⟨⟨⟨⟨⟨⟨⟨⟨⟨⟨⟨⟨⟨⟨⟨trivial,?_⟩,?_⟩,?_⟩,?_⟩,?_⟩,?_⟩,?_⟩,?_⟩,?_⟩,?_⟩,?_⟩,?_⟩,?_⟩,?_⟩,?_⟩,?_⟩,?_⟩,?_⟩,?_⟩,?_⟩,?_⟩,?_⟩,?_⟩,?_⟩,?_⟩,?_⟩,?_⟩,?_⟩,?_⟩,?_⟩,?_⟩,?_⟩<;>kernel_rfl
def abW:D->Bool
 | .lst _=>true
 | _=>false
theorem Yv(d:Nat)(hd:d<32):∃zs,mk d = .lst zs:=by
 have h:((List.range 32).all λd=>abW (mk d))=true:=by decide +kernel
 have h1:=Qxw.mp h d (Qk0.mpr hd);cases e:mk d with
 | lst zs=>exact⟨zs,rfl⟩
 | _=>rw[e] at h1;cases h1
inductive Rows:List D->List D->Prop where
 | nil:Rows [] []
 | cons {s m:D} {ss rs:List D}:Rows ss rs->Rows (s::ss) (.tup [s,m]::rs)
theorem Rows.snoc{ss rs:List D}(h:Rows ss rs)(s m:D):Rows (ss++[s]) (rs++[.tup [s,m]]):=by
 induction h with
 | nil=>exact .cons .nil
 | cons _ ih=>exact .cons ih
theorem Rows.len{ss rs:List D}(h:Rows ss rs):rs.length=ss.length:=by
 induction h with
 | nil=>rfl
 | cons _ ih=>rw[Qqv,Qqv,ih]
theorem bW{i:Nat}{a:Ev}{env e:Ev.Env}{d:D}{xs x0:List D}(h0:env[i]? = some (Zl x0))(h1:a env = .ok d e)(h2:e[i]? = some (Zl xs))(hz:xs.length<sizeLine):dJ i a env = .nx (e.set i (Zl (xs++[d]))):=by unfold dJ;rw[h0];show jn (a env) _=_;rw[h1];show(match e[i]? with|some (some (true,.lst xs))=>if xs.length<sizeLine then Out.nx (e.set i (Zl (xs++[d]))) else .stuck|_=>.stuck)=_;rw[h2];show(if xs.length<sizeLine then _ else _)=_;rw[if_pos hz]
def yQ:bK:=aA (aR (cQ aL 0 (aa (Zi 32) aj)) (ak 5)) (aA vg (dJ 3 (cj (Zv 4 (aa (ao cz (aa (ue (aU 6) xD (BP (Zi 4))) aj)) aj)))))
theorem Gj(n:Int)(b v5 v6:OD)(acc:List D)(s:D)(ha:acc.length<=10):∃m v5' v6',yQ [Zl [.int n],b,Zf known,Zl acc,Zf s,v5,v6] = .nx [Zl [.int (n / 32)],b,Zf known,Zl (acc++[.tup [s,m]]),Zf s,v5',v6']:=by obtain⟨d,hd,e⟩:=dig n 32 (by decide);obtain⟨zs,hz⟩:=Yv d hd;refine⟨.tup (cutD zs none (some 4)),Zf (.int d),Zf (.lst zs),?_⟩;unfold yQ;refine(az (e:=[Zl [.int (n / 32)],b,Zf known,Zl acc,Zf s,Zf (.int (n % (32:Nat))),v6]) rfl).trans ?_;rw[e];refine(az (marks d hd _ _ _ _ _)).trans ?_;rw[hz];exact bW (e:=[Zl [.int (n / 32)],b,Zf known,Zl acc,Zf s,Zf (.int d),Zf (.lst zs)]) rfl rfl rfl (Qw6 ha (by decide))
structure XOk(x:List Nat):Prop where
 len:x.length<=4
 pos:0<x.length
 nd:x.Nodup
 ne:35 ∉ x
inductive XSt
 | mk
def XS:XSt:=.mk
instance:Membership (List Nat) XSt:=⟨λ_ x=>XOk x⟩
theorem yj{x:List Nat}(h:x∈XS):XOk x:=h
theorem zN{x:List Nat}(h:XOk x):x∈XS:=h
theorem jq:∀x∈XS,x.length<=4:=λ_ h=>(yj h).len
theorem Q3{x:List Nat}(h:x∈XS):(∃a,x=[a])\/(∃a b,x=[a,b])\/(∃a b c,x=[a,b,c])\/∃a b c d,x=[a,b,c,d]:=by
 have h1:=(yj h).len;have h2:=(yj h).pos
 match x,h1,h2 with
 | [a],_,_=>exact .inl ⟨a,rfl⟩
 | [a,b],_,_=>exact .inr (.inl ⟨a,b,rfl⟩)
 | [a,b,c],_,_=>exact .inr (.inr (.inl ⟨a,b,c,rfl⟩))
 | [a,b,c,d],_,_=>exact .inr (.inr (.inr ⟨a,b,c,d,rfl⟩))
theorem stock(n:Int):∃x rows n',x∈XS/\lK [.lst [.int n]]=some (.tup rows,.lst [.int n'])/\Rows (nW x) rows:=by
 obtain⟨d,hd,e⟩:=dig n 6 (by decide);obtain⟨x,hx,h1⟩:∃x,x∈XS/\∀m:Int,(λ(k:Int) (m:Int)=>jn (iY (fZ (.lst [.str [97],.str [97,98],.str [97,98],.str [97,98,99],.str [97,101,112,116],.str [109,110,122]]) (.int k)) ([Zl [.int m],Zn,Zn,Zn,Zn,Zn,Zn]:Ev.Env)) λd aK=>PK (ak 1 d aK)) (d:Int) m = .nx [Zl [.int m],Zs x,Zn,Zn,Zn,Zn,Zn]:=by
  have hc:d=0\/d=1\/d=2\/d=3\/d=4\/d=5:=by omega
  rcases hc with rfl|rfl|rfl|rfl|rfl|rfl
  ·exact⟨[97],zN ⟨by decide,by decide,by decide,by decide⟩,λm=>rfl⟩
  ·exact⟨[97,98],zN ⟨by decide,by decide,by decide,by decide⟩,λm=>rfl⟩
  ·exact⟨[97,98],zN ⟨by decide,by decide,by decide,by decide⟩,λm=>rfl⟩
  ·exact⟨[97,98,99],zN ⟨by decide,by decide,by decide,by decide⟩,λm=>rfl⟩
  ·exact⟨[97,101,112,116],zN ⟨by decide,by decide,by decide,by decide⟩,λm=>rfl⟩
  ·exact⟨[109,110,122],zN ⟨by decide,by decide,by decide,by decide⟩,λm=>rfl⟩
 have hxl:x.length<=4:=jq x hx;obtain⟨e',f1,n',acc,v4,v5,v6,rfl,hr⟩:=j6 (g:=ak 4) (nW x) (λdone env=>∃n acc v4 v5 v6,env=[Zl [.int n],Zs x,Zf known,Zl acc,v4,v5,v6]/\Rows done acc)
  (λdone s rest hall env ⟨n,acc,v4,v5,v6,he,hr⟩=>by
   subst he;have hd:done.length<=4:=by have:=Qw8 List.length hall;unfold nW at this;rw[Qqy,Qqk,Qqv] at this;omega
   obtain⟨m,w5,w6,hb⟩:=Gj n (Zs x) v5 v6 acc s (by rw[hr.len];omega);exact⟨_,_,rfl,hb,n / 32,_,_,_,_,rfl,hr.snoc s m⟩)
  [Zl [.int (n / 6)],Zs x,Zf known,Zl [],Zn,Zn,Zn] ⟨_,[],_,_,_,rfl,.nil⟩
 refine⟨x,acc,n',hx,jh (env:=[Zl [.int n'],Zs x,Zf known,Zl acc,v4,v5,v6]) ?_ rfl,hr⟩;unfold lN;refine(az (e:=[Zl [.int (n / 6)],Zs x,Zn,Zn,Zn,Zn,Zn]) ?_).trans ?_
 ·have h2:=h1 (n / 6);rw[<-e] at h2;exact h2
 refine(az rfl).trans ?_;refine(az rfl).trans ?_;refine(az (e:=[Zl [.int n'],Zs x,Zf known,Zl acc,v4,v5,v6]) ?_).trans ?_
 ·exact(gq rfl).trans f1
 ·rfl
theorem RL{ss rs:List D}(h:Rows ss rs):∀(a v1 v2:OD),∃w1 w2,BL (cC 2 (aJ (ak 1) (aJ (ak 2) cD))) dW (aU 1) rs [a,v1,v2] = .ok ss [a,w1,w2]:=by
 induction h with
 | nil=>exact λa v1 v2=>⟨v1,v2,rfl⟩
 | cons _ ih=>
  rename_i s m ss rs _;intro a v1 v2;obtain⟨w1,w2,e⟩:=ih a (Zf s) (Zf m);refine⟨w1,w2,?_⟩;unfold BL;show bindR (BL _ dW (aU 1) rs [a,Zf s,Zf m]) _=_;rw[e]
  rfl
theorem yR{x:List Nat}{rs:List D}(hx:x∈XS)(h:Rows (nW x) rs):fX 1 3 (gV (aU 0)) (cC 2 (aJ (ak 1) (aJ (ak 2) cD))) dW (aU 1) [Zf (.tup rs)] = .ok (.lst (nW x)) [Zf (.tup rs)]:=by obtain⟨w1,w2,e⟩:=RL h (Zf (.tup rs)) none none;exact lM (n:=3) (aK:=[Zf (.tup rs)]) rfl rfl (by exact e) (by unfold nW;rw[Qqy];exact Qq3 (jq x hx) (by decide))
theorem sounds_of{x:List Nat}{rs:List D}(hx:x∈XS)(h:Rows (nW x) rs):d9 [.tup rs]=some (.tup (nW x)):=
 bV (bA (aD (aH (yR hx h) bD) rfl))
theorem join_eq:∀x∈XS,jL (.str []) (.lst (nW x))=some (.str x):=by intro x hx;rcases Q3 hx with ⟨a,rfl⟩|⟨a,b,rfl⟩|⟨a,b,c,rfl⟩|⟨a,b,c,d,rfl⟩<;>rfl
theorem G9{x:List Nat}{rs:List D}(hx:x∈XS)(h:Rows (nW x) rs):jZ [.tup rs]=some (.str x):=
 bV (bA (bF rfl (yR hx h) (join_eq x hx)))
theorem Uk{a:dG}{env e:Ev.Env}{ds ys:List D}(h:a env = .ok ds e)(h':qW ds=some ys):gb a env = .ok ys e:=by
 unfold gb;rw[h];show iY (qW ds) e=_;rw[h']
 rfl
theorem jD(n:Int)(m:Nat)(h0:0<m)(h1:m<1073741824):aL [.lst [.int n],.int (m:Int)]=some (.int (n % m),.lst [.int (n / m)]):=by
 refine jh (env:=[Zl [.int (n / m)],Zf (.int m),Zf (.int (n % m))]) ?_ rfl;unfold dq;have g:rG [.int n,.int (m:Int)]=some (.tup [.int (n / m),.int (n % m)]):=by show(if 0<(m:Int)/\(m:Int)<1073741824 then _ else _)=_;rw[if_pos (by omega)]
 refine(az (e:=[Zl [.int (n / m)],Zf (.int m),Zf (.int (n % m))]) ?_).trans rfl;exact bM (aD (by rfl) g) (by rfl)
def isT:Option D->Bool
 | some (.bl true)=>true
 | _=>false
def M(x:List Nat):Nat:=2*2^x.length - 1
def M4:bK:=aA (aR (aM dw (Zw [35]) (bh 1)) (ak 3)) (bu (ao cz (aa (fX 4 5 (gb (aa (ao eV (aa (bh 3) aj)) aj)) (ak 4) (gf (aM qD (aM yF (aB wY 2 (bh 4)) (Zi 1)) (Zi 1))) (aB fZ 3 (bh 4))) aj)))
def bit(d k:Nat):Bool:=Builtin.bitAnd ((1+(d:Int)) / 2^k) 1 == 1
def sgR(x:List Nat)(d:Nat):D:=.tup ((((List.range (x.length+1)).filter (bit d)).map λk=>(35::x).getD k 0).map λc=>.str [c])
def SG(x:List Nat):List D:=.non::(List.range (M x)).map (sgR x)
theorem Rz(a:OD):∀x∈XS,∀d,d<M x->∃e3,M4 [a,Zs x,Zf (.int (1+(d:Int))),Zn] = .rt false (sgR x d) [a,Zs x,Zf (.int (1+(d:Int))),e3]:=by
 intro x hx d hd;have hl:=jq x hx;refine⟨Zs (35::x),?_⟩;unfold M4;refine(az (bM (d:=.str (35::x)) (bF rfl rfl ?_) rfl)).trans ?_
 ·unfold dw;exact if_pos (Qq3 (show 1+x.length<=5 by omega) (by decide))
 ·have h:fX 4 5 (gb (aa (ao eV (aa (bh 3) aj)) aj)) (ak 4) (gf (aM qD (aM yF (aB wY 2 (bh 4)) (Zi 1)) (Zi 1))) (aB fZ 3 (bh 4)) [a,Zs x,Zf (.int (1+(d:Int))),Zs (35::x)] = .ok (.lst (((List.range (x.length+1)).filter (bit d)).map λk=>.str [(35::x).getD k 0])) [a,Zs x,Zf (.int (1+(d:Int))),Zs (35::x)]:=by
   refine Jw (n:=5) (List.range (x.length+1)) (λ(k:Nat)=>.int (k:Int)) (bit d) (λk=>.str [(35::x).getD k 0]) ?_ rfl rfl (λk hk=>?_) (λk hk _=>?_) (by rw[List.length_range];exact Qq3 (show x.length+1<=5 by omega) (by decide))
   ·exact Uk rfl (RM (Qw6 (show(35::x).length<=5 by rw[Qqv];omega) (by decide)))
   ·refine fC (bF (bF (x:=.int ((1+(d:Int)) / 2^k)) ?_ rfl rfl) rfl rfl);refine bQ (i:=2) rfl rfl rfl ?_;unfold wY gI;simp only;rw[if_pos (Qww (Int.natCast_nonneg k)),Qkx]
   ·refine bQ (i:=3) rfl rfl rfl ?_;show(qF (35::x) (k:Int)).map _=_;have hk':k<(35::x).length:=Qk0.mp hk;rw[nR (v:=(35::x).getD k 0) (by rw[Qq7,Qq2 hk'];rfl)]
    rfl
  refine bA (aD (aH h bD) ?_);unfold sgR;rw[Qj5]
  rfl
theorem signs(n:Int)(x:List Nat)(hx:x∈XS):∃r n',dI [.lst [.int n],.str x]=some (r,.lst [.int n'])/\r∈SG x:=by
 obtain⟨d,hd,e⟩:=dig n 2 (by decide);have t:gf (aM qD (cQ aL 0 (aa (Zi 2) aj)) (Zi 0)) [Zl [.int n],Zs x,Zn,Zn] = .ok ((d:Int) == 0) [Zl [.int (n / 2)],Zs x,Zn,Zn]:=by
  rw[<-e]
  rfl
 have hc:d=0\/d=1:=by omega
 rcases hc with rfl|rfl
 ·refine⟨.non,n / 2,jh (env:=[Zl [.int (n / 2)],Zs x,Zn,Zn]) ?_ rfl,Qqz ..⟩;unfold eG;refine(jK ?_).trans rfl;exact(gZ t).trans rfl
 ·obtain⟨k,hk,ek⟩:=dig (n / 2) (M x) (by unfold M;have:0<2^x.length:=Nat.two_pow_pos _;omega);obtain⟨e3,h3⟩:=Rz (Zl [.int (n / 2 / (M x:Int))]) x hx k hk;refine⟨sgR x k,n / 2 / (M x:Int),jh (env:=[Zl [.int (n / 2 / (M x:Int))],Zs x,Zf (.int (1+(k:Int))),e3]) ?_ rfl,Qqj _ (Qw5.mpr ⟨k,Qk0.mpr hk,rfl⟩)⟩;unfold eG;refine(az (e:=[Zl [.int (n / 2)],Zs x,Zn,Zn]) ?_).trans ?_
  ·exact(fK t).trans rfl
  ·refine(az (e:=[Zl [.int (n / 2 / (M x:Int))],Zs x,Zf (.int (1+n / 2 % (M x:Int))),Zn]) ?_).trans ?_
   ·have hM:aM Eg (aM Hh (Zi 2) (ao eV (aa (bh 1) aj))) (Zi 1) [Zl [.int (n / 2)],Zs x,Zn,Zn] = .ok (.int (M x:Int)) [Zl [.int (n / 2)],Zs x,Zn,Zn]:=by
     have hl:=jq x hx;refine bF (x:=.int (2*2^x.length)) (bF rfl rfl ?_) rfl ?_
     ·unfold Hh gI;simp only;rw[if_pos (Qww ⟨Int.natCast_nonneg _,by omega,by decide⟩),Qkx]
     ·show some (D.int (2*2^x.length - 1))=_;have hp:0<2^x.length:=Nat.two_pow_pos _;have e:((M x:Nat):Int)=2*2^x.length - 1:=by
       unfold M;rw[Int.natCast_sub (by omega),Int.natCast_mul,Int.natCast_pow]
       rfl
      rw[e]
    have ht:aL [.lst [.int (n / 2)],.int (M x:Int)]=some (.int (n / 2 % (M x:Int)),.lst [.int (n / 2 / (M x:Int))]):=by have hl:=jq x hx;have hp:0<2^x.length:=Nat.two_pow_pos _;have hq:2^x.length<=2^4:=Nat.pow_le_pow_right (by decide) hl;exact jD (n / 2) (M x) (by unfold M;omega) (by unfold M;omega)
    refine bM (bF rfl (gG rfl (aH hM bD) rfl ht) rfl) rfl
   ·rw[ek];exact h3
end ir
namespace LQ
open Ev PySem L2
abbrev XS:=ir.XS
theorem um:∀x∈XS,0<x.length:=λ_ h=>(ir.yj h).pos
open ir (jD)
theorem G8{g:GV}{e:Ev}(P:Ev.Env->Prop)(R:D->Prop):∀(ds:List D) (env:Ev.Env),P env->(∀d∈ds,∀env,P env->∃y e1 e2,g d env=some e1/\e e1 = .ok y e2/\P e2/\R y)->∃ys env',BL g dW e ds env = .ok ys env'/\P env'/\(∀y∈ys,R y)/\ys.length=ds.length
 | [],env,hp,_=>⟨[],env,rfl,hp,λy hy=>by simp at hy,rfl⟩
 | d::ds,env,hp,h=>by
  obtain⟨y,e1,e2,h1,h2,h3,h4⟩:=h d (Qqz ..) env hp;obtain⟨ys,e3,h5,h6,h7,h8⟩:=G8 P R ds e2 h3 λd' hd=>h d' (Qqj _ hd);refine⟨y::ys,e3,?_,h6,λz hz=>?_,by rw[Qqv,Qqv,h8]⟩
  ·unfold BL;rw[h1];show bindR (e e1) _=_;rw[h2];show bindR (BL g dW e ds e2) _=_;rw[h5]
   rfl
  ·rcases Qq8.mp hz with rfl|hz
   ·exact h4
   ·exact h7 z hz
theorem zm:∀(zs:List (List Nat)),uz [] zs=zs.flatten
 | []=>rfl
 | x::r=>by
  show r.foldl (λacc y=>acc++[]++y) x=(x::r).flatten;have go:∀(r:List (List Nat)) (x:List Nat),r.foldl (λacc y=>acc++[]++y) x=x++r.flatten:=by
   intro r
   induction r with
   | nil=>intro x;simp
   | cons y r ih=>intro x;rw[List.foldl_cons,ih];simp
  rw[go];rfl
theorem mF(zs:List (List Nat)):iu (zs.map D.str)=some zs:=by
 induction zs with
 | nil=>rfl
 | cons z r ih=>
  rw[Qwx];unfold iu;rw[ih]
  rfl
theorem Gi{zs:List (List Nat)}{k:Nat}(h:∀z∈zs,z.length<=k):(zs.map List.length).sum<=zs.length*k:=by
 induction zs with
 | nil=>simp
 | cons z r ih=>
  rw[Qwx,List.sum_cons,Qqv,Nat.add_mul];have h1:=h z (Qqz ..);have h2:=ih λy hy=>h y (Qqj _ hy);omega
theorem Lg{zs:List (List Nat)}(h1:zs.length<=100)(h2:∀z∈zs,z.length<=10):joinFits [] zs=true:=by
 refine Qww ?_;have:=Gi h2;have h3:zs.length*10<=1000:=by omega
 show _+zs.length*0<=_;omega
theorem join_eq{zs:List (List Nat)}(h1:zs.length<=100)(h2:∀z∈zs,z.length<=10):jL (.str []) (.lst (zs.map .str))=some (.str zs.flatten):=by show(match iu (zs.map D.str) with|some xs=>if joinFits [] xs=true then some (D.str (uz [] xs)) else none|none=>none)=_;rw[mF];show(if joinFits [] zs=true then _ else _)=_;rw[if_pos (Lg h1 h2),zm]
theorem Ig{x:List Nat}:∀{ys:List D},(∀y∈ys,∃c∈x,y = .str [c])->∃w:List Nat,ys=(w.map λc=>[c]).map D.str/\∀c∈w,c∈x
 | [],_=>⟨[],rfl,λc hc=>by simp at hc⟩
 | y::ys,h=>by
  obtain⟨c,hc,rfl⟩:=h y (Qqz ..);obtain⟨w,rfl,hw⟩:=Ig λz hz=>h z (Qqj _ hz);refine⟨c::w,rfl,λd hd=>?_⟩;rcases Qq8.mp hd with rfl|hd
  ·exact hc
  ·exact hw d hd
theorem Qs(w:List Nat):(w.map λc=>[c]).flatten=w:=by
 induction w with
 | nil=>rfl
 | cons c r ih=>rw[Qwx,List.flatten_cons,ih];rfl
theorem RM{j:Nat}(h:j<1000):qW [.int (j:Int)]=some (gH 0 1 j):=by
 have hf:iD (j:Int)=true:=by unfold iD;rw[Qzy];exact⟨Qww (by omega),Qww (by omega)⟩
 unfold qW;simp only;rw[if_pos hf,Qkx]
theorem xC{a:dG}{env e:Ev.Env}{ds ys:List D}(h:a env = .ok ds e)(h':qW ds=some ys):gb a env = .ok ys e:=by
 unfold gb;rw[h];show iY (qW ds) e=_;rw[h']
 rfl
theorem word(n:Int)(x:List Nat)(hx:x∈XS)(m:Nat)(hm:m<=50):∃w n',nG [.lst [.int n],.str x,.int (m:Int)]=some (.str w,.lst [.int n'])/\(∀c∈w,c∈x)/\w.length<=m:=by
 have hp:=um x hx;have hl4:=ir.jq x hx;obtain⟨d,hd,e⟩:=dig n (m+1) (by omega);obtain⟨ys,env',h1,⟨n',v3,rfl⟩,h3,h4⟩:=G8 (g:=ak 3) (e:=aB fZ 1 (cQ aL 0 (aa (ao eV (aa (bh 1) aj)) aj))) (λenv=>∃n v3,env=[Zl [.int n],Zs x,Zf (.int (m:Int)),v3]) (λy=>∃c∈x,y = .str [c]) (gH 0 1 d)
  [Zl [.int (n / ((m+1:Nat):Int))],Zs x,Zf (.int (m:Int)),Zn] ⟨_,_,rfl⟩
  (λs _ env ⟨n,v3,he⟩=>by
   subst he;obtain⟨j,hj,ej⟩:=dig n x.length hp;refine⟨.str [x[j]],[Zl [.int n],Zs x,Zf (.int (m:Int)),Zf s],[Zl [.int (n / (x.length:Int))],Zs x,Zf (.int (m:Int)),Zf s],rfl,?_,⟨_,_,rfl⟩,x[j],Qx3 hj,rfl⟩;refine bQ (y:=.int (n % (x.length:Int))) (by rfl) ?_ (by rfl) ?_
   ·exact gG (e1:=[Zl [.int n],Zs x,Zf (.int (m:Int)),Zf s]) (by rfl) (by rfl) (by rfl) (jD n x.length hp (by omega))
   ·show(qF x (n % (x.length:Int))).map _=_;rw[ej,Bw hj]
    rfl)
 obtain⟨w,rfl,hw⟩:=Ig h3;have hwl:w.length=d:=by have:=h4;rw[Qqy,Qqy,m6] at this;exact this
 refine⟨w,n',jh (env:=[Zl [.int n'],Zs x,Zf (.int (m:Int))]) ?_ rfl,hw,by omega⟩;unfold nO;refine bA (bF (by rfl) (y:=.lst ((w.map λc=>[c]).map D.str)) ?_ ?_)
 ·refine lM (n:=4) (aK:=[Zl [.int (n / ((m+1:Nat):Int))],Zs x,Zf (.int (m:Int))]) ?_ (by rfl) h1 ?_
  ·refine xC (ds:=[.int (n % ((m+1:Nat):Int))]) ?_ (by rw[e];exact RM (by omega));refine aH ?_ bD;exact gG (e1:=[Zl [.int n],Zs x,Zf (.int (m:Int))]) (by rfl) (by rfl) (by rfl) (jD n (m+1) (by omega) (by omega))
  ·rw[Qqy,Qqy,hwl];exact Qq3 (show d<=100 by omega) (by decide)
 ·have:=join_eq (zs:=w.map λc=>[c]) (by rw[Qqy];omega) (λz hz=>by obtain⟨c,_,rfl⟩:=Qw5.mp hz;simp);rw[Qs] at this;exact this
def texts(x:List Nat):List (List Nat):=[[],[x.headD 0],[x.getLastD 0],[x.headD 0,x.headD 0],[x.headD 0,x.getLastD 0]]
end LQ
namespace ir
open Ev PySem L2
def oth(x:List Nat)(c:Nat):List D:=((x.map (λa=>[a])++[[]]).filter λz=>z != [c]).map .str
def PV(x:List Nat):List (Nat×D):=x.flatMap λc=>(oth x c).map λv=>(c,v)
def one:bK:=aR (aB fZ 1 (cQ aL 0 (aa (ao eV (aa (bh 1) aj)) aj))) (ak 4)
def others:bK:=cZ 5 (fX 6 7 (gV (aM dw (ao wZ (aa (bh 1) aj)) (cu (aa (Zw []) aj)))) (ak 6) (gf (aB zq 6 (bh 4))) (aU 6))
def Iv:bK:=oA 2 (aU 4) (aB fZ 5 (cQ aL 0 (aa (ao eV (aa (bh 5) aj)) aj)))
theorem KC(a b v3 v5:OD):∀x∈XS,∀c∈x,others [a,Zs x,b,v3,Zs [c],v5] = .nx [a,Zs x,b,v3,Zs [c],Zl (oth x c)]:=by
 intro x hx c hc;have hl:=jq x hx;unfold others;refine(qP (e:=[a,Zs x,b,v3,Zs [c],v5]) ?_).trans rfl;have h5:(x.map (λa=>[a])++[[]]).length<=5:=by rw[Qqk,Qqy];exact Nat.succ_le_succ hl
 refine Jw (n:=7) (x.map (λa=>[a])++[[]]) D.str (λz=>z != [c]) D.str ?_ rfl rfl (λz hz=>rfl) (λz hz _=>rfl) (Qq3 h5 (by decide));refine rJ (d:=.lst (((x.map λa=>[a])++[[]]).map D.str)) (bF rfl rfl ?_) rfl;rw[Qx6,Qj5];refine Ej (a:=nW x) ?_;unfold nW;rw[Qqy];exact Qq3 (Nat.succ_le_succ hl) (by decide)
theorem Te:∀x∈XS,∀c∈x,(oth x c).length=x.length:=by
 intro x hx c hc;have h1:=List.length_erase_of_mem hc;rw[(yj hx).nd.erase_eq_filter] at h1;have e:(λz:List Nat=>z != [c]) ∘ (λa=>[a])=λa=>a != c:=by
  funext a
  by_cases h:a=c
  ·subst h;show([a] != [a])=(a != a);rw[bne_self_eq_false,bne_self_eq_false]
  ·show([a] != [c])=(a != c);rw[bne_iff_ne.mpr h,bne_iff_ne.mpr λq=>h (List.cons.inj q).1]
 unfold oth;rw[Qqy,List.filter_append,List.filter_map,e,Qqk,Qqy,h1];have:=(yj hx).pos;show x.length - 1+1=_;omega
theorem um:∀x∈XS,0<x.length:=λ_ h=>(yj h).pos
theorem Ka{i:Nat}{k a:Ev}{env e1 e2:Ev.Env}{d kd x0:D}{o:Bool}{q:Key}{kvs:List (D×D)}(h1:a env = .ok d e1)(h2:e1[i]? = some (some (o,x0)))(h3:k e1 = .ok kd e2)(h4:e2[i]? = some (Zt (.dct kvs)))(h5:mL kd=some q)(hz:kvs.length<sizeLine) :
  oA i k a env = .nx (e2.set i (Zt (.dct (putD kvs kd q d)))):=by
 unfold oA;rw[h1];simp only[jn];rw[h2];simp only;rw[h3];simp only;rw[h4,h5];simp only;rw[if_pos hz]
def Og(kvs:List (D×D))(p:Nat×D):List (D×D):=putD kvs (.str [p.1]) (.inr (strOf [p.1])) p.2
theorem round(n:Int)(x:List Nat)(hx:x∈XS)(kvs:List (D×D))(hk:kvs.length<=10)(v3 v4 v5:OD):∃p n' v4' v5',p∈PV x/\aA one (aA others Iv) [Zl [.int n],Zs x,Zt (.dct kvs),v3,v4,v5] = .nx [Zl [.int n'],Zs x,Zt (.dct (Og kvs p)),v3,v4',v5']:=by
 have hp:=um x hx;have hl4:=jq x hx;obtain⟨d,hd,e⟩:=dig n x.length hp;have hc:x[d]∈x:=Qx3 hd;have hol:=Te x hx x[d] hc;obtain⟨d',hd',e'⟩:=dig (n / (x.length:Int)) x.length hp;have hv:d'<(oth x x[d]).length:=by rw[hol];exact hd'
 refine⟨(x[d],(oth x x[d])[d']),n / (x.length:Int) / (x.length:Int),Zs [x[d]],Zl (oth x x[d]),?_,?_⟩
 ·unfold PV;exact Qj3.mpr ⟨x[d],hc,Qw5.mpr ⟨_,Qx3 hv,rfl⟩⟩
 ·refine(az (e:=[Zl [.int (n / (x.length:Int))],Zs x,Zt (.dct kvs),v3,Zs [x[d]],v5]) ?_).trans ?_
  ·unfold one;refine bM (e:=[Zl [.int (n / (x.length:Int))],Zs x,Zt (.dct kvs),v3,v4,v5]) ?_ (by rfl);refine bQ (y:=.int (n % (x.length:Int))) (by rfl) ?_ (by rfl) ?_
   ·exact gG (e1:=[Zl [.int n],Zs x,Zt (.dct kvs),v3,v4,v5]) (by rfl) (by rfl) (by rfl) (jD n x.length hp (by omega))
   ·show(qF x (n % (x.length:Int))).map _=_;rw[e,Bw hd]
    rfl
  ·refine(az (KC _ _ _ _ x hx x[d] hc)).trans ?_;unfold Iv;refine(Ka (e1:=[Zl [.int (n / (x.length:Int) / (x.length:Int))],Zs x,Zt (.dct kvs),v3,Zs [x[d]],Zl (oth x x[d])])
    ?_ (by rfl) (by rfl) (by rfl) (by rfl) (Qw6 hk (by decide))).trans rfl
   refine bQ (y:=.int (n / (x.length:Int) % (x.length:Int))) (by rfl) ?_ (by rfl) ?_
   ·refine gG (e1:=[Zl [.int (n / (x.length:Int))],Zs x,Zt (.dct kvs),v3,Zs [x[d]],Zl (oth x x[d])]) (by rfl) ?_ (by rfl) (jD _ x.length hp (by omega));refine aH ?_ bD;refine aD (by rfl) ?_;show some (D.int ((oth x x[d]).length:Int))=_;rw[hol]
   ·show qF (oth x x[d]) (n / (x.length:Int) % (x.length:Int))=_;rw[e',Bw hv]
def Lp(kvs:List (D×D)):Option D:=match gF [.dct kvs] with
 | some (.lst ks)=>if (ks.all λk=>(gY (.dct kvs) k).isSome) then some (.tup (ks.map λk=>.tup [k,(gY (.dct kvs) k).getD .non])) else none
 | _=>none
def ZM:bK:=bu (ao cz (aa (fX 6 7 (gV (ao gF (aa (bh 2) aj))) (ak 6) dW (cj (Zv 6 (aa (aB gY 2 (bh 6)) aj)))) aj))
theorem Eh{kvs:List (D×D)}{ks:List D}(h:gF [.dct kvs]=some (.lst ks)):ks.length<=64:=by
 obtain⟨zs,h1,h2⟩:=Qx8.mp h;split at h2
 ·rename_i hz;cases h2;rw[Qqy,(gJ zs).length_eq];omega
 ·cases h2
theorem Bq{kvs:List (D×D)}{ch:D}(h:Lp kvs=some ch)(a b v3 v4 v5:OD):ZM [a,b,Zt (.dct kvs),v3,v4,v5] = .rt false ch [a,b,Zt (.dct kvs),v3,v4,v5]:=by
 unfold Lp at h;split at h
 ·rename_i ks hs;split at h
  ·rename_i hall;cases h;obtain⟨env',h1,v6,rfl⟩:=rA (g:=ak 6) (e:=cj (Zv 6 (aa (aB gY 2 (bh 6)) aj))) (λenv=>∃v6,env=[a,b,Zt (.dct kvs),v3,v4,v5,v6]) (λk=>.tup [k,(gY (.dct kvs) k).getD .non]) ks [a,b,Zt (.dct kvs),v3,v4,v5,Zn] ⟨none,rfl⟩
    (λk hk env ⟨v6,he⟩=>by
     subst he;obtain⟨v,hv⟩:=Qzq.mp (Qxw.mp hall k hk);refine⟨_,[a,b,Zt (.dct kvs),v3,v4,v5,Zf k],rfl,?_,Zf k,rfl⟩;rw[hv];exact di (aH (d:=k) (by rfl) (aH (d:=v) (bQ (y:=k) (by rfl) (by rfl) (by rfl) hv) bD)) Ev.Ft)
   refine bA (aD (ds:=[.lst (ks.map λk=>.tup [k,(gY (.dct kvs) k).getD .non])]) (aH ?_ bD) rfl);refine lM (n:=7) (aK:=[a,b,Zt (.dct kvs),v3,v4,v5]) ?_ (by rfl) h1 ?_
   ·exact rJ (aD (by rfl) hs) rfl
   ·rw[Qqy];exact Qq3 (Eh hs) (by decide)
  ·cases h
 ·cases h
structure BK(x:List Nat)(kvs:List (D×D))(zs:List Nat):Prop where
 keys:kvs.map (·.1)=zs.map λc=>D.str [c]
 nd:zs.Nodup
 mem:∀c∈zs,c∈x
 vals:∀k v,(k,v)∈kvs->∃c,k = .str [c]/\(c,v)∈PV x
theorem mG{a b:List Nat}(h:strOf a=strOf b):a=b:=by
 have:=Qw8 (λs:Str=>s.cps.toList) h
 simpa[strOf] using this
theorem sV(q:Key)(d:D):∀kvs:List (D×D),(uP kvs q d).map (·.1)=kvs.map (·.1)
 | []=>rfl
 | (k,e)::r=>by
  unfold uP;rw[Qwx,Qwx,sV q d r];split<;>rfl
theorem vO{q:Key}{d:D}:∀{kvs:List (D×D)} {k v:D},(k,v)∈uP kvs q d->(k,v)∈kvs\/(mL k=some q/\v=d)
 | [],_,_,h=>by simp[uP] at h
 | (k',e)::r,k,v,h=>by
  unfold uP at h;rcases Qq8.mp h with h|h
  ·split at h
   ·rename_i hk;cases h;exact .inr ⟨hk,rfl⟩
   ·cases h;exact .inl (Qqz ..)
  ·rcases vO h with h|h
   ·exact .inl (Qqj _ h)
   ·exact .inr h
theorem sH{q:Key}:∀{kvs:List (D×D)},j9 kvs q=none->∀k v,(k,v)∈kvs->mL k≠some q
 | [],_,k,v,hm=>by simp at hm
 | (k',e)::r,h,k,v,hm=>by
  unfold j9 at h;split at h
  ·cases h
  ·rename_i hk;rcases Qq8.mp hm with hm|hm
   ·cases hm;exact hk
   ·exact sH h k v hm
theorem j4{q:Key}{d:D}:∀{kvs:List (D×D)},j9 kvs q=some d->∃k,(k,d)∈kvs/\mL k=some q
 | [],h=>by simp[j9] at h
 | (k',e)::r,h=>by
  unfold j9 at h;split at h
  ·rename_i hk;cases h;exact⟨k',Qqz ..,hk⟩
  ·obtain⟨k,h1,h2⟩:=j4 h;exact⟨k,Qqj _ h1,h2⟩
theorem BK.put{x:List Nat}{kvs:List (D×D)}{zs:List Nat}(h:BK x kvs zs){p:Nat×D}(hp:p∈PV x)(hx:p.1∈x):∃zs',BK x (Og kvs p) zs'/\0<zs'.length/\zs'.length<=zs.length+1:=by
 unfold Og putD;cases e:j9 kvs (.inr (strOf [p.1])) with
 | none=>
  simp only[Option.isSome_none,Bool.false_eq_true,if_false];refine⟨zs++[p.1],⟨?_,?_,λc hc=>?_,λk v hm=>?_⟩,by simp,by simp⟩
  ·rw[Qx6,Qx6,h.keys];rfl
  ·refine List.nodup_append.mpr ⟨h.nd,Qzx.mpr ⟨Qx5,.nil⟩,λa ha b hb=>?_⟩;rcases Qq1.mp hb with rfl;rintro rfl;have hm:D.str [p.1]∈kvs.map (·.1):=by rw[h.keys];exact Qw5.mpr ⟨p.1,ha,rfl⟩
   obtain⟨⟨k,v⟩,h1,h2⟩:=Qw5.mp hm;have h2':k = .str [p.1]:=h2;subst h2';exact sH e _ _ h1 rfl
  ·rcases Qw0.mp hc with hc|hc
   ·exact h.mem c hc
   ·rw[Qq1.mp hc];exact hx
  ·rcases Qw0.mp hm with hm|hm
   ·exact h.vals k v hm
   ·have:=Qq1.mp hm;cases this;exact⟨p.1,rfl,hp⟩
 | some w=>
  simp only[Option.isSome_some,if_true];obtain⟨k0,hk0,_⟩:=j4 e;have hne:0<zs.length:=by have:=Qw8 List.length h.keys;rw[Qqy,Qqy] at this;rw[<-this];exact List.length_pos_of_mem hk0
  refine⟨zs,⟨by rw[sV];exact h.keys,h.nd,h.mem,λk v hm=>?_⟩,hne,Nat.le_succ _⟩;rcases vO hm with hm|⟨hk,rfl⟩
  ·exact h.vals k v hm
  ·have hin:k∈(uP kvs (.inr (strOf [p.1])) p.2).map (·.1):=Qw5.mpr ⟨_,hm,rfl⟩;rw[sV,h.keys] at hin;obtain⟨c,hc,rfl⟩:=Qw5.mp hin;have:strOf [c]=strOf [p.1]:=by
    have:=Qw4 hk;exact Sum.inr.inj this
   have e2:=mG this;cases e2;exact⟨p.1,rfl,hp⟩
theorem BJ{x:List Nat}{p:Nat×D}(h:p∈PV x):p.1∈x:=by unfold PV at h;obtain⟨c,hc,h⟩:=Qj3.mp h;obtain⟨v,_,rfl⟩:=Qw5.mp h;exact hc
theorem mF(zs:List (List Nat)):iu (zs.map D.str)=some zs:=by
 induction zs with
 | nil=>rfl
 | cons z r ih=>
  rw[Qwx];unfold iu;rw[ih]
  rfl
theorem Kd{x:List Nat}{kvs:List (D×D)}{zs:List Nat}(h:BK x kvs zs)(h4:zs.length<=4):gF [.dct kvs]=some (.lst ((iw (zs.map λc=>[c])).map .str)):=by
 have e:kvs.map (·.1)=(zs.map λc=>[c]).map D.str:=by rw[h.keys,Qj5];rfl
 show(iu (kvs.map (·.1))).bind _=_;rw[e,mF];show(if _ then _ else _)=_;rw[if_pos];refine⟨by rw[Qqy];omega,λz hz=>?_⟩;obtain⟨c,_,rfl⟩:=Qw5.mp hz;show 1<=sizeLine
 decide
def prs(kvs:List (D×D))(ks:List D):List D:=ks.map λk=>.tup [k,(gY (.dct kvs) k).getD .non]
theorem Be{x:List Nat}{kvs:List (D×D)}{zs:List Nat}(h:BK x kvs zs)(k:D)(hk:k∈(iw (zs.map λc=>[c])).map D.str):∃c v,k = .str [c]/\gY (.dct kvs) k=some v/\(c,v)∈PV x:=by
 obtain⟨z,hz,rfl⟩:=Qw5.mp hk;obtain⟨c,hc,rfl⟩:=Qw5.mp ((gJ _).mem_iff.mp hz);have hm:D.str [c]∈kvs.map (·.1):=by rw[h.keys];exact Qw5.mpr ⟨c,hc,rfl⟩
 obtain⟨⟨k,v⟩,h1,h2⟩:=Qw5.mp hm;have h2':k = .str [c]:=h2;subst h2';cases e:j9 kvs (.inr (strOf [c])) with
 | none=>exact absurd rfl (sH e _ _ h1)
 | some w=>
  obtain⟨k',h3,h4⟩:=j4 e;obtain⟨c',rfl,h5⟩:=h.vals k' w h3;have e2:strOf [c']=strOf [c]:=Sum.inr.inj (Qw4 h4);cases mG e2;exact⟨c,w,rfl,e,h5⟩
theorem Br{x:List Nat}{kvs:List (D×D)}{zs:List Nat}(h:BK x kvs zs)(h4:zs.length<=4):Lp kvs=some (.tup (prs kvs ((iw (zs.map λc=>[c])).map D.str))):=by
 unfold Lp;rw[Kd h h4];simp only;rw[if_pos]
 ·rfl
 ·refine Qxw.mpr λk hk=>?_;obtain⟨c,v,_,e,_⟩:=Be h k hk;rw[e];rfl
end ir
namespace lB
open Ev PySem L2
abbrev XS:=ir.XS
open ir (um jq BK PV SG Lp prs one others Iv Bq Be Og jD BJ Br)
theorem Z9:∀x∈XS,∀p∈PV x,∃t,p.2 = .str t/\t.length<=1/\∀c∈t,c∈x:=by
 intro x hx p hp;obtain⟨c,hc,h⟩:=Qj3.mp hp;obtain⟨v,hv,rfl⟩:=Qw5.mp h;obtain⟨t,ht,rfl⟩:=Qw5.mp hv;refine⟨t,rfl,?_⟩;rcases Qw0.mp (List.mem_filter.mp ht).1 with h|h
 ·obtain⟨a,ha,rfl⟩:=Qw5.mp h;exact⟨Qq0 1,λc hc=>by rw[Qq1.mp hc];exact ha⟩
 ·rw[Qq1.mp h];exact⟨Qxk 1,λc hc=>absurd hc Qx5⟩
abbrev Pr:=Nat×List Nat
def encC(p:Pr):D:=.tup [.str [p.1],.str p.2]
inductive yJ (x:List Nat):D->Prop
 | put {c:Nat}:c∈x->yJ x (.tup [.tup [.str [],.str [c]]])
 | chg {ps:List Pr}:0<ps.length->ps.length<=4->(∀p∈ps,p.1∈x/\p.2.length<=1/\∀c∈p.2,c∈x)->yJ x (.tup (ps.map encC))
theorem Am{x:List Nat}{kvs:List (D×D)}(hx:x∈XS):∀(ks:List D),(∀k∈ks,∃c v,k = .str [c]/\gY (.dct kvs) k=some v/\(c,v)∈PV x)->∃ps:List Pr,prs kvs ks=ps.map encC/\ps.length=ks.length/\∀p∈ps,p.1∈x/\p.2.length<=1/\∀c∈p.2,c∈x
 | [],_=>⟨[],rfl,rfl,λp hp=>by simp at hp⟩
 | k::ks,h=>by
  obtain⟨c,v,rfl,e,hv⟩:=h k (Qqz ..);obtain⟨t,et,ht⟩:=Z9 x hx _ hv;obtain⟨ps,e1,e2,e3⟩:=Am hx ks λk hk=>h k (Qqj _ hk);refine⟨(c,t)::ps,?_,by rw[Qqv,Qqv,e2],λp hp=>?_⟩
  ·unfold prs at e1 ⊢;rw[Qwx,e1,e];have et':v = .str t:=et;rw[et']
   rfl
  ·rcases Qq8.mp hp with rfl|hp
   ·exact⟨BJ hv,ht⟩
   ·exact e3 p hp
structure iT(x:List Nat)(w ch l r:D):Prop where
 way:w = .str [111,110,99,101]\/w = .str [97,108,111,110,103]
 chg:yJ x ch
 left:l∈SG x
 right:r∈SG x
def fit(l:D)(a:Nat):Bool:=ir.isT (cP [l,.str [a]])
theorem Eb(a:Nat):∀z:List Nat,Mf (.str [a]) (z.map λc=>.str [c])=some (z.contains a)
 | []=>rfl
 | c::z=>by
  rw[Qwx];unfold Mf;rw[Eb a z];show some (([c] == [a])||z.contains a)=_;rw[List.contains_cons]
  congr 2
  by_cases h:a=c
  ·subst h;simp
  ·rw[beq_false_of_ne h,beq_false_of_ne λq=>h (List.cons.inj q).1.symm]
theorem fH:∀x∈XS,∀l∈SG x,∀a∈35::x,cP [l,.str [a]]=some (.bl (fit l a)):=by
 intro x hx l hl a ha;have h:∃b,cP [l,.str [a]]=some (.bl b):=by
  rcases Qq8.mp hl with rfl|hl
  ·exact⟨true,rfl⟩
  ·obtain⟨d,_,rfl⟩:=Qw5.mp hl;unfold ir.sgR;generalize(((List.range (x.length+1)).filter (ir.bit d)).map λk=>(35::x).getD k 0)=z;refine⟨z.contains a,bV (env:=[Zf (.tup (z.map λc=>.str [c])),Zs [a]]) (bA ?_)⟩;have e:aB gIn 1 (bh 0) [Zf (.tup (z.map λc=>.str [c])),Zs [a]] = .ok (.bl (z.contains a)) [Zf (.tup (z.map λc=>.str [c])),Zs [a]]:=by
    refine bQ rfl rfl rfl ?_;show(Option.map D.bl (Mf (.str [a]) (z.map λc=>.str [c]))).or _=_;rw[Eb]
    rfl
   exact(Qu rfl).trans e
 obtain⟨b,e⟩:=h;unfold fit;rw[e];cases b<;>rfl
open ir (SG bW)
theorem kO{a b:List Nat}(h:a.length+b.length<=100000):dw (.str a) (.str b)=some (.str (a++b)):=by show(if a.length+b.length<=sizeLine then _ else _)=_;rw[if_pos (Qq3 h (by decide))]
theorem iZ{a b:f9}{env:Ev.Env}{p q:Bool}(h1:a env = .ok p env)(h2:b env = .ok q env):ik a b env = .ok (p&&q) env:=by
 unfold ik;rw[h1];cases p with
 | true=>exact h2
 | false=>rfl
theorem Qe{zs:List (List Nat)}(h1:zs.length<=80000)(h2:∀z∈zs,z.length<=2):jL (.str []) (.lst (zs.map .str))=some (.str zs.flatten):=by
 have hf:joinFits [] zs=true:=by refine Qww ?_;have:=LQ.Gi h2;show _+zs.length*0<=_;omega
 show(match iu (zs.map D.str) with|some xs=>if joinFits [] xs=true then some (D.str (uz [] xs)) else none|none=>none)=_;rw[LQ.mF];show(if joinFits [] zs=true then _ else _)=_;rw[if_pos hf,LQ.zm]
theorem JK{all done rest:List D}{d:D}(h:all=done++d::rest):all[done.length]? = some d:=by rw[h];simp
theorem getD_get{z:List Nat}{n:Nat}(h:n<z.length):z[n]? = some (z.getD n 0):=by rw[Qq7,Qq2 h];rfl
theorem abV{z:List Nat}{n:Nat}(h:n<z.length):fZ (.str z) (.int (n:Int))=some (.str [z.getD n 0]):=by
 show(qF z (n:Int)).map _=_;rw[nR (getD_get h)]
 rfl
theorem WX{z done rest:List _}{d:D}(h:nW z=done++d::rest):d = .str [z.getD done.length 0]/\done.length<z.length:=by have h1:=JK h;unfold nW at h1;rw[Qxy] at h1;obtain⟨c,hc,rfl⟩:=Qwj.mp h1;have hl:done.length<z.length:=(Qq5.mp hc).1;rw[getD_get hl] at hc;cases hc;exact⟨rfl,hl⟩
theorem QF{α:Type}(xs:List α):cutD xs none (some (-1))=xs.dropLast:=by
 unfold cutD;have e1:HT.ju xs.length xs.length (some (-1))=((-1:Int)+(xs.length:Int)).toNat:=rfl;have e2:HT.ju xs.length 0 none=0:=rfl;rw[e1,e2,List.drop_zero,List.dropLast_eq_take]
 congr 1
 omega
abbrev ed(w:List Nat):List Nat:=35::(w++[35])
abbrev sg(w:List Nat)(n:Nat):Nat:=(ed w).getD n 0
section
variable{x w:List Nat}{l r:D}
theorem Zx:(ed w).length=w.length+2:=by simp
theorem z7(hw:∀c∈w,c∈x){n:Nat}(h:n<w.length+2):sg w n∈35::x:=by
 have h1:n<(ed w).length:=by rw[Zx];exact h
 have:sg w n∈ed w:=Qz6 (getD_get h1);rcases Qq8.mp this with e|e
 ·rw[e];exact Qqz ..
 ·rcases Qw0.mp e with e|e
  ·exact Qqj _ (hw _ e)
  ·rw[Qq1.mp e];exact Qqz ..
def pc(l r:D)(c:Nat)(w:List Nat)(n:Nat):List (List Nat):=if (fit l (sg w n)&&fit r (sg w (n+1)))=true then [[c]] else []
def pin(l r:D)(c:Nat)(w:List Nat):Nat->List (List Nat)
 | 0=>[]
 | n+1=>pin l r c w n++(pc l r c w n++[[sg w (n+1)]])
theorem Vz(c:Nat)(n:Nat):(pc l r c w n).length<=1/\∀z∈pc l r c w n,z.length=1:=by
 unfold pc;split
 ·exact⟨Qq0 _,λz hz=>by rw[Qq1.mp hz];rfl⟩
 ·exact⟨Qxk _,λz hz=>by simp at hz⟩
theorem An(c:Nat):∀n,(pin l r c w n).length<=2*n/\∀z∈pin l r c w n,z.length=1
 | 0=>⟨Qq0 _,λz hz=>by simp[pin] at hz⟩
 | n+1=>by
  obtain⟨h1,h2⟩:=An c n;obtain⟨h3,h4⟩:=Vz (l:=l) (r:=r) (w:=w) c n;unfold pin;refine⟨by rw[Qqk,Qqk,Qwk];omega,λz hz=>?_⟩;rcases Qw0.mp hz with hz|hz
  ·exact h2 z hz
  ·rcases Qw0.mp hz with hz|hz
   ·exact h4 z hz
   ·rw[Qq1.mp hz];rfl
theorem acj{zs:List (List Nat)}(h:∀z∈zs,z.length=1):zs.flatten.length=zs.length:=by
 induction zs with
 | nil=>rfl
 | cons z t ih=>rw[List.flatten_cons,Qqk,h z (Qqz ..),ih λy hy=>h y (Qqj _ hy),Qqv];omega
def inn(l r:D)(c:Nat)(w:List Nat):List Nat:=(pin l r c w w.length++pc l r c w w.length).flatten
theorem wg(c:Nat):(pin l r c w (w.length+1)).dropLast=pin l r c w w.length++pc l r c w w.length:=by show(pin l r c w w.length++(pc l r c w w.length++[[sg w (w.length+1)]])).dropLast=_;rw[<-Qwy,List.dropLast_concat]
variable(hx:x∈XS)(hl:l∈SG x)(hr:r∈SG x)(hw:∀c∈w,c∈x)(hn:w.length<=30000)
def Mq:bK:=jc.mK
include hx hl hr
theorem Rn{c a s:Nat}(ha:a∈35::x)(hs:s∈35::x)(acc:List D)(hac:acc.length<=80000)(a0 a1 a2 a3:OD) :
  Mq [a0,a1,a2,a3,Zf l,Zf r,Zs [c],Zl acc,Zs [a],Zs [s]] =
   .nx [a0,a1,a2,a3,Zf l,Zf r,Zs [c],Zl (acc++((if (fit l a&&fit r s)=true then [.str [c]] else [])++[.str [s]])),Zs [s],Zs [s]]:=by
 have t:ik (gf (ao cP (Zv 4 (Zv 8 aj)))) (gf (ao cP (Zv 5 (Zv 9 aj)))) [a0,a1,a2,a3,Zf l,Zf r,Zs [c],Zl acc,Zs [a],Zs [s]] = .ok (fit l a&&fit r s) [a0,a1,a2,a3,Zf l,Zf r,Zs [c],Zl acc,Zs [a],Zs [s]]:=
  iZ (fC (aD rfl (fH x hx l hl a ha))) (fC (aD rfl (fH x hx r hr s hs)))
 have tl:∀acc:List D,acc.length<=80001->aA (dJ 7 (aU 9)) (aR (aU 9) (ak 8)) [a0,a1,a2,a3,Zf l,Zf r,Zs [c],Zl acc,Zs [a],Zs [s]] = .nx [a0,a1,a2,a3,Zf l,Zf r,Zs [c],Zl (acc++[.str [s]]),Zs [s],Zs [s]]:=λacc hac=>
  (az (bW (i:=7) (e:=[a0,a1,a2,a3,Zf l,Zf r,Zs [c],Zl acc,Zs [a],Zs [s]]) rfl rfl rfl (Qw6 hac (by decide)))).trans rfl
 unfold Mq;cases hc:fit l a&&fit r s with
 | true=>
  rw[hc] at t;rw[if_pos rfl];refine(az (e:=[a0,a1,a2,a3,Zf l,Zf r,Zs [c],Zl (acc++[.str [c]]),Zs [a],Zs [s]]) ?_).trans ?_
  ·exact(gZ t).trans ((bW (i:=7) (e:=[a0,a1,a2,a3,Zf l,Zf r,Zs [c],Zl acc,Zs [a],Zs [s]]) rfl rfl rfl (Qw6 hac (by decide))).trans rfl)
  ·rw[tl _ (by rw[Qqk,Qwk];omega),Qwy]
 | false=>
  rw[hc] at t;rw[if_neg Qxx];exact(az ((fK t).trans rfl)).trans (tl acc (by omega))
theorem Sw(c n:Nat):((pin l r c w (n+1)).map D.str)=(pin l r c w n).map D.str++((if (fit l (sg w n)&&fit r (sg w (n+1)))=true then [.str [c]] else [])++[.str [sg w (n+1)]]):=by show(pin l r c w n++(pc l r c w n++[[sg w (n+1)]])).map D.str=_;rw[Qx6,Qx6];unfold pc;split<;>rfl
include hw hn
theorem with_put_in(wy:D)(c:Nat):fL [.tup [wy,.tup [.tup [.str [],.str [c]]],l,r],.str w]=some (.str (inn l r c w)):=by
 generalize hR:D.tup [wy,.tup [.tup [.str [],.str [c]]],l,r]=R;generalize hC:D.tup [.tup [.str [],.str [c]]]=ch;obtain⟨e',f1,hd,a9,rfl⟩:=j6 (g:=ak 9) (nW (w++[35]))
  (λdone env=>done.length<=w.length+1/\∃a9,env=[Zf R,Zs w,Zf wy,Zf ch,Zf l,Zf r,Zs [c],Zl ((pin l r c w done.length).map .str),Zs [sg w done.length],a9])
  (λdone s rest hall env ⟨hd,a9,he⟩=>by
   subst he;obtain⟨rfl,hdl⟩:=WX hall;have afX:done.length<w.length+1:=by rw[Qqk,Qwk] at hdl;exact hdl
   have hp:=(An (l:=l) (r:=r) (w:=w) c done.length).1;refine⟨_,_,rfl,Rn hx hl hr (s:=sg w (done.length+1)) (z7 (w:=w) hw (by omega)) (z7 (w:=w) hw (by omega)) _ (by rw[Qqy];omega) _ _ _ _,by rw[Qqk,Qwk];omega,Zs [sg w (done.length+1)],?_⟩;rw[Qqk,Qwk,Sw hx hl hr])
  [Zf R,Zs w,Zf wy,Zf ch,Zf l,Zf r,Zs [c],Zl [],Zs [35],Zn] ⟨Qxk _,Zn,rfl⟩
 have hlen:(nW (w++[35])).length=w.length+1:=by unfold nW;rw[Qqy,Qqk,Qwk]
 rw[hlen] at f1;have hp:=An (l:=l) (r:=r) (w:=w) c (w.length+1);refine bV (env:=[Zf R,Zs w,Zf wy,Zf ch,Zf l,Zf r,Zs [c],Zf (.lst ((pin l r c w (w.length+1)).map .str)),Zs [sg w (w.length+1)],a9]) ?_;unfold cX;refine(az (e:=[Zf R,Zs w,Zf wy,Zf ch,Zf l,Zf r,Zn,Zn,Zn,Zn]) (by rw[<-hR,<-hC];rfl)).trans ?_;refine(az (e:=[Zf R,Zs w,Zf wy,Zf ch,Zf l,Zf r,Zs [c],Zn,Zn,Zn]) (by rw[<-hC];rfl)).trans ?_;refine(az rfl).trans ?_;refine(az rfl).trans ?_;refine(az ((gq ?_).trans f1)).trans ?_
 ·refine rJ (bQ rfl rfl rfl (kO (by show w.length+1<=100000;omega))) rfl
 ·refine bA (bF rfl (y:=.lst ((pin l r c w w.length++pc l r c w w.length).map .str)) ?_ ?_)
  ·have ec:cutD ((pin l r c w (w.length+1)).map D.str) none (some (-1))=(pin l r c w w.length++pc l r c w w.length).map D.str:=by
    rw[QF,<-List.map_dropLast,wg c]
   rw[<-ec]
   rfl
  ·rw[<-wg c];unfold inn;rw[<-wg c];refine Qe ?_ λz hz=>?_
   ·rw[List.length_dropLast];omega
   ·rw[hp.2 z (List.dropLast_subset _ hz)];decide
end
def sE(x:List Nat)(kvs:List (D×D)):Prop:=∀k v,(k,v)∈kvs->∃t:List Nat,v = .str t/\t.length<=1/\∀c∈t,c∈x
theorem sE.put{x:List Nat}{kvs:List (D×D)}(h:sE x kvs)(k:D)(q:Key)(t:List Nat)(h1:t.length<=1)(h2:∀c∈t,c∈x):sE x (putD kvs k q (.str t)):=by
 intro k' v hm;unfold putD at hm;split at hm
 ·rcases ir.vO hm with hm|⟨_,rfl⟩
  ·exact h k' v hm
  ·exact⟨t,rfl,h1,h2⟩
 ·rcases Qw0.mp hm with hm|hm
  ·exact h k' v hm
  ·cases Qq1.mp hm;exact⟨t,rfl,h1,h2⟩
theorem sE.all{x:List Nat}:∀(ps:List Pr) (kvs:List (D×D)),sE x kvs->(∀p∈ps,p.1∈x/\p.2.length<=1/\∀c∈p.2,c∈x)->sE x (jF kvs (ps.map λp=>(.str [p.1],.str p.2)))
 | [],kvs,h,_=>h
 | p::ps,kvs,h,hp=>by
  have h1:=hp p (Qqz ..);exact sE.all ps _ (h.put (.str [p.1]) (.inr (strOf [p.1])) p.2 h1.2.1 h1.2.2) λp hm=>hp p (Qqj _ hm)
theorem za:∀(ps:List Pr),ni (ps.map encC)=some (ps.map λp=>(.str [p.1],.str p.2))
 | []=>rfl
 | p::ps=>by
  rw[Qwx];unfold ni;rw[za ps]
  rfl
theorem rK{x:List Nat}{ps:List Pr}(hp:∀p∈ps,p.1∈x/\p.2.length<=1/\∀c∈p.2,c∈x):∃kvs,pN [.tup (ps.map encC)]=some (.dct kvs)/\sE x kvs:=by
 refine⟨jF [] (ps.map λp=>(.str [p.1],.str p.2)),?_,sE.all ps [] (λk v h=>by simp at h) hp⟩;show(ni (ps.map encC)).map _=_;rw[za]
 rfl
def look(kvs:List (D×D))(s:Nat):Option (List Nat):=match j9 kvs (.inr (strOf [s])) with
 | some (.str t)=>some t
 | _=>none
theorem vq{x:List Nat}{kvs:List (D×D)}(h:sE x kvs)(s:Nat):tZ (.str [s]) (.dct kvs)=some (.bl (look kvs s).isSome):=by
 show some (D.bl (j9 kvs (.inr (strOf [s]))).isSome)=_;unfold look;cases e:j9 kvs (.inr (strOf [s])) with
 | none=>rfl
 | some v=>
  obtain⟨k,hk,_⟩:=ir.j4 e;obtain⟨t,rfl,_⟩:=h k v hk
  rfl
theorem iB{x:List Nat}{kvs:List (D×D)}(h:sE x kvs){s:Nat}{t:List Nat}(hs:look kvs s=some t):gY (.dct kvs) (.str [s])=some (.str t)/\t.length<=1/\∀c∈t,c∈x:=by
 unfold look at hs;split at hs
 ·rename_i u e;cases hs;obtain⟨k,hk,_⟩:=ir.j4 e;obtain⟨t',h1,h2⟩:=h k _ hk;cases h1;exact⟨e,h2⟩
 ·cases hs
section
variable{x w:List Nat}{l r:D}{kvs:List (D×D)}
def nw(kvs:List (D×D))(l r:D)(w:List Nat)(near n:Nat):List Nat:=if ((look kvs (sg w (n+1))).isSome&&(fit l near&&fit r (sg w (n+2))))=true then (look kvs (sg w (n+1))).getD [] else [sg w (n+1)]
def dH(al:Bool)(w:List Nat)(made:List (List Nat))(n:Nat):Nat:=if al=true then (35::made.flatten).getLastD 0 else sg w n
def cg(al:Bool)(kvs:List (D×D))(l r:D)(w:List Nat):Nat->List (List Nat)
 | 0=>[]
 | n+1=>cg al kvs l r w n++[nw kvs l r w (dH al w (cg al kvs l r w n) n) n]
theorem Il(hw:∀c∈w,c∈x){n:Nat}(h:n<w.length):sg w (n+1)=w.getD n 0/\sg w (n+1)∈x:=by
 have e:sg w (n+1)=w.getD n 0:=by show(w++[35]).getD n 0=_;rw[Qq7,Qq7,Qxq h]
 exact⟨e,by rw[e];exact hw _ (Qz6 (getD_get h))⟩
theorem Pa(hk:sE x kvs)(hw:∀c∈w,c∈x){n:Nat}(h:n<w.length)(near:Nat):(nw kvs l r w near n).length<=1/\∀c∈nw kvs l r w near n,c∈x:=by
 unfold nw;split
 ·cases e:look kvs (sg w (n+1)) with
  | none=>exact⟨Qxk _,λc hc=>by simp at hc⟩
  | some t=>exact(iB hk e).2
 ·exact⟨Qq0 _,λc hc=>by rw[Qq1.mp hc];exact(Il hw h).2⟩
theorem zA(al:Bool)(hk:sE x kvs)(hw:∀c∈w,c∈x):∀n,n<=w.length->(cg al kvs l r w n).length=n/\∀z∈cg al kvs l r w n,z.length<=1/\∀c∈z,c∈x
 | 0,_=>⟨rfl,λz hz=>by simp[cg] at hz⟩
 | n+1,h=>by
  obtain⟨h1,h2⟩:=zA al hk hw n (by omega);unfold cg;refine⟨by rw[Qqk,Qwk,h1],λz hz=>?_⟩;rcases Qw0.mp hz with hz|hz
  ·exact h2 z hz
  ·rw[Qq1.mp hz];exact Pa hk hw (by omega) _
theorem Ut(al:Bool)(hk:sE x kvs)(hw:∀c∈w,c∈x){n:Nat}(h:n<=w.length):(cg al kvs l r w n).flatten.length<=n:=by obtain⟨h1,h2⟩:=zA (l:=l) (r:=r) al hk hw n h;rw[List.length_flatten];have:=LQ.Gi (k:=1) λz hz=>(h2 z hz).1;omega
theorem DX:∀(a:Nat) (z:List Nat),(a::z).getLastD 0∈a::z
 | a,[]=>Qqz ..
 | a,b::z=>Qqj _ (DX b z)
theorem Pj(al:Bool)(hk:sE x kvs)(hw:∀c∈w,c∈x){n:Nat}(h:n<=w.length):dH al w (cg al kvs l r w n) n∈35::x:=by
 unfold dH;split
 ·rcases Qq8.mp (DX 35 (cg al kvs l r w n).flatten) with e|e
  ·rw[e];exact Qqz ..
  ·obtain⟨z,hz,hc⟩:=List.mem_flatten.mp e;exact Qqj _ (((zA (l:=l) (r:=r) al hk hw n h).2 z hz).2 _ hc)
 ·exact z7 hw (by omega)
theorem aez(n:Nat):dw (.int (n:Int)) (.int 1)=some (.int ((n+1:Nat):Int)):=rfl
theorem wG(made:List (List Nat))(t:List Nat)(n:Nat)(h:t.length<=1):dH true w (made++[t]) (n+1)=if t=[] then dH true w made n else t.headD 0:=by
 unfold dH;rw[if_pos rfl,if_pos rfl]
 match t,h with
 | [],_=>rw[if_pos rfl];simp
 | [a],_=>
  rw[if_neg (by simp)];rw[Qj0];have:∀(b:Nat) (z:List Nat),(b::(z++[a])).getLastD 0=a:=by
   intro b z
   induction z generalizing b with
   | nil=>rfl
   | cons c z ih=>exact ih c
  exact this 35 _
def gn(al:Bool):D:=if al=true then .str [97,108,111,110,103] else .str [111,110,99,101]
def Mr:bK:=jc.lG
variable(hx:x∈XS)(hl:l∈SG x)(hr:r∈SG x)(hw:∀c∈w,c∈x)(hn:w.length<=30000)(hk:sE x kvs)
include hx hl hr hw hn hk
theorem Ro(al:Bool)(n:Nat)(hnn:n<w.length)(a0 a1 a3 a12:OD) :
  ∃b12,Mr [a0,a1,Zf (gn al),a3,Zf l,Zf r,Zf (.dct kvs),Zs (w++[35]),Zl ((cg al kvs l r w n).map .str),Zs [dH al w (cg al kvs l r w n) n],Zf (.int (n:Int)),Zs [sg w (n+1)],a12] =
   .nx [a0,a1,Zf (gn al),a3,Zf l,Zf r,Zf (.dct kvs),Zs (w++[35]),Zl ((cg al kvs l r w (n+1)).map .str),Zs [dH al w (cg al kvs l r w (n+1)) (n+1)],Zf (.int (n:Int)),Zs [sg w (n+1)],b12]:=by
 have hcl:=(zA (l:=l) (r:=r) al hk hw n (by omega)).1;have hnm:=Pj (l:=l) (r:=r) al hk hw (n:=n) (by omega);have hno:=Pa (l:=l) (r:=r) hk hw hnn (dH al w (cg al kvs l r w n) n);have hcg:cg al kvs l r w (n+1)=cg al kvs l r w n++[nw kvs l r w (dH al w (cg al kvs l r w n) n) n]:=rfl;have i2:=abV (z:=w++[35]) (n:=n+1) (by rw[Qqk,Qwk];omega);have h2m:sg w (n+2)∈35::x:=z7 hw (by omega);rw[hcg];generalize hM:cg al kvs l r w n=made at *;generalize hN:dH al w made n=near at *;have hnw:nw kvs l r w near n=if ((look kvs (sg w (n+1))).isSome&&(fit l near&&fit r (sg w (n+2))))=true then (look kvs (sg w (n+1))).getD [] else [sg w (n+1)]:=rfl
 generalize hT:nw kvs l r w near n=t at *;refine⟨Zs t,?_⟩;unfold Mr;refine(az rfl).trans ?_;refine(az (e:=[a0,a1,Zf (gn al),a3,Zf l,Zf r,Zf (.dct kvs),Zs (w++[35]),Zl (made.map .str),Zs [near],Zf (.int (n:Int)),Zs [sg w (n+1)],Zs t]) ?_).trans ?_
 ·have tt:ik (gf (aB tZ 11 (bh 6))) (ik (gf (ao cP (Zv 4 (Zv 9 aj)))) (gf (ao cP (Zv 5 (aa (aB fZ 7 (aB dw 10 (Zi 1))) aj))))) [a0,a1,Zf (gn al),a3,Zf l,Zf r,Zf (.dct kvs),Zs (w++[35]),Zl (made.map .str),Zs [near],Zf (.int (n:Int)),Zs [sg w (n+1)],Zs [sg w (n+1)]] = .ok ((look kvs (sg w (n+1))).isSome&&(fit l near&&fit r (sg w (n+2)))) [a0,a1,Zf (gn al),a3,Zf l,Zf r,Zf (.dct kvs),Zs (w++[35]),Zl (made.map .str),Zs [near],Zf (.int (n:Int)),Zs [sg w (n+1)],Zs [sg w (n+1)]]:=by
   refine iZ (fC (bQ rfl rfl rfl (vq hk _))) (iZ (fC (aD rfl (fH x hx l hl _ hnm))) (fC (aD ?_ (fH x hx r hr _ h2m))));refine aH (d:=r) rfl (aH ?_ bD);exact bQ rfl (bQ rfl rfl rfl (aez n)) rfl i2
  cases hc:(look kvs (sg w (n+1))).isSome&&(fit l near&&fit r (sg w (n+2))) with
  | true=>
   rw[hc] at tt hnw;rw[if_pos rfl] at hnw;obtain⟨u,hu⟩:=Qzq.mp (Qj9.mp hc).1;rw[hu] at hnw;cases hnw;exact(gZ tt).trans (bM (bQ rfl rfl rfl (iB hk hu).1) rfl)
  | false=>
   rw[hc] at tt hnw;rw[if_neg Qxx] at hnw;rw[hnw];exact(fK tt).trans rfl
 refine(az (e:=[a0,a1,Zf (gn al),a3,Zf l,Zf r,Zf (.dct kvs),Zs (w++[35]),Zl ((made++[t]).map .str),Zs [near],Zf (.int (n:Int)),Zs [sg w (n+1)],Zs t]) ?_).trans ?_
 ·rw[Qx6];exact(bW (i:=8) (e:=[a0,a1,Zf (gn al),a3,Zf l,Zf r,Zf (.dct kvs),Zs (w++[35]),Zl (made.map .str),Zs [near],Zf (.int (n:Int)),Zs [sg w (n+1)],Zs t]) rfl rfl rfl (by rw[Qqy,hcl];exact Qw6 (show n<=30000 by omega) (by decide))).trans rfl
 cases al with
 | false=>exact(gZ (e:=_) rfl).trans rfl
 | true=>
  refine(fK (e:=_) rfl).trans ?_;rw[wG made t n hno.1,hN]
  match t,hno.1 with
  | [],_=>exact(fK (e:=_) rfl).trans rfl
  | [a],_=>exact(gZ (e:=_) rfl).trans rfl
theorem Um{done rest:List D}{d:D}(h:uC w=done++d::rest):d = .tup [.int (done.length:Int),.str [sg w (done.length+1)]]/\done.length<w.length:=by have h1:=JK h;unfold uC at h1;rw[Qxy] at h1;obtain⟨p,hp,rfl⟩:=Qwj.mp h1;rw[List.getElem?_zipIdx] at hp;obtain⟨c,hc,rfl⟩:=Qwj.mp hp;have hl:done.length<w.length:=(Qq5.mp hc).1;rw[getD_get hl] at hc;cases hc;refine⟨?_,hl⟩;rw[(Il hw hl).1,Nat.zero_add]
def out(al:Bool)(kvs:List (D×D))(l r:D)(w:List Nat):List Nat:=(cg al kvs l r w w.length).flatten
theorem with_changes(al:Bool)(ch:D)(hd:pN [ch]=some (.dct kvs)):eY [.tup [gn al,ch,l,r],.str w]=some (.str (out al kvs l r w)):=by
 generalize hR:D.tup [gn al,ch,l,r]=R;obtain⟨e',f1,hdl,a10,a11,a12,rfl⟩:=j6 (g:=cC 2 (aJ (ak 10) (aJ (ak 11) cD))) (uC w)
  (λdone env=>done.length<=w.length/\∃a10 a11 a12,env=[Zf R,Zs w,Zf (gn al),Zf ch,Zf l,Zf r,Zf (.dct kvs),Zs (w++[35]),Zl ((cg al kvs l r w done.length).map .str),Zs [dH al w (cg al kvs l r w done.length) done.length],a10,a11,a12])
  (λdone s rest hall env ⟨hdl,a10,a11,a12,he⟩=>by
   subst he;obtain⟨rfl,hdl⟩:=Um hx hl hr hw hn hk hall;obtain⟨b12,hb⟩:=Ro hx hl hr hw hn hk al done.length hdl (Zf R) (Zs w) (Zf ch) a12;refine⟨_,_,rfl,hb,by rw[Qqk,Qwk];omega,Zf (.int (done.length:Int)),Zs [sg w (done.length+1)],b12,?_⟩;rw[Qqk,Qwk])
  [Zf R,Zs w,Zf (gn al),Zf ch,Zf l,Zf r,Zf (.dct kvs),Zs (w++[35]),Zl [],Zs [35],Zn,Zn,Zn] ⟨Qxk _,Zn,Zn,Zn,by cases al<;>rfl⟩
 have hlen:(uC w).length=w.length:=by unfold uC;rw[Qqy,List.length_zipIdx]
 rw[hlen] at f1;have hok:=zA (l:=l) (r:=r) al hk hw w.length (Qq0 _);refine bV (env:=[Zf R,Zs w,Zf (gn al),Zf ch,Zf l,Zf r,Zf (.dct kvs),Zs (w++[35]),Zl ((cg al kvs l r w w.length).map .str),Zs [dH al w (cg al kvs l r w w.length) w.length],a10,a11,a12]) ?_;unfold cM;refine(az (e:=[Zf R,Zs w,Zf (gn al),Zf ch,Zf l,Zf r,Zn,Zn,Zn,Zn,Zn,Zn,Zn]) (by rw[<-hR];rfl)).trans ?_;refine(az (e:=[Zf R,Zs w,Zf (gn al),Zf ch,Zf l,Zf r,Zf (.dct kvs),Zn,Zn,Zn,Zn,Zn,Zn]) ?_).trans ?_
 ·exact bM (aD rfl hd) rfl
 refine(az (e:=[Zf R,Zs w,Zf (gn al),Zf ch,Zf l,Zf r,Zf (.dct kvs),Zs (w++[35]),Zn,Zn,Zn,Zn,Zn]) ?_).trans ?_
 ·exact bM (bQ rfl rfl rfl (kO (by show w.length+1<=100000;omega))) rfl
 refine(az rfl).trans ?_;refine(az rfl).trans ?_;refine(az ((gq rfl).trans f1)).trans ?_;refine bA (bF rfl rfl ?_);exact Qe (by rw[hok.1];omega) λz hz=>Qq3 (hok.2 z hz).1 (by decide)
theorem Xy(al:Bool):(∀c∈out al kvs l r w,c∈x)/\(out al kvs l r w).length<=2*w.length+1:=by
 unfold out;refine⟨λc hc=>?_,?_⟩
 ·obtain⟨z,hz,hcz⟩:=List.mem_flatten.mp hc;exact((zA (l:=l) (r:=r) al hk hw w.length (Qq0 _)).2 z hz).2 c hcz
 ·have:=Ut (l:=l) (r:=r) al hk hw (Qq0 _);omega
end
section
variable{x w:List Nat}{l r:D}
theorem VB{c:Nat}(hc:c∈x)(n:Nat):∀z∈pc l r c w n,∀d∈z,d∈x:=by
 unfold pc;split
 ·intro z hz d hd;rw[Qq1.mp hz] at hd;rw[Qq1.mp hd];exact hc
 ·intro z hz;simp at hz
theorem Ot{c:Nat}(hc:c∈x)(hw:∀c∈w,c∈x):∀n,n<=w.length->∀z∈pin l r c w n,∀d∈z,d∈x
 | 0,_=>λz hz=>by simp[pin] at hz
 | n+1,h=>by
  intro z hz d hd;unfold pin at hz;rcases Qw0.mp hz with hz|hz
  ·exact Ot hc hw n (by omega) z hz d hd
  ·rcases Qw0.mp hz with hz|hz
   ·exact VB hc n z hz d hd
   ·rw[Qq1.mp hz] at hd;rw[Qq1.mp hd];exact(Il hw (by omega)).2
theorem Y9{c:Nat}(hc:c∈x)(hw:∀c∈w,c∈x):(∀d∈inn l r c w,d∈x)/\(inn l r c w).length<=2*w.length+1:=by
 unfold inn;refine⟨λd hd=>?_,?_⟩
 ·obtain⟨z,hz,hdz⟩:=List.mem_flatten.mp hd;rcases Qw0.mp hz with hz|hz
  ·exact Ot hc hw w.length (Qq0 _) z hz d hdz
  ·exact VB hc _ z hz d hdz
 ·have h1:=An (l:=l) (r:=r) (w:=w) c w.length;have h2:=Vz (l:=l) (r:=r) (w:=w) c w.length;rw[acj λz hz=>(Qw0.mp hz).elim (h1.2 z) (h2.2 z),Qqk];omega
end
theorem aas{w:D}(h:w = .str [111,110,99,101]\/w = .str [97,108,111,110,103]):∃al,w=gn al:=by
 rcases h with rfl|rfl
 ·exact⟨false,rfl⟩
 ·exact⟨true,rfl⟩
def sides:List D:=[.str [108,101,102,116],.str [114,105,103,104,116]]
theorem xm{x w:List Nat}{wy ch l r:D}(hx:x∈XS)(h:iT x wy ch l r)(hw:∀c∈w,c∈x)(hn:w.length<=30000):∃o:List Nat,eF [.tup [wy,ch,l,r],.str w]=some (.str o)/\(∀c∈o,c∈x)/\o.length<=2*w.length+1:=by
 obtain⟨al,rfl⟩:=aas h.way;cases h.chg with
 | put hc=>
  rename_i c;refine⟨inn l r c w,?_,Y9 hc hw⟩
  ·refine bV (env:=[Zf (.tup [gn al,.tup [.tup [.str [],.str [c]]],l,r]),Zs w]) ?_;unfold cT;refine jK ?_;refine(gZ (fC (aD rfl rfl))).trans ?_;exact bA (aD rfl (with_put_in hx h.left h.right hw hn _ c))
 | chg h0 h4 hp=>
  rename_i ps;obtain⟨kvs,hd,hk⟩:=rK hp;refine⟨out al kvs l r w,?_,Xy hx h.left h.right hw hn hk al⟩;have hpi:dO [.tup [gn al,.tup (ps.map encC),l,r]]=some (.bl false):=by
   match ps,h0 with
   | p::ps,_=>
    refine bV (env:=[Zf (.tup [gn al,.tup ((p::ps).map encC),l,r])]) (bA ?_);refine bF (x:=.str [p.1]) ?_ rfl rfl;refine bF (x:=encC p) ?_ rfl rfl;refine bF rfl rfl (nR (j:=0) rfl)
  refine bV (env:=[Zf (.tup [gn al,.tup (ps.map encC),l,r]),Zs w]) ?_;unfold cT;refine(az ((fK (fC (aD rfl hpi))).trans rfl)).trans ?_;exact bA (aD rfl (with_changes hx h.left h.right hw hn hk al _ hd))
theorem QH{x w:List Nat}{wy ch l r:D}(hx:x∈XS)(h:iT x wy ch l r)(hw:∀c∈w,c∈x)(hn:w.length<=30000):∀s∈sides,∃o:List Nat,fW [s,.tup [wy,ch,l,r],.str w]=some (.str o)/\(∀c∈o,c∈x)/\o.length<=2*w.length+1:=by
 intro s hs;rcases Qq8.mp hs with rfl|hs
 ·obtain⟨o,h1,h3⟩:=xm hx h hw hn;refine⟨o,?_,h3⟩
  ·refine bV (env:=[Zs [108,101,102,116],Zf (.tup [wy,ch,l,r]),Zs w]) ?_;unfold eN;refine(az ((fK (by rfl)).trans rfl)).trans ?_;exact bA (aD rfl h1)
 ·rw[Qq1.mp hs];obtain⟨o,h1,h3,h4⟩:=xm hx (⟨h.way,h.chg,h.right,h.left⟩:iT x wy ch r l) (λc hc=>hw c (Qj4.mp hc)) (by rw[Qx2];exact hn);have rev:∀{a:Ev} {env:Ev.Env},a env = .ok (.str o) env->mQ a env = .ok (.str o.reverse) env:=λ{a env} e=>by unfold mQ;rw[e];rfl
  refine⟨o.reverse,?_,λc hc=>h3 c (Qj4.mp hc),by rw[Qx2] at h4 ⊢;exact h4⟩
  ·refine bV (env:=[Zs [114,105,103,104,116],Zf (.tup [wy,ch,l,r]),Zs w]) ?_;unfold eN;refine jK ((gZ rfl).trans (bA (rev ?_)));exact aD rfl h1
end lB
namespace vC
open Ev PySem L2
open ir (bW)
open lB (XS sides iT kO)
def cI(x:List Nat)(R:D):Prop:=∃wy ch l r,R = .tup [wy,ch,l,r]/\iT x wy ch l r
def cF(s R:D)(w:List Nat):List Nat:=match lB.fW [s,R,.str w] with
 | some (.str o)=>o
 | _=>[]
section
variable{x:List Nat}{s:D}
theorem ZS(hx:x∈XS)(hs:s∈sides){R:D}(hR:cI x R){w:List Nat}(hw:∀c∈w,c∈x)(hn:w.length<=30000) :
  fW [s,R,.str w]=some (.str (cF s R w))/\(∀c∈cF s R w,c∈x)/\(cF s R w).length<=2*w.length+1:=by
 obtain⟨wy,ch,l,r,rfl,h⟩:=hR;obtain⟨o,h1,h3⟩:=lB.QH hx h hw hn s hs;have e:cF s (.tup [wy,ch,l,r]) w=o:=by unfold cF;rw[h1]
 rw[e];exact⟨h1,h3⟩
def fin(s:D)(Rs:List D)(w:List Nat):List Nat:=Rs.foldl (λv R=>cF s R v) w
def uZ(s:D):List Nat->List D->List (List Nat)
 | w,[]=>[w]
 | w,R::Rs=>w::uZ s (cF s R w) Rs
theorem BX:∀(Rs:List D) (w:List Nat) (R:D),uZ s w (Rs++[R])=uZ s w Rs++[cF s R (fin s Rs w)]
 | [],w,R=>rfl
 | Q::Rs,w,R=>by
  show w::uZ s (cF s Q w) (Rs++[R])=w::uZ s (cF s Q w) Rs++[cF s R (fin s Rs (cF s Q w))];rw[BX Rs]
  rfl
theorem vI:∀(Rs:List D) (w:List Nat),∃pre,uZ s w Rs=pre++[fin s Rs w]
 | [],w=>⟨[],rfl⟩
 | R::Rs,w=>by
  obtain⟨pre,e⟩:=vI Rs (cF s R w);refine⟨w::pre,?_⟩;show w::uZ s (cF s R w) Rs=_;rw[e]
  rfl
theorem HR:∀(Rs:List D) (w:List Nat),(uZ s w Rs).length=Rs.length+1
 | [],w=>rfl
 | R::Rs,w=>by show(w::uZ s (cF s R w) Rs).length=_;rw[Qqv,HR Rs,Qqv]
theorem xx(hx:x∈XS)(hs:s∈sides):∀(Rs:List D) (w:List Nat),(∀R∈Rs,cI x R)->(∀c∈w,c∈x)->(w.length+1)*2^Rs.length<=301->(∀c∈fin s Rs w,c∈x)/\(fin s Rs w).length+1<=(w.length+1)*2^Rs.length
 | [],w,_,hw,hn=>⟨hw,by show w.length+1<=(w.length+1)*1;omega⟩
 | R::Rs,w,hR,hw,hn=>by
  have h2:(w.length+1)*2^(R::Rs).length=(2*w.length+1+1)*2^Rs.length:=by
   rw[Qqv,Nat.pow_succ,<-Nat.mul_assoc,Nat.mul_right_comm]
   congr 1
   omega
  have hp:1<=2^Rs.length:=Nat.one_le_two_pow;have hwl:w.length<=30000:=by have:2*w.length+1+1<=(2*w.length+1+1)*2^Rs.length:=Nat.le_mul_of_pos_right _ hp;omega
  obtain⟨_,h3,h4⟩:=ZS hx hs (hR R (Qqz ..)) hw hwl;have h5:((cF s R w).length+1)*2^Rs.length<=(2*w.length+1+1)*2^Rs.length:=Nat.mul_le_mul_right _ (by omega);obtain⟨h6,h7⟩:=xx hx hs Rs (cF s R w) (λQ hQ=>hR Q (Qqj _ hQ)) h3 (by omega);refine⟨h6,?_⟩;show(fin s Rs (cF s R w)).length+1<=_;omega
theorem Uj(hx:x∈XS)(hs:s∈sides)(Rs:List D)(w:List Nat)(hR:∀R∈Rs,cI x R)(hw:∀c∈w,c∈x)(hn:(w.length+1)*2^Rs.length<=301):(∀c∈fin s Rs w,c∈x)/\(fin s Rs w).length<=30000:=by obtain⟨h1,h2⟩:=xx hx hs Rs w hR hw hn;exact⟨h1,by omega⟩
theorem Xl{Rs done rest:List D}{R:D}(hall:Rs=done++R::rest){n:Nat}(hn:(n+1)*2^Rs.length<=301):(n+1)*2^done.length<=301:=by
 have hl:done.length<=Rs.length:=by rw[hall,Qqk];omega
 exact Qq3 (Nat.mul_le_mul_left _ (Nat.pow_le_pow_right (by decide) hl)) hn
theorem Fe{ds:List D}{d:D}:qF (ds++[d]) (-1)=some d:=by
 unfold qF T7;rw[if_neg (by decide),if_pos (by rw[Qqk,Qwk];omega)];show(ds++[d])[((-1:Int)+((ds++[d]).length:Int)).toNat]? = _;have e1:((-1:Int)+((ds++[d]).length:Int)).toNat=ds.length:=by rw[Qqk,Qwk];omega
 rw[e1];simp
theorem P0(Rs:List D)(w:List Nat):fZ (.lst ((uZ s w Rs).map .str)) (.int (-1))=some (.str (fin s Rs w)):=by obtain⟨pre,e⟩:=vI (s:=s) Rs w;rw[e,Qx6];exact Fe
theorem PQ(Rs:List D)(w:List Nat):fZ (.tup ((uZ s w Rs).map .str)) (.int (-1))=some (.str (fin s Rs w)):=by obtain⟨pre,e⟩:=vI (s:=s) Rs w;rw[e,Qx6];exact Fe
def Wl:bK:=jc.zj
variable(hx:x∈XS)(hs:s∈sides){Rs:List D}(hR:∀R∈Rs,cI x R)(h4:Rs.length<=10){w:List Nat}(hw:∀c∈w,c∈x)(hn:(w.length+1)*2^Rs.length<=301)
include hx hs hR h4 hw hn
theorem walk:xA [.tup [s,.tup Rs],.str w]=some (.tup ((uZ s w Rs).map .str)):=by
 generalize hO:D.tup [s,.tup Rs]=O;obtain⟨e',f1,hd,a5,rfl⟩:=j6 (g:=ak 5) (b:=Wl) Rs
  (λdone env=>done.length<=Rs.length/\∃a5,env=[Zf O,Zs w,Zf s,Zf (.tup Rs),Zl ((uZ s w done).map .str),a5])
  (λdone R rest hall env ⟨hd,a5,he⟩=>by
   subst he;have hm:∀Q∈done,cI x Q:=λQ hQ=>hR Q (by rw[hall];exact Qjj _ hQ);have hRm:cI x R:=hR R (by rw[hall];exact Qxz _ (Qqz ..));obtain⟨q1,q2⟩:=Uj hx hs done w hm hw (Xl hall hn);obtain⟨c1,_⟩:=ZS hx hs hRm q1 q2;have hl:=Qw8 List.length hall;rw[Qqk,Qqv] at hl;refine⟨[Zf O,Zs w,Zf s,Zf (.tup Rs),Zl ((uZ s w done).map .str),Zf R],[Zf O,Zs w,Zf s,Zf (.tup Rs),Zl ((uZ s w (done++[R])).map .str),Zf R],rfl,?_,by rw[Qqk,Qwk];omega,_,rfl⟩;rw[BX,Qx6];refine(bW (i:=4) (x0:=(uZ s w done).map .str) (xs:=(uZ s w done).map .str) (d:=.str (cF s R (fin s done w))) (env:=[Zf O,Zs w,Zf s,Zf (.tup Rs),Zl ((uZ s w done).map .str),Zf R]) (e:=[Zf O,Zs w,Zf s,Zf (.tup Rs),Zl ((uZ s w done).map .str),Zf R]) (by rfl) ?_ (by rfl) (by rw[Qqy,HR];exact Qw6 (show done.length+1<=11 by omega) (by decide))).trans rfl;refine aD (ds:=[s,R,.str (fin s done w)]) (aH (d:=s) (by rfl) (aH (d:=R) (by rfl) (aH ?_ bD))) c1;exact aen (x:=.lst ((uZ s w done).map .str)) (y:=.int (-1)) (by rfl) (by rfl) (by rfl) (P0 done w))
  [Zf O,Zs w,Zf s,Zf (.tup Rs),Zl [.str w],Zn] ⟨Qxk _,Zn,rfl⟩
 refine bV (env:=[Zf O,Zs w,Zf s,Zf (.tup Rs),Zl ((uZ s w Rs).map .str),a5]) ?_;unfold qz;refine(az (e:=[Zf O,Zs w,Zf s,Zf (.tup Rs),Zn,Zn]) (by rw[<-hO];rfl)).trans ?_;refine(az (e:=[Zf O,Zs w,Zf s,Zf (.tup Rs),Zl [.str w],Zn]) (by rfl)).trans ?_;exact(az ((gq (ds:=Rs) (e:=[Zf O,Zs w,Zf s,Zf (.tup Rs),Zl [.str w],Zn]) (by rfl)).trans f1)).trans rfl
theorem made:qw [.tup [s,.tup Rs],.str w]=some (.str (fin s Rs w)):=by refine bV (env:=[Zf (.tup [s,.tup Rs]),Zs w]) (bA ?_);exact bF (x:=.tup ((uZ s w Rs).map .str)) (y:=.int (-1)) (aD (ds:=[.tup [s,.tup Rs],.str w]) (by rfl) (walk hx hs hR h4 hw hn)) (by rfl) (PQ Rs w)
end
theorem gw{d:D}(h:okN 60 d=true):zq d d=some (.bl false):=by
 show(aX 60 d d).map _=_;rw[xH 60 d h]
 rfl
end vC
namespace gm
open Ev PySem L2
open ir (SG bW)
open lB (XS sides iT kO fit fH sE look iB vq gn encC rK yJ iZ)
open vC (cI gw)
abbrev St:=Bool×List Nat
def bz(s:St):D:=.tup [.bl s.1,.str s.2]
inductive Rl
 | put (c:Nat) (l r:D)
 | chg (al:Bool) (kvs:List (D×D)) (l r:D)
def Di(kvs:List (D×D))(s:Nat)(b:Bool):List Nat:=if b=true then (look kvs s).getD [s] else [s]
def nrC(al:Bool)(l:D)(s:Nat)(b:Bool)(p:List Nat):Bool:=if al=true then (if p=[] then b else fit l (p.headD 0)) else fit l s
def stp:Rl->St->Nat->St×List Nat
 | .put c l r,s,a=>((fit l a,[a]),s.2++(if (s.1&&fit r a)=true then [c] else []))
 | .chg al kvs l r,s,a=>match s.2 with
  | []=>((s.1,[a]),[])
  | h::_=>((nrC al l h s.1 (Di kvs h (s.1&&fit r a)),[a]),Di kvs h (s.1&&fit r a))
def rd(ρ:Rl):St->List Nat->St×List Nat
 | s,[]=>(s,[])
 | s,a::z=>((rd ρ (stp ρ s a).1 z).1,(stp ρ s a).2++(rd ρ (stp ρ s a).1 z).2)
theorem Gz(ρ:Rl):∀(z:List Nat) (s:St) (y:List Nat),rd ρ s (z++y)=((rd ρ (rd ρ s z).1 y).1,(rd ρ s z).2++(rd ρ (rd ρ s z).1 y).2)
 | [],s,y=>rfl
 | a::z,s,y=>by
  show((rd ρ (stp ρ s a).1 (z++y)).1,(stp ρ s a).2++(rd ρ (stp ρ s a).1 (z++y)).2)=_;rw[Gz ρ z];show _=((rd ρ (rd ρ (stp ρ s a).1 z).1 y).1,((stp ρ s a).2++(rd ρ (stp ρ s a).1 z).2)++_);rw[Qwy]
  rfl
theorem Ai(ρ:Rl)(s:St)(a:Nat):rd ρ s [a]=stp ρ s a:=by show((stp ρ s a).1,(stp ρ s a).2++[])=_;rw[Qx1]
theorem vm(ρ:Rl)(s:St)(z:List Nat)(a:Nat):rd ρ s (z++[a])=((stp ρ (rd ρ s z).1 a).1,(rd ρ s z).2++(stp ρ (rd ρ s z).1 a).2):=by rw[Gz,Ai]
inductive Is (x:List Nat):D->Rl->Prop
 | put {wy l r:D} {c:Nat}:c∈x->l∈SG x->r∈SG x->Is x (.tup [wy,.tup [.tup [.str [],.str [c]]],l,r]) (.put c l r)
 | chg {al:Bool} {ps:List lB.Pr} {kvs:List (D×D)} {l r:D}:0<ps.length->pN [.tup (ps.map encC)]=some (.dct kvs)->sE x kvs->l∈SG x->r∈SG x->Is x (.tup [gn al,.tup (ps.map encC),l,r]) (.chg al kvs l r)
theorem Wm{w:D}(h:w = .str [111,110,99,101]\/w = .str [97,108,111,110,103]):∃al,w=gn al:=by
 rcases h with rfl|rfl
 ·exact⟨false,rfl⟩
 ·exact⟨true,rfl⟩
theorem Qh{x:List Nat}{R:D}(h:cI x R):∃ρ,Is x R ρ:=by
 obtain⟨wy,ch,l,r,rfl,h⟩:=h;obtain⟨h1,h2,h3,h4⟩:=h;cases h2 with
 | put hc=>exact⟨_,.put hc h3 h4⟩
 | chg hp hp4 hps=>
  obtain⟨al,rfl⟩:=Wm h1;obtain⟨kvs,hd,hk⟩:=rK hps;exact⟨_,.chg hp hd hk h3 h4⟩
def nU(x:List Nat)(s:St):Prop:=s.2.length<=1/\∀c∈s.2,c∈35::x
theorem Oh{x:List Nat}{kvs:List (D×D)}(hk:sE x kvs)(s:Nat)(hs:s∈35::x)(b:Bool):(Di kvs s b).length<=1/\∀c∈Di kvs s b,c∈35::x:=by
 unfold Di;split
 ·cases e:look kvs s with
  | none=>exact⟨Qq0 _,λc hc=>by rw[Qq1.mp hc];exact hs⟩
  | some t=>exact⟨(iB hk e).2.1,λc hc=>Qqj _ ((iB hk e).2.2 c hc)⟩
 ·exact⟨Qq0 _,λc hc=>by rw[Qq1.mp hc];exact hs⟩
theorem MP{x:List Nat}{R:D}{ρ:Rl}(hR:Is x R ρ){s:St}(hs:nU x s){a:Nat}(ha:a∈35::x):nU x (stp ρ s a).1/\(stp ρ s a).2.length<=2/\∀c∈(stp ρ s a).2,c∈35::x:=by
 have h1:∀b:Bool,nU x (b,[a]):=λb=>⟨Qq0 _,λc hc=>by rw[Qq1.mp hc];exact ha⟩;cases hR with
 | put hc hl hr=>
  refine⟨h1 _,?_,?_⟩
  ·show(s.2++_).length<=2;have:=hs.1;rw[Qqk];split
   ·rw[Qwk];omega
   ·rw[Qzv];omega
  ·intro c hm;rcases Qw0.mp hm with hm|hm
   ·exact hs.2 c hm
   ·split at hm
    ·rw[Qq1.mp hm];exact Qqj _ hc
    ·simp at hm
 | chg hp hd hk hl hr=>
  obtain⟨b,h⟩:=s
  match h,hs with
  | [],hs=>exact⟨h1 _,Qxk _,λc hc=>by simp[stp] at hc⟩
  | s::h,hs=>
   exact⟨h1 _,Qq3 (Oh hk s (hs.2 s (Qqz ..)) _).1 (by decide),(Oh hk s (hs.2 s (Qqz ..)) _).2⟩
theorem Dc{x:List Nat}{R:D}{ρ:Rl}(hR:Is x R ρ):∀(z:List Nat) {s:St},nU x s->(∀a∈z,a∈35::x)->nU x (rd ρ s z).1/\(rd ρ s z).2.length<=2*z.length/\∀c∈(rd ρ s z).2,c∈35::x
 | [],s,hs,_=>⟨hs,Qq0 _,λc hc=>by simp[rd] at hc⟩
 | a::z,s,hs,hz=>by
  obtain⟨h1,h2,h3⟩:=MP hR hs (hz a (Qqz ..));obtain⟨h4,h5,h6⟩:=Dc hR z h1 λb hb=>hz b (Qqj _ hb);refine⟨h4,?_,?_⟩
  ·show((stp ρ s a).2++(rd ρ (stp ρ s a).1 z).2).length<=_;rw[Qqk,Qqv];omega
  ·intro c hc;rcases Qw0.mp (show c∈(stp ρ s a).2++(rd ρ (stp ρ s a).1 z).2 from hc) with hc|hc
   ·exact h3 c hc
   ·exact h6 c hc
theorem aef{x:List Nat}{kvs:List (D×D)}(hk:sE x kvs)(s:Nat):Qn (.dct kvs) (.str [s]) (.str [s])=some (.str ((look kvs s).getD [s])):=by
 show some ((j9 kvs (.inr (strOf [s]))).getD (.str [s]))=_;unfold look;cases e:j9 kvs (.inr (strOf [s])) with
 | none=>rfl
 | some v=>
  obtain⟨k,hm,_⟩:=ir.j4 e;obtain⟨t,rfl,_⟩:=hk k v hm
  rfl
theorem Li{a b c:Ev}{env e1 e2 e3:Ev.Env}{kvs:List (D×D)}{k t d:D}(h1:a env = .ok (.dct kvs) e1)(h2:b e1 = .ok k e2)(h3:c e2 = .ok t e3)(h:Qn (.dct kvs) k t=some d):Bm a b c env = .ok d e3:=by
 unfold Bm;rw[h1];simp only[bindR];rw[h2];simp only;rw[h3];simp only;rw[h]
 rfl
theorem Us(wy ch l r:D)(b:Bool)(a:Nat):cO [.tup [wy,ch,l,r],bz (b,[]),.str [a]]=some (.tup [bz (b,[a]),.str []]):=rfl
section
variable{x:List Nat}{l r:D}(hx:x∈XS)(hl:l∈SG x)(hr:r∈SG x)
include hx hl hr
theorem Nj(wy:D)(c:Nat)(b:Bool)(h:List Nat)(hh:h.length<=1)(a:Nat)(ha:a∈35::x) :
  cH [.tup [wy,.tup [.tup [.str [],.str [c]]],l,r],bz (b,h),.str [a]]=some (.tup [bz (stp (.put c l r) (b,h) a).1,.str (stp (.put c l r) (b,h) a).2]):=by
 generalize hR:D.tup [wy,.tup [.tup [.str [],.str [c]]],l,r]=R;generalize hS:bz (b,h)=S;have fl:=fH x hx l hl a ha;have fr:=fH x hx r hr a ha;show _=some (D.tup [.tup [.bl (fit l a),.str [a]],.str (h++(if (b&&fit r a)=true then [c] else []))]);generalize hP:(h++(if (b&&fit r a)=true then [c] else []))=p;refine bV (env:=[Zf R,Zf S,Zs [a],Zf wy,Zf (.tup [.tup [.str [],.str [c]]]),Zf l,Zf r,Zb b,Zs h,Zs p]) ?_;unfold bN;refine(az (e:=[Zf R,Zf S,Zs [a],Zf wy,Zf (.tup [.tup [.str [],.str [c]]]),Zf l,Zf r,Zn,Zn,Zn]) (by rw[<-hR];rfl)).trans ?_;refine(az (e:=[Zf R,Zf S,Zs [a],Zf wy,Zf (.tup [.tup [.str [],.str [c]]]),Zf l,Zf r,Zb b,Zs h,Zn]) (by rw[<-hS];rfl)).trans ?_;refine(az rfl).trans ?_;refine(az (e:=[Zf R,Zf S,Zs [a],Zf wy,Zf (.tup [.tup [.str [],.str [c]]]),Zf l,Zf r,Zb b,Zs h,Zs p]) ?_).trans ?_
 ·have t:ik (gf (aU 7)) (gf (ao cP (Zv 6 (Zv 2 aj)))) [Zf R,Zf S,Zs [a],Zf wy,Zf (.tup [.tup [.str [],.str [c]]]),Zf l,Zf r,Zb b,Zs h,Zs h] = .ok (b&&fit r a) [Zf R,Zf S,Zs [a],Zf wy,Zf (.tup [.tup [.str [],.str [c]]]),Zf l,Zf r,Zb b,Zs h,Zs h]:=
   iZ rfl (fC (aD rfl fr))
  cases hc:b&&fit r a with
  | true=>
   rw[hc] at t hP;rw[if_pos rfl] at hP;rw[<-hP];exact(gZ t).trans (bM (bQ rfl rfl rfl (kO (by show h.length+1<=100000;omega))) rfl)
  | false=>
   rw[hc] at t hP;rw[if_neg Qxx,Qx1] at hP;rw[<-hP];exact(fK t).trans rfl
 ·refine bA (di (aH (di (aH (aD (by rfl) fl) (aH (by rfl) bD)) Ev.Ft) (aH (by rfl) bD)) Ev.Ft)
theorem Nk(al:Bool){kvs:List (D×D)}(hk:sE x kvs)(ch:D)(hd:pN [ch]=some (.dct kvs))(b:Bool)(s:Nat)(hs:s∈35::x)(a:Nat)(ha:a∈35::x) :
  cO [.tup [gn al,ch,l,r],bz (b,[s]),.str [a]]=some (.tup [bz (stp (.chg al kvs l r) (b,[s]) a).1,.str (stp (.chg al kvs l r) (b,[s]) a).2]):=by
 generalize hR:D.tup [gn al,ch,l,r]=R;generalize hS:bz (b,[s])=S;have fs:=fH x hx l hl s hs;have fr:=fH x hx r hr a ha;have hp:=Oh hk s hs (b&&fit r a);show _=some (D.tup [.tup [.bl (nrC al l s b (Di kvs s (b&&fit r a))),.str [a]],.str (Di kvs s (b&&fit r a))]);have hP:Di kvs s (b&&fit r a)=if (b&&fit r a)=true then (look kvs s).getD [s] else [s]:=rfl
 generalize Di kvs s (b&&fit r a)=p at *;refine bV (env:=[Zf R,Zf S,Zs [a],Zf (gn al),Zf ch,Zf l,Zf r,Zb b,Zs [s],Zs p]) ?_;unfold bZ;refine(az (e:=[Zf R,Zf S,Zs [a],Zf (gn al),Zf ch,Zf l,Zf r,Zn,Zn,Zn]) (by rw[<-hR];rfl)).trans ?_;refine(az (e:=[Zf R,Zf S,Zs [a],Zf (gn al),Zf ch,Zf l,Zf r,Zb b,Zs [s],Zn]) (by rw[<-hS];rfl)).trans ?_;refine(az ((fK (by rfl)).trans rfl)).trans ?_;refine(az rfl).trans ?_;refine(az (e:=[Zf R,Zf S,Zs [a],Zf (gn al),Zf ch,Zf l,Zf r,Zb b,Zs [s],Zs p]) ?_).trans ?_
 ·have t:ik (gf (aU 7)) (gf (ao cP (Zv 6 (Zv 2 aj)))) [Zf R,Zf S,Zs [a],Zf (gn al),Zf ch,Zf l,Zf r,Zb b,Zs [s],Zs [s]] = .ok (b&&fit r a) [Zf R,Zf S,Zs [a],Zf (gn al),Zf ch,Zf l,Zf r,Zb b,Zs [s],Zs [s]]:=
   iZ rfl (fC (aD rfl fr))
  cases hc:b&&fit r a with
  | true=>
   rw[hc] at t hP;rw[if_pos rfl] at hP;rw[hP];exact(gZ t).trans (bM (Li (aD rfl hd) rfl rfl (aef hk s)) rfl)
  | false=>
   rw[hc] at t hP;rw[if_neg Qxx] at hP;rw[hP];exact(fK t).trans rfl
 ·cases al with
  | false=>
   refine(jK ?_).trans rfl;refine(gZ rfl).trans ?_;refine bA (di (aH (di (aH (aD rfl fs) (aH rfl bD)) Ev.Ft) (aH rfl bD)) Ev.Ft)
  | true=>
   refine(az ((fK (by rfl)).trans rfl)).trans ?_
   match p,hp with
   | [],_=>rfl
   | [q],hp=>
    have fq:=fH x hx l hl q (hp.2 q (Qqz ..));refine(az ((fK (by rfl)).trans rfl)).trans ?_;exact bA (di (aH (di (aH (aD rfl fq) (aH rfl bD)) Ev.Ft) (aH rfl bD)) Ev.Ft)
   | _::_::_,hp=>exact absurd hp.1 (by simp)
end
theorem Ul{a b:Ev}{env:Ev.Env}{p q:Bool}(h1:a env = .ok (.bl p) env)(h2:b env = .ok (.bl q) env):Bl a b env = .ok (.bl (p||q)) env:=by
 cases p with
 | true=>rw[Zr h1];rfl
 | false=>rw[Qu h1,h2];rfl
theorem vh:∀{y z:List Nat},nW y=nW z->y=z
 | [],[],_=>rfl
 | [],_::_,h=>by cases h
 | _::_,[],h=>by cases h
 | a::y,b::z,h=>by
  have h1:D.str [a]::nW y=D.str [b]::nW z:=h;injection h1 with h2 h3
  injection h2 with h4
  injection h4 with h5
  rw[h5,vh h3]
theorem vN(y:List Nat)(a:Nat):nW (y++[a])=nW y++[.str [a]]:=by unfold nW;rw[Qx6];rfl
theorem z6{z:List Nat}{done rest:List D}{d:D}(h:nW z=done++d::rest):∃a,d = .str [a]/\a∈z/\done.length<z.length:=by
 have hm:d∈nW z:=by rw[h];exact Qxz _ (Qqz ..)
 obtain⟨a,ha,rfl⟩:=Qw5.mp hm;have:=Qw8 List.length h;unfold nW at this;rw[Qqy,Qqk,Qqv] at this;exact⟨a,rfl,ha,by omega⟩
theorem Qo{ps:List lB.Pr}(hp:0<ps.length){env:Ev.Env}{wy l r:D}(h:env[0]? = some (Zf (.tup [wy,.tup (ps.map encC),l,r]))):aM qD (aM fZ (aM fZ (aB fZ 0 (Zi 1)) (Zi 0)) (Zi 0)) (Zw []) env = .ok (.bl false) env:=by
 match ps,hp with
 | p::ps,_=>
  refine bF (x:=.str [p.1]) ?_ rfl rfl;refine bF (x:=encC p) ?_ rfl rfl;refine bF (x:=.tup ((p::ps).map encC)) ?_ rfl (nR (j:=0) rfl);exact bQ h rfl h rfl
section
variable{x:List Nat}{R:D}{ρ:Rl}(hx:x∈XS)(hR:Is x R ρ)
include hx hR
theorem one_sign{s:St}(hs:nU x s){a:Nat}(ha:a∈35::x) :
  (dO [R]=some (.bl true)/\cH [R,bz s,.str [a]]=some (.tup [bz (stp ρ s a).1,.str (stp ρ s a).2]))\/(dO [R]=some (.bl false)/\cO [R,bz s,.str [a]]=some (.tup [bz (stp ρ s a).1,.str (stp ρ s a).2])):=by
 cases hR with
 | put hc hl hr=>exact .inl ⟨rfl,Nj hx hl hr _ _ s.1 s.2 hs.1 a ha⟩
 | chg hp hd hk hl hr=>
  rename_i al ps kvs l r;refine .inr ⟨?_,?_⟩
  ·exact bV (bA (Qo hp rfl))
  ·obtain⟨b,h⟩:=s
   match h,hs with
   | [],hs=>exact Us _ _ _ _ _ _
   | [s],hs=>exact Nk hx hl hr al hk _ hd b s (hs.2 s (Qqz ..)) a ha
   | _::_::_,hs=>exact absurd hs.1 (by simp)
def Nf:bK:=jc.iG
theorem RK{s:St}(hs:nU x s){a:Nat}(ha:a∈35::x)(A2 a6 a7:OD)(ps:List D)(hp:ps.length<=400)(t:Bool) :
  ∃u,Nf [Zf R,Zf (bz s),A2,Zl ps,Zb t,Zs [a],a6,a7] = .nx [Zf R,(Zf (bz (stp ρ s a).1)),A2,(Zl (ps++[.str (stp ρ s a).2])),Zb (t||u),Zs [a],Zs s.2,(Zs ((stp ρ s a).2))]:=by
 obtain⟨u,hu⟩:∃u,zq (.str (stp ρ s a).2) (.str s.2)=some (.bl u):=⟨_,rfl⟩;refine⟨u,?_⟩;have h1:=one_sign hx hR hs ha;generalize hq:(stp ρ s a).2=q at *;generalize hs':(stp ρ s a).1=s' at *;unfold Nf;refine(az rfl).trans ?_;refine(az (e:=[Zf R,Zf (bz s'),A2,Zl ps,Zb t,Zs [a],Zs s.2,Zs q]) ?_).trans ?_
 ·rcases h1 with ⟨g1,g2⟩|⟨g1,g2⟩
  ·refine(gZ (fC (aD rfl g1))).trans ?_;exact bM (aD rfl g2) rfl
  ·refine(fK (fC (aD rfl g1))).trans ?_;exact bM (aD rfl g2) rfl
 refine(az (e:=[Zf R,Zf (bz s'),A2,Zl ps,Zb (t||u),Zs [a],Zs s.2,Zs q]) ?_).trans ?_
 ·refine bM (Ul rfl ?_) rfl;exact bQ rfl rfl rfl hu
 ·exact(bW (i:=3) (e:=[Zf R,Zf (bz s'),A2,Zl ps,Zb (t||u),Zs [a],Zs s.2,Zs q]) rfl rfl rfl (Qw6 hp (by decide))).trans rfl
theorem read_signs{s:St}(hs:nU x s){z:List Nat}(hz:∀a∈z,a∈35::x)(hn:z.length<=150):∃t,dZ [R,bz s,.str z]=some (.tup [bz (rd ρ s z).1,.str (rd ρ s z).2,.bl t]):=by
 obtain⟨e',f1,hd,dz,pl,t,a5,a6,a7,e1,hdz,e2,e3,e4,rfl⟩:=j6 (g:=ak 5) (nW z)
  (λdone env=>done.length<=z.length/\∃dz pl t a5 a6 a7,done=nW dz/\(∀a∈dz,a∈35::x)/\pl.flatten=(rd ρ s dz).2/\pl.length=done.length/\(∀q∈pl,q.length<=2)/\env=[Zf R,(Zf (bz (rd ρ s dz).1)),Zs z,Zl (pl.map .str),Zb t,a5,a6,a7])
  (λdone d rest hall env ⟨hd,dz,pl,t,a5,a6,a7,e1,hdz,e2,e3,e4,he⟩=>by
   subst he;obtain⟨a,rfl,ha,hl⟩:=z6 hall;have hok:=Dc hR dz hs hdz;have hst:=MP hR hok.1 (hz a ha);obtain⟨u,hb⟩:=RK hx hR hok.1 (hz a ha) (Zs z) a6 a7 (pl.map .str) (by rw[Qqy];omega) t;refine⟨_,_,rfl,hb,by rw[Qqk,Qwk];omega,dz++[a],pl++[(stp ρ (rd ρ s dz).1 a).2],(t||u),Zs [a],(Zs ((rd ρ s dz).1.2)),(Zs ((stp ρ (rd ρ s dz).1 a).2)),by rw[vN,e1],?_,?_,?_,?_,?_⟩
   ·intro b hb;rcases Qw0.mp hb with hb|hb
    ·exact hdz b hb
    ·rw[Qq1.mp hb];exact hz a ha
   ·rw[vm,Qj0,e2];simp
   ·rw[Qqk,Qqk,e3]
    rfl
   ·intro q hq;rcases Qw0.mp hq with hq|hq
    ·exact e4 q hq
    ·rw[Qq1.mp hq];exact hst.2.1
   ·rw[vm,Qx6]
    rfl)
  [Zf R,Zf (bz s),Zs z,Zl [],Zb false,Zn,Zn,Zn] ⟨Qxk _,[],[],false,Zn,Zn,Zn,rfl,λa ha=>by simp at ha,rfl,rfl,λq hq=>by simp at hq,rfl⟩
 have hzz:=vh e1;subst hzz;refine⟨t,bV (env:=[Zf R,(Zf (bz (rd ρ s z).1)),Zs z,Zl (pl.map .str),Zb t,a5,a6,a7]) ?_⟩;unfold dF;refine(az rfl).trans ?_;refine(az rfl).trans ?_;refine(az ((gq rfl).trans f1)).trans ?_;have hj:jL (.str []) (.lst (pl.map .str))=some (.str (rd ρ s z).2):=by rw[lB.Qe (by rw[e3];omega) e4,e2]
 exact bA (di (aH rfl (aH (bF rfl rfl hj) (aH rfl bD))) Ev.zz3)
end
theorem zr{g:GV}{b:bK}{d:D}{ds:List D}{env e1 e2:Ev.Env}(h1:g d env=some e1)(h2:b e1 = .nx e2):jw g b (d::ds) env=jw g b ds e2:=by
 conv=>lhs;unfold jw
 rw[h1];simp only;rw[h2]
def tn:D->D
 | .tup [wy,ch,l,r]=>.tup [wy,ch,r,l]
 | d=>d
def lf:D->D
 | .tup [_,_,l,_]=>l
 | d=>d
def rt:D->Bool
 | .str (114::_)=>true
 | _=>false
def lay(s:D)(Rs:List D):List D:=if rt s=true then Rs.map tn else Rs
theorem Ce{x:List Nat}{R:D}(h:cI x R):cI x (tn R)/\fJ [R]=some (tn R)/\Bk [R]=some (tn R):=by obtain⟨wy,ch,l,r,rfl,h1,h2,h3,h4⟩:=h;exact⟨⟨wy,ch,r,l,rfl,h1,h2,h4,h3⟩,rfl,rfl⟩
theorem lH(s:D)(Rs:List D):(lay s Rs).length=Rs.length:=by
 unfold lay;split
 ·rw[Qqy]
 ·rfl
theorem Ba{x:List Nat}{s:D}{Rs:List D}(h:∀R∈Rs,cI x R):∀R∈lay s Rs,cI x R:=by
 unfold lay;split
 ·intro R hR;obtain⟨Q,hQ,rfl⟩:=Qw5.mp hR;exact(Ce (h Q hQ)).1
 ·exact h
noncomputable def pJ(x:List Nat)(R:D):Rl:=open Classical in if h:∃ρ,Is x R ρ then h.choose else .put 0 .non .non
theorem qi{x:List Nat}{R:D}(h:cI x R):Is x R (pJ x R):=by unfold pJ;rw[dif_pos (Qh h)];exact(Qh h).choose_spec
noncomputable def lz(x:List Nat):List D->List St->List Nat->List St×List Nat
 | R::Rs,s::ss,z=>((rd (pJ x R) s z).1::(lz x Rs ss (rd (pJ x R) s z).2).1,(lz x Rs ss (rd (pJ x R) s z).2).2)
 | _,_,z=>([],z)
noncomputable def Hq(x:List Nat):List D->List St->List Nat->List Nat
 | R::Rs,s::ss,z=>Hq x Rs ss (rd (pJ x R) s (z++[35])).2
 | _,_,z=>z
def t7(Rs:List D):List St:=Rs.map λR=>(fit (lf R) 35,[])
section
variable{x:List Nat}{s:D}(hx:x∈XS)(hs:s∈sides){Rs:List D}(hR:∀R∈Rs,cI x R)(h4:Rs.length<=10)
include hx hs hR h4
theorem reading_rules:bY [.tup [s,.tup Rs]]=some (.tup (lay s Rs)):=by
 rcases Qq8.mp hs with rfl|hs
 ·rfl
 ·cases Qq1.mp hs;obtain⟨env',g1,v5,rfl⟩:=rA (g:=ak 3) (e:=ao fJ (Zv 3 aj)) (λenv=>∃v5,env=[Zf (.tup [.str [114,105,103,104,116],.tup Rs]),Zs [114,105,103,104,116],Zf (.tup Rs),v5]) tn Rs
   [Zf (.tup [.str [114,105,103,104,116],.tup Rs]),Zs [114,105,103,104,116],Zf (.tup Rs),Zn] ⟨none,rfl⟩
   (λd hd env ⟨v5,he⟩=>by
    subst he;exact⟨[Zf (.tup [.str [114,105,103,104,116],.tup Rs]),Zs [114,105,103,104,116],Zf (.tup Rs),Zf d],_,rfl,aD rfl (Ce (hR d hd)).2.1,_,rfl⟩)
  refine bV (env:=[Zf (.tup [.str [114,105,103,104,116],.tup Rs]),Zs [114,105,103,104,116],Zf (.tup Rs)]) ?_;unfold cB;refine(az rfl).trans ?_;refine(jK ?_).trans rfl;refine(gZ rfl).trans ?_;refine bA (aD (ds:=[.lst (Rs.map tn)]) (aH ?_ bD) rfl);exact lM (n:=4) (aK:=[Zf (.tup [.str [114,105,103,104,116],.tup Rs]),Zs [114,105,103,104,116],Zf (.tup Rs)]) rfl rfl g1 (by rw[Qqy];exact Qq3 h4 (by decide))
theorem first_standing:bG [.tup [s,.tup Rs]]=some (.tup ((t7 (lay s Rs)).map bz)):=by
 have h1:=reading_rules hx hs hR h4;have h2:=Ba (s:=s) hR;have h3:=lH s Rs;generalize lay s Rs=Ls at *;generalize D.tup [s,.tup Rs]=O at *;obtain⟨env',g1,v1,v2,v3,v4,rfl⟩:=rA (g:=cC 4 (aJ (ak 1) (aJ (ak 2) (aJ (ak 3) (aJ (ak 4) cD))))) (e:=cj (aa (ao cP (Zv 3 (aa (Zw [35]) aj))) (aa (Zw []) aj))) (λenv=>∃v1 v2 v3 v4,env=[Zf O,v1,v2,v3,v4]) (λR=>bz (fit (lf R) 35,[])) Ls
  [Zf O,Zn,Zn,Zn,Zn] ⟨none,Zn,Zn,Zn,rfl⟩
  (λd hd env ⟨v1,v2,v3,v4,he⟩=>by
   subst he;obtain⟨wy,ch,l,r,rfl,hro⟩:=h2 d hd;exact⟨[Zf O,Zf wy,Zf ch,Zf l,Zf r],[Zf O,Zf wy,Zf ch,Zf l,Zf r],rfl,di (aH (aD rfl (fH x hx l hro.left 35 (Qqz ..))) rfl) Ev.Ft,_,_,_,_,rfl⟩)
 refine bV (env:=[Zf O]) (bA (aD (ds:=[.lst (Ls.map λR=>bz (fit (lf R) 35,[]))]) (aH ?_ bD) ?_))
 ·exact lM (n:=5) (aK:=[Zf O]) (rJ (aD rfl h1) rfl) rfl g1 (by rw[Qqy,h3];exact Qq3 h4 (by decide))
 ·unfold t7;rw[Qj5]
  rfl
end
theorem Qp(x:List Nat)(Rs:List D):∀s∈t7 Rs,nU x s:=by intro s hs;obtain⟨R,_,rfl⟩:=Qw5.mp hs;exact⟨Qxk _,λc hc=>by simp at hc⟩
def Fy:bK:=jc.jH
def Fz:bK:=jc.oZ
section
variable{x:List Nat}(hx:x∈XS)
theorem Js{n m k:Nat}(h:(n+2)*2^(k+1)<=150)(hm:m<=2*(n+1)):(m+2)*2^k<=150/\n<=73:=by
 have h1:(n+2)*2^(k+1)=(2*(n+1)+2)*2^k:=by
  rw[Nat.pow_succ,<-Nat.mul_assoc,Nat.mul_right_comm]
  congr 1
  omega
 have h2:(m+2)*2^k<=(2*(n+1)+2)*2^k:=Nat.mul_le_mul_right _ (by omega);have h3:1<=2^k:=Nat.one_le_two_pow;have h4:2*(n+1)+2<=(2*(n+1)+2)*2^k:=Nat.le_mul_of_pos_right _ h3;omega
include hx
theorem Vg(A0 A1 A2:OD):∀(Rs:List D) (ss:List St) (z:List Nat) (acc ts:List D) (v6 v7 v8 v9:OD),Rs.length=ss.length->(∀R∈Rs,cI x R)->(∀s∈ss,nU x s)->(∀a∈z,a∈35::x)->(z.length+2)*2^Rs.length<=150->acc.length+Rs.length<=100->ts.length+Rs.length<=100->
  ∃us w6 w7 w8 w9,jw (cC 2 (aJ (ak 6) (aJ (ak 7) cD))) Fy (zP Rs (ss.map bz)) [A0,A1,A2,Zs z,Zl acc,Zl ts,v6,v7,v8,v9] = .nx [A0,A1,A2,(Zs ((lz x Rs ss z).2)),(Zl (acc++(lz x Rs ss z).1.map bz)),Zl us,w6,w7,w8,w9]/\(∀s∈(lz x Rs ss z).1,nU x s)/\(lz x Rs ss z).1.length=Rs.length/\us.length<=100
 | [],[],z,acc,ts,v6,v7,v8,v9,_,_,_,_,_,_,ht=>by
  refine⟨ts,v6,v7,v8,v9,?_,λs hs=>by simp[lz] at hs,rfl,ht⟩;show Ev.Out.nx _=Ev.Out.nx [A0,A1,A2,Zs z,Zl (acc++[]),Zl ts,v6,v7,v8,v9];rw[Qx1]
 | [],_::_,_,_,_,_,_,_,_,h,_,_,_,_,_,_=>by simp at h
 | _::_,[],_,_,_,_,_,_,_,h,_,_,_,_,_,_=>by simp at h
 | R::Rs,s::ss,z,acc,ts,v6,v7,v8,v9,h,hR,hS,hz,hn,ha,ht=>by
  have hRi:=qi (hR R (Qqz ..));have hso:=hS s (Qqz ..);obtain⟨o1,o2,o3⟩:=Dc hRi z hso hz;obtain⟨n1,n2⟩:=Js hn (m:=(rd (pJ x R) s z).2.length) (by omega);obtain⟨t,hrs⟩:=read_signs hx hRi hso hz (by omega);rw[Qqv] at ha ht;obtain⟨us,w6,w7,w8,w9,g1,g2,g3,g4⟩:=Vg A0 A1 A2 Rs ss (rd (pJ x R) s z).2 (acc++[bz (rd (pJ x R) s z).1]) (ts++[.bl t]) (Zf R) (Zf (bz s)) (Zf (bz (rd (pJ x R) s z).1)) (Zb t) (by simpa using h) (λQ hQ=>hR Q (Qqj _ hQ)) (λq hq=>hS q (Qqj _ hq)) o3 n1 (by rw[Qqk,Qwk];omega) (by rw[Qqk,Qwk];omega);refine⟨us,w6,w7,w8,w9,?_,?_,?_,g4⟩
  ·show jw _ Fy (.tup [R,bz s]::zP Rs (ss.map bz)) _=Ev.Out.nx [A0,A1,A2,(Zs ((lz x Rs ss (rd (pJ x R) s z).2).2)),(Zl (acc++(bz (rd (pJ x R) s z).1::(lz x Rs ss (rd (pJ x R) s z).2).1.map bz))),Zl us,w6,w7,w8,w9];rw[zr rfl ?_,g1,Qwy]
   ·rfl
   ·generalize(rd (pJ x R) s z).2=q at *;generalize(rd (pJ x R) s z).1=s' at *;unfold Fy;refine(az (bM (aD rfl hrs) rfl)).trans ?_;refine(az (e:=[A0,A1,A2,Zs q,Zl (acc++[bz s']),Zl ts,Zf R,Zf (bz s),Zf (bz s'),Zb t]) ?_).trans ?_
    ·exact(bW (i:=4) (e:=[A0,A1,A2,Zs q,Zl acc,Zl ts,Zf R,Zf (bz s),Zf (bz s'),Zb t]) rfl rfl rfl (Qw6 (show acc.length<=100 by omega) (by decide))).trans rfl
    ·exact(bW (i:=5) (e:=[A0,A1,A2,Zs q,Zl (acc++[bz s']),Zl ts,Zf R,Zf (bz s),Zf (bz s'),Zb t]) rfl rfl rfl (Qw6 (show ts.length<=100 by omega) (by decide))).trans rfl
  ·intro q hq;rcases Qq8.mp (show q∈(rd (pJ x R) s z).1::(lz x Rs ss (rd (pJ x R) s z).2).1 from hq) with rfl|hq
   ·exact o1
   ·exact g2 q hq
  ·show(_::(lz x Rs ss (rd (pJ x R) s z).2).1).length=_;rw[Qqv,g3,Qqv]
theorem Vh(A0 A1:OD):∀(Rs:List D) (ss:List St) (z:List Nat) (ts:List D) (v6 v7 v8 v9:OD),Rs.length=ss.length->(∀R∈Rs,cI x R)->(∀s∈ss,nU x s)->(∀a∈z,a∈35::x)->(z.length+2)*2^Rs.length<=150->ts.length+Rs.length<=100->
  ∃us w6 w7 w8 w9,jw (cC 2 (aJ (ak 4) (aJ (ak 5) cD))) Fz (zP Rs (ss.map bz)) [A0,A1,Zs z,Zl ts,v6,v7,v8,v9] = .nx [A0,A1,Zs (Hq x Rs ss z),Zl us,w6,w7,w8,w9]/\us.length<=100
 | [],[],z,ts,v6,v7,v8,v9,_,_,_,_,_,ht=>⟨ts,v6,v7,v8,v9,rfl,ht⟩
 | [],_::_,_,_,_,_,_,_,h,_,_,_,_,_=>by simp at h
 | _::_,[],_,_,_,_,_,_,h,_,_,_,_,_=>by simp at h
 | R::Rs,s::ss,z,ts,v6,v7,v8,v9,h,hR,hS,hz,hn,ht=>by
  have hRi:=qi (hR R (Qqz ..));have hso:=hS s (Qqz ..);have hz':∀a∈z++[35],a∈35::x:=λa ha=>by
   rcases Qw0.mp ha with ha|ha
   ·exact hz a ha
   ·rw[Qq1.mp ha];exact Qqz ..
  have hzl:(z++[35]).length=z.length+1:=by rw[Qqk,Qwk]
  obtain⟨o1,o2,o3⟩:=Dc hRi (z++[35]) hso hz';obtain⟨n1,n2⟩:=Js hn (m:=(rd (pJ x R) s (z++[35])).2.length) (by omega);obtain⟨t,hrs⟩:=read_signs hx hRi hso hz' (by omega);rw[Qqv] at ht;obtain⟨us,w6,w7,w8,w9,g1,g4⟩:=Vh A0 A1 Rs ss (rd (pJ x R) s (z++[35])).2 (ts++[.bl t]) (Zf R) (Zf (bz s)) (Zf (bz (rd (pJ x R) s (z++[35])).1)) (Zb t) (by simpa using h) (λQ hQ=>hR Q (Qqj _ hQ)) (λq hq=>hS q (Qqj _ hq)) o3 n1 (by rw[Qqk,Qwk];omega);refine⟨us,w6,w7,w8,w9,?_,g4⟩;show jw _ Fz (.tup [R,bz s]::zP Rs (ss.map bz)) _=Ev.Out.nx [A0,A1,(Zs (Hq x Rs ss (rd (pJ x R) s (z++[35])).2)),Zl us,w6,w7,w8,w9];rw[zr rfl ?_,g1];generalize(rd (pJ x R) s (z++[35])).2=q at *;generalize(rd (pJ x R) s (z++[35])).1=s' at *;unfold Fz;refine(az (bM (aD (aH rfl (aH rfl (aH (bQ rfl rfl rfl (kO (by show z.length+1<=100000;omega))) bD))) hrs) rfl)).trans ?_;exact(bW (i:=3) (e:=[A0,A1,Zs q,Zl ts,Zf R,Zf (bz s),Zf (bz s'),Zb t]) rfl rfl rfl (Qw6 (show ts.length<=100 by omega) (by decide))).trans rfl
end
open lB (XS sides iT kO yJ)
open ir (um jq BK PV SG Lp prs one others Iv Bq Be Og jD BJ mF Br)
open lB (Am)
def Px(i:Int):Int:=i*915965594177219015054603514932384110774149374281672134266497 % 10^60
theorem Tu(i:Int):(Px i).natAbs<2^200:=by
 unfold Px;have h1:0<=i*915965594177219015054603514932384110774149374281672134266497 % 10^60:=Int.emod_nonneg _ (by decide);have h2:i*915965594177219015054603514932384110774149374281672134266497 % 10^60<10^60:=Int.emod_lt_of_pos _ (by decide);have h3:(10:Int)^60<=2^200:=by decide
 omega
theorem mixed{i:Int}(h:Builtin.Int.intBits i<=2^20):gK [.int i]=some (.int (Px i)):=by
 have hm:jG i 915965594177219015054603514932384110774149374281672134266497=true:=ir.qm h (ir.pF (b:=200) (by decide)) (by decide);have e1:aB qt 0 (Zi 915965594177219015054603514932384110774149374281672134266497) [Zf (.int i)] = .ok (.int (i*915965594177219015054603514932384110774149374281672134266497)) [Zf (.int i)]:=by
  show iY (gI jG (λi j=>D.int (i*j)) (.int i) (.int _)) _=_;unfold gI;simp only;rw[if_pos hm]
  rfl
 show(match bu _ [Zf (.int i)] with|.rt false d _=>some d|.nx _=>some .non|_=>none)=_;rw[bA];unfold aM;rw[e1]
 rfl
def kJ:bK:=aR (aM dw (aB qt 2 (aM Hi (Zi 10) (Zi 60))) (ao gK (aa (aM fZ (aM dw (ue (aU 0) (BP (aU 3)) (BP (aB dw 3 (Zi 1)))) (cu (aa (aM dw (aM qt (Zi 7919) (bh 3)) (Zi 61)) aj))) (Zi 0)) aj))) (ak 2)
theorem zb(ns:List Int)(hl:ns.length<=63)(hb:HH ns)(k a f:Int)(ha:a.natAbs<2^10)(hf:Builtin.Int.intBits f<=2^20) :
  ∃f':Int,kJ [Zf (.arr (ns.map .int)),Zf (.int k),Zf (.int f),Zf (.int a)] = .nx [Zf (.arr (ns.map .int)),Zf (.int k),Zf (.int f'),Zf (.int a)]/\(f=0->f'.natAbs<2^200):=by
 generalize hE:([Zf (.arr (ns.map .int)),Zf (.int k),Zf (.int f),Zf (.int a)]:Ev.Env)=env;have m1:jG 7919 a=true:=ir.qm (a:=20) (ir.pF (by decide)) (ir.pF ha) (by decide);have m2:jG f (10^(60:Int).toNat)=true:=ir.qm (b:=200) hf (ir.pF (by decide)) (by decide);have e1:ue (aU 0) (BP (aU 3)) (BP (aB dw 3 (Zi 1))) env = .ok (.lst (cutD (ns.map .int) (some a) (some (a+1)))) env:=by rw[<-hE];rfl
 have e2:cu (aa (aM dw (aM qt (Zi 7919) (bh 3)) (Zi 61)) aj) env = .ok (.lst [.int (7919*a+61)]) env:=by refine Er (aH (bF (bF rfl (by rw[<-hE];rfl) (Jp m1)) rfl rfl) bD) Ev.zz1
 generalize hL:cutD (ns.map D.int) (some a) (some (a+1))=L at e1;have hLl:L.length<=63:=by rw[<-hL];exact Qq3 (rN _ _ _) (by rw[Qqy];exact hl)
 have e3:aM dw (ue (aU 0) (BP (aU 3)) (BP (aB dw 3 (Zi 1)))) (cu (aa (aM dw (aM qt (Zi 7919) (bh 3)) (Zi 61)) aj)) env = .ok (.lst (L++[.int (7919*a+61)])) env:=by exact bF e1 e2 (Ej (by show L.length+1<=sizeLine;exact Qq3 (Nat.succ_le_succ hLl) (by decide)))
 obtain⟨c,hc,hcb⟩:∃c:Int,qF (L++[.int (7919*a+61)]) 0=some (.int c)/\Builtin.Int.intBits c<=2^20:=by
  cases hLc:L with
  | nil=>
   refine⟨7919*a+61,rfl,Qq3 (ir.pF (b:=30) ?_) (by decide)⟩;omega
  | cons y r=>
   have hy:y∈ns.map D.int:=ir.Ur (by rw[hL,hLc];exact Qqz ..);obtain⟨i,hi,rfl⟩:=Qw5.mp hy;exact⟨i,ir.Fd _ _,hb i hi⟩
 have e4:ao gK (aa (aM fZ (aM dw (ue (aU 0) (BP (aU 3)) (BP (aB dw 3 (Zi 1)))) (cu (aa (aM dw (aM qt (Zi 7919) (bh 3)) (Zi 61)) aj))) (Zi 0)) aj) env = .ok (.int (Px c)) env:=by exact aD (aH (bF e3 rfl hc) bD) (mixed hcb)
 refine⟨f*10^(60:Int).toNat+Px c,?_,λh0=>?_⟩
 ·unfold kJ;refine bM (e:=env) ?_ (by rw[<-hE];rfl);have e5:aB qt 2 (aM Hi (Zi 10) (Zi 60)) env = .ok (.int (f*10^(60:Int).toNat)) env:=by
   rw[<-hE];exact bQ rfl rfl rfl (Jp m2)
  exact bF e5 e4 rfl
 ·rw[h0,Int.zero_mul,Int.zero_add];exact Tu c
theorem pack(ns:List Int)(hl:ns.length<=63)(hb:HH ns)(k:Int)(h0:0<=k)(h1:k<=500):∃p:Int,kY [.arr (ns.map .int),.int k]=some (.lst [.int p]):=by
 obtain⟨f1,e1,b1⟩:=zb ns hl hb k (k+1) 0 (by omega) (by decide);obtain⟨f2,e2,_⟩:=zb ns hl hb k k f1 (by omega) (Qq3 (ir.pF (b1 rfl)) (by decide));refine⟨f2,?_⟩;have h:jC [Zf (.arr (ns.map .int)),Zf (.int k),Zn,Zn] = .rt true (.lst [.int f2]) [Zf (.arr (ns.map .int)),Zf (.int k),Zf (.int f2),Zf (.int k)]:=by
  unfold jC;refine(az rfl).trans ?_;refine(az (e:=[Zf (.arr (ns.map .int)),Zf (.int k),Zf (.int f2),Zf (.int k)]) ?_).trans rfl;refine(gq rfl).trans ?_;show jw (ak 3) kJ [.int (k+1),.int k] _=_;unfold jw;show(match kJ [Zf (.arr (ns.map .int)),Zf (.int k),Zf (.int 0),Zf (.int (k+1))] with|.nx e2=>jw (ak 3) kJ [.int k] e2|.ct e2=>_|.bk e2=>_|.rt o d e2=>_|.stuck=>_)=_;rw[e1];simp only;unfold jw;show(match kJ [Zf (.arr (ns.map .int)),Zf (.int k),Zf (.int f1),Zf (.int k)] with|.nx e2=>jw (ak 3) kJ [] e2|.ct e2=>_|.bk e2=>_|.rt o d e2=>_|.stuck=>_)=_;rw[e2]
  rfl
 show(match jC _ with|.rt true d _=>some d|_=>none)=_;have e:envOf 4 [D.arr (ns.map .int),.int k]=[Zf (.arr (ns.map .int)),Zf (.int k),Zn,Zn]:=rfl;rw[e,h]
theorem changes(n:Int)(x:List Nat)(hx:x∈XS):∃ch n',ir.eE [.lst [.int n],.str x]=some (ch,.lst [.int n'])/\yJ x ch:=by
 obtain⟨d,hd,e⟩:=dig n 5 (by decide);have hp:=um x hx;have hl4:=jq x hx;have t:gf (aM qD (cQ ir.aL 0 (aa (Zi 5) aj)) (Zi 0)) [Zl [.int n],Zs x,Zn,Zn,Zn,Zn] = .ok ((d:Int) == 0) [Zl [.int (n / 5)],Zs x,Zn,Zn,Zn,Zn]:=by
  rw[<-e]
  rfl
 by_cases h0:d=0
 ·subst h0;obtain⟨j,hj,ej⟩:=dig (n / 5) x.length hp;refine⟨.tup [.tup [.str [],.str [x[j]]]],n / 5 / (x.length:Int),jh (env:=[Zl [.int (n / 5 / (x.length:Int))],Zs x,Zn,Zn,Zn,Zn]) ?_ rfl,.put (Qx3 hj)⟩;unfold ir.cY;refine(jK ?_).trans rfl;refine(gZ t).trans ?_;refine bA (di (aH (di (aH rfl (aH ?_ bD)) Ev.Ft) bD) Ev.zz1);refine bQ (y:=.int (n / 5 % (x.length:Int))) rfl ?_ rfl ?_
  ·exact gG (e1:=[Zl [.int (n / 5)],Zs x,Zn,Zn,Zn,Zn]) rfl rfl rfl (jD _ x.length hp (by omega))
  ·show(qF x (n / 5 % (x.length:Int))).map _=_;rw[ej,Bw hj]
   rfl
 ·have t0:((d:Int) == 0)=false:=by rw[Qz0];omega
  rw[t0] at t;obtain⟨j,hj,ej⟩:=dig (n / 5) 3 (by decide);obtain⟨ds,hds,hl1,hl2⟩:∃ds,qW [.int (1+(j:Int))]=some ds/\0<ds.length/\ds.length<=4:=by
   have hc:j=0\/j=1\/j=2:=by omega
   rcases hc with rfl|rfl|rfl
   ·exact⟨_,rfl,by decide,by decide⟩
   ·exact⟨_,rfl,by decide,by decide⟩
   ·exact⟨_,rfl,by decide,by decide⟩
  obtain⟨e',f1,n',kvs,zs,v3,v4,v5,rfl,hk,hz1,hz2⟩:=j6 (g:=ak 3) ds
   (λdone env=>∃n kvs zs v3 v4 v5,env=[Zl [.int n],Zs x,Zt (.dct kvs),v3,v4,v5]/\BK x kvs zs/\zs.length<=done.length/\(0<done.length->0<zs.length))
   (λdone s rest hall env ⟨n,kvs,zs,v3,v4,v5,he,hk,hz1,hz2⟩=>by
    subst he;have hdl:done.length<=4:=by have:=Qw8 List.length hall;rw[Qqk,Qqv] at this;omega
    have hkl:kvs.length=zs.length:=by
     have:=Qw8 List.length hk.keys
     rwa [Qqy,Qqy] at this
    obtain⟨p,n',w4,w5,hpv,hb⟩:=ir.round n x hx kvs (by omega) (Zf s) v4 v5;obtain⟨zs',hk',z1,z2⟩:=hk.put hpv (BJ hpv);exact⟨_,_,rfl,hb,n',_,zs',_,_,_,rfl,hk',by rw[Qqk,Qwk];omega,λ_=>z1⟩)
   [Zl [.int (n / 5 / 3)],Zs x,Zt (.dct []),Zn,Zn,Zn] ⟨_,[],[],_,_,_,rfl,⟨rfl,.nil,λc hc=>by simp at hc,λk v h=>by simp at h⟩,Qq0 _,λh=>h⟩
  have hz3:zs.length<=4:=Qq3 hz1 hl2;have hok:yJ x (.tup (prs kvs ((iw (zs.map λc=>[c])).map D.str))):=by
   obtain⟨ps,e1,e2,e3⟩:=Am hx _ (Be hk);have hl:ps.length=zs.length:=by rw[e2,Qqy,(gJ _).length_eq,Qqy]
   rw[e1];have:=hz2 hl1;exact .chg (by omega) (by omega) e3
  refine⟨_,n',jh (env:=[Zl [.int n'],Zs x,Zt (.dct kvs),v3,v4,v5]) ?_ rfl,hok⟩;unfold ir.cY;refine(az ((fK t).trans rfl)).trans ?_;refine(az (e:=[Zl [.int (n / 5)],Zs x,Zt (.dct []),Zn,Zn,Zn]) rfl).trans ?_;refine(az (e:=[Zl [.int n'],Zs x,Zt (.dct kvs),v3,v4,v5]) ?_).trans ?_
  ·refine(gq ?_).trans f1;have a1:aa (aM dw (Zi 1) (cQ ir.aL 0 (aa (Zi 3) aj))) aj [Zl [.int (n / 5)],Zs x,Zt (.dct []),Zn,Zn,Zn] = .ok [.int (1+n / 5 % 3)] [Zl [.int (n / 5 / 3)],Zs x,Zt (.dct []),Zn,Zn,Zn]:=by rfl
   unfold gb;rw[a1];show iY (qW [.int (1+n / 5 % ((3:Nat):Int))]) _=_;rw[ej,hds]
   rfl
  ·exact Bq (Br hk hz3) _ _ _ _ _
theorem rule(n:Int)(x:List Nat)(hx:x∈XS):∃w ch l r n',ir.iM [.lst [.int n],.str x]=some (.tup [w,ch,l,r],.lst [.int n'])/\iT x w ch l r:=by
 obtain⟨d,hd,e⟩:=dig n 2 (by decide);obtain⟨w,hw,h1⟩:∃w,(w = .str [111,110,99,101]\/w = .str [97,108,111,110,103])/\fZ (.lst [.str [111,110,99,101],.str [97,108,111,110,103]]) (.int (d:Int))=some w:=by
  have hc:d=0\/d=1:=by omega
  rcases hc with rfl|rfl
  ·exact⟨_,.inl rfl,rfl⟩
  ·exact⟨_,.inr rfl,rfl⟩
 obtain⟨ch,n1,h2,h3⟩:=changes (n / 2) x hx;obtain⟨l,n2,h5,h6⟩:=ir.signs n1 x hx;obtain⟨r,n3,h7,h8⟩:=ir.signs n2 x hx;refine⟨w,ch,l,r,n3,jh (env:=[Zl [.int n3],Zs x,Zf w,Zf ch]) ?_ rfl,⟨hw,h3,h6,h8⟩⟩;unfold ir.gO;refine(az (e:=[Zl [.int (n / 2)],Zs x,Zf w,Zn]) ?_).trans ?_
 ·refine bM (d:=w) (e:=[Zl [.int (n / 2)],Zs x,Zn,Zn]) ?_ rfl;refine bF rfl rfl ?_;have e2:n % 2=(d:Int):=e;rw[e2];exact h1
 refine(az (e:=[Zl [.int n1],Zs x,Zf w,Zf ch]) ?_).trans ?_
 ·exact bM (gG (e1:=[Zl [.int (n / 2)],Zs x,Zf w,Zn]) rfl rfl rfl h2) rfl
 ·refine bA (di (aH (d:=w) rfl (aH rfl (aH (d:=l) (e1:=[Zl [.int n2],Zs x,Zf w,Zf ch]) ?_ (aH (d:=r) ?_ bD)))) Ev.zz4)
  ·exact gG (e1:=[Zl [.int n1],Zs x,Zf w,Zf ch]) rfl rfl rfl h5
  ·exact gG (e1:=[Zl [.int n2],Zs x,Zf w,Zf ch]) rfl rfl rfl h7
theorem order(n:Int)(x:List Nat)(hx:x∈XS)(m:Nat)(hm:m<=10):∃s Rs n',lL [.lst [.int n],.str x,.int (m:Int)]=some (.tup [s,.tup Rs],.lst [.int n'])/\s∈sides/\(∀R∈Rs,cI x R)/\Rs.length<=m:=by
 obtain⟨d,hd,e⟩:=dig n 2 (by decide);obtain⟨s,hs,h1⟩:∃s,s∈sides/\fZ (.lst [.str [108,101,102,116],.str [114,105,103,104,116]]) (.int (d:Int))=some s:=by
  have hc:d=0\/d=1:=by omega
  rcases hc with rfl|rfl
  ·exact⟨_,Qqz ..,rfl⟩
  ·exact⟨_,Qqj _ (Qqz ..),rfl⟩
 obtain⟨j,hj,ej⟩:=dig (n / 2) (m+1) (by omega);obtain⟨Rs,env',g1,⟨n',v4,rfl⟩,g3,g4⟩:=LQ.G8 (g:=ak 4) (e:=cQ iM 0 (Zv 1 aj)) (λenv=>∃n v4,env=[Zl [.int n],Zs x,Zf (.int (m:Int)),Zf s,v4]) (cI x) (gH 0 1 j)
  [Zl [.int (n / 2 / ((m+1:Nat):Int))],Zs x,Zf (.int (m:Int)),Zf s,Zn] ⟨_,_,rfl⟩
  (λt _ env ⟨n,v4,he⟩=>by
   subst he;obtain⟨wy,ch,l,r,n',h2,h3⟩:=rule n x hx;refine⟨.tup [wy,ch,l,r],_,[Zl [.int n'],Zs x,Zf (.int (m:Int)),Zf s,Zf t],rfl,?_,⟨_,_,rfl⟩,_,_,_,_,rfl,h3⟩;exact gG (e1:=[Zl [.int n],Zs x,Zf (.int (m:Int)),Zf s,Zf t]) rfl rfl rfl h2)
 have hl:Rs.length=j:=by rw[m6] at g4;exact g4
 refine⟨s,Rs,n',jh (env:=[Zl [.int n'],Zs x,Zf (.int (m:Int)),Zf s]) ?_ rfl,hs,g3,by omega⟩;unfold lO;refine(az (e:=[Zl [.int (n / 2)],Zs x,Zf (.int (m:Int)),Zf s]) ?_).trans ?_
 ·refine bM (d:=s) (e:=[Zl [.int (n / 2)],Zs x,Zf (.int (m:Int)),Zn]) ?_ rfl;refine bF rfl rfl ?_;have e2:n % 2=(d:Int):=e;rw[e2];exact h1
 refine bA (di (aH (d:=s) rfl (aH ?_ bD)) Ev.Ft);refine aD (ds:=[.lst Rs]) (aH ?_ bD) rfl;refine lM (n:=5) (aK:=[Zl [.int (n / 2 / ((m+1:Nat):Int))],Zs x,Zf (.int (m:Int)),Zf s]) ?_ rfl g1 (by rw[hl];exact Qq3 (show j<=10 by omega) (by decide));refine LQ.xC (ds:=[.int (n / 2 % ((m+1:Nat):Int))]) ?_ ?_
 ·refine aH ?_ bD;exact gG (e1:=[Zl [.int (n / 2)],Zs x,Zf (.int (m:Int)),Zf s]) rfl rfl rfl (ir.jD (n / 2) (m+1) (by omega) (by omega))
 ·have e2:n / 2 % ((m+1:Nat):Int)=(j:Int):=ej;rw[e2];exact LQ.RM (by omega)
open lB (XS sides iT kO fit fH)
theorem En{a:dG}{env e:Ev.Env}{x y:List D}(h:a env = .ok [.tup x,.tup y] e):xB a env = .ok (zP x y) e:=by unfold xB;rw[h];rfl
structure mq(x:List Nat)(s:D)(Rs:List D)(ss:List St):Prop where
 hx:x∈XS
 hs:s∈sides
 hR:∀R∈Rs,cI x R
 h4:Rs.length<=4
 hl:ss.length=Rs.length
 hS:∀t∈ss,nU x t
theorem aaI{n m:Nat}(h:n<=4)(hm:m<=7):(m+2)*2^n<=150:=by have h1:2^n<=2^4:=Nat.pow_le_pow_right (by decide) h;have h2:(m+2)*2^n<=9*2^4:=Nat.mul_le_mul (by omega) h1;omega
section
variable{x:List Nat}{s:D}{Rs:List D}{ss:List St}(o:mq x s Rs ss){z:List Nat}(hz:∀a∈z,a∈35::x)(hn:z.length<=7)
include o hz hn
theorem watch_on:∃us,kW [.tup [s,.tup Rs],.tup (ss.map bz),.str z]=some (.tup [.tup ((lz x (lay s Rs) ss z).1.map bz),.str (lz x (lay s Rs) ss z).2,.tup us])/\mq x s Rs (lz x (lay s Rs) ss z).1:=by
 have h1:=reading_rules o.hx o.hs o.hR (Qq3 o.h4 (by decide));have h2:=Ba (s:=s) o.hR;have h3:=lH s Rs;have h4:=o.h4;have hl:=o.hl;have hx:=o.hx;have hS:=o.hS;have hs:=o.hs;have hR:=o.hR;generalize lay s Rs=Ls at *;generalize D.tup [s,.tup Rs]=O at *;obtain⟨us,w6,w7,w8,w9,g1,g2,g3,g4⟩:=Vg hx (Zf O) (Zf (.tup (ss.map bz))) (Zs z) Ls ss z [] [] none none none none (by omega) h2 hS hz (aaI (by omega) hn) (by rw[Qzv];omega) (by rw[Qzv];omega);refine⟨us,bV (env:=[Zf O,(Zf (.tup (ss.map bz))),Zs z,(Zs ((lz x Ls ss z).2)),(Zl ([]++(lz x Ls ss z).1.map bz)),Zl us,w6,w7,w8,w9]) ?_,hx,hs,hR,h4,by omega,g2⟩;unfold iR;refine(az (by rfl)).trans ?_;refine(az (by rfl)).trans ?_;refine(az (by rfl)).trans ?_;refine(az ((gq ?_).trans g1)).trans ?_
 ·exact En (aH (aD (by rfl) h1) (by rfl))
 ·rw[List.nil_append];exact bA (di (by rfl) Ev.zz3)
theorem read_on:fV [.tup [s,.tup Rs],.tup (ss.map bz),.str z]=some (.tup [.tup ((lz x (lay s Rs) ss z).1.map bz),.str (lz x (lay s Rs) ss z).2])/\mq x s Rs (lz x (lay s Rs) ss z).1:=by
 obtain⟨us,h1,h2⟩:=watch_on o hz hn;refine⟨?_,h2⟩;generalize(lz x (lay s Rs) ss z).1.map bz=T at *;generalize(lz x (lay s Rs) ss z).2=q at *;generalize D.tup [s,.tup Rs]=O at *;refine bV (env:=[Zf O,(Zf (.tup (ss.map bz))),Zs z,Zf (.tup T),Zs q,Zf (.tup us)]) ?_;unfold jb;refine(az (e:=[Zf O,(Zf (.tup (ss.map bz))),Zs z,Zf (.tup T),Zs q,Zf (.tup us)]) ?_).trans ?_
 ·exact bM (aD (by rfl) h1) (by rfl)
 ·exact bA (di (by rfl) Ev.Ft)
omit hz hn
theorem watch_end:∃us,jM [.tup [s,.tup Rs],.tup (ss.map bz)]=some (.tup [.str (Hq x (lay s Rs) ss []),.tup us]):=by
 have h1:=reading_rules o.hx o.hs o.hR (Qq3 o.h4 (by decide));have h2:=Ba (s:=s) o.hR;have h3:=lH s Rs;have h4:=o.h4;have hl:=o.hl;have hx:=o.hx;have hS:=o.hS;generalize lay s Rs=Ls at *;generalize D.tup [s,.tup Rs]=O at *;obtain⟨us,w6,w7,w8,w9,g1,g4⟩:=Vh hx (Zf O) (Zf (.tup (ss.map bz))) Ls ss [] [] none none none none (by omega) h2 hS (λa ha=>by simp at ha) (aaI (m:=0) (by omega) (by decide)) (by rw[Qzv];omega);refine⟨us,bV (env:=[Zf O,(Zf (.tup (ss.map bz))),Zs (Hq x Ls ss []),Zl us,w6,w7,w8,w9]) ?_⟩;unfold gM;refine(az (by rfl)).trans ?_;refine(az (by rfl)).trans ?_;refine(az ((gq ?_).trans g1)).trans ?_
 ·exact En (aH (aD (by rfl) h1) (by rfl))
 ·exact bA (di (by rfl) Ev.Ft)
theorem end_of:kZ [.tup [s,.tup Rs],.tup (ss.map bz)]=some (.str (Hq x (lay s Rs) ss [])):=by obtain⟨us,h1⟩:=watch_end o;generalize Hq x (lay s Rs) ss []=q at *;generalize D.tup [s,.tup Rs]=O at *;exact bV (bA (bF (aD (by rfl) h1) (by rfl) (by rfl)))
end
theorem X8(ss:List St)(z:List Nat):okN 60 (.tup [.tup (ss.map bz),.str z])=true:=by
 refine Qxw.mpr λd hd=>?_;rcases Qq8.mp hd with rfl|hd
 ·refine Qxw.mpr λd hd=>?_;obtain⟨t,_,rfl⟩:=Qw5.mp hd
  rfl
 ·rw[Qq1.mp hd]
  rfl
theorem Ti(ss:List St):okN 60 (.tup (ss.map bz))=true:=by
 refine Qxw.mpr λd hd=>?_;obtain⟨t,_,rfl⟩:=Qw5.mp hd
 rfl
theorem Qv{f:List D->Option (D×D)}{c:Ev}{a:dG}{env e1 e2:Ev.Env}{x0 d x':D}{ds:List D}(h1:c env = .ok x0 e1)(h2:a e1 = .ok ds e2)(h3:f (x0::ds)=some (d,x')):Jx f c a env = .ok d e2:=by unfold Jx;rw[h1];simp only[bindR];rw[h2];simp only;rw[h3]
section
variable{x:List Nat}{s:D}{Rs:List D}(hx:x∈XS)(hs:s∈sides)(hR:∀R∈Rs,cI x R)(h4:Rs.length<=4)
include hx hs hR h4
theorem xY:mq x s Rs (t7 (lay s Rs)):=⟨hx,hs,hR,h4,by unfold t7;rw[Qqy,lH],Qp x _⟩
end
theorem aaY{i j:Nat}(h:j<=100)(hij:i<=j):qW [.int (i:Int),.int (j:Int)]=some (gH (i:Int) 1 (j - i)):=by
 have hf:∀n:Nat,n<=100->iD (n:Int)=true:=λn hn=>by
  unfold iD;rw[Qzy];exact⟨Qww (by omega),Qww (by omega)⟩
 have e:((j:Int) - (i:Int)).toNat=j - i:=by omega
 unfold qW;simp only;rw[if_pos ⟨hf i (by omega),hf j h⟩,e]
end gm
namespace K10
open Ev PySem L2
open lB (XS sides iT yJ kO fit fH sg ed pc pin inn nw dH cg out look sE encC gn Pr)
def J(g:Nat->Nat->List Nat):Nat->List Nat->Nat->List Nat
 | p,[],q=>g p q
 | p,a::t,q=>g p a++a::J g a t q
section
variable{x w:List Nat}{l r:D}{c:Nat}{kvs:List (D×D)}
theorem drop_cons{n:Nat}(h:n<w.length):w.drop n=sg w (n+1)::w.drop (n+1):=by
 have e:sg w (n+1)=w[n]:=by
  have:=(lB.Il (x:=w) (w:=w) (λc hc=>hc) h).1;rw[this,Qq7,Qq2 h]
  rfl
 rw[e];exact Qx4 h
def gP(l r:D)(c a b:Nat):List Nat:=if (fit l a&&fit r b)=true then [c] else []
theorem IW(n:Nat):(pc l r c w n).flatten=gP l r c (sg w n) (sg w (n+1)):=by unfold pc gP;split<;>rfl
theorem WY:sg w (w.length+1)=35:=by show(w++[35]).getD w.length 0=35;rw[Qq7];simp
theorem Wf:∀n,n<=w.length->J (gP l r c) 35 w 35=(pin l r c w n).flatten++J (gP l r c) (sg w n) (w.drop n) 35
 | 0,_=>rfl
 | n+1,h=>by
  rw[Wf n (by omega),drop_cons (by omega)];show _++(gP l r c (sg w n) (sg w (n+1))++sg w (n+1)::J (gP l r c) (sg w (n+1)) (w.drop (n+1)) 35)=(pin l r c w n++(pc l r c w n++[[sg w (n+1)]])).flatten++_;rw[Qj0,Qj0,IW];simp
theorem VP:inn l r c w=J (gP l r c) 35 w 35:=by
 rw[Wf w.length (Qq0 _),List.drop_length];unfold inn;rw[Qj0,IW,WY]
 rfl
def T(h:Nat->Nat->Nat->List Nat):Nat->List Nat->Nat->List Nat
 | _,[],_=>[]
 | p,a::t,q=>h p a (t.headD q)++T h a t q
def hC(kvs:List (D×D))(l r:D)(a b d:Nat):List Nat:=if ((look kvs b).isSome&&(fit l a&&fit r d))=true then (look kvs b).getD [] else [b]
end
end K10
namespace pQ
open Ev PySem L2
open ir (SG bW)
open lB (XS sides iT kO fit fH sE look iB gn encC sg ed nw dH cg out inn pc pin)
open vC (cI gw cF fin uZ xx)
open gm (Rl stp rd Gz vm Ai Is Qh pJ qi lz Hq t7 lay tn lf Di nrC bz nU mq rt)
open K10 (J gP VP)
section
variable{l r:D}{c:Nat}{kvs:List (D×D)}
theorem Nm:∀(w:List Nat) (p:Nat) (h:List Nat) (q:Nat),(rd (.put c l r) (fit l p,h) (w++[q])).2=h++J (gP l r c) p w q
 | [],p,h,q=>by
  show(rd (.put c l r) (fit l p,h) [q]).2=_;rw[Ai]
  rfl
 | a::t,p,h,q=>by
  show(stp (.put c l r) (fit l p,h) a).2++(rd (.put c l r) (fit l a,[a]) (t++[q])).2=h++(gP l r c p a++a::J (gP l r c) a t q);rw[Nm t a [a] q];show(h++gP l r c p a)++([a]++_)=_;simp
theorem abt(w:List Nat)(near n:Nat):Di kvs (sg w (n+1)) (fit l near&&fit r (sg w (n+2)))=nw kvs l r w near n:=by
 unfold Di nw;cases look kvs (sg w (n+1)) with
 | none=>
  simp
 | some t=>
  cases fit l near&&fit r (sg w (n+2))<;>rfl
theorem HY(w:List Nat){n:Nat}(h:n<(w++[35]).length):(w++[35]).take (n+1)=(w++[35]).take n++[sg w (n+1)]:=by
 have e:sg w (n+1)=(w++[35])[n]:=by
  show(w++[35]).getD n 0=_;rw[Qq7,Qq2 h]
  rfl
 rw[e,List.take_succ_eq_append_getElem h]
theorem Np(al:Bool){x w:List Nat}(hk:sE x kvs)(hw:∀c∈w,c∈x):∀n,n<=w.length->rd (.chg al kvs l r) (fit l 35,[]) ((w++[35]).take (n+1))=((fit l (dH al w (cg al kvs l r w n) n),[sg w (n+1)]),(cg al kvs l r w n).flatten)
 | 0,_=>by
  rw[HY w (by rw[Qqk];exact Nat.succ_pos _),List.take_zero,List.nil_append,Ai];show((fit l 35,[sg w 1]),([]:List Nat))=((fit l (dH al w [] 0),[sg w 1]),([]:List (List Nat)).flatten);cases al<;>rfl
 | n+1,h=>by
  have hl:n+1<(w++[35]).length:=by rw[Qqk,Qwk];omega
  rw[HY w hl,vm,Np al hk hw n (by omega)];have hno:=lB.Pa (l:=l) (r:=r) hk hw (n:=n) (by omega) (dH al w (cg al kvs l r w n) n);show((nrC al l (sg w (n+1)) (fit l (dH al w (cg al kvs l r w n) n)) (Di kvs (sg w (n+1)) (fit l (dH al w (cg al kvs l r w n) n)&&fit r (sg w (n+2)))),[sg w (n+2)]),(cg al kvs l r w n).flatten++Di kvs (sg w (n+1)) (fit l (dH al w (cg al kvs l r w n) n)&&fit r (sg w (n+2))))=((fit l (dH al w (cg al kvs l r w n++[nw kvs l r w (dH al w (cg al kvs l r w n) n) n]) (n+1)),[sg w (n+2)]),(cg al kvs l r w n++[nw kvs l r w (dH al w (cg al kvs l r w n) n) n]).flatten);rw[abt];generalize cg al kvs l r w n=made at *;generalize hN:dH al w made n=near at *;generalize nw kvs l r w near n=t at *;have h2:nrC al l (sg w (n+1)) (fit l near) t=fit l (dH al w (made++[t]) (n+1)):=by
   cases al with
   | false=>rfl
   | true=>
    rw[lB.wG made t n hno.1,hN];unfold nrC;rw[if_pos rfl];split<;>rfl
  rw[h2,Qj0];simp
end
section
variable{x:List Nat}{R:D}(hx:x∈XS)(hR:cI x R){w:List Nat}(hw:∀c∈w,c∈x)(hn:w.length<=30000)
noncomputable def Rt(x:List Nat)(R:D)(w:List Nat):List Nat:=(rd (pJ x R) (fit (lf R) 35,[]) (w++[35])).2
include hx hR hw hn
theorem from_left:lB.eF [R,.str w]=some (.str (Rt x R w)):=by
 have hi:=qi hR;unfold Rt;generalize pJ x R=ρ at *;cases hi with
 | put hc hl hr=>
  rename_i wy l r c;have e:(rd (.put c l r) (fit (lf (.tup [wy,.tup [.tup [.str [],.str [c]]],l,r])) 35,[]) (w++[35])).2=inn l r c w:=by rw[VP];exact Nm w 35 [] 35
  rw[e];refine bV (env:=[Zf (.tup [wy,.tup [.tup [.str [],.str [c]]],l,r]),Zs w]) ?_;unfold lB.cT;refine jK ?_;refine(gZ (fC (aD rfl rfl))).trans ?_;exact bA (aD rfl (lB.with_put_in hx hl hr hw hn _ c))
 | chg hp hd hk hl hr=>
  rename_i al ps kvs l r;have e:(rd (.chg al kvs l r) (fit (lf (.tup [gn al,.tup (ps.map encC),l,r])) 35,[]) (w++[35])).2=out al kvs l r w:=by
   have h1:=Np (l:=l) (r:=r) al hk hw w.length (Qq0 _);rw[Qj2 (by rw[Qqk];exact Qq0 _)] at h1;show(rd (.chg al kvs l r) (fit l 35,[]) (w++[35])).2=_;rw[h1]
   rfl
  rw[e];refine bV (env:=[(Zf (.tup [gn al,.tup (ps.map encC),l,r])),Zs w]) ?_;unfold lB.cT;have hpi:lB.dO [.tup [gn al,.tup (ps.map encC),l,r]]=some (.bl false):=bV (bA (gm.Qo hp rfl));refine(az ((fK (fC (aD rfl hpi))).trans rfl)).trans ?_;exact bA (aD rfl (lB.with_changes hx hl hr hw hn hk al _ hd))
theorem TX:cF (.str [108,101,102,116]) R w=Rt x R w:=by
 have h1:=from_left hx hR hw hn;have h2:lB.fW [.str [108,101,102,116],R,.str w]=some (.str (Rt x R w)):=by refine bV (env:=[Zs [108,101,102,116],Zf R,Zs w]) ?_;unfold lB.eN;refine(az ((fK (by rfl)).trans rfl)).trans ?_;exact bA (aD rfl h1)
 unfold cF;rw[h2]
theorem Ni:cF (.str [114,105,103,104,116]) R w=(Rt x (tn R) w.reverse).reverse:=by
 obtain⟨t1,t2,t3⟩:=gm.Ce hR;have h1:=from_left hx t1 (λc hc=>hw c (Qj4.mp hc)) (by rw[Qx2];exact hn);generalize Rt x (tn R) w.reverse=o at *;have h2:lB.fW [.str [114,105,103,104,116],R,.str w]=some (.str o.reverse):=by
  have rev:∀{a:Ev} {env:Ev.Env} {o:List Nat},a env = .ok (.str o) env->mQ a env = .ok (.str o.reverse) env:=λ{a env o} e=>by unfold mQ;rw[e];rfl
  refine bV (env:=[Zs [114,105,103,104,116],Zf R,Zs w]) ?_;unfold lB.eN;refine jK ((gZ rfl).trans (bA (rev ?_)));refine aD (aH (aD rfl t2) (aH (rev rfl) bD)) h1
 unfold cF;rw[h2]
end
noncomputable def FZ(x:List Nat)(Ls:List D)(w:List Nat):List Nat:=Ls.foldl (λv L=>Rt x L v) w
theorem Ah{x:List Nat}:∀(Ls:List D) (ss:List gm.St),Ls.length=ss.length->lz x Ls ss []=(ss,[])
 | [],[],_=>rfl
 | [],_::_,h=>by simp at h
 | _::_,[],h=>by simp at h
 | L::Ls,s::ss,h=>by
  show(s::(lz x Ls ss []).1,(lz x Ls ss []).2)=_;rw[Ah Ls ss (by simpa using h)]
def xP(s:D)(w:List Nat):List Nat:=if rt s=true then w.reverse else w
section
variable{x:List Nat}(hx:x∈XS)
include hx
theorem Ij{s R:D}(hs:s∈sides)(hR:cI x R){w:List Nat}(hw:∀c∈w,c∈x){n:Nat}(hn:(w.length+1)*2^(n+1)<=301):w.length<=30000/\(∀c∈cF s R w,c∈x)/\((cF s R w).length+1)*2^n<=301:=by
 have h2:(w.length+1)*2^(n+1)=(2*w.length+1+1)*2^n:=by
  rw[Nat.pow_succ,<-Nat.mul_assoc,Nat.mul_right_comm]
  congr 1
  omega
 have hp:1<=2^n:=Nat.one_le_two_pow;have hwl:w.length<=30000:=by have:2*w.length+1+1<=(2*w.length+1+1)*2^n:=Nat.le_mul_of_pos_right _ hp;omega
 obtain⟨_,h3,h4⟩:=vC.ZS hx hs hR hw hwl;have h5:((cF s R w).length+1)*2^n<=(2*w.length+1+1)*2^n:=Nat.mul_le_mul_right _ (by omega);exact⟨hwl,h3,by omega⟩
theorem Em:∀(Rs:List D) (w:List Nat),(∀R∈Rs,cI x R)->(∀c∈w,c∈x)->(w.length+1)*2^Rs.length<=301->fin (.str [108,101,102,116]) Rs w=FZ x Rs w
 | [],w,_,_,_=>rfl
 | R::Rs,w,hR,hw,hn=>by
  have hR0:=hR R (Qqz ..);obtain⟨h1,h2,h3⟩:=Ij hx (Qqz ..) hR0 hw hn;show fin (.str [108,101,102,116]) Rs (cF (.str [108,101,102,116]) R w)=FZ x Rs (Rt x R w);rw[Em Rs _ (λQ hQ=>hR Q (Qqj _ hQ)) h2 h3,TX hx hR0 hw h1]
theorem zx:∀(Rs:List D) (w:List Nat),(∀R∈Rs,cI x R)->(∀c∈w,c∈x)->(w.length+1)*2^Rs.length<=301->fin (.str [114,105,103,104,116]) Rs w=(FZ x (Rs.map tn) w.reverse).reverse
 | [],w,_,_,_=>by
  show w=w.reverse.reverse;rw[List.reverse_reverse]
 | R::Rs,w,hR,hw,hn=>by
  have hR0:=hR R (Qqz ..);obtain⟨h1,h2,h3⟩:=Ij hx (Qqj _ (Qqz ..)) hR0 hw hn;show fin (.str [114,105,103,104,116]) Rs (cF (.str [114,105,103,104,116]) R w)=(FZ x (Rs.map tn) (Rt x (tn R) w.reverse)).reverse;rw[zx Rs _ (λQ hQ=>hR Q (Qqj _ hQ)) h2 h3,Ni hx hR0 hw h1,List.reverse_reverse]
theorem Hl{s:D}(hs:s∈sides){Rs:List D}{w:List Nat}(hR:∀R∈Rs,cI x R)(hw:∀c∈w,c∈x)(hn:(w.length+1)*2^Rs.length<=301):fin s Rs w=xP s (FZ x (lay s Rs) (xP s w)):=by
 rcases Qq8.mp hs with rfl|hs
 ·exact Em hx Rs w hR hw hn
 ·cases Qq1.mp hs;exact zx hx Rs w hR hw hn
end
open lB (XS sides iT kO fit fH)
open gm (lz Hq t7 lay bz nU mq rt rd pJ qi Dc vh vN z6 xY)
theorem Eo{a:Ev}{env e:Ev.Env}{o:List Nat}(h:a env = .ok (.str o) e):mQ a env = .ok (.str o.reverse) e:=by unfold mQ;rw[h];rfl
theorem MT{env:Ev.Env}{n:Nat}{m:Nat}(hm:3<=m/\m<=50)(hlen:ao eV (aa (bh 0) aj) env = .ok (.int (n:Int)) env):∃ds,gb (aa (Zi 2) (aa (ao Lf (aa (Zi 3) (aa (ao Le (aa (ao eV (aa (bh 0) aj)) (aa (xG (.int (m:Int))) aj))) aj))) aj)) env = .ok ds env/\∀d∈ds,∃k:Int,d = .int k/\0<=k/\k<=400:=by
 have a1:aa (Zi 2) (aa (ao Lf (aa (Zi 3) (aa (ao Le (aa (ao eV (aa (bh 0) aj)) (aa (xG (.int (m:Int))) aj))) aj))) aj) env = .ok [.int 2,.int (if (if (m:Int)<n then (m:Int) else (n:Int)) > 3 then (if (m:Int)<n then (m:Int) else (n:Int)) else 3)] env:=
  aH (by rfl) (aH (aD (aH (by rfl) (aH (aD (aH hlen (by rfl)) (by rfl)) bD)) (by rfl)) (by rfl))
 generalize hq:(if (if (m:Int)<n then (m:Int) else (n:Int)) > 3 then (if (m:Int)<n then (m:Int) else (n:Int)) else 3)=q at a1;have hm1:3<=q/\q<=50:=by rw[<-hq];split<;>split<;>omega
 obtain⟨j,rfl⟩:∃j:Nat,q=(j:Int):=⟨q.toNat,by omega⟩;refine⟨gH 2 1 (j - 2),LQ.xC a1 (gm.aaY (i:=2) (by omega) (by omega)),λd hd=>?_⟩;unfold gH at hd;obtain⟨i,hi,rfl⟩:=Qw5.mp hd;have:=Qk0.mp hi;exact⟨2+(i:Int)*1,rfl,by omega,by omega⟩
end pQ
namespace K17
open Ev PySem L2
open ir (SG)
open lB (XS sides kO fit)
open vC (cI gw fin xx)
open gm (bz mq nU lz Hq t7 lay tn lf rt vh vN z6 xY)
open pQ (FZ xP Ah Hl Eo)
def qS(ss:List gm.St):NK:=.tup (ss.map λs=>.tup [.num (if s.1 then 1 else 0),.txt (strOf s.2)])
theorem abL:∀ss:List gm.St,Dy (ss.map bz)=some (ss.map λs=>.tup [.num (if s.1 then 1 else 0),.txt (strOf s.2)])
 | []=>rfl
 | (b,z)::ss=>by
  have ih:=abL ss;have h1:sr (bz (b,z))=some (.tup [.num (if b then 1 else 0),.txt (strOf z)]):=by simp[bz,sr,Dy]
  rw[Qwx,Qwx];unfold Dy;rw[h1,ih]
theorem V3:∀ss:List gm.St,NK.qy (ss.map λs=>.tup [.num (if s.1 then 1 else 0),.txt (strOf s.2)])<=1
 | []=>by unfold NK.qy;simp
 | s::ss=>by
  have ih:=V3 ss;rw[Qwx];unfold NK.qy;have:NK.dep (.tup [.num (if s.1 then 1 else 0),.txt (strOf s.2)])=1:=by simp[NK.dep,NK.qy]
  rw[this];omega
theorem abM(ss:List gm.St):sr (.tup (ss.map bz))=some (qS ss):=by
 unfold sr;rw[abL]
 rfl
theorem VF(ss:List gm.St):G5 (.tup (ss.map bz))=some (qS ss):=by
 show(sr (.tup (ss.map bz))).bind _=_;rw[abM];have h:(qS ss).dep<=8:=by unfold qS NK.dep;have:=V3 ss;omega
 exact if_pos h
theorem Nz:∀(ss tt:List gm.St),(ss.map λs=>NK.tup [.num (if s.1 then 1 else 0),.txt (strOf s.2)])=(tt.map λs=>NK.tup [.num (if s.1 then 1 else 0),.txt (strOf s.2)])->ss=tt
 | [],[],_=>rfl
 | [],_::_,h=>by cases h
 | _::_,[],h=>by cases h
 | (b,z)::ss,(c,y)::tt,h=>by
  rw[Qwx,Qwx] at h;obtain⟨h1,h2⟩:=List.cons.inj h;have h3:=NK.tup.inj h1;obtain⟨h4,h5⟩:=List.cons.inj h3;obtain⟨h6,_⟩:=List.cons.inj h5;have h7:z=y:=SX.mG (NK.txt.inj h6);have h8:=NK.num.inj h4;simp only at h8;have h9:b=c:=by cases b<;>cases c<;>first|rfl|(simp at h8)
  rw[h9,h7,Nz ss tt h2]
theorem NB{ss tt:List gm.St}(h:qS ss=qS tt):ss=tt:=Nz ss tt (NK.tup.inj h)
theorem xN{i:Nat}{k a:Ev}{env e1 e2:Ev.Env}{d kd z:D}{o:Bool}{q:NK}{kvs:List (D×D)}(h1:a env = .ok d e1)(h0:e1[i]? = some (some (o,z)))(h2:k e1 = .ok kd e2)(h3:e2[i]? = some (Zt (.iQ kvs)))(h4:G5 kd=some q)(h5:kvs.length<sizeLine):qQ i k a env = .nx (e2.set i (Zt (.iQ (ur kvs kd q d)))):=by unfold qQ;simp only[h1,jn,h0,h2,h3,h4,if_pos h5]
end K17
namespace KB
open Ev PySem L2
open ir (bW)
open lB (sides)
open gm (rt)
open pQ (xP)
open K17 (xN)
section
variable{P:Type}[DecidableEq P]{Φ:Stmt->List D->LD}{sl ss:Stmt}{cl cs:List D}{x:List Nat}{jd side:D}{so:LD}{en:P->D}{key:P->NK}{L:P->Nat->P}{S:P->Bool}{Ok:P->Prop}{U:List P}{p0:P}
structure Gives(Φ:Stmt->List D->LD)(sl ss:Stmt)(cl cs:List D)(x:List Nat)(en:P->D)(key:P->NK)(L:P->Nat->P)(S:P->Bool)(Ok:P->Prop)(U:List P):Prop where
 lead:∀p a,Ok p->a∈x->Φ sl cl [en p,.str [a]]=some (en (L p a))/\Ok (L p a)
 shows:∀p,Ok p->Φ ss cs [en p]=some (.bl (S p))
 nk:∀p,G5 (en p)=some (key p)
 inj:∀p q,key p=key q->p=q
 all:∀p,Ok p->p∈U
 few:U.length<=6998
variable(G:Gives Φ sl ss cl cs x en key L S Ok U)
include G
omit G [DecidableEq P] in
end
section
variable{P:Type}[DecidableEq P]{Φ:Stmt->List D->LD}{sl ss:Stmt}{cl cs:List D}{x:List Nat}{jd side:D}{so:LD}{en:P->D}{key:P->NK}{L:P->Nat->P}{S:P->Bool}{Ok:P->Prop}{U:List P}{p0:P}
variable(G:Gives Φ sl ss cl cs x en key L S Ok U)
theorem Ui{g:GV}{b:bK}{d:D}{ds:List D}{env e1 e2:Ev.Env}(h1:g d env=some e1)(h2:b e1 = .nx e2):jw g b (d::ds) env=jw g b ds e2:=by
 conv=>lhs;unfold jw
 rw[h1];simp only;rw[h2]
theorem aat{t:f9}{b:bK}{m:Nat}{env e1 e2:Ev.Env}(h:t env = .ok true e1)(h2:b e1 = .nx e2):iI t b (m+1) env=iI t b m e2:=by
 conv=>lhs;unfold iI
 rw[h];simp only[jn,if_true];rw[h2]
theorem adm{t:f9}{b:bK}{m:Nat}{env e1:Ev.Env}(h:t env = .ok false e1):iI t b (m+1) env = .nx e1:=by
 conv=>lhs;unfold iI
 rw[h];rfl
include G
end
end KB
namespace KM
open Ev PySem L2
open lB (XS sides fit look iB sE)
open vC (cI)
open gm (Rl Is stp rd lz Hq t7 lay lf pJ qi Di mq nU)
theorem adL{x:List Nat}{kvs:List (D×D)}(hk:sE x kvs){s:Nat}(hs:s∈x)(b:Bool):∀c∈Di kvs s b,c∈x:=by
 unfold Di;split
 ·cases e:look kvs s with
  | none=>exact λc hc=>by rw[Qq1.mp hc];exact hs
  | some t=>exact λc hc=>(iB hk e).2.2 c hc
 ·exact λc hc=>by rw[Qq1.mp hc];exact hs
theorem aaS{x:List Nat}{R:D}{ρ:Rl}(hR:Is x R ρ){s:gm.St}(hs:∀c∈s.2,c∈x){a:Nat}(ha:a∈x):(∃b,(stp ρ s a).1=(b,[a]))/\∀c∈(stp ρ s a).2,c∈x:=by
 cases hR with
 | put hc hl hr=>
  refine⟨⟨_,rfl⟩,λc hm=>?_⟩;rcases Qw0.mp hm with hm|hm
  ·exact hs c hm
  ·split at hm
   ·rw[Qq1.mp hm];exact hc
   ·simp at hm
 | chg hp hd hk hl hr=>
  obtain⟨b,h⟩:=s
  match h,hs with
  | [],hs=>exact⟨⟨_,rfl⟩,λc hc=>by simp[stp] at hc⟩
  | s::h,hs=>exact⟨⟨_,rfl⟩,adL hk (hs s (Qqz ..)) _⟩
theorem aa1{x:List Nat}{R:D}{ρ:Rl}(hR:Is x R ρ):∀(z:List Nat) {s:gm.St},(∀c∈s.2,c∈x)->(∀a∈z,a∈x)->((rd ρ s z).1=s/\z=[]\/∃b,∃c∈x,(rd ρ s z).1=(b,[c]))/\∀c∈(rd ρ s z).2,c∈x
 | [],s,hs,_=>⟨.inl ⟨rfl,rfl⟩,λc hc=>by simp[rd] at hc⟩
 | a::z,s,hs,hz=>by
  have ha:=hz a (Qqz ..);obtain⟨⟨b,h1⟩,h2⟩:=aaS hR hs ha;have h1':∀c∈(stp ρ s a).1.2,c∈x:=λc hc=>by rw[h1] at hc;rw[Qq1.mp hc];exact ha
  obtain⟨h3,h4⟩:=aa1 hR z h1' λb hb=>hz b (Qqj _ hb);refine⟨.inr ?_,λc hc=>?_⟩
  ·rcases h3 with ⟨e,_⟩|⟨b',c,hc,e⟩
   ·exact⟨b,a,ha,by show(rd ρ (stp ρ s a).1 z).1=_;rw[e,h1]⟩
   ·exact⟨b',c,hc,e⟩
  ·rcases Qw0.mp (show c∈(stp ρ s a).2++(rd ρ (stp ρ s a).1 z).2 from hc) with hc|hc
   ·exact h2 c hc
   ·exact h4 c hc
def U(x:List Nat):List D->List (List gm.St)
 | []=>[[]]
 | R::Ls=>t7 (R::Ls)::([false,true].flatMap λb=>x.flatMap λc=>(U x Ls).map λu=>(b,[c])::u)
theorem JQ(x:List Nat)(Ls:List D):t7 Ls∈U x Ls:=by
 cases Ls with
 | nil=>exact Qqz ..
 | cons R Ls=>exact Qqz ..
theorem Z6{x:List Nat}{R:D}{Ls:List D}{u:List gm.St}(b:Bool){c:Nat}(hc:c∈x)(h:u∈U x Ls):(b,[c])::u∈U x (R::Ls):=by refine Qqj _ (Qj3.mpr ⟨b,by cases b<;>simp,Qj3.mpr ⟨c,hc,Qw5.mpr ⟨u,h,rfl⟩⟩⟩)
theorem JP{x:List Nat}{R:D}{Ls:List D}{p:List gm.St}(h:p∈U x (R::Ls)):∃s u,p=s::u/\u∈U x Ls/\(∀c∈s.2,c∈x)/\(s::u=t7 (R::Ls)\/∃b,∃c∈x,s=(b,[c])):=by
 rcases Qq8.mp h with rfl|h
 ·exact⟨_,t7 Ls,rfl,JQ x Ls,λc hc=>by simp at hc,.inl rfl⟩
 ·obtain⟨b,_,h⟩:=Qj3.mp h;obtain⟨c,hc,h⟩:=Qj3.mp h;obtain⟨u,hu,rfl⟩:=Qw5.mp h;exact⟨(b,[c]),u,rfl,hu,λd hd=>by rw[Qq1.mp hd];exact hc,.inr ⟨b,c,hc,rfl⟩⟩
theorem HB{x:List Nat}:∀(Ls:List D) (p:List gm.St),p∈U x Ls->Ls.length=p.length
 | [],p,h=>by rw[Qq1.mp h];rfl
 | R::Ls,p,h=>by
  obtain⟨s,u,rfl,hu,_⟩:=JP h;rw[Qqv,Qqv,HB Ls u hu]
theorem Vp{x:List Nat}:∀(Ls:List D) (p:List gm.St) (z:List Nat),(∀R∈Ls,cI x R)->p∈U x Ls->(∀a∈z,a∈x)->(lz x Ls p z).1∈U x Ls
 | [],p,z,_,_,_=>Qq1.mpr rfl
 | R::Ls,p,z,hR,hp,hz=>by
  obtain⟨s,u,rfl,hu,hs,h⟩:=JP hp;obtain⟨h1,h2⟩:=aa1 (qi (hR R (Qqz ..))) z hs hz;show(rd (pJ x R) s z).1::(lz x Ls u (rd (pJ x R) s z).2).1∈U x (R::Ls);have ht:=Vp Ls u (rd (pJ x R) s z).2 (λQ hQ=>hR Q (Qqj _ hQ)) hu h2;rcases h1 with ⟨e,hzn⟩|⟨b,c,hc,e⟩
  ·subst hzn;have hl:=HB Ls u hu;have e2:(lz x Ls u (rd (pJ x R) s []).2).1=u:=by
    show(lz x Ls u []).1=u;rw[pQ.Ah Ls u hl]
   rw[e2];exact hp
  ·rw[e];exact Z6 b hc ht
theorem qu{α β:Type}(f:α->List β)(k:Nat):∀l:List α,(∀a∈l,(f a).length=k)->(l.flatMap f).length=l.length*k
 | [],_=>by simp
 | a::l,h=>by
  rw[List.flatMap_cons,Qqk,h a (Qqz ..),qu f k l λb hb=>h b (Qqj _ hb),Qqv,Nat.succ_mul,Nat.add_comm]
theorem UT(x:List Nat)(R:D)(Ls:List D):(U x (R::Ls)).length=1+2*(x.length*(U x Ls).length):=by show(t7 (R::Ls)::([false,true].flatMap λb=>x.flatMap λc=>(U x Ls).map λu=>(b,[c])::u)).length=_;rw[Qqv,qu _ (x.length*(U x Ls).length) _ λb _=>qu _ (U x Ls).length _ λc _=>by rw[Qqy]];rw[Qqv,Qqv,Qzv];omega
theorem Wa{x:List Nat}{Ls:List D}(h:x.length<=4)(h3:Ls.length<=3):(U x Ls).length<=585:=by
 have step:∀(R:D) (L:List D) (k:Nat),(U x L).length<=k->(U x (R::L)).length<=1+8*k:=λR L k hk=>by
  rw[UT];have:=Nat.mul_le_mul h hk;omega
 match Ls,h3 with
 | [],_=>exact Qq3 (Qq0 1) (by decide)
 | [a],_=>exact Qq3 (step a [] 1 (Qq0 _)) (by decide)
 | [a,b],_=>exact Qq3 (step a _ 9 (step b [] 1 (Qq0 _))) (by decide)
 | [a,b,c],_=>exact step a _ 73 (step b _ 9 (step c [] 1 (Qq0 _)))
end KM
namespace JT
open Ev
section
def jk:Ev:=jc.jk
def gh:bK:=jc.gh
def d9:LD:=bO 1 gh
def il:bK:=jc.il
def cP:LD:=bO 2 il
def dY:bK:=jc.dY
def fJ:LD:=bO 5 dY
def du:bK:=jc.du
def dO:LD:=bO 1 du
def iK:Ev:=jc.iK
def cB:bK:=jc.cB
def bY:LD:=bO 3 cB
def ig:Ev:=jc.ig
def cU:bK:=jc.cU
def bG:LD:=bO 1 cU
def bN:bK:=jc.bN
def cH:LD:=bO 10 bN
def bZ:bK:=jc.bZ
def cO:LD:=bO 10 bZ
def iG:bK:=jc.iG
def dF:bK:=jc.dF
def dZ:LD:=bO 8 dF
def jH:bK:=jc.jH
def iR:bK:=jc.iR
def kW:LD:=bO 10 iR
def jb:bK:=jc.jb
def fV:LD:=bO 6 jb
def gB:bK:=aA (aR (ao fV (Zv 1 (aa (aB fZ 2 (ao eV (aa (bh 4) aj))) (Zv 6 aj)))) (cC 2 (aJ (ak 7) (aJ (ak 8) cD)))) (aA (gk (gf (aB pC 7 (bh 3))) (aA (qQ 3 (aU 7) (ao eV (aa (bh 2) aj))) (dJ 2 (aU 7))) cL) (dJ 5 (cj (Zv 8 (aa (aB xf 3 (bh 7)) aj)))))
def gA:bK:=aA (cZ 5 (cu aj)) (aA (fQ (gV (ao d9 (Zv 0 aj))) (ak 6) (gB)) (aA (gk (gf (aM gGt (ao eV (aa (bh 2) aj)) (Zi 600))) (zX) cL) (dJ 4 (ao cz (aa (bh 5) aj)))))
def nM:bK:=aA (cZ 2 (cu (aa (ao bG (Zv 1 aj)) aj))) (aA (cZ 3 (Bo (aB fZ 2 (Zi 0)) (Zi 0))) (aA (cZ 4 (cu aj)) (aA (iI (gf (aM gLt (ao eV (aa (bh 4) aj)) (ao eV (aa (bh 2) aj)))) (gA) 7000) (bu (cj (Zv 2 (Zv 4 aj)))))))
def nD:LD:=bO 9 nM
end
end JT
namespace KM
open Ev PySem L2
open ir (bW)
open lB (XS sides fit)
open vC (cI)
open gm (bz lz Hq t7 lay mq nU)
open K17 (xN qS NB VF)
theorem first_is:JT.bG=gm.bG:=rfl
section
variable{T:Type}[DecidableEq T]{en:T->D}{key:T->NK}
def Bc(en:T->D):Nat->List T->List (D×D)
 | _,[]=>[]
 | n,u::us=>(en u,.int (n:Int))::Bc en (n+1) us
omit [DecidableEq T] in
theorem DY:∀(us:List T) (n:Nat) (t:T),Bc en n (us++[t])=Bc en n us++[(en t,.int ((n+us.length:Nat):Int))]
 | [],n,t=>rfl
 | u::us,n,t=>by
  show(en u,D.int (n:Int))::Bc en (n+1) (us++[t])=(en u,D.int (n:Int))::(Bc en (n+1) us++_);rw[DY us (n+1) t,Qqv];have:n+1+us.length=n+(us.length+1):=by omega
  rw[this]
omit [DecidableEq T] in
theorem Jg:∀(us:List T) (n:Nat),(Bc en n us).length=us.length
 | [],n=>rfl
 | u::us,n=>by
  show(Bc en (n+1) us).length+1=us.length+1;rw[Jg us]
structure acG(en:T->D)(key:T->NK):Prop where
 nk:∀t,G5 (en t)=some (key t)
 inj:∀p q,key p=key q->p=q
variable(Y:acG en key)
include Y
theorem vz:∀(us:List T) (n:Nat) (t:T),lC (Bc en n us) (key t)=if t∈us then some (.int ((n+nC us t:Nat):Int)) else none
 | [],n,t=>by simp[Bc,lC]
 | u::us,n,t=>by
  have ih:=vz us (n+1) t;unfold lC at ih ⊢;unfold Bc;rw[Qzw];have hu:sr (en u)=some (key u):=(Ar (Y.nk u)).1;by_cases h:u=t
  ·subst h;simp only[hu,decide_true];have ei:nC (u::us) u=0:=by unfold nC;rw[if_pos rfl]
   rw[if_pos (Qqz ..),ei]
   rfl
  ·have hne:¬(some (key u)=some (key t)):=λe=>h (Y.inj u t (Qw4 e));simp only[hu,Qq9 hne];have ei:nC (u::us) t=nC us t+1:=by conv=>lhs;unfold nC;rw[if_neg h]
   rw[ih,ei];by_cases hm:t∈us
   ·rw[if_pos hm,if_pos (Qqj _ hm)];have:n+1+nC us t=n+(nC us t+1):=by omega
    rw[this]
   ·rw[if_neg hm,if_neg λz=>(Qq8.mp z).elim (λe=>h e.symm) hm]
theorem T3(us:List T)(t:T)(h:t ∉ us):ur (Bc en 0 us) (en t) (key t) (.int (us.length:Int))=Bc en 0 (us++[t]):=by
 unfold ur;rw[vz Y,if_neg h,DY,Nat.zero_add]
 rfl
theorem K3(us:List T)(t:T)[dc:Decidable (t∈us)]:pC (en t) (.iQ (Bc en 0 us))=some (.bl (!decide (t∈us))):=by
 show(G5 (en t)).map _=_;rw[Y.nk];show some (D.bl (!(lC (Bc en 0 us) (key t)).isSome))=_;rw[vz Y];by_cases h:t∈us
 ·rw[if_pos h,Qww h];rfl
 ·rw[if_neg h,Qq9 h];rfl
theorem T4(us:List T)(t:T)(h:t∈us):xf (.iQ (Bc en 0 us)) (en t)=some (.int (nC us t:Int)):=by show(G5 (en t)).bind _=_;rw[Y.nk];show lC (Bc en 0 us) (key t)=_;rw[vz Y,if_pos h,Nat.zero_add]
omit Y
theorem Lz(us:List T)(t:T):t∈n6 us t:=(rQ us t t).mpr (.inr rfl)
theorem QW{us:List T}{t u:T}(h:u∈us):nC (n6 us t) u=nC us u:=by
 unfold n6;split
 ·rfl
 ·exact wW _ h
theorem Ff{us:List T}{t u:T}{i:Nat}(h:us[i]? = some u):(n6 us t)[i]? = some u:=by
 unfold n6;split
 ·exact h
 ·exact KB.Uh h
end
abbrev P:=List gm.St
def jN(p:P):D:=.tup (p.map bz)
theorem Ea:acG jN qS:=⟨VF,λ_ _ h=>NB h⟩
def gW(pt:List Nat×Nat):D:=.tup [.str pt.1,.int (pt.2:Int)]
noncomputable def Ef(x:List Nat)(Ls:List D)(p:P)(a:Nat):P:=(lz x Ls p [a]).1
noncomputable def Td(x:List Nat)(Ls:List D)(p:P)(a:Nat):List Nat:=(lz x Ls p [a]).2
noncomputable def kj(x:List Nat)(Ls:List D)(ps:List P)(p:P)(a:Nat):List Nat×Nat:=(Td x Ls p a,nC ps (Ef x Ls p a))
structure OkP(x:List Nat)(s:D)(Rs:List D)(p:P):Prop where
 o:mq x s Rs p
 u:p∈U x (lay s Rs)
abbrev yo(jd ord:D)(ps:List P)(rows:List D)(a5 a6 a7 a8:OD):Ev.Env:=
 [Zf jd,Zf ord,Zl (ps.map jN),Zt (.iQ (Bc jN 0 ps)),Zl rows,a5,a6,a7,a8]
structure LR(x:List Nat)(s:D)(Rs:List D)(ps:List P):Prop where
 nd:ps.Nodup
 z0:ps[0]? = some (t7 (lay s Rs))
 ok:∀p∈ps,OkP x s Rs p
 reach:∀p∈ps,∃w:List Nat,(∀a∈w,a∈x)/\w.foldl (Ef x (lay s Rs)) (t7 (lay s Rs))=p
section
variable{x:List Nat}{s:D}{Rs:List D}{jd:D}
theorem OkP.next{p:P}(h:OkP x s Rs p){a:Nat}(ha:a∈x):JT.fV [.tup [s,.tup Rs],jN p,.str [a]]=some (.tup [jN (Ef x (lay s Rs) p a),.str (Td x (lay s Rs) p a)])/\OkP x s Rs (Ef x (lay s Rs) p a):=by
 have hz:∀b ∈ [a],b∈35::x:=λb hb=>by rw[Qq1.mp hb];exact Qqj _ ha
 obtain⟨h1,h2⟩:=gm.read_on h.o hz (by show 1<=7;decide);exact⟨h1,h2,Vp _ _ _ (gm.Ba h.o.hR) h.u λb hb=>by rw[Qq1.mp hb];exact ha⟩
theorem LR.add{ps:List P}(F:LR x s Rs ps){p:P}(hp:p∈ps){a:Nat}(ha:a∈x):LR x s Rs (n6 ps (Ef x (lay s Rs) p a)):=by
 refine⟨UJ _ F.nd,Ff F.z0,λq hq=>?_,λq hq=>?_⟩
 ·rcases(rQ _ _ _).mp hq with hq|rfl
  ·exact F.ok q hq
  ·exact((F.ok p hp).next ha).2
 ·rcases(rQ _ _ _).mp hq with hq|rfl
  ·exact F.reach q hq
  ·obtain⟨w,h1,h2⟩:=F.reach p hp;refine⟨w++[a],λb hb=>?_,by rw[List.foldl_append,h2];rfl⟩;rcases Qw0.mp hb with hb|hb
   ·exact h1 b hb
   ·rw[Qq1.mp hb];exact ha
def Few(x:List Nat)(s:D)(Rs:List D):Prop:=∀ps:List P,LR x s Rs ps->ps.length<=600
theorem LR.few{ps:List P}(F:LR x s Rs ps)(hu:Few x s Rs):ps.length<=600:=hu ps F
theorem ack(hu:(U x (lay s Rs)).length<=600):Few x s Rs:=λps F=>Qq3 (KB.wF _ ps F.nd λq hq=>(F.ok q hq).u) hu
theorem aa3{ps:List P}(F:LR x s Rs ps)(hu:Few x s Rs){rows steps:List D}{p:P}(hp:ps[rows.length]? = some p)(hs:steps.length<=100){a:Nat}(ha:a∈x)(a7 a8:OD) :
  JT.gB (yo jd (.tup [s,.tup Rs]) ps rows (Zl steps) (Zs [a]) a7 a8) =
   .nx (yo jd (.tup [s,.tup Rs]) (n6 ps (Ef x (lay s Rs) p a)) rows (Zl (steps++[gW (kj x (lay s Rs) (n6 ps (Ef x (lay s Rs) p a)) p a)])) (Zs [a]) (Zf (jN (Ef x (lay s Rs) p a))) (Zs (Td x (lay s Rs) p a))):=by
 obtain⟨h1,_⟩:=(F.ok p (Qz6 hp)).next ha;have hlen:=F.few hu;unfold kj gW;generalize Ef x (lay s Rs) p a=q at *;generalize Td x (lay s Rs) p a=o at *;generalize D.tup [s,.tup Rs]=O at *;have hix:fZ (.lst (ps.map jN)) (.int (rows.length:Int))=some (jN p):=by show qF (ps.map jN) (rows.length:Int)=_;exact nR (by rw[Qxy,hp];rfl)
 unfold JT.gB;refine(az (e:=yo jd O ps rows (Zl steps) (Zs [a]) (Zf (jN q)) (Zs o)) ?_).trans ?_
 ·refine bM (d:=.tup [jN q,.str o]) (e:=yo jd O ps rows (Zl steps) (Zs [a]) a7 a8) ?_ rfl;refine aD (aH rfl (aH (e1:=yo jd O ps rows (Zl steps) (Zs [a]) a7 a8) ?_ rfl)) h1;exact bQ rfl rfl rfl hix
 have fin:∀qs:List P,q∈qs->dJ 5 (cj (Zv 8 (aa (aB xf 3 (bh 7)) aj))) (yo jd O qs rows (Zl steps) (Zs [a]) (Zf (jN q)) (Zs o)) =
   .nx (yo jd O qs rows (Zl (steps++[.tup [.str o,.int (nC qs q:Int)]])) (Zs [a]) (Zf (jN q)) (Zs o)):=λqs hq=>by
  refine(bW (i:=5) (e:=yo jd O qs rows (Zl steps) (Zs [a]) (Zf (jN q)) (Zs o)) rfl ?_ rfl (Qw6 hs (by decide))).trans rfl;refine di (aH rfl (aH ?_ bD)) Ev.Ft;exact bQ rfl rfl rfl (T4 Ea qs q hq)
 have ht:gf (aB pC 7 (bh 3)) (yo jd O ps rows (Zl steps) (Zs [a]) (Zf (jN q)) (Zs o)) = .ok (!decide (q∈ps)) (yo jd O ps rows (Zl steps) (Zs [a]) (Zf (jN q)) (Zs o)):=
  fC (bQ rfl rfl rfl (K3 Ea ps q))
 by_cases hq:q∈ps
 ·rw[Qww hq] at ht;refine(az (fK ht)).trans ?_;have e:n6 ps q=ps:=if_pos hq;rw[e];exact fin ps hq
 ·rw[Qq9 hq] at ht;have e:n6 ps q=ps++[q]:=if_neg hq;rw[e];refine(az ?_).trans (fin (ps++[q]) (by simp));refine(gZ ht).trans ?_;have s4:=xN (i:=3) (k:=aU 7) (a:=ao eV (aa (bh 2) aj)) (env:=yo jd O ps rows (Zl steps) (Zs [a]) (Zf (jN q)) (Zs o)) rfl rfl rfl rfl (Ea.nk q)
   (by rw[Jg];exact Qw6 hlen (by decide))
  rw[Qqy,T3 Ea ps q hq] at s4;rw[az s4];refine(bW (i:=2) (e:=[Zf jd,Zf O,Zl (ps.map jN),Zt (.iQ (Bc jN 0 (ps++[q]))),Zl rows,Zl steps,Zs [a],Zf (jN q),Zs o]) rfl rfl rfl (by rw[Qqy];exact Qw6 hlen (by decide))).trans ?_;have e5:ps.map jN++[jN q]=(ps++[q]).map jN:=by rw[Qx6];rfl
  rw[e5]
  rfl
theorem aa4(hu:Few x s Rs){rows:List D}{p:P}(Za:x.length<=50):∀(rest done:List Nat) (ps:List P) (a6 a7 a8:OD),x=done++rest->LR x s Rs ps->ps[rows.length]? = some p->(∀a∈done,Ef x (lay s Rs) p a∈ps)->
  ∃ps' b6 b7 b8,jw (ak 6) JT.gB (nW rest) (yo jd (.tup [s,.tup Rs]) ps rows (Zl (done.map λa=>gW (kj x (lay s Rs) ps p a))) a6 a7 a8) =
   .nx (yo jd (.tup [s,.tup Rs]) ps' rows (Zl (x.map λa=>gW (kj x (lay s Rs) ps' p a))) b6 b7 b8)/\LR x s Rs ps'/\(∀a∈x,Ef x (lay s Rs) p a∈ps')/\∃more,ps'=ps++more:=by
 intro rest
 induction rest with
 | nil=>
  intro done ps a6 a7 a8 hx F hp hd;rw[Qx1] at hx;subst hx;exact⟨ps,a6,a7,a8,rfl,F,hd,[],by rw[Qx1]⟩
 | cons a rest ih=>
  intro done ps a6 a7 a8 hx F hp hd;have ha:a∈x:=by rw[hx];simp
  have hx':x=(done++[a])++rest:=by rw[hx];simp
  have hdl:done.length<=50:=by have:=Qw8 List.length hx;rw[Qqk] at this;omega
  have h1:=aa3 (jd:=jd) F hu (steps:=done.map λa=>gW (kj x (lay s Rs) ps p a)) hp (by rw[Qqy];omega) ha a7 a8;have F':=F.add (Qz6 hp) ha;have hs:(done.map λb=>gW (kj x (lay s Rs) ps p b))++[gW (kj x (lay s Rs) (n6 ps (Ef x (lay s Rs) p a)) p a)]=(done++[a]).map λb=>gW (kj x (lay s Rs) (n6 ps (Ef x (lay s Rs) p a)) p b):=by
   rw[Qx6]
   congr 1
   refine Qz9 λb hb=>?_;unfold kj;rw[QW (hd b hb)]
  rw[hs] at h1;obtain⟨ps',b6,b7,b8,g1,g2,g3,more,g4⟩:=ih (done++[a]) (n6 ps (Ef x (lay s Rs) p a)) _ _ _ hx' F' (Ff hp) (λb hb=>by
   rcases Qw0.mp hb with hb|hb
   ·exact(rQ _ _ _).mpr (.inl (hd b hb))
   ·rw[Qq1.mp hb];exact Lz _ _)
  refine⟨ps',b6,b7,b8,?_,g2,g3,?_⟩
  ·rw[<-g1];exact KB.Ui rfl h1
  ·rw[g4];unfold n6;split
   ·exact⟨more,rfl⟩
   ·exact⟨_,Qwy ..⟩
noncomputable def qe(x:List Nat)(Ls:List D)(ps:List P)(p:P):D:=.tup (x.map λa=>gW (kj x Ls ps p a))
structure All(x:List Nat)(s:D)(Rs:List D)(ps:List P):Prop extends LR x s Rs ps where
 clo:∀p∈ps,∀a∈x,Ef x (lay s Rs) p a∈ps
theorem Qj{ps more:List P}{q:P}(h:q∈ps):nC (ps++more) q=nC ps q:=wW _ h
theorem RQ(hu:Few x s Rs)(Za:x.length<=50)(hso:JT.d9 [jd]=some (.tup (nW x))):∀(m n:Nat) (ps:List P) (a5 a6 a7 a8:OD),n+m=7000->n<=ps.length->LR x s Rs ps->(∀p∈ps.take n,∀a∈x,Ef x (lay s Rs) p a∈ps)->
  ∃ps' b5 b6 b7 b8,iI (gf (aM gLt (ao eV (aa (bh 4) aj)) (ao eV (aa (bh 2) aj)))) JT.gA m (yo jd (.tup [s,.tup Rs]) ps ((ps.take n).map (qe x (lay s Rs) ps)) a5 a6 a7 a8) =
   .nx (yo jd (.tup [s,.tup Rs]) ps' (ps'.map (qe x (lay s Rs) ps')) b5 b6 b7 b8)/\All x s Rs ps':=by
 intro m
 induction m with
 | zero=>
  intro n ps a5 a6 a7 a8 hm hn F hc;have:=F.few hu;omega
 | succ m ih=>
  intro n ps a5 a6 a7 a8 hm hn F hc;have hrl:((ps.take n).map (qe x (lay s Rs) ps)).length=n:=by rw[Qqy,Qw3];omega
  have ht:gf (aM gLt (ao eV (aa (bh 4) aj)) (ao eV (aa (bh 2) aj))) (yo jd (.tup [s,.tup Rs]) ps ((ps.take n).map (qe x (lay s Rs) ps)) a5 a6 a7 a8) = .ok (decide (n<ps.length)) (yo jd (.tup [s,.tup Rs]) ps ((ps.take n).map (qe x (lay s Rs) ps)) a5 a6 a7 a8):=by
   refine fC (bF rfl rfl ?_);rw[hrl,Qqy];show some (D.bl (decide ((n:Int)<(ps.length:Int))))=_
   congr 2
   simp
  by_cases hlt:n<ps.length
  ·rw[Qww hlt] at ht;have hp:ps[n]? = some ps[n]:=Qq2 hlt;obtain⟨ps',b6,b7,b8,g1,g2,g3,more,g4⟩:=aa4 (jd:=jd) hu Za x [] ps a6 a7 a8 rfl F (by rw[hrl];exact hp) (λa ha=>by simp at ha);have hn':n+1<=ps'.length:=by rw[g4,Qqk];omega
   have hf:=g2.few hu;have e1:(ps.take n).map (qe x (lay s Rs) ps)++[qe x (lay s Rs) ps' ps[n]]=(ps'.take (n+1)).map (qe x (lay s Rs) ps'):=by
    have e2:ps'.take (n+1)=ps.take n++[ps[n]]:=by rw[g4,List.take_append_of_le_length (by omega),List.take_succ_eq_append_getElem hlt]
    rw[e2,Qx6]
    congr 1
    refine Qz9 λp hpm=>?_;unfold qe
    congr 1
    refine Qz9 λa ha=>?_;unfold kj;rw[g4,Qj (hc p hpm a ha)]
   have hb:JT.gA (yo jd (.tup [s,.tup Rs]) ps ((ps.take n).map (qe x (lay s Rs) ps)) a5 a6 a7 a8) = .nx (yo jd (.tup [s,.tup Rs]) ps' ((ps'.take (n+1)).map (qe x (lay s Rs) ps')) (Zl (x.map λa=>gW (kj x (lay s Rs) ps' ps[n] a))) b6 b7 b8):=by
    rw[<-e1];generalize(ps.take n).map (qe x (lay s Rs) ps)=rows at *;unfold JT.gA;refine(az rfl).trans ?_;refine(az ((gq (rJ (aD rfl hso) rfl)).trans g1)).trans ?_;have t6:gf (aM gGt (ao eV (aa (bh 2) aj)) (Zi 600)) (yo jd (.tup [s,.tup Rs]) ps' rows (Zl (x.map λa=>gW (kj x (lay s Rs) ps' ps[n] a))) b6 b7 b8) = .ok false (yo jd (.tup [s,.tup Rs]) ps' rows (Zl (x.map λa=>gW (kj x (lay s Rs) ps' ps[n] a))) b6 b7 b8):=by refine fC (bF rfl rfl ?_);rw[Qqy];show some (D.bl (decide ((600:Int)<(ps'.length:Int))))=_;rw[Qq9 (by omega)]
    refine(az (fK t6)).trans ?_;exact(bW (i:=4) (e:=yo jd (.tup [s,.tup Rs]) ps' rows (Zl (x.map λa=>gW (kj x (lay s Rs) ps' ps[n] a))) b6 b7 b8) rfl rfl rfl (by rw[hrl];exact Qwz hlt (Qq3 (F.few hu) (by decide)))).trans rfl
   rw[KB.aat ht hb];refine ih (n+1) ps' _ _ _ _ (by omega) hn' g2 λp hpm a ha=>?_;have e2:ps'.take (n+1)=ps.take n++[ps[n]]:=by rw[g4,List.take_append_of_le_length (by omega),List.take_succ_eq_append_getElem hlt]
   rw[e2] at hpm;rcases Qw0.mp hpm with hpm|hpm
   ·rw[g4];exact Qjj _ (hc p hpm a ha)
   ·rw[Qq1.mp hpm];exact g3 a ha
  ·rw[Qq9 hlt] at ht;have e:n=ps.length:=by omega
   have e2:ps.take n=ps:=by rw[e,List.take_length]
   rw[e2] at hc;refine⟨ps,a5,a6,a7,a8,?_,F,hc⟩;rw[KB.adm ht,e2]
theorem CW(hx:x∈XS)(hs:s∈sides)(hR:∀R∈Rs,cI x R)(h4:Rs.length<=4)(hu:Few x s Rs)(hso:JT.d9 [jd]=some (.tup (nW x))) :
  ∃ps,JT.nD [jd,.tup [s,.tup Rs]]=some (.tup [.lst (ps.map jN),.lst (ps.map (qe x (lay s Rs) ps))])/\All x s Rs ps:=by
 have Za:x.length<=50:=Qq3 (ir.jq x hx) (by decide);have hf:JT.bG [.tup [s,.tup Rs]]=some (jN (t7 (lay s Rs))):=by rw[first_is];exact gm.first_standing hx hs hR (by omega)
 have o0:mq x s Rs (t7 (lay s Rs)):=⟨hx,hs,hR,h4,by unfold t7;rw[Qqy,gm.lH],gm.Qp x _⟩;have F0:LR x s Rs [t7 (lay s Rs)]:=⟨Qzx.mpr ⟨by simp,.nil⟩,rfl,λp hp=>by rw[Qq1.mp hp];exact⟨o0,JQ _ _⟩,λp hp=>by rw[Qq1.mp hp];exact⟨[],λa ha=>by simp at ha,rfl⟩⟩;obtain⟨ps,b5,b6,b7,b8,g1,g2⟩:=RQ hu Za hso 7000 0 [t7 (lay s Rs)] none none none none rfl (Qxk _) F0 (λp hp=>by simp at hp);refine⟨ps,?_,g2⟩;generalize t7 (lay s Rs)=f at *;generalize D.tup [s,.tup Rs]=O at *;refine bV (env:=[Zf jd,Zf O,Zf (.lst (ps.map jN)),Zt (.iQ (Bc jN 0 ps)),Zf (.lst (ps.map (qe x (lay s Rs) ps))),b5,b6,b7,b8]) ?_;unfold JT.nM;refine(az (e:=[Zf jd,Zf O,Zl [jN f],Zn,Zn,Zn,Zn,Zn,Zn]) ?_).trans ?_
 ·exact(qP (Er (aH (aD rfl hf) bD) Ev.zz1)).trans rfl
 refine(az (e:=[Zf jd,Zf O,Zl [jN f],Zt (.iQ [(jN f,.int 0)]),Zn,Zn,Zn,Zn,Zn]) ?_).trans ?_
 ·refine(qP (e:=[Zf jd,Zf O,Zl [jN f],Zn,Zn,Zn,Zn,Zn,Zn]) ?_).trans rfl;unfold Bo;show(match G5 (jN f) with|some _=>_|none=>_)=_;rw[Ea.nk]
 refine(az rfl).trans ?_;refine(az g1).trans ?_;exact bA (di rfl Ev.Ft)
end
end KM
namespace KZ
open Ev PySem L2
open lB (XS sides fit)
open vC (cI)
open gm (bz nU lay mq)
open KM (jN U P All LR)
def yC(a b:gm.St):Bool:=if a.1=b.1 then decide (a.2<b.2) else decide (PyProof.Rows.b2i a.1<PyProof.Rows.b2i b.1)
def lx:List gm.St->List gm.St->Bool
 | [],[]=>false
 | [],_::_=>true
 | _::_,[]=>false
 | a::p,b::q=>if a=b then lx p q else yC a b
theorem aco(a b:gm.St):aX 57 (bz a) (bz b)=some (decide (a=b)):=by obtain⟨a1,a2⟩:=a;obtain⟨b1,b2⟩:=b;show su (aX 56) [.bl a1,.str a2] [.bl b1,.str b2]=_;cases h1:(a1 == b1)<;>cases h2:(a2 == b2)<;>simp only[Qz0,beq_iff_eq,ne_eq] at h1 h2<;>simp[su,aX,h1,h2]
theorem YB(a b:gm.St)(h:a≠b):VL true (bz a) (bz b)=some (yC a b):=by
 obtain⟨a1,a2⟩:=a;obtain⟨b1,b2⟩:=b;show Tw [.bl a1,.str a2] [.bl b1,.str b2]=_;unfold yC;by_cases h1:a1=b1
 ·subst h1;have h2:a2≠b2:=λe=>h (by rw[e]);have h2':(a2 == b2)=false:=Qz0.mpr h2;simp[Tw,ltB,aX,h2']
 ·have h1':(a1 == b1)=false:=Qz0.mpr h1;simp[Tw,ltB,aX,h1',h1]
theorem uy:∀(p q:List gm.St),m5 (jN p) (jN q)=some (lx p q)
 | [],[]=>rfl
 | [],_::_=>rfl
 | _::_,[]=>rfl
 | a::p,b::q=>by
  show(match aX 57 (bz a) (bz b) with|some true=>VJ true (p.map bz) (q.map bz)|some false=>VL true (bz a) (bz b)|none=>none)=_;rw[aco];unfold lx;by_cases h:a=b
  ·rw[Qww h,if_pos h];exact uy p q
  ·rw[Qq9 h,if_neg h];exact YB a b h
theorem TF(a:gm.St):yC a a=false:=by unfold yC;rw[if_pos rfl];simp
theorem YH{a b c:gm.St}(h1:yC a b=true)(h2:yC b c=true):yC a c=true:=by obtain⟨a1,a2⟩:=a;obtain⟨b1,b2⟩:=b;obtain⟨c1,c2⟩:=c;unfold yC at h1 h2 ⊢;simp only at h1 h2 ⊢;cases a1<;>cases b1<;>cases c1<;>simp[PyProof.Rows.b2i] at h1 h2 ⊢<;>first|exact List.lt_trans h1 h2|assumption|trivial
theorem Tz{a b:gm.St}(h:a≠b):yC a b=true\/yC b a=true:=by
 obtain⟨a1,a2⟩:=a;obtain⟨b1,b2⟩:=b;have tri:a1=b1->a2<b2\/b2<a2:=λe=>by
  by_cases c1:a2<b2
  ·exact .inl c1
  ·by_cases c2:b2<a2
   ·exact .inr c2
   ·exact absurd (by rw[e,List.le_antisymm (List.not_lt.mp c2) (List.not_lt.mp c1)]) h
 unfold yC;simp only;cases a1<;>cases b1<;>simp[PyProof.Rows.b2i]<;>exact tri rfl
theorem Az:∀p:List gm.St,lx p p=false
 | []=>rfl
 | a::p=>by unfold lx;rw[if_pos rfl];exact Az p
theorem VH:∀{p q u:List gm.St},lx p q=true->lx q u=true->lx p u=true
 | [],[],_,h,_=>by cases h
 | [],_::_,[],_,h=>by cases h
 | [],_::_,_::_,_,_=>rfl
 | _::_,[],_,h,_=>by cases h
 | _::_,_::_,[],_,h=>by cases h
 | a::p,b::q,c::u,h1,h2=>by
  unfold lx at h1 h2 ⊢;by_cases e1:a=b
  ·subst e1;rw[if_pos rfl] at h1;by_cases e2:a=c
   ·rw[if_pos e2] at h2 ⊢;exact VH h1 h2
   ·rw[if_neg e2] at h2 ⊢;exact h2
  ·rw[if_neg e1] at h1;by_cases e2:b=c
   ·subst e2;rw[if_neg e1];exact h1
   ·rw[if_neg e2] at h2;have:=YH h1 h2;by_cases e3:a=c
    ·subst e3;rw[TF] at this;cases this
    ·rw[if_neg e3];exact this
theorem Py:∀{p q:List gm.St},p≠q->lx p q=true\/lx q p=true
 | [],[],h=>absurd rfl h
 | [],_::_,_=>.inl rfl
 | _::_,[],_=>.inr rfl
 | a::p,b::q,h=>by
  unfold lx;by_cases e:a=b
  ·subst e;rw[if_pos rfl,if_pos rfl];exact Py λz=>h (by rw[z])
  ·rw[if_neg e,if_neg λz=>e z.symm];exact Tz e
theorem Yb(p:List gm.St):Yc 60 (jN p)=true:=by
 refine Qxw.mpr λd hd=>?_;obtain⟨a,_,rfl⟩:=Qw5.mp hd
 rfl
theorem Ik{ps:List P}{n:Nat}(nd:ps.Nodup)(hl:∀p∈ps,p.length=n)(hn:ps.length<=1000):ph (ps.map jN):=by
 by_cases h2:ps.length<2
 ·exact .inl (by rw[Qqy];exact h2)
 have n0:0<n:=by
  rcases Nat.eq_zero_or_pos n with z|z
  ·exfalso
   match ps,nd,hl,h2 with
   | a::b::r,nd,hl,_=>
    have e1:=hl a (Qqz ..);have e2:=hl b (Qqj _ (Qqz ..));rw[z] at e1 e2;have:a=b:=by rw[List.length_eq_zero_iff.mp e1,List.length_eq_zero_iff.mp e2]
    rw[this,Qzx] at nd;exact nd.1 (Qqz ..)
   | [],_,_,h=>exact h (by decide)
   | [_],_,_,h=>exact h (by show 1<2;decide)
  ·exact z
 have one:∀d∈ps.map jN,∃p,d=jN p/\p∈ps:=λd hd=>by
  obtain⟨p,hp,rfl⟩:=Qw5.mp hd;exact⟨p,rfl,hp⟩
 refine .inr ⟨⟨by rw[Qqy];exact hn,λd hd=>by obtain⟨p,rfl,_⟩:=one d hd;exact Yb p⟩,.inr ⟨λd hd=>?_,λd hd e he=>?_⟩,λd hd=>?_,λd hd e he f hf h1 h2=>?_,?_⟩
 ·obtain⟨p,rfl,hp⟩:=one d hd;have:=hl p hp
  match p,this with
  | [],z=>rw[<-z] at n0;exact absurd n0 (by decide)
  | _::_,_=>rfl
 ·obtain⟨p,rfl,_⟩:=one d hd;obtain⟨q,rfl,_⟩:=one e he;rw[uy];exact λz=>by cases z
 ·obtain⟨p,rfl,_⟩:=one d hd;rw[uy,Az]
 ·obtain⟨p,rfl,_⟩:=one d hd;obtain⟨q,rfl,_⟩:=one e he;obtain⟨u,rfl,_⟩:=one f hf;rw[uy] at h1 h2 ⊢;rw[VH (Qw4 h1) (Qw4 h2)]
 ·refine List.pairwise_map.mpr (nd.imp_of_mem λ{p q} hp hq hne=>?_);rw[uy,uy];rcases Py hne with z|z
  ·exact .inl (by rw[z])
  ·exact .inr (by rw[z])
theorem Rx{ps qs:List P}{n:Nat}(nd:ps.Nodup)(hl:∀p∈ps,p.length=n)(hn:ps.length<=1000)(hp:qs.Perm ps):je (qs.map jN)=je (ps.map jN):=by
 have o:jO (·∈ ps.map jN):=by
  rcases Ik nd hl hn with z|⟨_,_,o1,o3,o4⟩
  ·rw[Qqy] at z
   match ps,z with
   | [],_=>exact⟨λ_ h=>by simp at h,λ_ _ _ h=>by simp at h,λ_ _ h=>by simp at h⟩
   | [p],_=>exact jO.of (λx hx=>by rw[Qq1.mp hx,uy,Az]) (λx hx y hy z hz h _=>by rw[Qq1.mp hx,Qq1.mp hy,uy,Az] at h;cases h) (List.pairwise_singleton _ _)
  ·exact jO.of o1 o3 o4
 have hq:∀y∈qs.map jN,y∈ps.map jN:=λy hy=>(hp.map jN).mem_iff.mp hy;exact qT o (λy h=>h) ((iJ _).trans (hp.map jN)) (m7 o _ hq)
section
variable{x:List Nat}{s:D}{Rs:List D}{jd:D}
theorem JM{ps:List P}(h:All x s Rs ps):∀p∈ps,p.length=Rs.length:=λp hp=>by
 have:=KM.HB _ _ (h.ok p hp).u;rw[gm.lH] at this;exact this.symm
theorem JL{s':D}{Rs':List D}{ps qs:List P}(h:All x s Rs ps)(h':All x s' Rs' qs)(e:lay s' Rs'=lay s Rs):∀p∈ps,p∈qs:=λp hp=>by
 obtain⟨w,hw,rfl⟩:=h.reach p hp;have go:∀(w:List Nat) (q:P),q∈qs->(∀a∈w,a∈x)->w.foldl (KM.Ef x (lay s Rs)) q∈qs:=λw=>by
  induction w with
  | nil=>exact λq hq _=>hq
  | cons a w ih=>exact λq hq hw=>ih _ (by have:=h'.clo q hq a (hw a (Qqz ..));rw[e] at this;exact this) λb hb=>hw b (Qqj _ hb)
 refine go w _ ?_ hw;have:=h'.z0;rw[e] at this;exact Qz6 this
theorem QT{s':D}{Rs':List D}{ps qs:List P}(h:All x s Rs ps)(h':All x s' Rs' qs)(e:lay s' Rs'=lay s Rs):qs.Perm ps:=
 (List.perm_ext_iff_of_nodup h'.nd h.nd).mpr λp=>⟨JL h' h e.symm p,JL h h' e p⟩
theorem JN{ps:List P}(h:All x s Rs ps)(hx:x.length<=4)(h3:Rs.length<=3):ps.length<=1000:=
 Qq3 (KB.wF _ ps h.nd λq hq=>(h.ok q hq).u) (Qq3 (KM.Wa hx (by rw[gm.lH];exact h3)) (by decide))
theorem standings(hx:x∈XS)(hs:s∈sides)(hR:∀R∈Rs,cI x R)(h3:Rs.length<=3)(hso:ir.d9 [jd]=some (.tup (x.map λa=>.str [a]))):∃ps,jc.lJ [jd,.tup [s,.tup Rs]]=some (.tup (je (ps.map jN)))/\All x s Rs ps:=by have Za:=ir.jq x hx;obtain⟨ps,h1,h2⟩:=KM.CW hx hs hR (by omega) (KM.ack (Qq3 (KM.Wa Za (by rw[gm.lH];exact h3)) (by decide))) hso;refine⟨ps,bV (env:=[Zf jd,Zf (.tup [s,.tup Rs])]) ?_,h2⟩;unfold jc.uE;have g:wX [.lst (ps.map jN)]=some (.lst (je (ps.map jN))):=if_pos (Ik h2.nd (JM h2) (JN h2 Za h3));exact bA (aD (ds:=[.lst (je (ps.map jN))]) (aH (aD (ds:=[.lst (ps.map jN)]) (aH (bF (x:=.tup [.lst (ps.map jN),.lst (ps.map (KM.qe x (lay s Rs) ps))]) (y:=.int 0) (aD (ds:=[jd,.tup [s,.tup Rs]]) rfl h1) rfl rfl) bD) g) bD) rfl)
end
end KZ
namespace jc
open Ev PySem L2
open lB (XS sides)
open vC (cI fin)
open gm (bz lay tn rt t7 lz Hq mq)
open KM (jN)
open pQ (xP FZ)
def ot:D->D
 | .str (114::_)=>.str [108,101,102,116]
 | _=>.str [114,105,103,104,116]
theorem wA{s:D}(h:s∈sides):ot s∈sides/\rt (ot s) = !rt s:=by
 rcases Qq8.mp h with rfl|h
 ·exact⟨Qqj _ (Qqz ..),rfl⟩
 ·cases Qq1.mp h;exact⟨Qqz ..,rfl⟩
theorem aaJ{x:List Nat}{R:D}(h:cI x R):tn (tn R)=R:=by
 obtain⟨_,_,_,_,rfl,_⟩:=h
 rfl
theorem Yw{x:List Nat}{Rs:List D}(h:∀R∈Rs,cI x R):(Rs.map tn).map tn=Rs:=by rw[Qj5];exact(Qz9 λR hR=>aaJ (h R hR)).trans (List.map_id _)
theorem wO{x:List Nat}{s:D}{Rs:List D}(hs:s∈sides)(h:∀R∈Rs,cI x R):lay (ot s) (Rs.map tn)=lay s Rs:=by
 unfold lay;rw[(wA hs).2];cases rt s with
 | true=>rfl
 | false=>exact Yw h
theorem QB{s:D}(hs:s∈sides)(w:List Nat):xP (ot s) w.reverse=xP s w/\xP (ot s) w=(xP s w).reverse:=by
 unfold xP;rw[(wA hs).2];cases rt s with
 | true=>exact⟨rfl,by simp⟩
 | false=>exact⟨by simp,rfl⟩
theorem Zg{s:D}(hs:s∈sides):gY (.dct [(.str [108,101,102,116],.str [114,105,103,104,116]),(.str [114,105,103,104,116],.str [108,101,102,116])]) s=some (ot s):=by
 rcases Qq8.mp hs with rfl|hs
 ·kernel_rfl
 ·cases Qq1.mp hs
  kernel_rfl
section
variable{x:List Nat}{s:D}{Rs:List D}(hx:x∈XS)(hs:s∈sides)(hR:∀R∈Rs,cI x R)(h3:Rs.length<=3)
include hx hs hR h3
theorem oR:∀R∈Rs.map tn,cI x R:=λR h=>by
 obtain⟨Q,hQ,rfl⟩:=Qw5.mp h;exact(gm.Ce (hR Q hQ)).1
theorem other{ss:List gm.St}(o:mq x s Rs ss):mq x (ot s) (Rs.map tn) ss:=⟨hx,(wA hs).1,oR hx hs hR h3,by rw[Qqy];exact o.h4,by rw[Qqy];exact o.hl,o.hS⟩
theorem Jt:bG [.tup [s,.tup Rs]]=some (.tup ((t7 (lay s Rs)).map bz))/\bG [.tup [ot s,.tup (Rs.map tn)]]=some (.tup ((t7 (lay s Rs)).map bz)):=by have h:=gm.first_standing hx (wA hs).1 (oR hx hs hR h3) (by rw[Qqy];omega);rw[wO hs hR] at h;exact⟨gm.first_standing hx hs hR (by omega),h⟩
theorem W6{ss:List gm.St}(o:mq x s Rs ss){a:Nat}(ha:a∈x):fV [.tup [s,.tup Rs],.tup (ss.map bz),.str [a]]=some (.tup [.tup ((lz x (lay s Rs) ss [a]).1.map bz),.str (lz x (lay s Rs) ss [a]).2])/\fV [.tup [ot s,.tup (Rs.map tn)],.tup (ss.map bz),.str [a]]=some (.tup [.tup ((lz x (lay s Rs) ss [a]).1.map bz),.str (lz x (lay s Rs) ss [a]).2])/\mq x s Rs (lz x (lay s Rs) ss [a]).1:=by
 have hz:∀b ∈ [a],b∈35::x:=λb hb=>by rw[Qq1.mp hb];exact Qqj _ ha
 obtain⟨h1,h2⟩:=gm.read_on o hz (by show 1<=7;decide);obtain⟨h5,_⟩:=gm.read_on (other hx hs hR h3 o) hz (by show 1<=7;decide);rw[wO hs hR] at h5;exact⟨h1,h5,h2⟩
theorem acp{ss:List gm.St}(o:mq x s Rs ss):kZ [.tup [s,.tup Rs],.tup (ss.map bz)]=some (.str (Hq x (lay s Rs) ss []))/\kZ [.tup [ot s,.tup (Rs.map tn)],.tup (ss.map bz)]=some (.str (Hq x (lay s Rs) ss [])):=by have h:=gm.end_of (other hx hs hR h3 o);rw[wO hs hR] at h;exact⟨gm.end_of o,h⟩
theorem Yy{w:List Nat}(hw:∀c∈w,c∈x)(h6:w.length<=6):qw [.tup [s,.tup Rs],.str w]=some (.str (fin s Rs w))/\qw [.tup [ot s,.tup (Rs.map tn)],.str w.reverse]=some (.str (fin s Rs w).reverse):=by
 have hn:(w.length+1)*2^Rs.length<=301:=by
  have:Rs.length=0\/Rs.length=1\/Rs.length=2\/Rs.length=3:=by omega
  rcases this with e|e|e|e<;>rw[e]<;>omega
 have hw':∀c∈w.reverse,c∈x:=λc hc=>hw c (Qj4.mp hc);have hn':(w.reverse.length+1)*2^(Rs.map tn).length<=301:=by rw[Qx2,Qqy];exact hn
 have h:=vC.made hx (wA hs).1 (oR hx hs hR h3) (by rw[Qqy];omega) hw' hn';have e:fin (ot s) (Rs.map tn) w.reverse=(fin s Rs w).reverse:=by rw[pQ.Hl hx (wA hs).1 (oR hx hs hR h3) hw' hn',wO hs hR,(QB hs w).1,(QB hs _).2,<-pQ.Hl hx hs hR hw hn]
 rw[e] at h;exact⟨vC.made hx hs hR (by omega) hw hn,h⟩
theorem acy{jd:D}(hso:ir.d9 [jd]=some (.tup (x.map λa=>.str [a]))):∃d,j7 [jd,.tup [s,.tup Rs]]=some d/\j7 [jd,.tup [ot s,.tup (Rs.map tn)]]=some d/\okN 60 d=true:=by
 obtain⟨ps,h1,h2⟩:=KZ.standings hx hs hR h3 hso;obtain⟨qs,h5,h6⟩:=KZ.standings hx (wA hs).1 (oR hx hs hR h3) (by rw[Qqy];exact h3) hso;have e:=KZ.Rx h2.nd (KZ.JM h2) (KZ.JN h2 (ir.jq x hx) h3) (KZ.QT h2 h6 (wO hs hR));rw[e] at h5;have run:∀(o d:D),lJ [jd,o]=some d->j7 [jd,o]=some d:=λo d h=>by
  refine bV (env:=[Zf jd,Zf o,Zf d]) ?_;unfold zH;refine(az (e:=[Zf jd,Zf o,Zf (.non)]) (by rfl)).trans ?_;exact(az (bM (e':=[Zf jd,Zf o,Zf d]) (e:=[Zf jd,Zf o,Zf (.non)]) (aD (ds:=[jd,o]) (by rfl) h) (by rfl))).trans rfl
 refine⟨_,run _ _ h1,run _ _ h5,Qxw.mpr λd hd=>?_⟩;obtain⟨p,_,rfl⟩:=Qw5.mp ((iJ _).mem_iff.mp hd);refine Qxw.mpr λd hd=>?_;obtain⟨a,_,rfl⟩:=Qw5.mp hd
 rfl
theorem W2(A0 A1 A2 A5 k w:OD){ss:List gm.St}(o:mq x s Rs ss){a:Nat}(ha:a∈x)(f:OD):∃ss' f',rC [A0,A1,A2,Zs x,Zf (.tup [s,.tup Rs]),A5,(Zf (.tup [ot s,.tup (Rs.map tn)])),k,w,(Zf (.tup (ss.map bz))),Zs [a],f] = .nx [A0,A1,A2,Zs x,Zf (.tup [s,.tup Rs]),A5,(Zf (.tup [ot s,.tup (Rs.map tn)])),k,w,(Zf (.tup (ss'.map bz))),Zs [a],f']/\mq x s Rs ss':=by
 obtain⟨h1,h2,h5⟩:=W6 hx hs hR h3 o ha;generalize hd:D.tup [.tup ((lz x (lay s Rs) ss [a]).1.map bz),.str (lz x (lay s Rs) ss [a]).2]=d at *;refine⟨(lz x (lay s Rs) ss [a]).1,Zf d,?_,h5⟩;have hn:zq d d=some (.bl false):=by rw[<-hd];exact vC.gw (gm.X8 _ _)
 unfold rC;refine(az (e:=[A0,A1,A2,Zs x,Zf (.tup [s,.tup Rs]),A5,(Zf (.tup [ot s,.tup (Rs.map tn)])),k,w,(Zf (.tup (ss.map bz))),Zs [a],Zf d]) ?_).trans ?_
 ·exact bM (d:=d) (e:=[A0,A1,A2,Zs x,Zf (.tup [s,.tup Rs]),A5,(Zf (.tup [ot s,.tup (Rs.map tn)])),k,w,(Zf (.tup (ss.map bz))),Zs [a],f]) (aD (ds:=[.tup [s,.tup Rs],.tup (ss.map bz),.str [a]]) (by rfl) h1) (by rfl)
 refine(az (e:=[A0,A1,A2,Zs x,Zf (.tup [s,.tup Rs]),A5,(Zf (.tup [ot s,.tup (Rs.map tn)])),k,w,(Zf (.tup (ss.map bz))),Zs [a],Zf d]) ?_).trans ?_
 ·refine(fK (e:=[A0,A1,A2,Zs x,Zf (.tup [s,.tup Rs]),A5,(Zf (.tup [ot s,.tup (Rs.map tn)])),k,w,(Zf (.tup (ss.map bz))),Zs [a],Zf d]) (fC (bF (x:=d) (y:=d) (e1:=[A0,A1,A2,Zs x,Zf (.tup [s,.tup Rs]),A5,(Zf (.tup [ot s,.tup (Rs.map tn)])),k,w,(Zf (.tup (ss.map bz))),Zs [a],Zf d]) (aD (ds:=[.tup [ot s,.tup (Rs.map tn)],.tup (ss.map bz),.str [a]]) (by rfl) h2) (by rfl) hn))).trans rfl
 ·exact bM (d:=.tup ((lz x (lay s Rs) ss [a]).1.map bz)) (e:=[A0,A1,A2,Zs x,Zf (.tup [s,.tup Rs]),A5,(Zf (.tup [ot s,.tup (Rs.map tn)])),k,w,(Zf (.tup (ss.map bz))),Zs [a],Zf d]) (acn (x:=d) (y:=.int 0) (by rfl) (by rfl) (by rfl) (by rw[<-hd];exact ir.Fd _ _)) (by rfl)
theorem Wr(ns:List Int)(hl:ns.length<=63)(hb:HH ns)(k:Int)(h0:0<=k)(h1:k<=400)(A1 A2 A5 a8 a9 a10 a11:OD):∃b8 b9 b10 Hw,rB [(Zf (.arr (ns.map .int))),A1,A2,Zs x,Zf (.tup [s,.tup Rs]),A5,(Zf (.tup [ot s,.tup (Rs.map tn)])),Zf (.int k),a8,a9,a10,a11] = .nx [(Zf (.arr (ns.map .int))),A1,A2,Zs x,Zf (.tup [s,.tup Rs]),A5,(Zf (.tup [ot s,.tup (Rs.map tn)])),Zf (.int k),b8,b9,b10,Hw]:=by
 obtain⟨p,hp⟩:=gm.pack ns hl hb k h0 (by omega);obtain⟨w,n',hw1,hw2,hw3⟩:=LQ.word p x hx 6 (by decide);have hf:=(Jt hx hs hR h3).1;have o:=gm.xY hx hs hR (by omega:Rs.length<=4);obtain⟨m1,m2⟩:=Yy hx hs hR h3 hw2 hw3;generalize t7 (lay s Rs)=fs at *;generalize hA:(Zf (D.arr (ns.map .int)):OD)=A0;obtain⟨e',f1,ss,b10,Hw,rfl,o'⟩:=xn (g:=ak 10) (b:=rC) (λenv=>∃ss b10 Hw,env=[A0,A1,A2,Zs x,Zf (.tup [s,.tup Rs]),A5,(Zf (.tup [ot s,.tup (Rs.map tn)])),Zf (.int k),Zs w,(Zf (.tup (ss.map bz))),b10,Hw]/\mq x s Rs ss) (nW w)
  (λd hd env ⟨ss,b10,Hw,he,o⟩=>by
   subst he;obtain⟨a,ha,rfl⟩:=Qw5.mp hd;obtain⟨ss',c11,hb,o'⟩:=W2 hx hs hR h3 A0 A1 A2 A5 (Zf (.int k)) (Zs w) o (hw2 a ha) Hw;exact⟨_,_,rfl,hb,ss',_,_,rfl,o'⟩)
  [A0,A1,A2,Zs x,Zf (.tup [s,.tup Rs]),A5,(Zf (.tup [ot s,.tup (Rs.map tn)])),Zf (.int k),Zs w,(Zf (.tup (fs.map bz))),a10,a11] ⟨fs,_,_,rfl,o⟩
 obtain⟨e1,e2⟩:=acp hx hs hR h3 o';refine⟨(Zs w),(Zf (.tup (ss.map bz))),b10,Hw,?_⟩;unfold rB;refine(az (e:=[A0,A1,A2,Zs x,Zf (.tup [s,.tup Rs]),A5,(Zf (.tup [ot s,.tup (Rs.map tn)])),Zf (.int k),Zs w,a9,a10,a11]) ?_).trans ?_
 ·refine bM (d:=.str w) (e:=[A0,A1,A2,Zs x,Zf (.tup [s,.tup Rs]),A5,(Zf (.tup [ot s,.tup (Rs.map tn)])),Zf (.int k),a8,a9,a10,a11]) ?_ (by rfl);rw[<-hA];refine gm.Qv (x0:=.lst [.int p]) (ds:=[.str x,.int 6]) (e1:=[(Zf (.arr (ns.map .int))),A1,A2,Zs x,Zf (.tup [s,.tup Rs]),A5,(Zf (.tup [ot s,.tup (Rs.map tn)])),Zf (.int k),a8,a9,a10,a11]) ?_ (by rfl) hw1;exact aD (ds:=[.arr (ns.map .int),.int k]) (by rfl) hp
 refine(az (e:=[A0,A1,A2,Zs x,Zf (.tup [s,.tup Rs]),A5,(Zf (.tup [ot s,.tup (Rs.map tn)])),Zf (.int k),Zs w,(Zf (.tup (fs.map bz))),a10,a11]) ?_).trans ?_
 ·exact bM (e:=[A0,A1,A2,Zs x,Zf (.tup [s,.tup Rs]),A5,(Zf (.tup [ot s,.tup (Rs.map tn)])),Zf (.int k),Zs w,a9,a10,a11]) (aD (ds:=[.tup [s,.tup Rs]]) (by rfl) hf) (by rfl)
 refine(az ((gq (ds:=nW w) (by rfl)).trans f1)).trans ?_;generalize hE:([A0,A1,A2,Zs x,Zf (.tup [s,.tup Rs]),A5,(Zf (.tup [ot s,.tup (Rs.map tn)])),Zf (.int k),Zs w,(Zf (.tup (ss.map bz))),b10,Hw]:Ev.Env)=env;have st:∀z:List Nat,zq (.str z) (.str z)=some (.bl false):=λz=>vC.gw rfl;refine(fK (e:=env) ((Jv (e:=env) ?_).trans ?_)).trans rfl
 ·exact fC (bF (aD (ds:=[.tup [s,.tup Rs],.tup (ss.map bz)]) (e:=env) (by rw[<-hE];rfl) e1) (aD (ds:=[.tup [ot s,.tup (Rs.map tn)],.tup (ss.map bz)]) (by rw[<-hE];rfl) e2) (st _))
 ·refine fC (bF (e1:=env) (aD (ds:=[.tup [ot s,.tup (Rs.map tn)],.str w.reverse]) (by rw[<-hE];rfl) m2) (pQ.Eo (aD (ds:=[.tup [s,.tup Rs],.str w]) (by rw[<-hE];rfl) m1)) (st _))
end
theorem Mz(ns:List Int)(hl:ns.length<=63)(hb:HH ns):Ju [.arr (ns.map .int)]=some (.bl true):=by
 obtain⟨p,hp⟩:=gm.pack ns hl hb 0 (by decide) (by decide);obtain⟨x,rs,n,hx,hst,hr⟩:=ir.stock p;obtain⟨s,Rs,n1,hor,hs,hR,h3⟩:=gm.order n x hx 3 (by decide);have hso:=ir.sounds_of hx hr;obtain⟨d,d1,d2,dk⟩:=acy hx hs hR h3 hso;obtain⟨g1,g2⟩:=Jt hx hs hR h3;generalize hA:(Zf (D.arr (ns.map .int)):OD)=A0;generalize hk:(Zf (D.dct [(.str [108,101,102,116],.str [114,105,103,104,116]),(.str [114,105,103,104,116],.str [108,101,102,116])]):OD)=A5;have hlen:ao eV (aa (bh 0) aj) [A0,Zl [.int n1],Zf (.tup rs),Zs x,Zf (.tup [s,.tup Rs]),A5,(Zf (.tup [ot s,.tup (Rs.map tn)])),Zn,Zn,Zn,Zn,Zn] = .ok (.int (ns.length:Int)) [A0,Zl [.int n1],Zf (.tup rs),Zs x,Zf (.tup [s,.tup Rs]),A5,(Zf (.tup [ot s,.tup (Rs.map tn)])),Zn,Zn,Zn,Zn,Zn]:=by rw[<-hA];show Ev.R.ok (D.int ((ns.map D.int).length:Int)) _=_;rw[Qqy]
 obtain⟨ds,hds,hkd⟩:=pQ.MT (m:=8) (by decide) hlen;obtain⟨e',f1,b7,b8,b9,b10,Hw,rfl⟩:=xn (g:=ak 7) (b:=rB) (λenv=>∃b7 b8 b9 b10 Hw,env=[A0,Zl [.int n1],Zf (.tup rs),Zs x,Zf (.tup [s,.tup Rs]),A5,(Zf (.tup [ot s,.tup (Rs.map tn)])),b7,b8,b9,b10,Hw]) ds
  (λd hd env ⟨b7,b8,b9,b10,Hw,he⟩=>by
   subst he;obtain⟨k,rfl,h0,h1⟩:=hkd d hd;obtain⟨c8,c9,c10,c11,hw⟩:=Wr hx hs hR h3 ns hl hb k h0 h1 (Zl [.int n1]) (Zf (.tup rs)) A5 b8 b9 b10 Hw;rw[hA] at hw;exact⟨_,_,rfl,hw,_,_,_,_,_,rfl⟩)
  [A0,Zl [.int n1],Zf (.tup rs),Zs x,Zf (.tup [s,.tup Rs]),A5,(Zf (.tup [ot s,.tup (Rs.map tn)])),Zn,Zn,Zn,Zn,Zn] ⟨_,_,_,_,_,rfl⟩
 have tl:ao cz (aa (DW) aj) [A0,Zl [.int n1],Zf (.tup rs),Zs x,Zf (.tup [s,.tup Rs]),A5,Zn,Zn,Zn,Zn,Zn,Zn] = .ok (.tup (Rs.map tn)) [A0,Zl [.int n1],Zf (.tup rs),Zs x,Zf (.tup [s,.tup Rs]),A5,Zn,Zn,Zn,Zn,Zn,Zn]:=by
  obtain⟨env',q1,v12,rfl⟩:=rA (g:=ak 12) (e:=ao fJ (Zv 12 aj)) (λenv=>∃v12,env=[A0,Zl [.int n1],Zf (.tup rs),Zs x,Zf (.tup [s,.tup Rs]),A5,Zn,Zn,Zn,Zn,Zn,Zn,v12]) tn Rs [A0,Zl [.int n1],Zf (.tup rs),Zs x,Zf (.tup [s,.tup Rs]),A5,Zn,Zn,Zn,Zn,Zn,Zn,Zn] ⟨none,rfl⟩
   (λR hRm env ⟨v12,he⟩=>by
    subst he;exact⟨[A0,Zl [.int n1],Zf (.tup rs),Zs x,Zf (.tup [s,.tup Rs]),A5,Zn,Zn,Zn,Zn,Zn,Zn,Zf R],_,rfl,aD (ds:=[R]) (by rfl) (gm.Ce (hR R hRm)).2.1,_,rfl⟩)
  refine aD (ds:=[.lst (Rs.map tn)]) (aH ?_ bD) rfl;exact lM (lo:=12) (n:=13) (ds:=Rs) (aK:=[A0,Zl [.int n1],Zf (.tup rs),Zs x,Zf (.tup [s,.tup Rs]),A5,Zn,Zn,Zn,Zn,Zn,Zn]) (by rfl) (by rfl) q1 (by rw[Qqy];exact Qq3 h3 (by decide))
 have ds1:aB gY 5 (aB fZ 4 (Zi 0)) [A0,Zl [.int n1],Zf (.tup rs),Zs x,Zf (.tup [s,.tup Rs]),A5,Zn,Zn,Zn,Zn,Zn,Zn] = .ok (ot s) [A0,Zl [.int n1],Zf (.tup rs),Zs x,Zf (.tup [s,.tup Rs]),A5,Zn,Zn,Zn,Zn,Zn,Zn]:=by rw[<-hk];exact acn (x:=.dct [(.str [108,101,102,116],.str [114,105,103,104,116]),(.str [114,105,103,104,116],.str [108,101,102,116])]) (y:=s) (by rfl) (by rfl) (by rfl) (Zg hs)
 refine bV (env:=[A0,Zl [.int n1],Zf (.tup rs),Zs x,Zf (.tup [s,.tup Rs]),A5,(Zf (.tup [ot s,.tup (Rs.map tn)])),b7,b8,b9,b10,Hw]) ?_;have e0:envOf 12 [D.arr (ns.map .int)]=[A0,Zn,Zn,Zn,Zn,Zn,Zn,Zn,Zn,Zn,Zn,Zn]:=by rw[<-hA];rfl
 rw[e0];unfold V7;refine(az (e:=[A0,Zl [.int p],Zn,Zn,Zn,Zn,Zn,Zn,Zn,Zn,Zn,Zn]) ?_).trans ?_
 ·rw[<-hA];exact(qP (d:=.lst [.int p]) (e:=[(Zf (.arr (ns.map .int))),Zn,Zn,Zn,Zn,Zn,Zn,Zn,Zn,Zn,Zn,Zn]) (aD (ds:=[.arr (ns.map .int),.int 0]) (by rfl) hp)).trans rfl
 refine(az (e:=[A0,Zl [.int n],Zf (.tup rs),Zn,Zn,Zn,Zn,Zn,Zn,Zn,Zn,Zn]) ?_).trans ?_
 ·exact bM (d:=.tup rs) (e:=[A0,Zl [.int n],Zn,Zn,Zn,Zn,Zn,Zn,Zn,Zn,Zn,Zn]) (gG (x:=.lst [.int p]) (x0:=.lst [.int p]) (ds:=[]) (e1:=[A0,Zl [.int p],Zn,Zn,Zn,Zn,Zn,Zn,Zn,Zn,Zn,Zn]) (by rfl) (by rfl) (by rfl) hst) (by rfl)
 refine(az (e:=[A0,Zl [.int n],Zf (.tup rs),Zs x,Zn,Zn,Zn,Zn,Zn,Zn,Zn,Zn]) ?_).trans ?_
 ·exact bM (d:=.str x) (e:=[A0,Zl [.int n],Zf (.tup rs),Zn,Zn,Zn,Zn,Zn,Zn,Zn,Zn,Zn]) (aD (ds:=[.tup rs]) (by rfl) (ir.G9 hx hr)) (by rfl)
 refine(az (e:=[A0,Zl [.int n1],Zf (.tup rs),Zs x,Zf (.tup [s,.tup Rs]),Zn,Zn,Zn,Zn,Zn,Zn,Zn]) ?_).trans ?_
 ·exact bM (d:=.tup [s,.tup Rs]) (e:=[A0,Zl [.int n1],Zf (.tup rs),Zs x,Zn,Zn,Zn,Zn,Zn,Zn,Zn,Zn]) (gG (x:=.lst [.int n]) (x0:=.lst [.int n]) (ds:=[.str x,.int 3]) (e1:=[A0,Zl [.int n],Zf (.tup rs),Zs x,Zn,Zn,Zn,Zn,Zn,Zn,Zn,Zn]) (by rfl) (by rfl) (by rfl) hor) (by rfl)
 refine(az (e:=[A0,Zl [.int n1],Zf (.tup rs),Zs x,Zf (.tup [s,.tup Rs]),A5,Zn,Zn,Zn,Zn,Zn,Zn]) (by rw[<-hk];rfl)).trans ?_;refine(az (e:=[A0,Zl [.int n1],Zf (.tup rs),Zs x,Zf (.tup [s,.tup Rs]),A5,(Zf (.tup [ot s,.tup (Rs.map tn)])),Zn,Zn,Zn,Zn,Zn]) ?_).trans ?_
 ·exact bM (d:=.tup [ot s,.tup (Rs.map tn)]) (e:=[A0,Zl [.int n1],Zf (.tup rs),Zs x,Zf (.tup [s,.tup Rs]),A5,Zn,Zn,Zn,Zn,Zn,Zn]) (di (aH ds1 (aH tl bD)) Ev.Ft) (by rfl)
 refine(az (e:=[A0,Zl [.int n1],Zf (.tup rs),Zs x,Zf (.tup [s,.tup Rs]),A5,(Zf (.tup [ot s,.tup (Rs.map tn)])),Zn,Zn,Zn,Zn,Zn]) ?_).trans ?_
 ·generalize hE:([A0,Zl [.int n1],Zf (.tup rs),Zs x,Zf (.tup [s,.tup Rs]),A5,(Zf (.tup [ot s,.tup (Rs.map tn)])),Zn,Zn,Zn,Zn,Zn]:Ev.Env)=env;refine(fK (e:=env) ((Jv (e:=env) ?_).trans ?_)).trans rfl
  ·exact fC (bF (aD (ds:=[.tup [s,.tup Rs]]) (e:=env) (by rw[<-hE];rfl) g1) (aD (ds:=[.tup [ot s,.tup (Rs.map tn)]]) (by rw[<-hE];rfl) g2) (vC.gw (gm.Ti _)))
  ·exact fC (bF (aD (ds:=[.tup rs,.tup [s,.tup Rs]]) (e:=env) (by rw[<-hE];rfl) d1) (aD (ds:=[.tup rs,.tup [ot s,.tup (Rs.map tn)]]) (by rw[<-hE];rfl) d2) (vC.gw dk))
 refine(az (e:=[A0,Zl [.int n1],Zf (.tup rs),Zs x,Zf (.tup [s,.tup Rs]),A5,(Zf (.tup [ot s,.tup (Rs.map tn)])),b7,b8,b9,b10,Hw]) ?_).trans rfl;exact(gq hds).trans f1
open PySem PySem.Spec PyProof.Rows L2 Ev
theorem all_mk{P:Program}{w:World}{K:Fg}{h:Heap}{mg:Str->Option Value}{fa:Addr}(X:K.In h)(G:h.Ns mainGlobals mg)(hfa:mg "law" = some (.ref fa))
  {WD:Tok} {sO:Tok}
  (Mj:PySem.W.nsIn K mainGlobals "dict" = some none) (BW:PySem.W.nsIn K mainGlobals "divmod" = some none) (uo:PySem.W.nsIn K mainGlobals "enumerate" = some none) (Vf:PySem.W.nsIn K mainGlobals "len" = some none) (Mi:PySem.W.nsIn K mainGlobals "list" = some none) (Ve:PySem.W.nsIn K mainGlobals "max" = some none) (Vd:PySem.W.nsIn K mainGlobals "min" = some none) (HN:PySem.W.nsIn K mainGlobals "range" = some none) (BV:PySem.W.nsIn K mainGlobals "sorted" = some none) (HJ:PySem.W.nsIn K mainGlobals "tuple" = some none) (Vc:PySem.W.nsIn K mainGlobals "zip" = some none) (Hg:PySem.W.nsIn K mainGlobals "EDGE" = some (some (.str "#" WD))) (jB:PySem.W.nsIn K mainGlobals "MOST_STANDINGS" = some (some (.int 600 sO))) (uH:FA K "sounds_of" oH) (Q0:FA K "fits" Gw) (Fi:FA K "turned" vR) (zK:FA K "puts_in" sZ) (nY:FA K "reading_rules" jR) (mU:FA K "first_standing" jy) (lR:FA K "read_putting_in" jf) (nZ:FA K "read_changing" jT) (rR:FA K "read_signs" m8) (xZ:FA K "watch_on" pZ) (uF:FA K "watch_end" oF) (zJ:FA K "read_on" sY) (Fj:FA K "end_of" vU) (yc:FA K "readings" p6) (uG:FA K "standings" oG) (pO:FA K "with_put_in" lU) (o9:FA K "with_changes" kE) (uM:FA K "from_left" oO) (zM:FA K "changed" tD) (QX:FA K "walk" Gu) (QZ:FA K "made" Gv) (uL:FA K "_law_mixed" oN) (yh:FA K "_law_pack" qd) (yf:FA K "_law_take" p8) (uI:FA K "_law_stock" oJ) (rT:FA K "_law_sounds" m9) (uJ:FA K "_law_signs" oK) (pP:FA K "_law_changes" lV) (yg:FA K "_law_rule" qb) (uK:FA K "_law_order" oM) (yd:FA K "_law_word" p7) (zL:FA K "_law_all" tu) (V9:FA K "law" M7) :
  ∃fd:FuncData,(∀(s:Shared) (v:Value),BindsTo s fd ⟨[v],[]⟩ [("_law_script",v)])/\∀base:Heap,K.In base->base.Ns mainGlobals mg->mz P w K mg base zO 9 fa fd ["_law_script"] (oE K 1 Ju):=
 V9.law X G hfa (λs v=>.of_eq rfl) λbase F=>Zq ⟨wH X G Mj,
  wH X G BW,
  wH X G uo,
  wH X G Vf,
  wH X G Mi,
  wH X G Ve,
  wH X G Vd,
  wH X G HN,
  wH X G BV,
  wH X G HJ,
  wH X G Vc,
  Ue X G Hg (by decide +kernel) (by decide),
  Ug X G jB,
  uH.at X G (fun|[_],_=>rfl),
  Q0.at X G (fun|[_,_],_=>rfl),
  Fi.at X G (fun|[_],_=>rfl),
  zK.at X G (fun|[_],_=>rfl),
  nY.at X G (fun|[_],_=>rfl),
  mU.at X G (fun|[_],_=>rfl),
  lR.at X G (fun|[_,_,_],_=>rfl),
  nZ.at X G (fun|[_,_,_],_=>rfl),
  rR.at X G (fun|[_,_,_],_=>rfl),
  xZ.at X G (fun|[_,_,_],_=>rfl),
  uF.at X G (fun|[_,_],_=>rfl),
  zJ.at X G (fun|[_,_,_],_=>rfl),
  Fj.at X G (fun|[_,_],_=>rfl),
  yc.at X G (fun|[_,_],_=>rfl),
  uG.at X G (fun|[_,_],_=>rfl),
  pO.at X G (fun|[_,_],_=>rfl),
  o9.at X G (fun|[_,_],_=>rfl),
  uM.at X G (fun|[_,_],_=>rfl),
  zM.at X G (fun|[_,_,_],_=>rfl),
  QX.at X G (fun|[_,_],_=>rfl),
  QZ.at X G (fun|[_,_],_=>rfl),
  uL.at X G (fun|[_],_=>rfl),
  yh.at X G (fun|[_,_],_=>rfl),
  yf.at X G (fun|[_,_],_=>rfl),
  uI.at X G (fun|[_],_=>rfl),
  rT.at X G (fun|[_],_=>rfl),
  uJ.at X G (fun|[_,_],_=>rfl),
  pP.at X G (fun|[_,_],_=>rfl),
  yg.at X G (fun|[_,_],_=>rfl),
  uK.at X G (fun|[_,_,_],_=>rfl),
  yd.at X G (fun|[_,_,_],_=>rfl),
  zL.at X G (fun|[_,_],_=>rfl)⟩ F
end jc
theorem PySem.W.Fast.tw10698008545383159015:True:=trivial
theorem PySem.W.Fast.tw5484064018769756105:True:=trivial
theorem PySem.W.Fast.tw12930135902008776770:True:=trivial
theorem PySem.W.Fast.tw14731821387568178463:True:=trivial
theorem PySem.W.Fast.tw15966628040275087066:True:=trivial
theorem PySem.W.Fast.tw746275880697867805:True:=trivial
theorem PySem.W.Fast.tw3283003332172720886:True:=trivial
theorem PySem.W.Fast.tw16439305975095742046:True:=trivial
theorem PySem.W.Fast.tw5884547989829452674:True:=trivial
theorem PySem.W.Fast.tw5013019166383593802:True:=trivial
theorem PySem.W.Fast.tw9709052642911625384:True:=trivial
theorem PySem.W.Fast.tw6597300590827175059:True:=trivial
theorem PySem.W.Fast.tw11087580961188153169:True:=trivial
theorem PySem.W.Fast.tw5881015882859215301:True:=trivial
theorem PySem.W.Fast.tw12067138967147059309:True:=trivial
theorem PySem.W.Fast.tw15502607835458677353:True:=trivial
theorem PySem.W.Fast.tw8675072291603309509:True:=trivial
theorem PySem.W.Fast.tw7293943136665019544:True:=trivial
theorem PySem.W.Fast.tw18420813227791208197:True:=trivial
theorem PySem.W.Fast.tw4825814031628356884:True:=trivial
theorem PySem.W.Fast.tw3387603815523238825:True:=trivial
theorem PySem.W.Fast.tw2763266458150041165:True:=trivial
theorem PySem.W.Fast.tw18294235385976262757:True:=trivial
theorem PySem.W.Fast.tw4130764998640227916:True:=trivial
theorem PySem.W.Fast.tw7726598895020624535:True:=trivial
theorem PySem.W.Fast.tw18331683450106191026:True:=trivial
theorem PySem.W.Fast.tw13176888758026191861:True:=trivial
theorem PySem.W.Fast.tw7674173291854261936:True:=trivial
theorem PySem.W.Fast.tw13017776180075786035:True:=trivial
theorem PySem.W.Fast.tw5274710533370978641:True:=trivial
theorem PySem.W.Fast.tw9672567157774818370:True:=trivial
theorem PySem.W.Fast.tw18095600621758949245:True:=trivial
theorem PySem.W.Fast.tw9809307862529432535:True:=trivial
theorem PySem.W.Fast.tw11515954571496283455:True:=trivial
theorem PySem.W.Fast.tw2547989858144467720:True:=trivial
theorem PySem.W.Fast.tw11494612191022934389:True:=trivial
theorem PySem.W.Fast.tw7318249589609879375:True:=trivial
theorem PySem.W.Fast.tw2102405205799676230:True:=trivial
theorem PySem.W.Fast.tw12348147426922560096:True:=trivial
theorem PySem.W.Fast.tw1450639791228247900:True:=trivial
theorem PySem.W.Fast.tw3464367492405820620:True:=trivial
theorem PySem.W.Fast.tw8239541176448969520:True:=trivial
open PySem PySem.W PyProof.Rows
set_option maxRecDepth 100000 in
set_option maxHeartbeats 0 in
theorem PySem.Challenge.cw_soundrules_k18_whole_sides_turned_holds : PySem.Challenge.rw_soundrules_k18_whole_sides_turned.Holds := by
 w_on;o_law;k_head;(case hw=>w_witness2)
 k_fill
 refine Ev.aau (l:=PySem.Challenge.rw_soundrules_k18_whole_sides_turned) (k:=9) (x:="_law_script") (f:=jc.Ju) rfl (by decide) rfl ⟨rfl,by decide,by decide⟩ (λw h Y=>PySem.W.kIn_of Y) jc.Mz ?F
 case F=>
  intro w mg fa h KX G hmg
  refine' jc.all_mk KX G hmg ?Mj ?BW ?uo ?Vf ?Mi ?Ve ?Vd ?HN ?BV ?HJ ?Vc ?Hg ?jB ?uH ?Q0 ?Fi ?zK ?nY ?mU ?lR ?nZ ?rR ?xZ ?uF ?zJ ?Fj ?yc ?uG ?pO ?o9 ?uM ?zM ?QX ?QZ ?uL ?yh ?yf ?uI ?rT ?uJ ?pP ?yg ?uK ?yd ?zL ?V9
  (case Hg=>k_is)
  (case jB=>k_is)
  all_goals first|k_is|(refine' Ev.FA.mk ?a ?l ?c ?k;(case a=>k_is);(case l=>k_is);(case c=>k_is);(case k=>k_is))|(refine' Ev.FC.mk ?a ?l ?c ?k ?lc ?v;(case a=>k_is);(case l=>k_is);(case c=>k_is);(case k=>k_is);(case lc=>k_is);(case v=>exact rfl))
